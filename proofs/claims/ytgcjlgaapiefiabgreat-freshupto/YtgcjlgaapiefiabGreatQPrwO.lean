import Derived.Test.YtgcjlgaapiefiabGreatQPrwK
import Derived.Test.YtgcjlgaapiefiabGreatQPrwL

/-
  Walks of the program: a command is answered.
-/
namespace Go.Proofs.YtgcjlgaapiefiabGreat
open Go.RowKit Go.Sort

/-- The answer of the program. -/
theorem answerP_eq (d : Def) (W : WorldR) (c : Cmd) : answerP d W c =
    if c.kind = 1 then noR (startCodeP W c.inst) else if c.kind = 2 then pickAnsW d W c.inst else if c.kind = 3 then noR (replyCodeW W c.inst c.a) else if c.kind = 4 then noR (tickCodeP W c.a)
    else if c.kind = 5 then askAnsP d W c else if c.kind = 6 then noR (approveCodeP d W c.a c.who) else if c.kind = 7 then noR (withdrawCodeP W c.a c.who) else noR 2 := by
  unfold answerP pickAnsW replyCodeW
  cases instP W.insts c.inst with
  | none => rfl
  | some x => rfl

set_option maxRecDepth 100000 in
set_option maxHeartbeats 4000000 in
theorem answerW_any (dv : Value) (d : Def) (w : World) (hd : DefIs w dv d) (pb po : Nat) (W : WorldR) (ia : Option Addr) (n ic : Nat) (ra : Option Addr) (m rc : Nat) (c : Cmd) (hv : WView w pb po W ia n ic ra m rc) (hb : WBd W) (hcr : c.reason.size ≤ 9223372036854775807) :
    Calls Tryz.prog 70 #[dv, .pointer (some ⟨pb, po, none⟩), c.val] w fun e w' => e = .returned (answerP d W c).val ∧ Quiet w w' := by
  have hq0 : ∀ o, Quiet w (w.alloc o) := fun o => (Below.refl _ _).alloc (Nat.le_refl _) _
  have hd0 := hd
  obtain ⟨da, dn, dcap, rfl, hst⟩ := hd
  clear hst
  have hm1 : m ≤ 1000 := by have := hv.reqs.len.1; have := hb.count; omega
  have HAsk : Hid (∀ V, Quiet w V → Calls Tryz.prog 86 #[.agg #[.slice da dn dcap, .int .i64 d.quorum, .int .i64 d.expiry], .pointer (some ⟨pb, po, none⟩), .agg #[.int .i64 c.kind, .int .i64 c.inst, .int .i64 c.a, .int .i64 c.b, .int .i64 c.who, .string c.reason, .bool c.dry]] V fun e w' => e = .returned (askAnsP d W c).val ∧ Quiet V w') := fun V hV =>
    askAnswer_any _ d V (hd0.quiet hV) pb po W ia n ic ra m rc c (hv.quiet hV) hcr hm1
  have HE : Hid (answerP d W c = if c.kind = 1 then noR (startCodeP W c.inst) else if c.kind = 2 then pickAnsW d W c.inst else if c.kind = 3 then noR (replyCodeW W c.inst c.a) else if c.kind = 4 then noR (tickCodeP W c.a)
    else if c.kind = 5 then askAnsP d W c else if c.kind = 6 then noR (approveCodeP d W c.a c.who) else if c.kind = 7 then noR (withdrawCodeP W c.a c.who) else noR 2) := answerP_eq d W c
  obtain ⟨hc0, hc1⟩ := hb.clock
  have fin : ∀ (A : Answer) (U : World), Quiet w U → answerP d W c = A → (Ending.returned (.agg #[.int .i64 A.code, .int .i64 A.number, .int .i64 A.step, .int .i64 A.what]) = .returned (answerP d W c).val ∧ Quiet w U) := fun A U hU hA => ⟨by rw [hA]; rfl, hU⟩
  have FIN : Hid (∀ (A : Answer) (U : World), Quiet w U → answerP d W c = A → (Ending.returned (.agg #[.int .i64 A.code, .int .i64 A.number, .int .i64 A.step, .int .i64 A.what]) = .returned (answerP d W c).val ∧ Quiet w U)) := fin
  clear fin
  unfold Cmd.val
  have hent : Blk (((w.alloc (.cells #[.slice da dn dcap, .int .i64 d.quorum, .int .i64 d.expiry] 24)).alloc (.cells #[.int .i64 c.kind, .int .i64 c.inst, .int .i64 c.a, .int .i64 c.b, .int .i64 c.who, .string c.reason, .bool c.dry] 43)).alloc (.cells #[.int .i64 0, .int .i64 0, .int .i64 0, .int .i64 0] 86)) (w.heap.size + 1 + 1) #[.int .i64 0, .int .i64 0, .int .i64 0, .int .i64 0] 86 ∧
      Quiet w (((w.alloc (.cells #[.slice da dn dcap, .int .i64 d.quorum, .int .i64 d.expiry] 24)).alloc (.cells #[.int .i64 c.kind, .int .i64 c.inst, .int .i64 c.a, .int .i64 c.b, .int .i64 c.who, .string c.reason, .bool c.dry] 43)).alloc (.cells #[.int .i64 0, .int .i64 0, .int .i64 0, .int .i64 0] 86)) :=
    ⟨Blk.new' (by simp), ((hq0 _).alloc (by simp) _).alloc (by simp; omega) _⟩
  rcases Bool.eq_false_or_eq_true (c.kind == 1) with q1 | q1
  · have HG : Hid (answerP d W c = noR (startCodeP W c.inst)) := by show answerP d W c = _; simp at q1; rw [HE.out, if_pos q1]
    go_enter Tryz.func70, Tryz.ntmps70
    go_wp2_with fail
    refine calls_gen (fun V => Blk V (w.heap.size + 1 + 1) #[.int .i64 0, .int .i64 0, .int .i64 0, .int .i64 0] 86 ∧ Quiet w V) hent ?_
    rintro V ⟨b2, hqV⟩
    have g2 := b2.cell
    have f2 := b2.frozen
    refine (startCode_any V pb po W ia n ic ra m rc c.inst (hv.quiet hqV)).mono ?_
    rintro e w1 ⟨rfl, hw⟩
    rw [hw]
    clear hw w1
    go_wp2
    refine bodyPost_ret (v := .agg #[.int .i64 (startCodeP W c.inst), .int .i64 0, .int .i64 0, .int .i64 0]) (by simp [results, Tryz.results70, go_sem, g2]) rfl (FIN.out (noR (startCodeP W c.inst)) _ (Below.four hqV (by omega) _ _ _ _) HG.out)
  rcases Bool.eq_false_or_eq_true (c.kind == 2) with q2 | q2
  · have HG : Hid (answerP d W c = pickAnsW d W c.inst) := by show answerP d W c = _; simp at q1 q2; rw [HE.out, if_neg q1, if_pos q2]
    go_enter Tryz.func70, Tryz.ntmps70
    go_wp2_with fail
    refine calls_gen (fun V => Blk V (w.heap.size + 1 + 1) #[.int .i64 0, .int .i64 0, .int .i64 0, .int .i64 0] 86 ∧ Quiet w V) hent ?_
    rintro V ⟨b2, hqV⟩
    refine (pickAnswer_any _ d V (hd0.quiet hqV) pb po W ia n ic ra m rc c.inst (hv.quiet hqV) hb).mono ?_
    rintro e w1 ⟨rfl, hq1⟩
    replace b2 := b2.quiet hq1
    replace hqV : Quiet w w1 := hqV.after hq1
    have g2 := b2.cell
    have f2 := b2.frozen
    generalize pickAnsW d W c.inst = A at *
    simp only [Answer.val]
    go_wp2
    refine bodyPost_ret (v := .agg #[.int .i64 A.code, .int .i64 A.number, .int .i64 A.step, .int .i64 A.what]) (by simp [results, Tryz.results70, go_sem, g2]) rfl (FIN.out A _ (Below.four hqV (by omega) _ _ _ _) HG.out)
  rcases Bool.eq_false_or_eq_true (c.kind == 3) with q3 | q3
  · have HG : Hid (answerP d W c = noR (replyCodeW W c.inst c.a)) := by show answerP d W c = _; simp at q1 q2 q3; rw [HE.out, if_neg q1, if_neg q2, if_pos q3]
    go_enter Tryz.func70, Tryz.ntmps70
    go_wp2_with fail
    refine calls_gen (fun V => Blk V (w.heap.size + 1 + 1) #[.int .i64 0, .int .i64 0, .int .i64 0, .int .i64 0] 86 ∧ Quiet w V) hent ?_
    rintro V ⟨b2, hqV⟩
    have g2 := b2.cell
    have f2 := b2.frozen
    refine (replyCode_any V pb po W ia n ic ra m rc c.inst c.a (hv.quiet hqV)).mono ?_
    rintro e w1 ⟨rfl, hw⟩
    rw [hw]
    clear hw w1
    go_wp2
    refine bodyPost_ret (v := .agg #[.int .i64 (replyCodeW W c.inst c.a), .int .i64 0, .int .i64 0, .int .i64 0]) (by simp [results, Tryz.results70, go_sem, g2]) rfl (FIN.out (noR (replyCodeW W c.inst c.a)) _ (Below.four hqV (by omega) _ _ _ _) HG.out)
  rcases Bool.eq_false_or_eq_true (c.kind == 4) with q4 | q4
  · have HG : Hid (answerP d W c = noR (tickCodeP W c.a)) := by show answerP d W c = _; simp at q1 q2 q3 q4; rw [HE.out, if_neg q1, if_neg q2, if_neg q3, if_pos q4]
    go_enter Tryz.func70, Tryz.ntmps70
    go_wp2_with fail
    refine calls_gen (fun V => Blk V (w.heap.size + 1 + 1) #[.int .i64 0, .int .i64 0, .int .i64 0, .int .i64 0] 86 ∧ Quiet w V) hent ?_
    rintro V ⟨b2, hqV⟩
    have g2 := b2.cell
    have f2 := b2.frozen
    refine (tickCode_any V pb po W ia n ic ra m rc c.a (hv.quiet hqV) hc0 (by omega)).mono ?_
    rintro e w1 ⟨rfl, hw⟩
    rw [hw]
    clear hw w1
    go_wp2
    refine bodyPost_ret (v := .agg #[.int .i64 (tickCodeP W c.a), .int .i64 0, .int .i64 0, .int .i64 0]) (by simp [results, Tryz.results70, go_sem, g2]) rfl (FIN.out (noR (tickCodeP W c.a)) _ (Below.four hqV (by omega) _ _ _ _) HG.out)
  rcases Bool.eq_false_or_eq_true (c.kind == 5) with q5 | q5
  · have HG : Hid (answerP d W c = askAnsP d W c) := by show answerP d W c = _; simp at q1 q2 q3 q4 q5; rw [HE.out, if_neg q1, if_neg q2, if_neg q3, if_neg q4, if_pos q5]
    go_enter Tryz.func70, Tryz.ntmps70
    go_wp2_with fail
    refine calls_gen (fun V => Blk V (w.heap.size + 1 + 1) #[.int .i64 0, .int .i64 0, .int .i64 0, .int .i64 0] 86 ∧ Quiet w V) hent ?_
    rintro V ⟨b2, hqV⟩
    refine (HAsk.out V hqV).mono ?_
    rintro e w1 ⟨rfl, hq1⟩
    replace b2 := b2.quiet hq1
    replace hqV : Quiet w w1 := hqV.after hq1
    have g2 := b2.cell
    have f2 := b2.frozen
    generalize askAnsP d W c = A at *
    simp only [Answer.val]
    go_wp2
    refine bodyPost_ret (v := .agg #[.int .i64 A.code, .int .i64 A.number, .int .i64 A.step, .int .i64 A.what]) (by simp [results, Tryz.results70, go_sem, g2]) rfl (FIN.out A _ (Below.four hqV (by omega) _ _ _ _) HG.out)
  rcases Bool.eq_false_or_eq_true (c.kind == 6) with q6 | q6
  · have HG : Hid (answerP d W c = noR (approveCodeP d W c.a c.who)) := by show answerP d W c = _; simp at q1 q2 q3 q4 q5 q6; rw [HE.out, if_neg q1, if_neg q2, if_neg q3, if_neg q4, if_neg q5, if_pos q6]
    go_enter Tryz.func70, Tryz.ntmps70
    go_wp2_with fail
    refine calls_gen (fun V => Blk V (w.heap.size + 1 + 1) #[.int .i64 0, .int .i64 0, .int .i64 0, .int .i64 0] 86 ∧ Quiet w V) hent ?_
    rintro V ⟨b2, hqV⟩
    refine (approveCode_any _ d V (hd0.quiet hqV) pb po W ia n ic ra m rc c.a c.who (hv.quiet hqV) (fun r hr => (hb.reqs r hr).1)).mono ?_
    rintro e w1 ⟨rfl, hq1⟩
    replace b2 := b2.quiet hq1
    replace hqV : Quiet w w1 := hqV.after hq1
    have g2 := b2.cell
    have f2 := b2.frozen
    go_wp2
    refine bodyPost_ret (v := .agg #[.int .i64 (approveCodeP d W c.a c.who), .int .i64 0, .int .i64 0, .int .i64 0]) (by simp [results, Tryz.results70, go_sem, g2]) rfl (FIN.out (noR (approveCodeP d W c.a c.who)) _ (Below.four hqV (by omega) _ _ _ _) HG.out)
  rcases Bool.eq_false_or_eq_true (c.kind == 7) with q7 | q7
  · have HG : Hid (answerP d W c = noR (withdrawCodeP W c.a c.who)) := by show answerP d W c = _; simp at q1 q2 q3 q4 q5 q6 q7; rw [HE.out, if_neg q1, if_neg q2, if_neg q3, if_neg q4, if_neg q5, if_neg q6, if_pos q7]
    go_enter Tryz.func70, Tryz.ntmps70
    go_wp2_with fail
    refine calls_gen (fun V => Blk V (w.heap.size + 1 + 1) #[.int .i64 0, .int .i64 0, .int .i64 0, .int .i64 0] 86 ∧ Quiet w V) hent ?_
    rintro V ⟨b2, hqV⟩
    refine (withdrawCode_any V pb po W ia n ic ra m rc c.a c.who (hv.quiet hqV)).mono ?_
    rintro e w1 ⟨rfl, hq1⟩
    replace b2 := b2.quiet hq1
    replace hqV : Quiet w w1 := hqV.after hq1
    have g2 := b2.cell
    have f2 := b2.frozen
    go_wp2
    refine bodyPost_ret (v := .agg #[.int .i64 (withdrawCodeP W c.a c.who), .int .i64 0, .int .i64 0, .int .i64 0]) (by simp [results, Tryz.results70, go_sem, g2]) rfl (FIN.out (noR (withdrawCodeP W c.a c.who)) _ (Below.four hqV (by omega) _ _ _ _) HG.out)
  · have HG : Hid (answerP d W c = noR 2) := by show answerP d W c = _; simp at q1 q2 q3 q4 q5 q6 q7; rw [HE.out, if_neg q1, if_neg q2, if_neg q3, if_neg q4, if_neg q5, if_neg q6, if_neg q7]
    have hqA : Quiet w (((w.alloc (.cells #[.slice da dn dcap, .int .i64 d.quorum, .int .i64 d.expiry] 24)).alloc (.cells #[.int .i64 c.kind, .int .i64 c.inst, .int .i64 c.a, .int .i64 c.b, .int .i64 c.who, .string c.reason, .bool c.dry] 43)).alloc (.cells #[.int .i64 2, .int .i64 0, .int .i64 0, .int .i64 0] 86)) := ((hq0 _).alloc (by simp) _).alloc (by simp; omega) _
    go_enter Tryz.func70, Tryz.ntmps70
    go_wp2
    refine bodyPost_ret (v := .agg #[.int .i64 2, .int .i64 0, .int .i64 0, .int .i64 0]) (by simp [results, Tryz.results70, go_sem]) rfl (FIN.out (noR 2) _ hqA HG.out)

end Go.Proofs.YtgcjlgaapiefiabGreat

import Derived.Test.YtahfdglbbdacjaaQPrwG
import Derived.Test.YtahfdglbbdacjaaQPrwI
import Derived.Test.YtahfdglbbdacjaaQPrwJ
import Derived.Test.YtahfdglbbdacjaaQPrwK
import Derived.Test.YtahfdglbbdacjaaQPrwL

/-
  Walks of the program: a command is carried out.
-/
namespace Go.Proofs.Ytahfdglbbdacjaa
open Go.RowKit Go.Sort

/-- What the definition promises of its steps. -/
structure DOk (d : Def) : Prop where
  retries : ∀ k, (stepP d k).retries ≤ 3
  timeout : ∀ k, 0 ≤ (stepP d k).timeout ∧ (stepP d k).timeout ≤ 20
  expiry : 0 ≤ d.expiry ∧ d.expiry ≤ 50

/-- What a command that is carried out keeps to. -/
structure CmdOk (W : WorldR) (c : Cmd) : Prop where
  kind : 1 ≤ c.kind ∧ c.kind ≤ 7
  tick : c.kind = 4 → 1 ≤ c.a ∧ c.a ≤ 100
  ask : c.kind = 5 → 1 ≤ c.a ∧ c.a ≤ 5
  named : c.kind = 6 ∨ c.kind = 7 → ∃ r, openP W c.a = some r ∧ r.bys.length < 1000

set_option maxRecDepth 100000 in
set_option maxHeartbeats 4000000 in
theorem carryOut_any (w0 w : World) (dv : Value) (d : Def) (hd : DefIs w0 dv d) (hdok : DOk d) (pb po : Nat) (tw : TypeId) (pcs : Array Value) (W : WorldR) (ia : Option Addr) (n ic : Nat) (ra : Option Addr) (m rc : Nat) (h : PW w0 w pb po tw pcs W ia n ic ra m rc) (hb : WBd W) (hn : n ≤ 1000) (c : Cmd) (hc : CmdOk W c) :
    Calls Try.prog 47 #[dv, .pointer (some ⟨pb, po, none⟩), c.val] w fun e w' => ∃ v, e = .returned v ∧ ∃ pcs' ia' n' ic' ra' m' rc', PW w0 w' pb po tw pcs' (carryP d W c) ia' n' ic' ra' m' rc' ∧ Frame (worldTypes tw) w w' := by
  have hq0 : ∀ o, Quiet w (w.alloc o) := fun o => (Below.refl _ _).alloc (Nat.le_refl _) _
  have hd1 := hd.quiet h.quiet
  obtain ⟨da, dn, dcap, rfl, hst⟩ := hd1
  clear hst
  obtain ⟨hk1, hk7⟩ := hc.kind
  have hqA : Quiet w ((w.alloc (.cells #[.slice da dn dcap, .int .i64 d.quorum, .int .i64 d.expiry] 24)).alloc (.cells #[.int .i64 c.kind, .int .i64 c.inst, .int .i64 c.a, .int .i64 c.b, .int .i64 c.who, .string c.reason, .bool c.dry] 55)) := (hq0 _).alloc (by simp) _
  have hA := h.hush hqA
  have hFA : Frame (worldTypes tw) w ((w.alloc (.cells #[.slice da dn dcap, .int .i64 d.quorum, .int .i64 d.expiry] 24)).alloc (.cells #[.int .i64 c.kind, .int .i64 c.inst, .int .i64 c.a, .int .i64 c.b, .int .i64 c.who, .string c.reason, .bool c.dry] 55)) := Frame.quiet _ hqA
  have HCV : Hid (∀ x : Cmd, x = c → x.val = .agg #[.int .i64 c.kind, .int .i64 c.inst, .int .i64 c.a, .int .i64 c.b, .int .i64 c.who, .string c.reason, .bool c.dry]) := by intro x hx; subst hx; rfl
  rcases Bool.eq_false_or_eq_true (c.kind == 1) with q1 | q1
  · have HG : Hid (carryP d W c = ⟨W.clock, W.insts ++ [startR c.inst], W.reqs⟩) := by show carryP d W c = _; simp at q1; unfold carryP; rw [if_pos q1]
    unfold Cmd.val
    go_enter Try.func47, Try.ntmps47
    go_wp2_with fail
    refine (start_any w0 _ pb po tw pcs W ia n ic ra m rc hA (by omega) c.inst).mono ?_
    rintro e w4 ⟨v, rfl, pcs', ia', ic', hP, hF⟩
    go_wp2
    refine bodyPost_end (v := .tuple #[]) (by simp [results, Try.results47, go_sem]) rfl ⟨_, rfl, pcs', ia', n + 1, ic', ra, m, rc, ?_, hFA.trans hF⟩
    rw [HG.out]; exact hP
  rcases Bool.eq_false_or_eq_true (c.kind == 2) with q2 | q2
  · have HG : Hid (carryP d W c = ⟨W.clock, modI W.insts c.inst (pickP d W.clock), W.reqs⟩) := by show carryP d W c = _; simp at q1 q2; unfold carryP; rw [if_neg q1, if_pos q2]
    unfold Cmd.val
    go_enter Try.func47, Try.ntmps47
    go_wp2_with fail
    refine (pick_any w0 _ _ d hd hdok.timeout pb po tw pcs W ia n ic ra m rc hA hb c.inst).mono ?_
    rintro e w4 ⟨v, rfl, hP, hF⟩
    go_wp2
    refine bodyPost_end (v := .tuple #[]) (by simp [results, Try.results47, go_sem]) rfl ⟨_, rfl, pcs, ia, n, ic, ra, m, rc, ?_, hFA.trans hF⟩
    rw [HG.out]; exact hP
  rcases Bool.eq_false_or_eq_true (c.kind == 3) with q3 | q3
  · have HG : Hid (carryP d W c = ⟨W.clock, modI W.insts c.inst (fun x => replyP d W.clock x (c.b == 1)), W.reqs⟩) := by show carryP d W c = _; simp at q1 q2 q3; unfold carryP; rw [if_neg q1, if_neg q2, if_pos q3]
    generalize hwell : (c.b == 1) = well at *
    unfold Cmd.val
    go_enter Try.func47, Try.ntmps47
    go_wp2_with fail
    refine (reply_any w0 _ _ d hd hdok.retries pb po tw pcs W ia n ic ra m rc hA hb c.inst well).mono ?_
    rintro e w4 ⟨v, rfl, hP, hF⟩
    go_wp2
    refine bodyPost_end (v := .tuple #[]) (by simp [results, Try.results47, go_sem]) rfl ⟨_, rfl, pcs, ia, n, ic, ra, m, rc, ?_, hFA.trans hF⟩
    rw [HG.out]; exact hP
  rcases Bool.eq_false_or_eq_true (c.kind == 4) with q4 | q4
  · have HG : Hid (carryP d W c = ⟨W.clock + c.a, W.insts, W.reqs⟩) := by show carryP d W c = _; simp at q1 q2 q3 q4; unfold carryP; rw [if_neg q1, if_neg q2, if_neg q3, if_pos q4]
    obtain ⟨ha1, ha2⟩ := hc.tick (by simpa using q4)
    obtain ⟨hc0, hc1⟩ := hb.clock
    obtain ⟨p0, p1, p2⟩ := hA.row.at.three
    have fp := hA.row.1.frozen
    have zp := hA.row.1.lt
    unfold Cmd.val
    go_enter Try.func47, Try.ntmps47
    go_wp2_with fail
    go_region
    all_goals (try go_wp2)
    all_goals
      refine bodyPost_end (v := .tuple #[]) (by simp [results, Try.results47, go_sem]) rfl ⟨_, rfl, ?_⟩
      rw [HG.out]
      first
        | exact ⟨_, ia, n, ic, ra, m, rc, ((hA.hush (Below.drew (Below.refl _ _))).tick (W.clock + c.a)).1, (hFA.trans (Frame.quiet _ (Below.drew (Below.refl _ _)))).trans ((hA.hush (Below.drew (Below.refl _ _))).tick (W.clock + c.a)).2⟩
        | exact ⟨_, ia, n, ic, ra, m, rc, ((hA.tick (W.clock + c.a)).1).hush (Below.drew (Below.refl _ _)), (hFA.trans (hA.tick (W.clock + c.a)).2).trans (Frame.quiet _ (Below.drew (Below.refl _ _)))⟩
  rcases Bool.eq_false_or_eq_true (c.kind == 5) with q5 | q5
  · have HG : Hid (carryP d W c = ⟨W.clock, decideI d W (newReq d W c), W.reqs ++ [decideR d (newReq d W c)]⟩) := by show carryP d W c = _; simp at q1 q2 q3 q4 q5; unfold carryP; rw [if_neg q1, if_neg q2, if_neg q3, if_neg q4, if_pos q5]
    obtain ⟨ha1, ha2⟩ := hc.ask (by simpa using q5)
    have HAsk : Hid (∀ V, Quiet w V → Calls Try.prog 69 #[.agg #[.slice da dn dcap, .int .i64 d.quorum, .int .i64 d.expiry], .pointer (some ⟨pb, po, none⟩), .agg #[.int .i64 c.kind, .int .i64 c.inst, .int .i64 c.a, .int .i64 c.b, .int .i64 c.who, .string c.reason, .bool c.dry]] V fun e w' => ∃ v, e = .returned v ∧ ∃ pcs' ra' rc', PW w0 w' pb po tw pcs' ⟨W.clock, decideI d W (newReq d W c), W.reqs ++ [decideR d (newReq d W c)]⟩ ia n ic ra' (m + 1) rc' ∧ Frame (worldTypes tw) V w') := fun V hV =>
      ask_any w0 V _ d hd hdok.expiry.1 hdok.expiry.2 pb po tw pcs W ia n ic ra m rc (h.hush hV) hb c ha1 ha2
    unfold Cmd.val
    go_enter Try.func47, Try.ntmps47
    go_wp2_with fail
    refine (HAsk.out _ hqA).mono ?_
    rintro e w4 ⟨v, rfl, pcs', ra', rc', hP, hF⟩
    go_wp2
    refine bodyPost_end (v := .tuple #[]) (by simp [results, Try.results47, go_sem]) rfl ⟨_, rfl, pcs', ia, n, ic, ra', m + 1, rc', ?_, hFA.trans hF⟩
    rw [HG.out]; exact hP
  rcases Bool.eq_false_or_eq_true (c.kind == 6) with q6 | q6
  · obtain ⟨r, ho, hbl⟩ := hc.named (.inl (by simpa using q6))
    have HG : Hid (carryP d W c = ⟨W.clock, decideI d W { r with bys := r.bys ++ [c.who] }, W.reqs.set (c.a - 1).toNat (decideR d { r with bys := r.bys ++ [c.who] })⟩) := by show carryP d W c = _; simp at q1 q2 q3 q4 q5 q6; unfold carryP; rw [if_neg q1, if_neg q2, if_neg q3, if_neg q4, if_neg q5, if_pos q6, ho]
    unfold Cmd.val
    go_enter Try.func47, Try.ntmps47
    go_wp2_with fail
    refine (approve_any w0 _ _ d hd pb po tw pcs W ia n ic ra m rc hA hb c.a c.who r ho hbl).mono ?_
    rintro e w4 ⟨v, rfl, hP, hF⟩
    go_wp2
    refine bodyPost_end (v := .tuple #[]) (by simp [results, Try.results47, go_sem]) rfl ⟨_, rfl, pcs, ia, n, ic, ra, m, rc, ?_, hFA.trans hF⟩
    rw [HG.out]; exact hP
  · have q7 : (c.kind == 7) = true := by simp at q1 q2 q3 q4 q5 q6 ⊢; omega
    obtain ⟨r, ho, hbl⟩ := hc.named (.inr (by simpa using q7))
    have HG : Hid (carryP d W c = ⟨W.clock, W.insts, W.reqs.set (c.a - 1).toNat { r with closed := true }⟩) := by show carryP d W c = _; simp at q1 q2 q3 q4 q5 q6 q7; unfold carryP; rw [if_neg q1, if_neg q2, if_neg q3, if_neg q4, if_neg q5, if_neg q6, if_pos q7, ho]
    unfold Cmd.val
    go_enter Try.func47, Try.ntmps47
    go_wp2_with fail
    refine (withdraw_any w0 _ pb po tw pcs W ia n ic ra m rc hA c.a r ho).mono ?_
    rintro e w4 ⟨v, rfl, hP, hF⟩
    go_wp2
    refine bodyPost_end (v := .tuple #[]) (by simp [results, Try.results47, go_sem]) rfl ⟨_, rfl, pcs, ia, n, ic, ra, m, rc, ?_, hFA.trans hF⟩
    rw [HG.out]; exact hP

end Go.Proofs.Ytahfdglbbdacjaa

/-
  Walks of the program: a command is answered.
-/
namespace Go.Proofs.Ytahfdglbbdacjaa
open Go.RowKit Go.Sort

/-- The answer of the program. -/
theorem answerP_eq (d : Def) (W : WorldR) (c : Cmd) : answerP d W c =
    if c.kind = 1 then noR (startCodeP W c.inst) else if c.kind = 2 then pickAnsW d W c.inst else if c.kind = 3 then noR (replyCodeW W c.inst c.a) else if c.kind = 4 then noR (tickCodeP W c.a)
    else if c.kind = 5 then askAnsP d W c else if c.kind = 6 then noR (approveCodeP d W c.a c.who) else if c.kind = 7 then noR (withdrawCodeP W c.a c.who) else noR 2 := by
  unfold answerP pickAnsW replyCodeW
  cases instP W.insts c.inst with
  | none => rfl
  | some x => rfl

set_option maxRecDepth 100000 in
set_option maxHeartbeats 4000000 in
theorem answerW_any (dv : Value) (d : Def) (w : World) (hd : DefIs w dv d) (pb po : Nat) (W : WorldR) (ia : Option Addr) (n ic : Nat) (ra : Option Addr) (m rc : Nat) (c : Cmd) (hv : WView w pb po W ia n ic ra m rc) (hb : WBd W) (hcr : c.reason.size ≤ 9223372036854775807) :
    Calls Try.prog 46 #[dv, .pointer (some ⟨pb, po, none⟩), c.val] w fun e w' => e = .returned (answerP d W c).val ∧ Quiet w w' := by
  have hq0 : ∀ o, Quiet w (w.alloc o) := fun o => (Below.refl _ _).alloc (Nat.le_refl _) _
  have hd0 := hd
  obtain ⟨da, dn, dcap, rfl, hst⟩ := hd
  clear hst
  have hm1 : m ≤ 1000 := by have := hv.reqs.len.1; have := hb.count; omega
  have HAsk : Hid (∀ V, Quiet w V → Calls Try.prog 63 #[.agg #[.slice da dn dcap, .int .i64 d.quorum, .int .i64 d.expiry], .pointer (some ⟨pb, po, none⟩), .agg #[.int .i64 c.kind, .int .i64 c.inst, .int .i64 c.a, .int .i64 c.b, .int .i64 c.who, .string c.reason, .bool c.dry]] V fun e w' => e = .returned (askAnsP d W c).val ∧ Quiet V w') := fun V hV =>
    askAnswer_any _ d V (hd0.quiet hV) pb po W ia n ic ra m rc c (hv.quiet hV) hcr hm1
  have HE : Hid (answerP d W c = if c.kind = 1 then noR (startCodeP W c.inst) else if c.kind = 2 then pickAnsW d W c.inst else if c.kind = 3 then noR (replyCodeW W c.inst c.a) else if c.kind = 4 then noR (tickCodeP W c.a)
    else if c.kind = 5 then askAnsP d W c else if c.kind = 6 then noR (approveCodeP d W c.a c.who) else if c.kind = 7 then noR (withdrawCodeP W c.a c.who) else noR 2) := answerP_eq d W c
  obtain ⟨hc0, hc1⟩ := hb.clock
  have fin : ∀ (A : Answer) (U : World), Quiet w U → answerP d W c = A → (Ending.returned (.agg #[.int .i64 A.code, .int .i64 A.number, .int .i64 A.step, .int .i64 A.what]) = .returned (answerP d W c).val ∧ Quiet w U) := fun A U hU hA => ⟨by rw [hA]; rfl, hU⟩
  have FIN : Hid (∀ (A : Answer) (U : World), Quiet w U → answerP d W c = A → (Ending.returned (.agg #[.int .i64 A.code, .int .i64 A.number, .int .i64 A.step, .int .i64 A.what]) = .returned (answerP d W c).val ∧ Quiet w U)) := fin
  clear fin
  unfold Cmd.val
  have hent : Blk (((w.alloc (.cells #[.slice da dn dcap, .int .i64 d.quorum, .int .i64 d.expiry] 24)).alloc (.cells #[.int .i64 c.kind, .int .i64 c.inst, .int .i64 c.a, .int .i64 c.b, .int .i64 c.who, .string c.reason, .bool c.dry] 55)).alloc (.cells #[.int .i64 0, .int .i64 0, .int .i64 0, .int .i64 0] 57)) (w.heap.size + 1 + 1) #[.int .i64 0, .int .i64 0, .int .i64 0, .int .i64 0] 57 ∧
      Quiet w (((w.alloc (.cells #[.slice da dn dcap, .int .i64 d.quorum, .int .i64 d.expiry] 24)).alloc (.cells #[.int .i64 c.kind, .int .i64 c.inst, .int .i64 c.a, .int .i64 c.b, .int .i64 c.who, .string c.reason, .bool c.dry] 55)).alloc (.cells #[.int .i64 0, .int .i64 0, .int .i64 0, .int .i64 0] 57)) :=
    ⟨Blk.new' (by simp), ((hq0 _).alloc (by simp) _).alloc (by simp; omega) _⟩
  rcases Bool.eq_false_or_eq_true (c.kind == 1) with q1 | q1
  · have HG : Hid (answerP d W c = noR (startCodeP W c.inst)) := by show answerP d W c = _; simp at q1; rw [HE.out, if_pos q1]
    go_enter Try.func46, Try.ntmps46
    go_wp2_with fail
    refine calls_gen (fun V => Blk V (w.heap.size + 1 + 1) #[.int .i64 0, .int .i64 0, .int .i64 0, .int .i64 0] 57 ∧ Quiet w V) hent ?_
    rintro V ⟨b2, hqV⟩
    have g2 := b2.cell
    have f2 := b2.frozen
    refine (startCode_any V pb po W ia n ic ra m rc c.inst (hv.quiet hqV)).mono ?_
    rintro e w1 ⟨rfl, hw⟩
    rw [hw]
    clear hw w1
    go_wp2
    refine bodyPost_ret (v := .agg #[.int .i64 (startCodeP W c.inst), .int .i64 0, .int .i64 0, .int .i64 0]) (by simp [results, Try.results46, go_sem, g2]) rfl (FIN.out (noR (startCodeP W c.inst)) _ (Below.four hqV (by omega) _ _ _ _) HG.out)
  rcases Bool.eq_false_or_eq_true (c.kind == 2) with q2 | q2
  · have HG : Hid (answerP d W c = pickAnsW d W c.inst) := by show answerP d W c = _; simp at q1 q2; rw [HE.out, if_neg q1, if_pos q2]
    go_enter Try.func46, Try.ntmps46
    go_wp2_with fail
    refine calls_gen (fun V => Blk V (w.heap.size + 1 + 1) #[.int .i64 0, .int .i64 0, .int .i64 0, .int .i64 0] 57 ∧ Quiet w V) hent ?_
    rintro V ⟨b2, hqV⟩
    refine (pickAnswer_any _ d V (hd0.quiet hqV) pb po W ia n ic ra m rc c.inst (hv.quiet hqV) hb).mono ?_
    rintro e w1 ⟨rfl, hq1⟩
    replace b2 := b2.quiet hq1
    replace hqV : Quiet w w1 := hqV.after hq1
    have g2 := b2.cell
    have f2 := b2.frozen
    generalize pickAnsW d W c.inst = A at *
    simp only [Answer.val]
    go_wp2
    refine bodyPost_ret (v := .agg #[.int .i64 A.code, .int .i64 A.number, .int .i64 A.step, .int .i64 A.what]) (by simp [results, Try.results46, go_sem, g2]) rfl (FIN.out A _ (Below.four hqV (by omega) _ _ _ _) HG.out)
  rcases Bool.eq_false_or_eq_true (c.kind == 3) with q3 | q3
  · have HG : Hid (answerP d W c = noR (replyCodeW W c.inst c.a)) := by show answerP d W c = _; simp at q1 q2 q3; rw [HE.out, if_neg q1, if_neg q2, if_pos q3]
    go_enter Try.func46, Try.ntmps46
    go_wp2_with fail
    refine calls_gen (fun V => Blk V (w.heap.size + 1 + 1) #[.int .i64 0, .int .i64 0, .int .i64 0, .int .i64 0] 57 ∧ Quiet w V) hent ?_
    rintro V ⟨b2, hqV⟩
    have g2 := b2.cell
    have f2 := b2.frozen
    refine (replyCode_any V pb po W ia n ic ra m rc c.inst c.a (hv.quiet hqV)).mono ?_
    rintro e w1 ⟨rfl, hw⟩
    rw [hw]
    clear hw w1
    go_wp2
    refine bodyPost_ret (v := .agg #[.int .i64 (replyCodeW W c.inst c.a), .int .i64 0, .int .i64 0, .int .i64 0]) (by simp [results, Try.results46, go_sem, g2]) rfl (FIN.out (noR (replyCodeW W c.inst c.a)) _ (Below.four hqV (by omega) _ _ _ _) HG.out)
  rcases Bool.eq_false_or_eq_true (c.kind == 4) with q4 | q4
  · have HG : Hid (answerP d W c = noR (tickCodeP W c.a)) := by show answerP d W c = _; simp at q1 q2 q3 q4; rw [HE.out, if_neg q1, if_neg q2, if_neg q3, if_pos q4]
    go_enter Try.func46, Try.ntmps46
    go_wp2_with fail
    refine calls_gen (fun V => Blk V (w.heap.size + 1 + 1) #[.int .i64 0, .int .i64 0, .int .i64 0, .int .i64 0] 57 ∧ Quiet w V) hent ?_
    rintro V ⟨b2, hqV⟩
    have g2 := b2.cell
    have f2 := b2.frozen
    refine (tickCode_any V pb po W ia n ic ra m rc c.a (hv.quiet hqV) hc0 (by omega)).mono ?_
    rintro e w1 ⟨rfl, hw⟩
    rw [hw]
    clear hw w1
    go_wp2
    refine bodyPost_ret (v := .agg #[.int .i64 (tickCodeP W c.a), .int .i64 0, .int .i64 0, .int .i64 0]) (by simp [results, Try.results46, go_sem, g2]) rfl (FIN.out (noR (tickCodeP W c.a)) _ (Below.four hqV (by omega) _ _ _ _) HG.out)
  rcases Bool.eq_false_or_eq_true (c.kind == 5) with q5 | q5
  · have HG : Hid (answerP d W c = askAnsP d W c) := by show answerP d W c = _; simp at q1 q2 q3 q4 q5; rw [HE.out, if_neg q1, if_neg q2, if_neg q3, if_neg q4, if_pos q5]
    go_enter Try.func46, Try.ntmps46
    go_wp2_with fail
    refine calls_gen (fun V => Blk V (w.heap.size + 1 + 1) #[.int .i64 0, .int .i64 0, .int .i64 0, .int .i64 0] 57 ∧ Quiet w V) hent ?_
    rintro V ⟨b2, hqV⟩
    refine (HAsk.out V hqV).mono ?_
    rintro e w1 ⟨rfl, hq1⟩
    replace b2 := b2.quiet hq1
    replace hqV : Quiet w w1 := hqV.after hq1
    have g2 := b2.cell
    have f2 := b2.frozen
    generalize askAnsP d W c = A at *
    simp only [Answer.val]
    go_wp2
    refine bodyPost_ret (v := .agg #[.int .i64 A.code, .int .i64 A.number, .int .i64 A.step, .int .i64 A.what]) (by simp [results, Try.results46, go_sem, g2]) rfl (FIN.out A _ (Below.four hqV (by omega) _ _ _ _) HG.out)
  rcases Bool.eq_false_or_eq_true (c.kind == 6) with q6 | q6
  · have HG : Hid (answerP d W c = noR (approveCodeP d W c.a c.who)) := by show answerP d W c = _; simp at q1 q2 q3 q4 q5 q6; rw [HE.out, if_neg q1, if_neg q2, if_neg q3, if_neg q4, if_neg q5, if_pos q6]
    go_enter Try.func46, Try.ntmps46
    go_wp2_with fail
    refine calls_gen (fun V => Blk V (w.heap.size + 1 + 1) #[.int .i64 0, .int .i64 0, .int .i64 0, .int .i64 0] 57 ∧ Quiet w V) hent ?_
    rintro V ⟨b2, hqV⟩
    refine (approveCode_any _ d V (hd0.quiet hqV) pb po W ia n ic ra m rc c.a c.who (hv.quiet hqV) (fun r hr => (hb.reqs r hr).1)).mono ?_
    rintro e w1 ⟨rfl, hq1⟩
    replace b2 := b2.quiet hq1
    replace hqV : Quiet w w1 := hqV.after hq1
    have g2 := b2.cell
    have f2 := b2.frozen
    go_wp2
    refine bodyPost_ret (v := .agg #[.int .i64 (approveCodeP d W c.a c.who), .int .i64 0, .int .i64 0, .int .i64 0]) (by simp [results, Try.results46, go_sem, g2]) rfl (FIN.out (noR (approveCodeP d W c.a c.who)) _ (Below.four hqV (by omega) _ _ _ _) HG.out)
  rcases Bool.eq_false_or_eq_true (c.kind == 7) with q7 | q7
  · have HG : Hid (answerP d W c = noR (withdrawCodeP W c.a c.who)) := by show answerP d W c = _; simp at q1 q2 q3 q4 q5 q6 q7; rw [HE.out, if_neg q1, if_neg q2, if_neg q3, if_neg q4, if_neg q5, if_neg q6, if_pos q7]
    go_enter Try.func46, Try.ntmps46
    go_wp2_with fail
    refine calls_gen (fun V => Blk V (w.heap.size + 1 + 1) #[.int .i64 0, .int .i64 0, .int .i64 0, .int .i64 0] 57 ∧ Quiet w V) hent ?_
    rintro V ⟨b2, hqV⟩
    refine (withdrawCode_any V pb po W ia n ic ra m rc c.a c.who (hv.quiet hqV)).mono ?_
    rintro e w1 ⟨rfl, hq1⟩
    replace b2 := b2.quiet hq1
    replace hqV : Quiet w w1 := hqV.after hq1
    have g2 := b2.cell
    have f2 := b2.frozen
    go_wp2
    refine bodyPost_ret (v := .agg #[.int .i64 (withdrawCodeP W c.a c.who), .int .i64 0, .int .i64 0, .int .i64 0]) (by simp [results, Try.results46, go_sem, g2]) rfl (FIN.out (noR (withdrawCodeP W c.a c.who)) _ (Below.four hqV (by omega) _ _ _ _) HG.out)
  · have HG : Hid (answerP d W c = noR 2) := by show answerP d W c = _; simp at q1 q2 q3 q4 q5 q6 q7; rw [HE.out, if_neg q1, if_neg q2, if_neg q3, if_neg q4, if_neg q5, if_neg q6, if_neg q7]
    have hqA : Quiet w (((w.alloc (.cells #[.slice da dn dcap, .int .i64 d.quorum, .int .i64 d.expiry] 24)).alloc (.cells #[.int .i64 c.kind, .int .i64 c.inst, .int .i64 c.a, .int .i64 c.b, .int .i64 c.who, .string c.reason, .bool c.dry] 55)).alloc (.cells #[.int .i64 2, .int .i64 0, .int .i64 0, .int .i64 0] 57)) := ((hq0 _).alloc (by simp) _).alloc (by simp; omega) _
    go_enter Try.func46, Try.ntmps46
    go_wp2
    refine bodyPost_ret (v := .agg #[.int .i64 2, .int .i64 0, .int .i64 0, .int .i64 0]) (by simp [results, Try.results46, go_sem]) rfl (FIN.out (noR 2) _ hqA HG.out)

end Go.Proofs.Ytahfdglbbdacjaa

/-
  Walks of the program: one command.
-/
namespace Go.Proofs.Ytahfdglbbdacjaa
open Go.RowKit Go.Sort

theorem PW.asideSet {w0 w : World} {pb po : Nat} {tw : TypeId} {pcs : Array Value} {W : WorldR} {ia : Option Addr} {n ic : Nat} {ra : Option Addr} {m rc : Nat} (h : PW w0 w pb po tw pcs W ia n ic ra m rc) {b : Nat} {cs : Array Value} {t : TypeId} (hb : Blk w b cs t) (ht : t ∉ worldTypes tw) (hw : w0.heap.size ≤ b) (j : Nat) (v : Value) :
    PW w0 (w.setCell ⟨b, j, none⟩ v) pb po tw pcs W ia n ic ra m rc := by
  simp [worldTypes] at ht
  have hs : ∀ k c t', Blk w k c t' → t' ≠ t → (w.setCell ⟨b, j, none⟩ v).heap[k]? = w.heap[k]? := fun k c t' hk ht' => Below.heap_setCell w _ _ k (Blk.ne hb hk (Ne.symm ht'))
  refine ⟨⟨h.row.1.other _ (Blk.ne hb h.row.1 (fun e => ht.1 e)), h.row.2⟩, h.insts.frame (h1 := fun k c hk => hs k c _ hk ?_) (h2 := fun k c hk => hs k c _ hk ?_), h.reqs.frame (h1 := fun k c hk => hs k c _ hk ?_) (h2 := fun k c hk => hs k c _ hk ?_), Below.setCell h.quiet (p := ⟨b, j, none⟩) hw _, h.above, h.aside⟩
  · exact fun e => ht.2.1 e.symm
  · exact fun e => ht.2.2.1 e.symm
  · exact fun e => ht.2.2.2.1 e.symm
  · exact fun e => ht.2.2.2.2 e.symm
theorem Frame.fresh {ts : List TypeId} {w w' : World} (h : Frame ts w w') {b : Nat} (hb : w.heap.size ≤ b) (j : Nat) (v : Value) : Frame ts w (w'.setCell ⟨b, j, none⟩ v) :=
  ⟨by have := h.1; simpa [World.setCell] using this, fun k cs t hk ht => by
    rw [← h.2 k cs t hk ht]; exact Below.heap_setCell w' _ _ k (by have := hk.lt; show k ≠ b; omega)⟩

set_option maxRecDepth 100000 in
set_option maxHeartbeats 4000000 in
theorem do_any (w0 w : World) (dv : Value) (d : Def) (hd : DefIs w0 dv d) (hdok : DOk d) (pb po : Nat) (tw : TypeId) (pcs : Array Value) (W : WorldR) (ia : Option Addr) (n ic : Nat) (ra : Option Addr) (m rc : Nat) (h : PW w0 w pb po tw pcs W ia n ic ra m rc) (hb : WBd W) (hn : n ≤ 1000) (c : Cmd) (hcr : c.reason.size ≤ 9223372036854775807)
    (hc : (answerP d W c).code = 0 → CmdOk W c) (ht2 : 57 ∉ worldTypes tw) :
    Calls Try.prog 38 #[dv, .pointer (some ⟨pb, po, none⟩), c.val] w fun e w' => e = .returned (answerP d W c).val ∧ ∃ pcs' ia' n' ic' ra' m' rc', PW w0 w' pb po tw pcs' (doP d W c) ia' n' ic' ra' m' rc' ∧ Frame (worldTypes tw) w w' := by
  have hq0 : ∀ o, Quiet w (w.alloc o) := fun o => (Below.refl _ _).alloc (Nat.le_refl _) _
  have hd1 := hd.quiet h.quiet
  have hd0 := hd1
  obtain ⟨da, dn, dcap, rfl, hst⟩ := hd1
  clear hst
  have HAns : Hid (∀ V, Quiet w V → Calls Try.prog 46 #[.agg #[.slice da dn dcap, .int .i64 d.quorum, .int .i64 d.expiry], .pointer (some ⟨pb, po, none⟩), .agg #[.int .i64 c.kind, .int .i64 c.inst, .int .i64 c.a, .int .i64 c.b, .int .i64 c.who, .string c.reason, .bool c.dry]] V fun e w' => e = .returned (answerP d W c).val ∧ Quiet V w') := fun V hV =>
    answerW_any _ d V (hd0.quiet hV) pb po W ia n ic ra m rc c (h.view.quiet hV) hb hcr
  have HCar : Hid (CmdOk W c → ∀ V, PW w0 V pb po tw pcs W ia n ic ra m rc → Calls Try.prog 47 #[.agg #[.slice da dn dcap, .int .i64 d.quorum, .int .i64 d.expiry], .pointer (some ⟨pb, po, none⟩), .agg #[.int .i64 c.kind, .int .i64 c.inst, .int .i64 c.a, .int .i64 c.b, .int .i64 c.who, .string c.reason, .bool c.dry]] V fun e w' => ∃ v, e = .returned v ∧ ∃ pcs' ia' n' ic' ra' m' rc', PW w0 w' pb po tw pcs' (carryP d W c) ia' n' ic' ra' m' rc' ∧ Frame (worldTypes tw) V w') := fun hok V hV =>
    carryOut_any w0 V _ d hd hdok pb po tw pcs W ia n ic ra m rc hV hb hn c hok
  have HDo : Hid (doP d W c = if (answerP d W c).code = 0 ∧ c.dry = false then carryP d W c else W) := rfl
  have HC : Hid ((answerP d W c).code = 0 → CmdOk W c) := hc
  clear hc
  generalize answerP d W c = A at *
  unfold Cmd.val
  go_enter Try.func38, Try.ntmps38
  go_wp2_with fail
  refine calls_gen (fun V => Blk V w.heap.size #[.slice da dn dcap, .int .i64 d.quorum, .int .i64 d.expiry] 24 ∧ Blk V (w.heap.size + 1) #[.int .i64 c.kind, .int .i64 c.inst, .int .i64 c.a, .int .i64 c.b, .int .i64 c.who, .string c.reason, .bool c.dry] 55 ∧ Blk V (w.heap.size + 1 + 1) #[.int .i64 0, .int .i64 0, .int .i64 0, .int .i64 0] 57 ∧ Quiet w V) ⟨((Blk.new' rfl).alloc _).alloc _, (Blk.new' (by simp)).alloc _, Blk.new' (by simp), ((hq0 _).alloc (by simp) _).alloc (by simp; omega) _⟩ ?_
  rintro V ⟨b0, b1, b2, hqV⟩
  refine (HAns.out V hqV).mono ?_
  rintro e w1 ⟨rfl, hq1⟩
  replace b0 := b0.quiet hq1
  replace b1 := b1.quiet hq1
  replace b2 := b2.quiet hq1
  replace hqV : Quiet w w1 := hqV.after hq1
  clear hq1
  have g0 := b0.cell
  have g1 := b1.cell
  have g2 := b2.cell
  have f2 := b2.frozen
  have z0 := b0.lt
  have z1 := b1.lt
  have z2 := b2.lt
  simp only [Answer.val]
  cases hA : A.code == 0
  · have HD2 : Hid (doP d W c = W) := by show doP d W c = _; simp at hA; rw [HDo.out, if_neg (fun q => hA q.1)]
    go_wp2
    refine bodyPost_ret (v := .agg #[.int .i64 A.code, .int .i64 A.number, .int .i64 A.step, .int .i64 A.what]) (by simp [results, Try.results38, go_sem, g2, z2]) rfl ⟨rfl, pcs, ia, n, ic, ra, m, rc, ?_⟩
    rw [HD2.out]
    have hqy := Below.four hqV (b := w.heap.size + 1 + 1) (by omega) (.int .i64 A.code) (.int .i64 A.number) (.int .i64 A.step) (.int .i64 A.what)
    exact ⟨h.hush (hqy.alloc hqy.size _), Frame.quiet _ (hqy.alloc hqy.size _)⟩
  · cases hdry : c.dry
    · have hA0 : A.code = 0 := by simpa using hA
      have HD2 : Hid (doP d W c = carryP d W c) := by show doP d W c = _; rw [HDo.out, if_pos ⟨hA0, hdry⟩]
      have hok := HC.out hA0
      clear hA0
      have hqx := hqV.alloc hqV.size (.cells #[.int .i64 A.code, .int .i64 A.number, .int .i64 A.step, .int .i64 A.what] 57)
      go_wp2_with fail
      refine calls_gen (fun V => Blk V w1.heap.size #[.int .i64 A.code, .int .i64 A.number, .int .i64 A.step, .int .i64 A.what] 57 ∧ Blk V (w.heap.size + 1 + 1) #[.int .i64 0, .int .i64 0, .int .i64 0, .int .i64 0] 57 ∧ Quiet w V) ⟨Blk.new' rfl, b2.alloc _, hqx⟩ ?_
      rintro V ⟨b3, b2', hqV'⟩
      rw [hdry] at HCar
      refine (HCar.out hok V (h.hush hqV')).mono ?_
      rintro e w2 ⟨v, rfl, pcs', ia', n', ic', ra', m', rc', hP, hF⟩
      have c3 := hF.blk b3 ht2
      have c2 := hF.blk b2' ht2
      have k3 := c3.cell
      have k2 := c2.cell
      have kf := c2.frozen
      go_wp2
      refine bodyPost_ret (v := .agg #[.int .i64 A.code, .int .i64 A.number, .int .i64 A.step, .int .i64 A.what]) (by simp [results, Try.results38, go_sem, k2]) rfl ⟨rfl, ?_⟩
      rw [HD2.out]
      have hF2 : Frame (worldTypes tw) w w2 := (Frame.quiet _ hqV').trans hF
      have hw0 : w0.heap.size ≤ w.heap.size + 1 + 1 := by have := h.quiet.size; omega
      exact ⟨pcs', ia', n', ic', ra', m', rc', (((hP.asideSet c2 ht2 hw0 0 _).asideSet (c2.set 0 _) ht2 hw0 1 _).asideSet ((c2.set 0 _).set 1 _) ht2 hw0 2 _).asideSet (((c2.set 0 _).set 1 _).set 2 _) ht2 hw0 3 _, (((hF2.fresh (by omega) 0 _).fresh (by omega) 1 _).fresh (by omega) 2 _).fresh (by omega) 3 _⟩
    · have HD2 : Hid (doP d W c = W) := by show doP d W c = _; rw [HDo.out, if_neg (fun q => by rw [hdry] at q; simp at q)]
      have hqx := hqV.alloc hqV.size (.cells #[.int .i64 A.code, .int .i64 A.number, .int .i64 A.step, .int .i64 A.what] 57)
      go_wp2
      refine bodyPost_ret (v := .agg #[.int .i64 A.code, .int .i64 A.number, .int .i64 A.step, .int .i64 A.what]) (by simp [results, Try.results38, go_sem, g2, z2]) rfl ⟨rfl, pcs, ia, n, ic, ra, m, rc, ?_⟩
      rw [HD2.out]
      have hqy := Below.four hqV (b := w.heap.size + 1 + 1) (by omega) (.int .i64 A.code) (.int .i64 A.number) (.int .i64 A.step) (.int .i64 A.what)
      exact ⟨h.hush (hqy.alloc hqy.size _), Frame.quiet _ (hqy.alloc hqy.size _)⟩

end Go.Proofs.Ytahfdglbbdacjaa

import Derived.Test.YtgcjlgaapiefiabGreatQPrwG
import Derived.Test.YtgcjlgaapiefiabGreatQPrwI
import Derived.Test.YtgcjlgaapiefiabGreatQPrwJ

/-
  Walks of the program: a command is carried out.
-/
namespace Go.Proofs.YtgcjlgaapiefiabGreat
open Go.RowKit Go.Sort

/-- What the definition promises of its steps. -/
structure DOk (d : Def) : Prop where
  retries : ∀ k, (stepP d k).retries ≤ 3
  timeout : ∀ k, 0 ≤ (stepP d k).timeout ∧ (stepP d k).timeout ≤ 20
  expiry : 0 ≤ d.expiry ∧ d.expiry ≤ 50

/-- What a command that is carried out keeps to. -/
structure CmdOk (W : WorldR) (c : Cmd) : Prop where
  kind : 1 ≤ c.kind ∧ c.kind ≤ 7
  tick : c.kind = 4 → 1 ≤ c.a ∧ c.a ≤ 100
  ask : c.kind = 5 → 1 ≤ c.a ∧ c.a ≤ 5
  named : c.kind = 6 ∨ c.kind = 7 → ∃ r, openP W c.a = some r ∧ r.bys.length < 1000

set_option maxRecDepth 100000 in
set_option maxHeartbeats 4000000 in
theorem carryOut_any (w0 : Bas) (w : World) (dv : Value) (d : Def) (hd : DefIs w0 dv d) (hdok : DOk d) (pb po : Nat) (tw : TypeId) (pcs : Array Value) (W : WorldR) (ia : Option Addr) (n ic : Nat) (ra : Option Addr) (m rc : Nat) (h : PW w0 w pb po tw pcs W ia n ic ra m rc) (hb : WBd W) (hn : n ≤ 1000) (c : Cmd) (hc : CmdOk W c) :
    Calls Tryz.prog 71 #[dv, .pointer (some ⟨pb, po, none⟩), c.val] w fun e w' => ∃ v, e = .returned v ∧ ∃ pcs' ia' n' ic' ra' m' rc', PW w0 w' pb po tw pcs' (carryP d W c) ia' n' ic' ra' m' rc' ∧ Frame (worldTypes tw) w w' := by
  have hq0 : ∀ o, Quiet w (w.alloc o) := fun o => (Below.refl _ _).alloc (Nat.le_refl _) _
  have hd1 := hd.quiet h.quiet
  obtain ⟨da, dn, dcap, rfl, hst⟩ := hd1
  clear hst
  obtain ⟨hk1, hk7⟩ := hc.kind
  have hqA : Quiet w ((w.alloc (.cells #[.slice da dn dcap, .int .i64 d.quorum, .int .i64 d.expiry] 24)).alloc (.cells #[.int .i64 c.kind, .int .i64 c.inst, .int .i64 c.a, .int .i64 c.b, .int .i64 c.who, .string c.reason, .bool c.dry] 43)) := (hq0 _).alloc (by simp) _
  have hA := h.hush hqA
  have hFA : Frame (worldTypes tw) w ((w.alloc (.cells #[.slice da dn dcap, .int .i64 d.quorum, .int .i64 d.expiry] 24)).alloc (.cells #[.int .i64 c.kind, .int .i64 c.inst, .int .i64 c.a, .int .i64 c.b, .int .i64 c.who, .string c.reason, .bool c.dry] 43)) := Frame.quiet _ hqA
  have HCV : Hid (∀ x : Cmd, x = c → x.val = .agg #[.int .i64 c.kind, .int .i64 c.inst, .int .i64 c.a, .int .i64 c.b, .int .i64 c.who, .string c.reason, .bool c.dry]) := by intro x hx; subst hx; rfl
  rcases Bool.eq_false_or_eq_true (c.kind == 1) with q1 | q1
  · have HG : Hid (carryP d W c = ⟨W.clock, W.insts ++ [startR c.inst], W.reqs⟩) := by show carryP d W c = _; simp at q1; unfold carryP; rw [if_pos q1]
    unfold Cmd.val
    go_enter Tryz.func71, Tryz.ntmps71
    go_wp2_with fail
    refine (start_any w0 _ pb po tw pcs W ia n ic ra m rc hA (by omega) c.inst).mono ?_
    rintro e w4 ⟨v, rfl, pcs', ia', ic', hP, hF⟩
    go_wp2
    refine bodyPost_end (v := .tuple #[]) (by simp [results, Tryz.results71, go_sem]) rfl ⟨_, rfl, pcs', ia', n + 1, ic', ra, m, rc, ?_, hFA.trans hF⟩
    rw [HG.out]; exact hP
  rcases Bool.eq_false_or_eq_true (c.kind == 2) with q2 | q2
  · have HG : Hid (carryP d W c = ⟨W.clock, modI W.insts c.inst (pickP d W.clock), W.reqs⟩) := by show carryP d W c = _; simp at q1 q2; unfold carryP; rw [if_neg q1, if_pos q2]
    unfold Cmd.val
    go_enter Tryz.func71, Tryz.ntmps71
    go_wp2_with fail
    refine (pick_any w0 _ _ d hd hdok.timeout pb po tw pcs W ia n ic ra m rc hA hb c.inst).mono ?_
    rintro e w4 ⟨v, rfl, hP, hF⟩
    go_wp2
    refine bodyPost_end (v := .tuple #[]) (by simp [results, Tryz.results71, go_sem]) rfl ⟨_, rfl, pcs, ia, n, ic, ra, m, rc, ?_, hFA.trans hF⟩
    rw [HG.out]; exact hP
  rcases Bool.eq_false_or_eq_true (c.kind == 3) with q3 | q3
  · have HG : Hid (carryP d W c = ⟨W.clock, modI W.insts c.inst (fun x => replyP d W.clock x (c.b == 1)), W.reqs⟩) := by show carryP d W c = _; simp at q1 q2 q3; unfold carryP; rw [if_neg q1, if_neg q2, if_pos q3]
    generalize hwell : (c.b == 1) = well at *
    unfold Cmd.val
    go_enter Tryz.func71, Tryz.ntmps71
    go_wp2_with fail
    refine (reply_any w0 _ _ d hd hdok.retries pb po tw pcs W ia n ic ra m rc hA hb c.inst well).mono ?_
    rintro e w4 ⟨v, rfl, hP, hF⟩
    go_wp2
    refine bodyPost_end (v := .tuple #[]) (by simp [results, Tryz.results71, go_sem]) rfl ⟨_, rfl, pcs, ia, n, ic, ra, m, rc, ?_, hFA.trans hF⟩
    rw [HG.out]; exact hP
  rcases Bool.eq_false_or_eq_true (c.kind == 4) with q4 | q4
  · have HG : Hid (carryP d W c = ⟨W.clock + c.a, W.insts, W.reqs⟩) := by show carryP d W c = _; simp at q1 q2 q3 q4; unfold carryP; rw [if_neg q1, if_neg q2, if_neg q3, if_pos q4]
    obtain ⟨ha1, ha2⟩ := hc.tick (by simpa using q4)
    obtain ⟨hc0, hc1⟩ := hb.clock
    obtain ⟨p0, p1, p2⟩ := hA.row.at.three
    have fp := hA.row.1.frozen
    have zp := hA.row.1.lt
    unfold Cmd.val
    go_enter Tryz.func71, Tryz.ntmps71
    go_wp2_with fail
    go_region
    all_goals (try go_wp2)
    all_goals
      refine bodyPost_end (v := .tuple #[]) (by simp [results, Tryz.results71, go_sem]) rfl ⟨_, rfl, ?_⟩
      rw [HG.out]
      first
        | exact ⟨_, ia, n, ic, ra, m, rc, ((hA.hush (Below.drew (Below.refl _ _))).tick (W.clock + c.a)).1, (hFA.trans (Frame.quiet _ (Below.drew (Below.refl _ _)))).trans ((hA.hush (Below.drew (Below.refl _ _))).tick (W.clock + c.a)).2⟩
        | exact ⟨_, ia, n, ic, ra, m, rc, ((hA.tick (W.clock + c.a)).1).hush (Below.drew (Below.refl _ _)), (hFA.trans (hA.tick (W.clock + c.a)).2).trans (Frame.quiet _ (Below.drew (Below.refl _ _)))⟩
  rcases Bool.eq_false_or_eq_true (c.kind == 5) with q5 | q5
  · have HG : Hid (carryP d W c = ⟨W.clock, decideI d W (newReq d W c), W.reqs ++ [decideR d (newReq d W c)]⟩) := by show carryP d W c = _; simp at q1 q2 q3 q4 q5; unfold carryP; rw [if_neg q1, if_neg q2, if_neg q3, if_neg q4, if_pos q5]
    obtain ⟨ha1, ha2⟩ := hc.ask (by simpa using q5)
    have HAsk : Hid (∀ V, Quiet w V → Calls Tryz.prog 92 #[.agg #[.slice da dn dcap, .int .i64 d.quorum, .int .i64 d.expiry], .pointer (some ⟨pb, po, none⟩), .agg #[.int .i64 c.kind, .int .i64 c.inst, .int .i64 c.a, .int .i64 c.b, .int .i64 c.who, .string c.reason, .bool c.dry]] V fun e w' => ∃ v, e = .returned v ∧ ∃ pcs' ra' rc', PW w0 w' pb po tw pcs' ⟨W.clock, decideI d W (newReq d W c), W.reqs ++ [decideR d (newReq d W c)]⟩ ia n ic ra' (m + 1) rc' ∧ Frame (worldTypes tw) V w') := fun V hV =>
      ask_any w0 V _ d hd hdok.expiry.1 hdok.expiry.2 pb po tw pcs W ia n ic ra m rc (h.hush hV) hb c ha1 ha2
    unfold Cmd.val
    go_enter Tryz.func71, Tryz.ntmps71
    go_wp2_with fail
    refine (HAsk.out _ hqA).mono ?_
    rintro e w4 ⟨v, rfl, pcs', ra', rc', hP, hF⟩
    go_wp2
    refine bodyPost_end (v := .tuple #[]) (by simp [results, Tryz.results71, go_sem]) rfl ⟨_, rfl, pcs', ia, n, ic, ra', m + 1, rc', ?_, hFA.trans hF⟩
    rw [HG.out]; exact hP
  rcases Bool.eq_false_or_eq_true (c.kind == 6) with q6 | q6
  · obtain ⟨r, ho, hbl⟩ := hc.named (.inl (by simpa using q6))
    have HG : Hid (carryP d W c = ⟨W.clock, decideI d W { r with bys := r.bys ++ [c.who] }, W.reqs.set (c.a - 1).toNat (decideR d { r with bys := r.bys ++ [c.who] })⟩) := by show carryP d W c = _; simp at q1 q2 q3 q4 q5 q6; unfold carryP; rw [if_neg q1, if_neg q2, if_neg q3, if_neg q4, if_neg q5, if_pos q6, ho]
    unfold Cmd.val
    go_enter Tryz.func71, Tryz.ntmps71
    go_wp2_with fail
    refine (approve_any w0 _ _ d hd pb po tw pcs W ia n ic ra m rc hA hb c.a c.who r ho hbl).mono ?_
    rintro e w4 ⟨v, rfl, hP, hF⟩
    go_wp2
    refine bodyPost_end (v := .tuple #[]) (by simp [results, Tryz.results71, go_sem]) rfl ⟨_, rfl, pcs, ia, n, ic, ra, m, rc, ?_, hFA.trans hF⟩
    rw [HG.out]; exact hP
  · have q7 : (c.kind == 7) = true := by simp at q1 q2 q3 q4 q5 q6 ⊢; omega
    obtain ⟨r, ho, hbl⟩ := hc.named (.inr (by simpa using q7))
    have HG : Hid (carryP d W c = ⟨W.clock, W.insts, W.reqs.set (c.a - 1).toNat { r with closed := true }⟩) := by show carryP d W c = _; simp at q1 q2 q3 q4 q5 q6 q7; unfold carryP; rw [if_neg q1, if_neg q2, if_neg q3, if_neg q4, if_neg q5, if_neg q6, if_pos q7, ho]
    unfold Cmd.val
    go_enter Tryz.func71, Tryz.ntmps71
    go_wp2_with fail
    refine (withdraw_any w0 _ pb po tw pcs W ia n ic ra m rc hA c.a r ho).mono ?_
    rintro e w4 ⟨v, rfl, hP, hF⟩
    go_wp2
    refine bodyPost_end (v := .tuple #[]) (by simp [results, Tryz.results71, go_sem]) rfl ⟨_, rfl, pcs, ia, n, ic, ra, m, rc, ?_, hFA.trans hF⟩
    rw [HG.out]; exact hP

end Go.Proofs.YtgcjlgaapiefiabGreat

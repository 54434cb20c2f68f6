import Derived.Test.YtgcjlgaapiefiabGreatQPrwC
import Derived.Test.YtgcjlgaapiefiabGreatQPrwB

/-
  Walks of the program: a step that failed.
-/
namespace Go.Proofs.YtgcjlgaapiefiabGreat
open Go.RowKit Go.Sort

theorem Turned.after {w0 w w' : World} {b o n : Nat} {row : Option Nat} (hq : Quiet w0 w) (h : Turned w w' b o n row) (hb : w0.heap.size ≤ b) (hr : ∀ k, row = some k → w0.heap.size ≤ k) : Quiet w0 w' :=
  Below.trans hq (h.below hq.size hb hr)
/-- What a program's world stands upon: the world that the definition is of (lo), what lies beneath the world's own rows (heap), the cells of the block that bears it (row). -/
structure Bas where
  lo : World
  heap : Array Obj
  le : lo.heap.size ≤ heap.size
  row : Array Value
instance : Coe Bas World := ⟨Bas.lo⟩

theorem Makes.turned {base : Nat} {w w' : World} {b o : Nat} {row : Option Nat} {y : Inst} (h : Makes base w b o row y w') : Turned w w' b o 12 row := by obtain ⟨_, _, _, _, _, h, _⟩ := h; exact h

set_option maxRecDepth 100000 in
set_option maxHeartbeats 4000000 in
theorem fail_any (w0 : Bas) (w : World) (hq : Quiet w0 w) (dv : Value) (d : Def) (hd : DefIs w0 dv d) (hdok : ∀ k, (stepP d k).retries ≤ 3) (b o : Nat) (cs : Array Value) (x : Inst) (a : Option Addr) (n cap : Nat) (clock : Int) (h : InstIn w0.heap.size w b o cs x a n cap) (hbb : w0.heap.size ≤ b)
    (h0 : -1000 < x.settled) (h1 : x.settled ≤ 1000) (hc0 : 0 ≤ clock) (hc1 : clock ≤ 1000000) :
    Calls Tryz.prog 109 #[dv, .int .i64 clock, .pointer (some ⟨b, o, none⟩)] w fun e w' => ∃ v, e = .returned v ∧ Makes w0.heap.size w b o (Value.slice a n cap).ownBlock (failP d clock x) w' := by
  have hq0 : ∀ o, Quiet w (w.alloc o) := fun o => (Below.refl _ _).alloc (Nat.le_refl _) _
  have hbr : ∀ k, (Value.slice a n cap).ownBlock = some k → w0.heap.size ≤ k := fun k hk => (own_ge h.own k hk).1
  have hd0 := hd
  obtain ⟨da, dn, dcap, rfl, hst⟩ := hd
  clear hst
  go_enter Tryz.func109, Tryz.ntmps109
  go_wp2_with fail
  refine calls_gen (fun W => Blk W w.heap.size #[.slice da dn dcap, .int .i64 d.quorum, .int .i64 d.expiry] 24 ∧ Quiet w W) ⟨Blk.new' rfl, hq0 _⟩ ?_
  rintro W ⟨bd, hqW⟩
  refine (dropKey_any w0.heap.size W b o cs x a n cap (h.quiet hqW)).mono ?_
  rintro e w1 ⟨v, rfl, cs1, a1, n1, cap1, hI, hT, hR⟩
  have hW := h.quiet hqW
  have bd1 := Blk.turned hT bd (hW.row.1.ne bd (by decide)) (hW.apart_of bd (by decide))
  have hT0 : Turned w w1 b o 12 (Value.slice a n cap).ownBlock := (Turned.quiet hqW b o 12 _).trans hT (.inl rfl)
  have hR0 : (Value.slice a1 n1 cap1).ownBlock = (Value.slice a n cap).ownBlock ∨ ∀ k, (Value.slice a1 n1 cap1).ownBlock = some k → w.heap.size ≤ k := by
    rcases hR with hR | hR
    · exact .inl hR
    · exact .inr fun k hk => Nat.le_trans hqW.size (hR k hk)
  clear hT hR bd hW hqW
  have hd1 := hd0.quiet (hT0.after hq (Nat.le_trans w0.le hbb) (fun k hk => Nat.le_trans w0.le (hbr k hk)))
  have HX : Hid (∀ W, Quiet w1 W → Calls Tryz.prog 102 #[.pointer (some ⟨b, o, none⟩)] W fun e w' => e = .returned (.int .i64 (nextP x)) ∧ w' = W) := fun W hW => nextStep_any b o { x with key := 0, due := 0 } W (hI.at.quiet hW) (by show -1000 ≤ x.settled; omega) h1
  have HS : Hid (∀ W, Quiet w1 W → Calls Tryz.prog 108 #[.agg #[.slice da dn dcap, .int .i64 d.quorum, .int .i64 d.expiry], .int .i64 (nextP x)] W fun e w' => e = .returned (stepP d (nextP x)).val ∧ Quiet W w') := fun W hW => step_any _ d _ W (hd1.quiet hW)
  have HF : Hid (failP d clock x = if x.tries ≤ (stepP d (nextP x)).retries then { x with key := 0, due := 0, wake := clock + pauseR x.tries } else if x.mode = 1 ∧ floorP d x ≤ 0 then abortP clock x else { x with key := 0, due := 0, stuck := true }) := rfl
  have h3 := hdok (nextP x)
  generalize stepP d (nextP x) = s at *
  have g0 := bd1.cell
  have z0 := bd1.lt
  go_wp2_with fail
  go_cut [6] (fun s7 wc => ∃ sb, s7 = .pointer (some ⟨sb, 0, none⟩) ∧ Blk wc sb #[.bool s.undo, .bool s.pivot, .int .i64 s.retries, .int .i64 s.timeout] 41 ∧ Quiet w1 wc)
  case first =>
    go_region_with (first | (go_at_call 102; refine (HX.out _ ?_).mono ?_; (first | exact Below.drew (Below.refl _ _) | exact Below.drew ((Below.refl _ _).alloc (Nat.le_refl _) _)); rintro e w2 ⟨rfl, rfl⟩) | (go_at_call 108; refine (HS.out _ ?_).mono ?_; (first | exact Below.drew (Below.refl _ _) | exact Below.drew ((Below.refl _ _).alloc (Nat.le_refl _) _)); rintro e w2 ⟨rfl, hq1⟩; have bc1 := (bcell hq1).1; have bf1 := (bcell hq1).2; simp only [Step.val]))
    all_goals (try go_wp2)
    all_goals
      go_meet
      case rel =>
        refine ⟨_, rfl, ?_, ?_⟩
        · first | (with_reducible exact Blk.new' rfl) | exact (Blk.quiet (Blk.drew (Blk.new' rfl)) hq1).four (by simp) _ _ _ _
        · first | (with_reducible exact Below.alloc (Quiet.after (Below.drew (Below.refl _ _)) hq1) (Quiet.after (Below.drew (Below.refl _ _)) hq1).size _) | exact Below.four (Quiet.after (Below.drew ((Below.refl _ _).alloc (Nat.le_refl _) _)) hq1) (Nat.le_refl _) _ _ _ _
  case rest =>
    obtain ⟨sb, rfl, q, hqc⟩ := hcut
    replace hI := hI.quiet hqc
    replace bd1 := bd1.quiet hqc
    replace hT0 : Turned w wc b o 12 (Value.slice a n cap).ownBlock := hT0.trans (Turned.quiet hqc b o 12 _) (.inl rfl)
    replace hd1 := hd1.quiet hqc
    clear g0 z0 hqc HS HX
    obtain ⟨c0, c1, c2, c3, c4, c5, c6, c7, c8, c9, c10, c11⟩ := hI.row.at.twelve
    have f := hI.row.1.frozen
    have gq := q.cell
    have gd := bd1.cell
    by_cases htr : x.tries ≤ s.retries
    · have HP : Hid (failP d clock x = { x with key := 0, due := 0, wake := clock + pauseR x.tries }) := by show failP d clock x = _; rw [HF.out, if_pos htr]
      obtain ⟨hp1, hp4⟩ := pauseR_bd x.tries (by omega)
      have HPA : Hid (∀ W, Calls Tryz.prog 120 #[.int .i64 x.tries] W fun e w' => e = .returned (.int .i64 (pauseR x.tries)) ∧ w' = W) := fun W => pause_any x.tries W (by omega)
      generalize pauseR x.tries = p at *
      go_wp2_with fail
      go_quiet (fail)
      have hqn : Quiet wc (wc.drewN nq) := (Below.refl _ _).drewN
      go_wp2_with (go_at_call 120; refine (HPA.out _).mono ?_; rintro e w2 ⟨rfl, rfl⟩)
      refine bodyPost_ret (v := .tuple #[]) (by simp [results, Tryz.results109, go_sem]) rfl ⟨_, rfl, ?_⟩
      rw [HP.out]
      refine Makes.trans (hT0.trans (Turned.quiet hqn b o 12 (Value.slice a n cap).ownBlock) (.inl rfl)) hR0 ?_
      exact Makes.of ((hI.quiet hqn).set 10 (.int .i64 (clock + p)) _ (by omega) rfl rfl) (Turned.set _ 10 _ (by omega)) rfl
    · cases hm : x.mode == 1
      · have HP : Hid (failP d clock x = { x with key := 0, due := 0, stuck := true }) := by show failP d clock x = _; simp at hm; rw [HF.out, if_neg htr, if_neg (fun e => hm e.1)]
        go_wp2_with fail
        go_quiet (fail)
        have hqn : Quiet wc (wc.drewN nq) := (Below.refl _ _).drewN
        go_wp2
        refine bodyPost_end (v := .tuple #[]) (by simp [results, Tryz.results109, go_sem]) rfl ⟨_, rfl, ?_⟩
        rw [HP.out]
        refine Makes.trans (hT0.trans (Turned.quiet hqn b o 12 (Value.slice a n cap).ownBlock) (.inl rfl)) hR0 ?_
        exact Makes.of ((hI.quiet hqn).set 2 (.bool true) _ (by omega) rfl rfl) (Turned.set _ 2 _ (by omega)) rfl
      · have HFL : Hid (floorP d { x with key := 0, due := 0 } = floorP d x) := rfl
        cases hfl : decide (0 < floorP d x)
        · have HP : Hid (failP d clock x = abortP clock { x with key := 0, due := 0 }) := by
            show failP d clock x = _; simp at hm hfl; rw [HF.out, if_neg htr, if_pos ⟨hm, hfl⟩]; rfl
          go_wp2_with fail
          go_quiet (fail)
          have hqn : Quiet wc (wc.drewN nq) := (Below.refl _ _).drewN
          go_wp2_with fail
          refine (isPivotBehind_any _ d b o { x with key := 0, due := 0 } _ (hd1.quiet hqn) (hI.at.quiet hqn)).mono ?_
          rintro e w3 ⟨rfl, hq3⟩
          rw [HFL.out, hfl]
          have hq4 : Quiet wc w3 := hqn.after hq3
          go_wp2_with fail
          refine (abort_any w0.heap.size w3 b o _ _ a1 n1 cap1 clock (hI.quiet hq4)).mono ?_
          rintro e w4 ⟨v, rfl, hM⟩
          go_wp2
          refine bodyPost_ret (v := .tuple #[]) (by simp [results, Tryz.results109, go_sem]) rfl ⟨_, rfl, ?_⟩
          rw [HP.out]
          exact Makes.trans (hT0.trans (Turned.quiet hq4 b o 12 (Value.slice a n cap).ownBlock) (.inl rfl)) hR0 hM
        · have HP : Hid (failP d clock x = { x with key := 0, due := 0, stuck := true }) := by show failP d clock x = _; simp at hfl; rw [HF.out, if_neg htr, if_neg (fun e => by omega)]
          go_wp2_with fail
          go_quiet (fail)
          have hqn : Quiet wc (wc.drewN nq) := (Below.refl _ _).drewN
          go_wp2_with fail
          refine (isPivotBehind_any _ d b o { x with key := 0, due := 0 } _ (hd1.quiet hqn) (hI.at.quiet hqn)).mono ?_
          rintro e w3 ⟨rfl, hq3⟩
          rw [HFL.out, hfl]
          have hq4 : Quiet wc w3 := hqn.after hq3
          replace hI := hI.quiet hq4
          clear c0 c1 c2 c3 c4 c5 c6 c7 c8 c9 c10 c11 f
          obtain ⟨c0, c1, c2, c3, c4, c5, c6, c7, c8, c9, c10, c11⟩ := hI.row.at.twelve
          have f := hI.row.1.frozen
          go_wp2
          refine bodyPost_end (v := .tuple #[]) (by simp [results, Tryz.results109, go_sem]) rfl ⟨_, rfl, ?_⟩
          rw [HP.out]
          refine Makes.trans (hT0.trans (Turned.quiet hq4 b o 12 (Value.slice a n cap).ownBlock) (.inl rfl)) hR0 ?_
          exact Makes.of (hI.set 2 (.bool true) _ (by omega) rfl rfl) (Turned.set _ 2 _ (by omega)) rfl

end Go.Proofs.YtgcjlgaapiefiabGreat

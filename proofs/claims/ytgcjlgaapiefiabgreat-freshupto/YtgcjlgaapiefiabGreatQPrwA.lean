import Derived.Test.YtgcjlgaapiefiabGreatQChk
import Derived.Test.YtgcjlgaapiefiabGreatQLog
import Derived.Deep.DeepCutAuto
import Derived.Deep.RegionWith
import Derived.Deep.RegionLaw
import Derived.Deep.RegionHeld3

/-
  Walks of the program: what reads one instance.
-/
namespace Go.Proofs.YtgcjlgaapiefiabGreat
open Go.RowKit

theorem At.twelve {w : World} {b o : Nat} {x0 x1 x2 x3 x4 x5 x6 x7 x8 x9 x10 x11 : Value} (h : At w b o [x0, x1, x2, x3, x4, x5, x6, x7, x8, x9, x10, x11]) :
    w.cell? ⟨b, o, none⟩ = some x0 ∧ w.cell? ⟨b, o + 1, none⟩ = some x1 ∧ w.cell? ⟨b, o + 2, none⟩ = some x2 ∧ w.cell? ⟨b, o + 3, none⟩ = some x3 ∧ w.cell? ⟨b, o + 4, none⟩ = some x4 ∧ w.cell? ⟨b, o + 5, none⟩ = some x5 ∧
    w.cell? ⟨b, o + 6, none⟩ = some x6 ∧ w.cell? ⟨b, o + 7, none⟩ = some x7 ∧ w.cell? ⟨b, o + 8, none⟩ = some x8 ∧ w.cell? ⟨b, o + 9, none⟩ = some x9 ∧ w.cell? ⟨b, o + 10, none⟩ = some x10 ∧ w.cell? ⟨b, o + 11, none⟩ = some x11 :=
  ⟨h 0 x0 rfl, h 1 x1 rfl, h 2 x2 rfl, h 3 x3 rfl, h 4 x4 rfl, h 5 x5 rfl, h 6 x6 rfl, h 7 x7 rfl, h 8 x8 rfl, h 9 x9 rfl, h 10 x10 rfl, h 11 x11 rfl⟩

/-- An instance lies there. -/
def InstAt (w : World) (b o : Nat) (x : Inst) : Prop := ∃ lv, At w b o (x.cells lv)
theorem InstAt.quiet {w w' : World} {b o : Nat} {x : Inst} (h : InstAt w b o x) (hq : Quiet w w') : InstAt w' b o x := by
  obtain ⟨lv, h⟩ := h; exact ⟨lv, h.quiet hq⟩

theorem isOver_any (b o : Nat) (x : Inst) (w : World) (hx : InstAt w b o x) :
    Calls Tryz.prog 114 #[.pointer (some ⟨b, o, none⟩)] w fun e w' => e = .returned (.bool (decide (x.mode = 3 ∨ x.mode = 4))) ∧ w' = w := by
  obtain ⟨lv, hx⟩ := hx
  obtain ⟨c0, c1, c2, c3, c4, c5, c6, c7, c8, c9, c10, c11⟩ := hx.twelve
  cases h3 : x.mode == 3
  all_goals
    go_enter Tryz.func114, Tryz.ntmps114
    go_wp2
    go_ret
    exact ⟨ret_bool (by simp at h3; by_cases h4 : x.mode = 4 <;> simp [h3, h4]), rfl⟩

theorem nextStep_any (b o : Nat) (x : Inst) (w : World) (hx : InstAt w b o x) (h0 : -1000 ≤ x.settled) (h1 : x.settled ≤ 1000) :
    Calls Tryz.prog 102 #[.pointer (some ⟨b, o, none⟩)] w fun e w' => e = .returned (.int .i64 (nextP x)) ∧ w' = w := by
  obtain ⟨lv, hx⟩ := hx
  obtain ⟨c0, c1, c2, c3, c4, c5, c6, c7, c8, c9, c10, c11⟩ := hx.twelve
  cases h3 : x.mode == 2
  all_goals
    go_enter Tryz.func102, Tryz.ntmps102
    go_wp2
    go_ret
    exact ⟨ret_int (by simp at h3; simp [nextP, h3]), rfl⟩

def Step.val (s : Step) : Value := .agg #[.bool s.undo, .bool s.pivot, .int .i64 s.retries, .int .i64 s.timeout]

set_option maxRecDepth 100000 in
set_option maxHeartbeats 1000000 in
theorem step_any (dv : Value) (d : Def) (n : Int) (w : World) (hd : DefIs w dv d) :
    Calls Tryz.prog 108 #[dv, .int .i64 n] w fun e w' => e = .returned (stepP d n).val ∧ Quiet w w' := by
  obtain ⟨da, dn, dcap, rfl, hst⟩ := hd
  obtain ⟨hn, hm⟩ := hst.len
  rw [stepVals, List.length_map] at hn
  have HN : Hid (dn = d.steps.length) := hn
  clear hn
  by_cases h0 : n < 0
  · have HS : Hid (stepP d n = ⟨false, false, 0, 0⟩) := by show stepP d n = _; unfold stepP; rw [if_pos h0]; rfl
    go_enter Tryz.func108, Tryz.ntmps108
    go_wp2
    refine bodyPost_ret (v := .agg #[.bool false, .bool false, .int .i64 0, .int .i64 0]) (by simp [results, Tryz.results108, go_sem]) rfl ⟨by rw [HS.out]; rfl, ?_⟩
    exact ((Below.refl _ _).alloc (Nat.le_refl _) _).alloc (by simp) _
  by_cases h1 : (dn : Int) ≤ n
  · have HS : Hid (stepP d n = ⟨false, false, 0, 0⟩) := by
      show stepP d n = _; unfold stepP; rw [if_neg h0, List.getD, List.getElem?_eq_none (by have := HN.out; omega)]; rfl
    go_enter Tryz.func108, Tryz.ntmps108
    go_wp2
    refine bodyPost_ret (v := .agg #[.bool false, .bool false, .int .i64 0, .int .i64 0]) (by simp [results, Tryz.results108, go_sem]) rfl ⟨by rw [HS.out]; rfl, ?_⟩
    exact ((Below.refl _ _).alloc (Nat.le_refl _) _).alloc (by simp) _
  · obtain ⟨k, rfl⟩ : ∃ k : Nat, n = k := ⟨n.toNat, by omega⟩
    have hkl : k < d.steps.length := by have := HN.out; omega
    have HS : Hid (stepP d k = d.steps[k]) := by
      show stepP d k = _; unfold stepP; rw [if_neg h0, List.getD, show ((k : Int)).toNat = k by omega, List.getElem?_eq_getElem hkl]; rfl
    obtain ⟨b, off, rfl, hb, c0, c1, c2, c3⟩ := hst.step k hkl
    revert c0 c1 c2 c3 HS
    generalize d.steps[k] = s
    obtain ⟨u, p, r, t⟩ := s
    intro HS c0 c1 c2 c3
    simp only at c0 c1 c2 c3
    have hki : (0 : Int) ≤ (k : Int) := by omega
    go_enter Tryz.func108, Tryz.ntmps108
    go_wp2
    refine bodyPost_ret (v := .agg #[.bool u, .bool p, .int .i64 r, .int .i64 t]) (by simp [results, Tryz.results108, go_sem]) rfl ⟨by rw [HS.out]; rfl, ?_⟩
    exact ((Below.refl _ _).alloc (Nat.le_refl _) _).alloc (by simp) _

set_option maxHeartbeats 1000000 in
theorem floor_any (dv : Value) (d : Def) (b o : Nat) (x : Inst) (w : World) (hd : DefIs w dv d) (hx : InstAt w b o x) :
    Calls Tryz.prog 126 #[dv, .pointer (some ⟨b, o, none⟩)] w fun e w' => e = .returned (.int .i64 (floorP d x)) ∧ Quiet w w' := by
  obtain ⟨da, dn, dcap, rfl, hst⟩ := hd
  obtain ⟨hn, hm⟩ := hst.len
  rw [stepVals, List.length_map] at hn
  have HN : Hid (dn = d.steps.length) := hn
  clear hn
  have hq0 : ∀ o, Quiet w (w.alloc o) := fun o => (Below.refl _ _).alloc (Nat.le_refl _) _
  obtain ⟨lv, hx⟩ := hx
  have hxb := hx.lt
  obtain ⟨c0, c1, c2, c3, c4, c5, c6, c7, c8, c9, c10, c11⟩ := (hx.quiet (hq0 (.cells #[.slice da dn dcap, .int .i64 d.quorum, .int .i64 d.expiry] 24))).twelve
  go_enter Tryz.func126, Tryz.ntmps126
  go_wp2
  go_loop [5] (fun i => ∃ k : Nat, k ≤ dn ∧ i = .int .i64 k ∧ (∀ j, j < k → ∀ hj : j < d.steps.length, (j : Int) < x.settled → d.steps[j].pivot = false)) (fun i => dn - (intOf i).toNat)
  case atStart => exact ⟨0, Nat.zero_le _, rfl, fun j hj => by omega⟩
  case round =>
    obtain ⟨k, hk, rfl, hno⟩ := hrel
    have HO : Hid (∀ j, j < k → ∀ hj : j < d.steps.length, (j : Int) < x.settled → d.steps[j].pivot = false) := hno
    clear hno
    have HE : Hid (¬ ((k : Int) < dn ∧ (k : Int) < x.settled) → floorP d x = 0) := by
      intro hne
      have : floorP d x = -1 + 1 := by
        unfold floorP
        rw [firstPivot_none _ _ _ (fun j hj hjl => HO.out j (by have := HN.out; omega) hjl (by omega))]
      omega
    by_cases hlt : (k : Int) < dn
    · by_cases hls : (k : Int) < x.settled
      · have hkl : k < d.steps.length := by have := HN.out; omega
        obtain ⟨sb, off, rfl, hsb, s0, s1, s2, s3⟩ := (hst.quiet (hq0 (.cells #[.slice da dn dcap, .int .i64 d.quorum, .int .i64 d.expiry] 24))).step k hkl
        have HP : Hid (d.steps[k].pivot = true → floorP d x = (k : Int) + 1) := by
          intro hp
          unfold floorP
          rw [firstPivot_some d.steps x.settled.toNat 0 k (by omega) hkl hp (fun j hj hjl => HO.out j hj hjl (by omega))]
          omega
        have HQ : Hid (d.steps[k].pivot = false → ∀ j, j < k + 1 → ∀ hj : j < d.steps.length, (j : Int) < x.settled → d.steps[j].pivot = false) := by
          intro hp j hj hjl hjs
          by_cases e : j = k
          · subst e; exact hp
          · exact HO.out j (by omega) hjl hjs
        revert s0 s1 s2 s3 HP HQ
        generalize d.steps[k] = s
        obtain ⟨u, p, r, t⟩ := s
        intro s0 s1 s2 s3 HP HQ
        simp only at s0 s1 s2 s3
        have hki : (0 : Int) ≤ (k : Int) := by omega
        cases p
        · go_wp2
          go_round
          case rel => exact ⟨k + 1, by omega, by go_num, HQ.out (by simp)⟩
          case measure => simp [intOf]; omega
        · go_wp2
          go_ret
          exact ⟨ret_int (HP.out (by simp)).symm, hq0 _⟩
      · have := HE.out (fun e => hls e.2)
        go_wp2
        go_ret
        exact ⟨rfl, hq0 _⟩
    · have := HE.out (fun e => hlt e.1)
      go_wp2
      go_ret
      exact ⟨rfl, hq0 _⟩

end Go.Proofs.YtgcjlgaapiefiabGreat

/-
  Walks of the program: what can be asked for, the codes of PICK.
-/
namespace Go.Proofs.YtgcjlgaapiefiabGreat
open Go.RowKit

theorem wp_gen1 {P : Program} {c : Code} {Q : Exit → Act → World → Prop} {a : Act} {w : World} (R : World → Prop) (hR : R w) (h : ∀ w', R w' → Code.wp P c Q a w') : Code.wp P c Q a w := h w hR

theorem isPivotBehind_any (dv : Value) (d : Def) (b o : Nat) (x : Inst) (w : World) (hd : DefIs w dv d) (hx : InstAt w b o x) :
    Calls Tryz.prog 121 #[dv, .pointer (some ⟨b, o, none⟩)] w fun e w' => e = .returned (.bool (decide (0 < floorP d x))) ∧ Quiet w w' := by
  have hd0 := hd
  obtain ⟨da, dn, dcap, rfl, hst⟩ := hd
  have hq0 : ∀ o, Quiet w (w.alloc o) := fun o => (Below.refl _ _).alloc (Nat.le_refl _) _
  go_enter Tryz.func121, Tryz.ntmps121
  go_wp2_with (go_at_call 126; refine (floor_any _ d b o x _ (hd0.quiet (hq0 _)) (hx.quiet (hq0 _))).mono ?_; rintro e w1 ⟨rfl, hq1⟩)
  go_ret
  exact ⟨rfl, (hq0 _).after hq1⟩

set_option maxHeartbeats 1000000 in
theorem canAskFor_any (dv : Value) (d : Def) (b o : Nat) (x : Inst) (what target : Int) (w : World) (hd : DefIs w dv d) (hx : InstAt w b o x) :
    Calls Tryz.prog 117 #[dv, .pointer (some ⟨b, o, none⟩), .int .i64 what, .int .i64 target] w fun e w' => e = .returned (.bool (canP d x what target)) ∧ Quiet w w' := by
  have hd0 := hd
  have hx0 := hx
  obtain ⟨da, dn, dcap, rfl, hst⟩ := hd
  have hq0 : ∀ o, Quiet w (w.alloc o) := fun o => (Below.refl _ _).alloc (Nat.le_refl _) _
  obtain ⟨lv, hx⟩ := hx
  obtain ⟨c0, c1, c2, c3, c4, c5, c6, c7, c8, c9, c10, c11⟩ := (hx.quiet (hq0 (.cells #[.slice da dn dcap, .int .i64 d.quorum, .int .i64 d.expiry] 24))).twelve
  rcases Bool.eq_false_or_eq_true (what == 1) with w1 | w1
  · have HW : Hid (canP d x what target = x.stuck) := by show canP d x what target = _; simp at w1; unfold canP; rw [if_pos w1]
    go_enter Tryz.func117, Tryz.ntmps117
    go_wp2
    go_ret
    exact ⟨ret_bool HW.out.symm, hq0 _⟩
  rcases Bool.eq_false_or_eq_true (what == 2) with w2 | w2
  · have HW : Hid (canP d x what target = (x.mode == 1)) := by show canP d x what target = _; simp at w1 w2; unfold canP; rw [if_neg w1, if_pos w2]
    go_enter Tryz.func117, Tryz.ntmps117
    go_wp2
    go_ret
    exact ⟨ret_bool (by rw [HW.out]), hq0 _⟩
  rcases Bool.eq_false_or_eq_true (what == 3) with w3 | w3
  · have HW : Hid (canP d x what target = (x.mode == 2)) := by show canP d x what target = _; simp at w1 w2 w3; unfold canP; rw [if_neg w1, if_neg w2, if_pos w3]
    go_enter Tryz.func117, Tryz.ntmps117
    go_wp2
    go_ret
    exact ⟨ret_bool (by rw [HW.out]), hq0 _⟩
  rcases Bool.eq_false_or_eq_true (what == 4) with w4 | w4
  · have HW : Hid (canP d x what target = ((x.mode == 1) && !decide (0 < floorP d x))) := by
      show canP d x what target = _; simp at w1 w2 w3 w4; unfold canP; rw [if_neg w1, if_neg w2, if_neg w3, if_pos w4]
      have e : decide (floorP d x ≤ 0) = !decide (0 < floorP d x) := by rw [Bool.eq_iff_iff]; simp only [decide_eq_true_eq, Bool.not_eq_true', decide_eq_false_iff_not]; omega
      rw [e]
    cases hm : x.mode == 1
    · go_enter Tryz.func117, Tryz.ntmps117
      go_wp2
      go_ret
      exact ⟨ret_bool (by rw [HW.out, hm]; rfl), hq0 _⟩
    · go_enter Tryz.func117, Tryz.ntmps117
      go_wp2_with (go_at_call 121; refine (isPivotBehind_any _ d b o x _ (hd0.quiet (hq0 _)) (hx0.quiet (hq0 _))).mono ?_; rintro e w1 ⟨rfl, hq1⟩)
      go_ret
      exact ⟨ret_bool (by rw [HW.out, hm]; rfl), (hq0 _).after hq1⟩
  rcases Bool.eq_false_or_eq_true (what == 5) with w5 | w5
  · have HW : Hid (canP d x what target = ((x.mode == 1) && (decide (target < x.settled) && decide (floorP d x ≤ target)))) := by
      show canP d x what target = _; simp at w1 w2 w3 w4 w5; unfold canP; rw [if_neg w1, if_neg w2, if_neg w3, if_neg w4, if_pos w5]
    cases hm : x.mode == 1
    · go_enter Tryz.func117, Tryz.ntmps117
      go_wp2
      go_ret
      exact ⟨ret_bool (by rw [HW.out, hm]; rfl), hq0 _⟩
    by_cases ht : target < x.settled
    · have HT : Hid (decide (target < x.settled) = true) := by show decide _ = _; simpa using ht
      go_enter Tryz.func117, Tryz.ntmps117
      go_wp2_with (go_at_call 126; refine (floor_any _ d b o x _ (hd0.quiet (hq0 _)) (hx0.quiet (hq0 _))).mono ?_; rintro e w1 ⟨rfl, hq1⟩)
      go_ret
      exact ⟨ret_bool (by rw [HW.out, hm, HT.out]; rfl), (hq0 _).after hq1⟩
    · have HT : Hid (decide (target < x.settled) = false) := by show decide _ = _; simpa using ht
      go_enter Tryz.func117, Tryz.ntmps117
      go_wp2
      go_ret
      exact ⟨ret_bool (by rw [HW.out, hm, HT.out]; rfl), hq0 _⟩
  · have HW : Hid (canP d x what target = false) := by show canP d x what target = _; simp at w1 w2 w3 w4 w5; unfold canP; rw [if_neg w1, if_neg w2, if_neg w3, if_neg w4, if_neg w5]
    go_enter Tryz.func117, Tryz.ntmps117
    go_wp2
    go_ret
    exact ⟨ret_bool HW.out.symm, hq0 _⟩

theorem Blk.four {w : World} {b : Nat} {cs : Array Value} {t : TypeId} (h : Blk w b cs t) (hs : cs.size = 4) (v0 v1 v2 v3 : Value) :
    Blk ((((w.setCell ⟨b, 0, none⟩ v0).setCell ⟨b, 1, none⟩ v1).setCell ⟨b, 2, none⟩ v2).setCell ⟨b, 3, none⟩ v3) b #[v0, v1, v2, v3] t := by
  obtain ⟨cs⟩ := cs
  match cs, hs with
  | [_, _, _, _], _ => simpa using (((h.set 0 v0).set 1 v1).set 2 v2).set 3 v3
theorem Below.four {B : Nat} {w0 w : World} (h : Below B w0 w) {b : Nat} (hb : B ≤ b) (v0 v1 v2 v3 : Value) :
    Below B w0 ((((w.setCell ⟨b, 0, none⟩ v0).setCell ⟨b, 1, none⟩ v1).setCell ⟨b, 2, none⟩ v2).setCell ⟨b, 3, none⟩ v3) := (((h.setCell hb v0).setCell hb v1).setCell hb v2).setCell hb v3

set_option maxRecDepth 100000 in
set_option maxHeartbeats 2000000 in
theorem newKeyCode_any (dv : Value) (d : Def) (clock : Int) (b o : Nat) (x : Inst) (w : World) (hd : DefIs w dv d) (hx : InstAt w b o x) (h0 : -1000 ≤ x.settled) (h1 : x.settled ≤ 1000) :
    Calls Tryz.prog 115 #[dv, .int .i64 clock, .pointer (some ⟨b, o, none⟩)] w fun e w' => e = .returned (.int .i64 (newKeyP d clock x)) ∧ Quiet w w' := by
  have hd0 := hd
  have hx0 := hx
  obtain ⟨da, dn, dcap, rfl, hst⟩ := hd
  have hq0 : ∀ o, Quiet w (w.alloc o) := fun o => (Below.refl _ _).alloc (Nat.le_refl _) _
  obtain ⟨lv, hx⟩ := hx
  obtain ⟨c0, c1, c2, c3, c4, c5, c6, c7, c8, c9, c10, c11⟩ := (hx.quiet (hq0 (.cells #[.slice da dn dcap, .int .i64 d.quorum, .int .i64 d.expiry] 24))).twelve
  by_cases hw : clock < x.wake
  · have HW : Hid (newKeyP d clock x = 9) := by show newKeyP d clock x = _; unfold newKeyP; rw [if_pos hw]
    go_enter Tryz.func115, Tryz.ntmps115
    go_wp2
    go_ret
    exact ⟨ret_int HW.out.symm, hq0 _⟩
  have HW : Hid (newKeyP d clock x = if x.mode = 2 ∧ (stepP d (nextP x)).undo = false then 10 else if 30 ≤ x.keys then 5 else 0) := by
    show newKeyP d clock x = _; unfold newKeyP; rw [if_neg hw]
  have HS : Hid (∀ W, Quiet w W → Calls Tryz.prog 108 #[.agg #[.slice da dn dcap, .int .i64 d.quorum, .int .i64 d.expiry], .int .i64 (nextP x)] W fun e w' => e = .returned (stepP d (nextP x)).val ∧ Quiet W w') := fun W hW => step_any _ d _ W (hd0.quiet hW)
  have HX : Hid (∀ W, Quiet w W → Calls Tryz.prog 102 #[.pointer (some ⟨b, o, none⟩)] W fun e w' => e = .returned (.int .i64 (nextP x)) ∧ w' = W) := fun W hW => nextStep_any b o x W (hx0.quiet hW) h0 h1
  generalize stepP d (nextP x) = s at *
  go_enter Tryz.func115, Tryz.ntmps115
  go_wp2_with fail
  refine wp_gen1 (fun W => Blk W w.heap.size #[.slice da dn dcap, .int .i64 d.quorum, .int .i64 d.expiry] 24 ∧ Quiet w W) ⟨Blk.new _ _ _, hq0 _⟩ ?_
  clear c0 c1 c2 c3 c4 c5 c6 c7 c8 c9 c10 c11
  rintro W ⟨b0, hqW⟩
  have g0 := b0.cell
  have z0 := b0.lt
  go_cut [7] (fun s7 wc => ∃ sb, s7 = .pointer (some ⟨sb, 0, none⟩) ∧ Blk wc sb #[.bool s.undo, .bool s.pivot, .int .i64 s.retries, .int .i64 s.timeout] 41 ∧ Quiet W wc)
  case first =>
    go_region_with (first | (go_at_call 102; refine (HX.out _ ?_).mono ?_; (first | exact Below.drew hqW | exact Below.drew (hqW.alloc hqW.size _)); rintro e w1 ⟨rfl, rfl⟩) | (go_at_call 108; refine (HS.out _ ?_).mono ?_; (first | exact Below.drew hqW | exact Below.drew (hqW.alloc hqW.size _)); rintro e w1 ⟨rfl, hq1⟩; have bc1 := (bcell hq1).1; have bf1 := (bcell hq1).2; simp only [Step.val]))
    all_goals (try go_wp2)
    all_goals
      go_meet
      case rel =>
        refine ⟨_, rfl, ?_, ?_⟩
        · first | (with_reducible exact Blk.new' rfl) | exact (Blk.quiet (Blk.drew (Blk.new' rfl)) hq1).four (by simp) _ _ _ _
        · first | (with_reducible exact Below.alloc (Quiet.after (Below.drew (Below.refl _ _)) hq1) (Quiet.after (Below.drew (Below.refl _ _)) hq1).size _) | exact Below.four (Quiet.after (Below.drew ((Below.refl _ _).alloc (Nat.le_refl _) _)) hq1) (Nat.le_refl _) _ _ _ _
  case rest =>
    obtain ⟨sb, rfl, q, hqc⟩ := hcut
    replace hqW : Quiet w wc := hqW.after hqc
    clear g0 z0 b0 hqc HS HX
    obtain ⟨c0, c1, c2, c3, c4, c5, c6, c7, c8, c9, c10, c11⟩ := (hx.quiet hqW).twelve
    have gq := q.cell
    cases hm : x.mode == 2
    · have HM : Hid (newKeyP d clock x = if 30 ≤ x.keys then 5 else 0) := by show newKeyP d clock x = _; simp at hm; rw [HW.out, if_neg (fun e => hm e.1)]
      by_cases hk : 30 ≤ x.keys
      · have HK : Hid (newKeyP d clock x = 5) := by show newKeyP d clock x = _; rw [HM.out, if_pos hk]
        go_wp2
        go_ret
        exact ⟨ret_int HK.out.symm, hqW⟩
      · have HK : Hid (newKeyP d clock x = 0) := by show newKeyP d clock x = _; rw [HM.out, if_neg hk]
        go_wp2
        go_ret
        exact ⟨ret_int HK.out.symm, hqW⟩
    · cases hu : s.undo
      · have HK : Hid (newKeyP d clock x = 10) := by show newKeyP d clock x = _; simp at hm; rw [HW.out, if_pos ⟨hm, hu⟩]
        go_wp2
        go_ret
        exact ⟨ret_int HK.out.symm, hqW⟩
      · have HM : Hid (newKeyP d clock x = if 30 ≤ x.keys then 5 else 0) := by show newKeyP d clock x = _; rw [HW.out, if_neg (fun e => by rw [hu] at e; simp at e)]
        by_cases hk : 30 ≤ x.keys
        · have HK : Hid (newKeyP d clock x = 5) := by show newKeyP d clock x = _; rw [HM.out, if_pos hk]
          go_wp2
          go_ret
          exact ⟨ret_int HK.out.symm, hqW⟩
        · have HK : Hid (newKeyP d clock x = 0) := by show newKeyP d clock x = _; rw [HM.out, if_neg hk]
          go_wp2
          go_ret
          exact ⟨ret_int HK.out.symm, hqW⟩

set_option maxHeartbeats 1000000 in
theorem pickCode_any (dv : Value) (d : Def) (clock : Int) (b o : Nat) (x : Inst) (w : World) (hd : DefIs w dv d) (hx : InstAt w b o x) (h0 : -1000 ≤ x.settled) (h1 : x.settled ≤ 1000) :
    Calls Tryz.prog 101 #[dv, .int .i64 clock, .pointer (some ⟨b, o, none⟩)] w fun e w' => e = .returned (.int .i64 (pickCodeP d clock x)) ∧ Quiet w w' := by
  have hd0 := hd
  have hx0 := hx
  obtain ⟨da, dn, dcap, rfl, hst⟩ := hd
  have hq0 : ∀ o, Quiet w (w.alloc o) := fun o => (Below.refl _ _).alloc (Nat.le_refl _) _
  obtain ⟨lv, hx⟩ := hx
  obtain ⟨c0, c1, c2, c3, c4, c5, c6, c7, c8, c9, c10, c11⟩ := (hx.quiet (hq0 (.cells #[.slice da dn dcap, .int .i64 d.quorum, .int .i64 d.expiry] 24))).twelve
  cases ho : decide (x.mode = 3 ∨ x.mode = 4)
  · have hno : ¬ (x.mode = 3 ∨ x.mode = 4) := by simpa using ho
    have HN : Hid (¬ (x.mode = 3 ∨ x.mode = 4)) := hno
    clear hno
    cases hs : x.stuck
    · cases hk : x.key == 0
      · by_cases hc : clock < x.due
        · have HK : Hid (pickCodeP d clock x = 8) := by show pickCodeP d clock x = _; simp at hk; unfold pickCodeP; rw [if_neg HN.out, if_neg (by simp [hs]), if_neg hk, if_pos hc]
          go_enter Tryz.func101, Tryz.ntmps101
          go_wp2_with (go_at_call 114; refine (isOver_any b o x _ (hx0.quiet (hq0 _))).mono ?_; rintro e w1 ⟨rfl, rfl⟩)
          go_ret
          exact ⟨ret_int HK.out.symm, hq0 _⟩
        · have HK : Hid (pickCodeP d clock x = 0) := by show pickCodeP d clock x = _; simp at hk; unfold pickCodeP; rw [if_neg HN.out, if_neg (by simp [hs]), if_neg hk, if_neg hc]
          go_enter Tryz.func101, Tryz.ntmps101
          go_wp2_with (go_at_call 114; refine (isOver_any b o x _ (hx0.quiet (hq0 _))).mono ?_; rintro e w1 ⟨rfl, rfl⟩)
          go_ret
          exact ⟨ret_int HK.out.symm, hq0 _⟩
      · have HK : Hid (pickCodeP d clock x = newKeyP d clock x) := by show pickCodeP d clock x = _; simp at hk; unfold pickCodeP; rw [if_neg HN.out, if_neg (by simp [hs]), if_pos hk]
        go_enter Tryz.func101, Tryz.ntmps101
        go_wp2_with (first | (go_at_call 114; refine (isOver_any b o x _ (hx0.quiet (hq0 _))).mono ?_; rintro e w1 ⟨rfl, rfl⟩) | (go_at_call 115; refine (newKeyCode_any _ d clock b o x _ (hd0.quiet (hq0 _)) (hx0.quiet (hq0 _)) h0 h1).mono ?_; rintro e w1 ⟨rfl, hq1⟩))
        go_ret
        exact ⟨ret_int HK.out.symm, (hq0 _).after hq1⟩
    · have HK : Hid (pickCodeP d clock x = 7) := by show pickCodeP d clock x = _; unfold pickCodeP; rw [if_neg HN.out, if_pos hs]
      go_enter Tryz.func101, Tryz.ntmps101
      go_wp2_with (go_at_call 114; refine (isOver_any b o x _ (hx0.quiet (hq0 _))).mono ?_; rintro e w1 ⟨rfl, rfl⟩)
      go_ret
      exact ⟨ret_int HK.out.symm, hq0 _⟩
  · have HK : Hid (pickCodeP d clock x = 6) := by show pickCodeP d clock x = _; unfold pickCodeP; rw [if_pos (by simpa using ho)]
    go_enter Tryz.func101, Tryz.ntmps101
    go_wp2_with (go_at_call 114; refine (isOver_any b o x _ (hx0.quiet (hq0 _))).mono ?_; rintro e w1 ⟨rfl, rfl⟩)
    go_ret
    exact ⟨ret_int HK.out.symm, hq0 _⟩

end Go.Proofs.YtgcjlgaapiefiabGreat

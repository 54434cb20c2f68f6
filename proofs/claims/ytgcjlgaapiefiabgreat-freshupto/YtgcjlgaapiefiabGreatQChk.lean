import Derived.Test.YtgcjlgaapiefiabGreatRows
import Derived.Test.YtgcjlgaapiefiabGreatQBase
import Derived.Test.YtgcjlgaapiefiabGreatQData
import Derived.WalkKit
import Derived.WalkSpells
import Derived.WalkLawsBesides
import Derived.BigQuiet
import Derived.Deep.DeepCutAuto
import Derived.ProofKit
import Derived.Deep.Slices
import Derived.ShutString
import Derived.ChangeOld
import Derived.Carry
import Derived.OpenShut

/-
  The walks of Check: the program's and the document's.
-/
namespace Go.Proofs.YtgcjlgaapiefiabGreat
open Go.RowKit

theorem ret_bool {a b : Bool} (h : a = b) : Ending.returned (.bool a) = .returned (.bool b) := by rw [h]
theorem ret_int {k : IntKind} {a b : Int} (h : a = b) : Ending.returned (.int k a) = .returned (.int k b) := by rw [h]

theorem within_any (n lo hi : Int) (w : World) :
    Calls Tryz.prog 64 #[.int .i64 n, .int .i64 lo, .int .i64 hi] w fun e w' => e = .returned (.bool (within n lo hi)) ∧ w' = w := by
  by_cases h : lo ≤ n
  · have hd : decide (lo ≤ n) = true := by simpa using h
    go_enter Tryz.func64, Tryz.ntmps64
    go_wp2
    go_ret
    exact ⟨ret_bool (by simp [within, h]), rfl⟩
  · have hd : decide (lo ≤ n) = false := by simpa using h
    go_enter Tryz.func64, Tryz.ntmps64
    go_wp2
    go_ret
    exact ⟨ret_bool (by unfold within; rw [hd]; rfl), rfl⟩

theorem isStep_any (u p : Bool) (r t : Int) (w : World) :
    Calls Tryz.prog 81 #[.agg #[.bool u, .bool p, .int .i64 r, .int .i64 t]] w fun e w' => e = .returned (.bool (Step.ok ⟨u, p, r, t⟩)) ∧ Quiet w w' := by
  cases h : within r 0 3
  all_goals
    go_enter Tryz.func81, Tryz.ntmps81
    go_wp2_with (go_at_call 64; refine (within_any _ _ _ _).mono ?_; rintro e w' ⟨rfl, rfl⟩)
    go_ret
    exact ⟨ret_bool (by simp [Step.ok, h]), (Below.refl _ _).alloc (Nat.le_refl _) _⟩

def stepVals (l : List Step) : List (List Value) := l.map Step.cells

theorem Arr.step {w : World} {a : Option Addr} {n cap : Nat} {l : List Step} (h : Arr w 4 (.slice a n cap) (stepVals l)) (k : Nat) (hk : k < l.length) :
    ∃ b off, a = some ⟨b, off, none⟩ ∧ b < w.heap.size ∧
      w.cell? ⟨b, off + k * 4, none⟩ = some (.bool l[k].undo) ∧ w.cell? ⟨b, off + k * 4 + 1, none⟩ = some (.bool l[k].pivot) ∧
      w.cell? ⟨b, off + k * 4 + 2, none⟩ = some (.int .i64 l[k].retries) ∧ w.cell? ⟨b, off + k * 4 + 3, none⟩ = some (.int .i64 l[k].timeout) := by
  obtain ⟨a', cap', h1, h2, h3, h4, h5⟩ := h
  cases h1
  rcases h5 with h5 | ⟨b, off, ha, hx⟩
  · simp [stepVals] at h5; subst h5; simp at hk
  · have := hx k l[k].cells (by simp [stepVals, hk])
    exact ⟨b, off, ha, this.lt, this.four⟩

set_option maxHeartbeats 400000 in
theorem areSteps_any (a : Option Addr) (n cap : Nat) (l : List Step) (w : World) (h : Arr w 4 (.slice a n cap) (stepVals l)) :
    Calls Tryz.prog 65 #[.slice a n cap] w fun e w' => e = .returned (.bool (stepsOk l)) ∧ Quiet w w' := by
  have hn : n = l.length := by obtain ⟨_, _, h1, _⟩ := h; simp [stepVals] at h1; exact h1.2.1
  have hm : n ≤ maxLen := by obtain ⟨_, _, h1, h2, h3, _⟩ := h; simp [stepVals] at h1 h2; omega
  have HN : Hid (n = l.length) := hn
  clear hn
  unfold maxLen at hm
  go_enter Tryz.func65, Tryz.ntmps65
  go_wp2
  go_loopw [3, 4] (fun p i wr => ∃ k : Nat, k ≤ n ∧ i = .int .i64 k ∧ p = .int .i64 (pivots (l.take k)) ∧ (l.take k).all Step.ok = true ∧ Below w.heap.size w wr) (fun _ i _ => n - (intOf i).toNat)
  case atStart => exact ⟨0, Nat.zero_le _, rfl, by simp [pivots], by simp, Below.refl _ _⟩
  case round =>
    obtain ⟨k, hk, rfl, rfl, hall, hbel⟩ := hrel
    have HA : Hid ((l.take k).all Step.ok = true) := hall
    clear hall
    have hpl : (pivots (l.take k) : Int) ≤ k := by have := pivots_le (l.take k); simp at this; omega
    by_cases hlt : k < n
    · have hkl : k < l.length := by have := HN.out; omega
      obtain ⟨b, off, rfl, hb, c0, c1, c2, c3⟩ := (h.quiet hbel).step k hkl
      have HP := pivots_take l k hkl
      have HP' : Hid (pivots (l.take (k + 1)) = pivots (l.take k) + (if l[k].pivot then 1 else 0)) := HP
      have HB : Hid (∀ (h : l[k].ok = false), stepsOk l = false) := stepsOk_bad l k hkl
      have HC : Hid ((l.take (k + 1)).all Step.ok = ((l.take k).all Step.ok && l[k].ok)) := all_take l k hkl
      clear HP
      revert c0 c1 c2 c3 HP' HB HC
      generalize l[k] = s
      obtain ⟨u, p, r, t⟩ := s
      intro c0 c1 c2 c3 HP' HB HC
      simp only at c0 c1 c2 c3
      cases hok : (Step.ok ⟨u, p, r, t⟩)
      · go_wp2_with (go_at_call 81; refine (isStep_any u p r t _).mono ?_; rintro e w' ⟨rfl, hq⟩)
        go_ret
        exact ⟨ret_bool (HB.out hok).symm, hbel.trans (hq.mono hbel.size)⟩
      · cases p
        all_goals
          go_wp2_with (go_at_call 81; refine (isStep_any u _ r t _).mono ?_; rintro e w' ⟨rfl, hq⟩; have d1 := (hq.cell (p := ⟨b, off + k * 4 + 1, none⟩) hb).trans c1)
          go_roundw
          case rel => exact ⟨k + 1, by omega, by go_num, by rw [HP'.out]; simp, by rw [HC.out, HA.out, hok]; rfl, hbel.trans (hq.mono hbel.size)⟩
          case measure => simp [intOf]; omega
    · go_wp2
      go_ret
      have hkn : k = l.length := by have := HN.out; omega
      exact ⟨ret_bool (by
        have e : l.take k = l := by rw [hkn]; simp
        have := HA.out
        rw [e] at this ⊢
        simp [stepsOk, this]; omega), hbel⟩

theorem Arr.len {w : World} {m n cap : Nat} {a : Option Addr} {xs : List (List Value)} (h : Arr w m (.slice a n cap) xs) : n = xs.length ∧ n ≤ 9223372036854775807 := by
  obtain ⟨_, _, h1, h2, h3, _⟩ := h
  simp at h1
  unfold maxLen at h3
  omega

/-- A definition as a value. -/
def DefIs (w : World) (v : Value) (d : Def) : Prop :=
  ∃ a n cap, v = .agg #[.slice a n cap, .int .i64 d.quorum, .int .i64 d.expiry] ∧ Arr w 4 (.slice a n cap) (stepVals d.steps)

theorem DefIs.quiet {w w' : World} {v : Value} {d : Def} (h : DefIs w v d) (hq : Quiet w w') : DefIs w' v d := by
  obtain ⟨a, n, cap, hv, h⟩ := h
  exact ⟨a, n, cap, hv, h.quiet hq⟩

set_option maxHeartbeats 400000 in
theorem isDefinition_any (v : Value) (d : Def) (w : World) (h : DefIs w v d) :
    Calls Tryz.prog 49 #[v] w fun e w' => e = .returned (.bool d.ok) ∧ Quiet w w' := by
  obtain ⟨a, n, cap, rfl, h⟩ := h
  obtain ⟨hn, hm⟩ := h.len
  rw [stepVals, List.length_map] at hn
  have HD : Hid (d.ok = (within n 1 6 && (within d.quorum 0 3 && (within d.expiry 1 50 && stepsOk d.steps)))) := by rw [hn]; rfl
  clear hn
  cases h1 : within n 1 6
  · go_enter Tryz.func49, Tryz.ntmps49
    go_wp2_with (go_at_call 64; refine (within_any _ _ _ _).mono ?_; rintro e w' ⟨rfl, rfl⟩)
    go_ret
    exact ⟨ret_bool (by rw [HD.out, h1]; rfl), (Below.refl _ _).alloc (Nat.le_refl _) _⟩
  cases h2 : within d.quorum 0 3
  · go_enter Tryz.func49, Tryz.ntmps49
    go_wp2_with (go_at_call 64; refine (within_any _ _ _ _).mono ?_; rintro e w' ⟨rfl, rfl⟩)
    go_ret
    exact ⟨ret_bool (by rw [HD.out, h1, h2]; rfl), (Below.refl _ _).alloc (Nat.le_refl _) _⟩
  cases h3 : within d.expiry 1 50
  · go_enter Tryz.func49, Tryz.ntmps49
    go_wp2_with (go_at_call 64; refine (within_any _ _ _ _).mono ?_; rintro e w' ⟨rfl, rfl⟩)
    go_ret
    exact ⟨ret_bool (by rw [HD.out, h1, h2, h3]; rfl), (Below.refl _ _).alloc (Nat.le_refl _) _⟩
  go_enter Tryz.func49, Tryz.ntmps49
  go_wp2_with (first | (go_at_call 64; refine (within_any _ _ _ _).mono ?_; rintro e w' ⟨rfl, rfl⟩) | (go_at_call 65; refine (areSteps_any a n cap d.steps _ (h.quiet ((Below.refl _ _).alloc (Nat.le_refl _) _))).mono ?_; rintro e w' ⟨rfl, hq⟩))
  go_ret
  exact ⟨ret_bool (by rw [HD.out, h1, h2, h3]; rfl), ((Below.refl _ _).alloc (Nat.le_refl _) _).trans (hq.mono (by simp))⟩

/-- The number of an error that a check answers. -/
def chk (b : Bool) : Int := if b then 0 else 1

set_option maxHeartbeats 400000 in
theorem check_any (v : Value) (d : Def) (w : World) (h : DefIs w v d) :
    Calls Tryz.prog 30 #[v] w fun e w' => e = .returned (.int .i64 (chk d.ok)) ∧ Quiet w w' := by
  have h' : ∀ o, DefIs (w.alloc o) v d := fun o => by
    obtain ⟨a, n, cap, hv, h⟩ := h
    exact ⟨a, n, cap, hv, h.quiet ((Below.refl _ _).alloc (Nat.le_refl _) _)⟩
  have h0 := h
  obtain ⟨a, n, cap, rfl, _⟩ := h0
  cases hd : d.ok
  all_goals
    go_enter Tryz.func30, Tryz.ntmps30
    go_wp2_with (go_at_call 49; refine (isDefinition_any _ d _ (h' _)).mono ?_; rintro e w' ⟨rfl, hq⟩)
    go_ret
    exact ⟨ret_int (by simp [chk]), ((Below.refl _ _).alloc (Nat.le_refl _) _).trans (hq.mono (by simp))⟩

theorem num_any (x : Int) (w : World) : Calls Tryz.prog 13 #[.int .i64 x] w fun e w' => e = .returned (.int .i64 x) ∧ w' = w := by
  go_enter Tryz.func13, Tryz.ntmps13
  go_wp2
  go_ret
  exact ⟨rfl, rfl⟩

end Go.Proofs.YtgcjlgaapiefiabGreat

/-
  The walk of the document's Check; the statement Checks, walked.
-/
namespace Go.Proofs.YtgcjlgaapiefiabGreat
open Go.RowKit

def headOk (n : Nat) (q e : Int) : Bool :=
  decide (0 < (n : Int)) && (decide ((n : Int) ≤ 6) && (decide (0 ≤ q) && (decide (q ≤ 3) && (decide (0 < e) && decide (e ≤ 50)))))

theorem headOk_eq (n : Nat) (q e : Int) : headOk n q e = (within n 1 6 && (within q 0 3 && within e 1 50)) := by
  unfold headOk within
  rw [Bool.eq_iff_iff]; simp only [Bool.and_eq_true, decide_eq_true_eq]; omega

/-- What the document's loop holds behind k steps. -/
def refOk (h : Bool) (l : List Step) : Bool := h && (l.all Step.ok && decide (pivots l ≤ 1))
def refPiv (l : List Step) : Bool := decide (0 < pivots l)

theorem refOk_def (d : Def) : refOk (headOk d.steps.length d.quorum d.expiry) d.steps = d.ok := by
  unfold refOk Def.ok stepsOk; rw [headOk_eq]; simp only [Bool.and_assoc]

theorem refPiv_take (l : List Step) (k : Nat) (h : k < l.length) : refPiv (l.take (k + 1)) = (refPiv (l.take k) || l[k].pivot) := by
  unfold refPiv; rw [pivots_take l k h]
  cases l[k].pivot <;> simp
theorem refOk_take (b : Bool) (l : List Step) (k : Nat) (h : k < l.length) :
    refOk b (l.take (k + 1)) = (refOk b (l.take k) && (l[k].ok && !(l[k].pivot && refPiv (l.take k)))) := by
  unfold refOk refPiv; rw [pivots_take l k h, all_take l k h]
  generalize pivots (l.take k) = m
  generalize (l.take k).all Step.ok = x
  generalize l[k].ok = y
  generalize l[k].pivot = z
  by_cases h1 : m ≤ 1 <;> by_cases h0 : m = 0 <;> cases b <;> cases x <;> cases y <;> cases z <;> simp [h1, h0] <;> omega

theorem stepOk_eq (u p : Bool) (r t : Int) : Step.ok ⟨u, p, r, t⟩ = (decide (0 ≤ r) && (decide (r ≤ 3) && (decide (0 < t) && decide (t ≤ 20)))) := by
  unfold Step.ok within
  rw [Bool.eq_iff_iff]; simp only [Bool.and_eq_true, decide_eq_true_eq]; omega

set_option maxRecDepth 100000 in
set_option maxHeartbeats 2000000 in
theorem refCheck_any (v : Value) (d : Def) (w : World) (h : DefIs w v d) :
    Calls Tryz.prog 27 #[v] w fun e w' => e = .returned (.int .i64 (chk d.ok)) ∧ Quiet w w' := by
  obtain ⟨a, n, cap, rfl, h⟩ := h
  obtain ⟨hn, hm⟩ := h.len
  rw [stepVals, List.length_map] at hn
  have HN : Hid (n = d.steps.length) := hn
  clear hn
  go_enter Tryz.func27, Tryz.ntmps27
  go_upto_region 1 with (fail)
  go_cut [3] (fun s wc => s = .bool (headOk n d.quorum d.expiry) ∧ wc = w.alloc (.cells #[.slice a n cap, .int .i64 d.quorum, .int .i64 d.expiry] 24))
  case first =>
    go_wp2
    all_goals
      go_meet
      case rel =>
        refine ⟨congrArg Value.bool ?_, rfl⟩
        unfold headOk
        first | (simp [*]; done) | (simp [*]; omega)
  case rest =>
    obtain ⟨rfl, rfl⟩ := hcut
    have HH : Hid (refOk (headOk d.steps.length d.quorum d.expiry) d.steps = d.ok) := refOk_def d
    revert HH
    rw [← HN.out]
    generalize headOk n d.quorum d.expiry = hd
    intro HH
    go_wp2
    go_loopw [3, 4, 5] (fun s p i wr => ∃ k : Nat, k ≤ n ∧ i = .int .i64 k ∧ s = .bool (refOk hd (d.steps.take k)) ∧ p = .bool (refPiv (d.steps.take k)) ∧
      wr.cell? ⟨w.heap.size, 0, none⟩ = some (.slice a n cap) ∧ w.heap.size < wr.heap.size ∧ Below w.heap.size w wr) (fun _ _ i _ => n - (intOf i).toNat)
    case atStart => exact ⟨0, Nat.zero_le _, rfl, by simp [refOk, pivots], by simp [refPiv, pivots], by simp [go_sem], by simp, (Below.refl _ _).alloc (Nat.le_refl _) _⟩
    case round =>
      obtain ⟨k, hk, rfl, rfl, rfl, hcs, hz, hbel⟩ := hrel
      by_cases hlt : k < n
      · have hkl : k < d.steps.length := by have := HN.out; omega
        obtain ⟨b, off, rfl, hb, c0, c1, c2, c3⟩ := (h.quiet hbel).step k hkl
        have HP : Hid _ := refPiv_take d.steps k hkl
        have HC : Hid _ := refOk_take hd d.steps k hkl
        revert c0 c1 c2 c3 HP HC
        generalize d.steps[k] = s
        obtain ⟨u, p, r, t⟩ := s
        intro c0 c1 c2 c3 HP HC
        simp only at c0 c1 c2 c3
        generalize refOk hd (d.steps.take k) = x1 at *
        generalize refPiv (d.steps.take k) = x2 at *
        go_upto_region 7 with (fail)
        go_cut [3] (fun s wc => s = .bool (x1 && Step.ok ⟨u, p, r, t⟩) ∧ wc = wr.alloc (.cells #[.bool u, .bool p, .int .i64 r, .int .i64 t] 41))
        case first =>
          cases x1
          all_goals
            go_wp2
            all_goals
              go_meet
              case rel =>
                refine ⟨congrArg Value.bool ?_, rfl⟩
                rw [stepOk_eq]
                first | (simp [*]; done) | (simp [*]; omega)
        case rest =>
          obtain ⟨rfl, rfl⟩ := hcut
          generalize hy : (x1 && Step.ok ⟨u, p, r, t⟩) = y
          have HY : Hid ((x1 && Step.ok ⟨u, p, r, t⟩) = y) := hy
          clear hy
          go_upto_region 8 with (fail)
          go_cut [3] (fun s wc => s = .bool (y && !(p && x2)) ∧ wc = wr.alloc (.cells #[.bool u, .bool p, .int .i64 r, .int .i64 t] 41))
          case first =>
            cases y <;> cases p <;> cases x2
            all_goals
              go_wp2
              go_meet
              case rel => exact ⟨rfl, rfl⟩
          case rest =>
            obtain ⟨rfl, rfl⟩ := hcut
            generalize hz' : (y && !(p && x2)) = z
            have HZ : Hid ((y && !(p && x2)) = z) := hz'
            clear hz'
            cases p <;> cases x2
            all_goals
              go_wp2
              go_roundw
              case rel => exact ⟨k + 1, by omega, by go_num, by rw [HC.out, ← HZ.out, ← HY.out, Bool.and_assoc], by rw [HP.out]; rfl, (((Below.refl _ _).alloc (Nat.le_refl _) _).cell (p := ⟨w.heap.size, 0, none⟩) hz).trans hcs, by simp; omega, hbel.alloc (by omega) _⟩
              case measure => simp [intOf]; omega
      · have hkn : d.steps.take k = d.steps := by have := HN.out; rw [List.take_of_length_le (by omega)]
        rw [hkn, HH.out]
        clear hkn HH
        cases hok : d.ok
        all_goals
          go_wp2
          go_ret
          exact ⟨ret_int (by simp [chk, hok]), hbel⟩


set_option maxHeartbeats 400000 in
theorem checks_walk (v : Value) (d : Def) (w : World) (h : DefIs w v d) :
    Calls Tryz.prog 22 #[v] w fun e w' => e = .returned (.bool true) ∧ Quiet w w' := by
  have h0 := h
  obtain ⟨a, n, cap, rfl, _⟩ := h0
  go_enter Tryz.func22, Tryz.ntmps22
  have hq0 : ∀ o, Quiet w (w.alloc o) := fun o => (Below.refl _ _).alloc (Nat.le_refl _) _
  go_wp2_with (first
    | (go_at_call 30; refine (check_any _ d _ (h.quiet (hq0 _))).mono ?_; rintro e w1 ⟨rfl, hq1⟩; have cc := fun j v (hj : (#[Value.slice a n cap, .int .i64 d.quorum, .int .i64 d.expiry] : Array Value)[j]? = some v) => hq1.cell (p := ⟨w.heap.size, j, none⟩) (by simp))
    | (go_at_call 27; refine (refCheck_any _ d _ ((h.quiet (hq0 _)).quiet hq1)).mono ?_; rintro e w2 ⟨rfl, hq2⟩)
    | (go_at_call 13; refine (num_any _ _).mono ?_; rintro e w' ⟨rfl, rfl⟩))
  go_ret
  exact ⟨ret_bool (by simp), ((hq0 _).trans (hq1.mono (by simp))).trans (hq2.mono (by have := hq1.size; simp at this; omega))⟩

end Go.Proofs.YtgcjlgaapiefiabGreat

/-
  What comes in, opened: structs of one-cell fields, slices of them; over any program.
-/
namespace Go.Proofs.YtgcjlgaapiefiabGreat
open Go.ChangeShapes Go.WideShapes Go.RowKit Go.Deep

def oneCells (P : Program) (fs : Array Field) : Bool := (List.range fs.size).all fun i => match fs[i]? with
  | some f => f.offset == i && P.cellsOf f.type == 1
  | none => false

section
variable {H : Type} {enc : TypeId × Value → H} {P : Program} {w : World} {base : Nat} {spare : Nat → Bool} {held : Bool}

/-- A struct of one-cell fields, field by field. -/
theorem trod_fields {t : TypeId} {fs : Array Field} {fuel : Nat} {cs : List Value} {x : DataW H × List MemPlace} (ht : P.underlying t = some (.struct fs)) (hone : oneCells P fs = true) (hC : P.cellsOf t = fs.size)
    (h : DataW.trod enc P w base spare held fuel t cs = some x) :
    cs.length = fs.size ∧ ∃ n, ∀ (i : Nat) (f : Field), fs[i]? = some f → ∃ v y, cs[i]? = some v ∧ DataW.trod enc P w base spare held n f.type [v] = some y := by
  obtain ⟨xs, n, _, _, hl, hlen, hf⟩ := DataW.trod_struct ht h
  rw [hC] at hl
  refine ⟨hl, n, fun i f hi => ?_⟩
  have hlt : i < fs.size := (Array.getElem?_eq_some_iff.1 hi).1
  have h1 := List.all_eq_true.1 hone i (List.mem_range.2 hlt)
  simp only [hi, Bool.and_eq_true, beq_iff_eq] at h1
  have h2 := hf i f hi
  rw [h1.1, h1.2] at h2
  have e : (cs.drop i).take 1 = [cs[i]'(by omega)] := by
    rw [List.drop_eq_getElem_cons (by omega), List.take_succ_cons, List.take_zero]
  rw [e, List.getElem?_eq_getElem (by omega)] at h2
  exact ⟨_, _, List.getElem?_eq_getElem (by omega), h2⟩

/-- A slice of rows of one-cell fields: each row with its own readings. -/
theorem trod_rows {t e : TypeId} {fs : Array Field} {fuel : Nat} {v : Value} {x : DataW H × List MemPlace} (ht : P.underlying t = some (.slice e)) (he : P.underlying e = some (.struct fs)) (hone : oneCells P fs = true) (hC : P.cellsOf e = fs.size) (hpos : 0 < fs.size)
    (h : DataW.trod enc P w base spare held fuel t [v] = some x) :
    ∃ xs : List (List Value), Arr w fs.size v xs ∧ (∃ n, ∀ cs ∈ xs, ∀ (i : Nat) (f : Field), fs[i]? = some f → ∃ u y, cs[i]? = some u ∧ DataW.trod enc P w base spare held n f.type [u] = some y) ∧
      ((x.1 = .nil ∧ xs = []) ∨ ∃ el sp, x.1 = .slice el sp ∧ el.length = xs.length) := by
  rcases open_slice ht h with ⟨hv, rfl⟩ | ⟨a, len, cap, m, n, D, Pl, hv, hb, hl, hm, hmm, rfl, hx⟩
  · simp only [List.cons.injEq, and_true] at hv
    subst hv
    exact ⟨[], ⟨none, 0, rfl, Nat.le_refl _, Nat.zero_le _, by simp, .inl rfl⟩, ⟨0, by simp⟩, .inl ⟨rfl, rfl⟩⟩
  · simp only [List.cons.injEq, and_true] at hv
    subst hv
    have hlm : len ≤ m := by rw [hmm]; split <;> omega
    rw [hC] at hx
    have key : ∀ i, i < len → ∃ cs : List Value, cs.length = fs.size ∧ (∀ j, j < fs.size → w.cell? ((a.add (i * fs.size)).add j) = cs[j]?) ∧ ∃ k, ∀ (j : Nat) (f : Field), fs[j]? = some f → ∃ u y, cs[j]? = some u ∧ DataW.trod enc P w base spare held k f.type [u] = some y := by
      intro i hi
      obtain ⟨cs, h1, h2⟩ := hx i (by omega)
      obtain ⟨_, _, h3⟩ := World.cells?_some h1
      obtain ⟨h4, k, h5⟩ := trod_fields he hone hC h2
      exact ⟨cs, h4, h3, k, h5⟩
    obtain ⟨F, hF⟩ := choose_lt key
    obtain ⟨k, hk⟩ := fuel_lt (n := len) (q := fun i k => ∀ (j : Nat) (f : Field), fs[j]? = some f → ∃ u y, (F i)[j]? = some u ∧ DataW.trod enc P w base spare held k f.type [u] = some y)
      (fun i _ _ hab hq j f hj => let ⟨u, y, h1, h2⟩ := hq j f hj; ⟨u, y, h1, DataW.trod_le hab h2⟩) (fun i hi => (hF i hi).2.2)
    refine ⟨(List.range len).map F, ⟨some a, cap, by simp, by simpa using hl, hm, ?_, ?_⟩, ⟨k, ?_⟩, .inr ⟨_, _, rfl, by simp⟩⟩
    · intro x hx; simp at hx; obtain ⟨i, hi, rfl⟩ := hx; exact (hF i hi).1
    · by_cases h0 : len = 0
      · left; simp [h0]
      · right
        obtain ⟨b, off, spot⟩ := a
        have hs : spot = none := by
          have h1 := (hF 0 (by omega)).2.1 0 hpos
          rw [List.getElem?_eq_getElem (by rw [(hF 0 (by omega)).1]; exact hpos)] at h1
          simpa [Addr.add] using World.cell?_spot h1
        subst hs
        refine ⟨b, off, rfl, fun i x hi j v hj => ?_⟩
        have hil : i < len := by have := (List.getElem?_eq_some_iff.1 hi).1; simpa using this
        have hix : F i = x := by
          rw [List.getElem?_map, List.getElem?_range hil] at hi
          exact Option.some.inj hi
        subst hix
        replace hi := hil
        have h1 := hF i hi
        have hjl : j < fs.size := by rw [← h1.1]; exact (List.getElem?_eq_some_iff.1 hj).1
        have h2 := h1.2.1 j hjl
        rw [hj, add_add] at h2
        by_cases hz : i * fs.size + j = 0
        · have : i * fs.size = 0 ∧ j = 0 := by omega
          rw [hz] at h2
          simpa [Addr.add, this.1, this.2] using h2
        · unfold Addr.add at h2
          rw [if_neg hz] at h2
          rw [Nat.add_assoc]
          exact h2
    · intro cs hcs; simp at hcs; obtain ⟨i, hi, rfl⟩ := hcs; exact hk i hi
end

/-- A list of values that each come from something. -/
theorem list_of {α : Type} {g : α → List Value} {p : α → Prop} {xs : List (List Value)} (h : ∀ cs ∈ xs, ∃ a, cs = g a ∧ p a) : ∃ l : List α, xs = l.map g ∧ ∀ a ∈ l, p a := by
  induction xs with
  | nil => exact ⟨[], rfl, by simp⟩
  | cons c xs ih =>
    obtain ⟨l, hl, hp⟩ := ih (fun cs hcs => h cs (List.mem_cons_of_mem _ hcs))
    obtain ⟨a, ha, hpa⟩ := h c (List.mem_cons_self ..)
    exact ⟨a :: l, by rw [ha, hl]; rfl, by intro x hx; rcases List.mem_cons.1 hx with rfl | hx <;> first | exact hpa | exact hp x hx⟩

end Go.Proofs.YtgcjlgaapiefiabGreat

/-
  The statement Checks.
-/
namespace Go.Proofs.YtgcjlgaapiefiabGreat
open Go.ChangeShapes Go.WideShapes Go.ChangeAt Go.RowKit Go.Deep

theorem own : ownKnob Tryz.prog.godebug = none := by kernel_rfl
theorem laidOut : laidOutB Tryz.prog = true := by kernel_rfl

section
variable {H : Type} {enc : TypeId × Value → H} {w : World} {base : Nat} {spare : Nat → Bool} {held : Bool}

theorem steps_open {fuel : Nat} {v : Value} {x : DataW H × List MemPlace} (h : DataW.trod enc Tryz.prog w base spare held fuel 22 [v] = some x) :
    ∃ l : List Step, Arr w 4 v (stepVals l) := by
  obtain ⟨xs, harr, ⟨n, hrow⟩, _⟩ := trod_rows Tryz.underlying22 Tryz.underlying41 (by kernel_rfl) (by kernel_rfl) (by decide) h
  obtain ⟨l, rfl, _⟩ := list_of (g := Step.cells) (p := fun _ => True) (xs := xs) (fun cs hcs => by
    have hr := hrow cs hcs
    have hlen : cs.length = 4 := by obtain ⟨_, _, _, _, _, h4, _⟩ := harr; exact h4 cs hcs
    obtain ⟨v0, y0, g0, t0⟩ := hr 0 _ rfl
    obtain ⟨v1, y1, g1, t1⟩ := hr 1 _ rfl
    obtain ⟨v2, y2, g2, t2⟩ := hr 2 _ rfl
    obtain ⟨v3, y3, g3, t3⟩ := hr 3 _ rfl
    obtain ⟨u, e0, _⟩ := DataW.trod_bool Tryz.underlying4 t0
    obtain ⟨p, e1, _⟩ := DataW.trod_bool Tryz.underlying4 t1
    obtain ⟨r, e2, _⟩ := DataW.trod_int Tryz.underlying3 t2
    obtain ⟨t, e3, _⟩ := DataW.trod_int Tryz.underlying3 t3
    simp only [List.cons.injEq, and_true] at e0 e1 e2 e3
    subst e0 e1 e2 e3
    refine ⟨⟨u, p, r, t⟩, ?_, trivial⟩
    match cs, hlen with
    | [c0, c1, c2, c3], _ => simp at g0 g1 g2 g3; subst g0 g1 g2 g3; rfl)
  exact ⟨l, harr⟩

set_option maxRecDepth 100000 in
theorem def_open {r : Reach} {b0 : Nat} {v : Value} {d : DataW H} {p : List MemPlace} (hv : Value.okWide Tryz.prog w r b0 24 v) (h : DataW.Trod enc Tryz.prog w base spare held 24 v d p) :
    ∃ D : Def, DefIs w v D := by
  obtain ⟨cs, rfl, hsz⟩ := okWide_struct Tryz.underlying24 hv
  obtain ⟨fuel, hf⟩ := h
  obtain ⟨hl, n, hr⟩ := trod_fields Tryz.underlying24 (by kernel_rfl) (by kernel_rfl) hf
  obtain ⟨v0, y0, g0, t0⟩ := hr 0 _ rfl
  obtain ⟨v1, y1, g1, t1⟩ := hr 1 _ rfl
  obtain ⟨v2, y2, g2, t2⟩ := hr 2 _ rfl
  obtain ⟨l, hl0⟩ := steps_open t0
  obtain ⟨q, e1, _⟩ := DataW.trod_int Tryz.underlying3 t1
  obtain ⟨x, e2, _⟩ := DataW.trod_int Tryz.underlying3 t2
  simp only [List.cons.injEq, and_true] at e1 e2
  subst e1 e2
  refine ⟨⟨l, q, x⟩, ?_⟩
  have hl0' := hl0
  obtain ⟨a, cap, rfl, _⟩ := hl0'
  refine ⟨a, _, cap, ?_, hl0⟩
  obtain ⟨cs⟩ := cs
  simp only [Value.cells] at g0 g1 g2 hl
  match cs, hl with
  | [c0, c1, c2], _ => simp at g0 g1 g2; subst g0 g1 g2; rfl
end

end Go.Proofs.YtgcjlgaapiefiabGreat

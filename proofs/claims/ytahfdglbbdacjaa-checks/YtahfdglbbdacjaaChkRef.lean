/-
  The walk of the document's Check; the statement Checks, walked.
-/
import Derived.Test.YtahfdglbbdacjaaChk
import Derived.Deep.DeepCutAuto
namespace Go.Proofs.Ytahfdglbbdacjaa
open Go.RowKit

def headOk (n : Nat) (q e : Int) : Bool :=
  decide (0 < (n : Int)) && (decide ((n : Int) ≤ 6) && (decide (0 ≤ q) && (decide (q ≤ 3) && (decide (0 < e) && decide (e ≤ 50)))))

theorem headOk_eq (n : Nat) (q e : Int) : headOk n q e = (within n 1 6 && (within q 0 3 && within e 1 50)) := by
  unfold headOk within
  rw [Bool.eq_iff_iff]; simp only [Bool.and_eq_true, decide_eq_true_eq]; omega

/-- What the document's loop holds behind k steps. -/
def refOk (h : Bool) (l : List Step) : Bool := h && (l.all Step.ok && decide (pivots l ≤ 1))
def refPiv (l : List Step) : Bool := decide (0 < pivots l)

theorem refOk_def (d : Def) : refOk (headOk d.steps.length d.quorum d.expiry) d.steps = d.ok := by
  unfold refOk Def.ok stepsOk; rw [headOk_eq]; simp only [Bool.and_assoc]

theorem refPiv_take (l : List Step) (k : Nat) (h : k < l.length) : refPiv (l.take (k + 1)) = (refPiv (l.take k) || l[k].pivot) := by
  unfold refPiv; rw [pivots_take l k h]
  cases l[k].pivot <;> simp
theorem refOk_take (b : Bool) (l : List Step) (k : Nat) (h : k < l.length) :
    refOk b (l.take (k + 1)) = (refOk b (l.take k) && (l[k].ok && !(l[k].pivot && refPiv (l.take k)))) := by
  unfold refOk refPiv; rw [pivots_take l k h, all_take l k h]
  generalize pivots (l.take k) = m
  generalize (l.take k).all Step.ok = x
  generalize l[k].ok = y
  generalize l[k].pivot = z
  by_cases h1 : m ≤ 1 <;> by_cases h0 : m = 0 <;> cases b <;> cases x <;> cases y <;> cases z <;> simp [h1, h0] <;> omega

theorem stepOk_eq (u p : Bool) (r t : Int) : Step.ok ⟨u, p, r, t⟩ = (decide (0 ≤ r) && (decide (r ≤ 3) && (decide (0 < t) && decide (t ≤ 20)))) := by
  unfold Step.ok within
  rw [Bool.eq_iff_iff]; simp only [Bool.and_eq_true, decide_eq_true_eq]; omega

set_option maxRecDepth 100000 in
set_option maxHeartbeats 2000000 in
theorem refCheck_any (v : Value) (d : Def) (w : World) (h : DefIs w v d) :
    Calls Try.prog 14 #[v] w fun e w' => e = .returned (.int .i64 (chk d.ok)) ∧ Quiet w w' := by
  obtain ⟨a, n, cap, rfl, h⟩ := h
  obtain ⟨hn, hm⟩ := h.len
  rw [stepVals, List.length_map] at hn
  have HN : Hid (n = d.steps.length) := hn
  clear hn
  go_enter Try.func14, Try.ntmps14
  go_upto_region 1 with (fail)
  go_cut [3] (fun s wc => s = .bool (headOk n d.quorum d.expiry) ∧ wc = w.alloc (.cells #[.slice a n cap, .int .i64 d.quorum, .int .i64 d.expiry] 24))
  case first =>
    go_wp2
    all_goals
      go_meet
      case rel =>
        refine ⟨congrArg Value.bool ?_, rfl⟩
        unfold headOk
        first | (simp [*]; done) | (simp [*]; omega)
  case rest =>
    obtain ⟨rfl, rfl⟩ := hcut
    have HH : Hid (refOk (headOk d.steps.length d.quorum d.expiry) d.steps = d.ok) := refOk_def d
    revert HH
    rw [← HN.out]
    generalize headOk n d.quorum d.expiry = hd
    intro HH
    go_wp2
    go_loopw [3, 4, 5] (fun s p i wr => ∃ k : Nat, k ≤ n ∧ i = .int .i64 k ∧ s = .bool (refOk hd (d.steps.take k)) ∧ p = .bool (refPiv (d.steps.take k)) ∧
      wr.cell? ⟨w.heap.size, 0, none⟩ = some (.slice a n cap) ∧ w.heap.size < wr.heap.size ∧ Below w.heap.size w wr) (fun _ _ i _ => n - (intOf i).toNat)
    case atStart => exact ⟨0, Nat.zero_le _, rfl, by simp [refOk, pivots], by simp [refPiv, pivots], by simp [go_sem], by simp, (Below.refl _ _).alloc (Nat.le_refl _) _⟩
    case round =>
      obtain ⟨k, hk, rfl, rfl, rfl, hcs, hz, hbel⟩ := hrel
      by_cases hlt : k < n
      · have hkl : k < d.steps.length := by have := HN.out; omega
        obtain ⟨b, off, rfl, hb, c0, c1, c2, c3⟩ := (h.quiet hbel).step k hkl
        have HP : Hid _ := refPiv_take d.steps k hkl
        have HC : Hid _ := refOk_take hd d.steps k hkl
        revert c0 c1 c2 c3 HP HC
        generalize d.steps[k] = s
        obtain ⟨u, p, r, t⟩ := s
        intro c0 c1 c2 c3 HP HC
        simp only at c0 c1 c2 c3
        generalize refOk hd (d.steps.take k) = x1 at *
        generalize refPiv (d.steps.take k) = x2 at *
        go_upto_region 7 with (fail)
        go_cut [3] (fun s wc => s = .bool (x1 && Step.ok ⟨u, p, r, t⟩) ∧ wc = wr.alloc (.cells #[.bool u, .bool p, .int .i64 r, .int .i64 t] 67))
        case first =>
          cases x1
          all_goals
            go_wp2
            all_goals
              go_meet
              case rel =>
                refine ⟨congrArg Value.bool ?_, rfl⟩
                rw [stepOk_eq]
                first | (simp [*]; done) | (simp [*]; omega)
        case rest =>
          obtain ⟨rfl, rfl⟩ := hcut
          generalize hy : (x1 && Step.ok ⟨u, p, r, t⟩) = y
          have HY : Hid ((x1 && Step.ok ⟨u, p, r, t⟩) = y) := hy
          clear hy
          go_upto_region 8 with (fail)
          go_cut [3] (fun s wc => s = .bool (y && !(p && x2)) ∧ wc = wr.alloc (.cells #[.bool u, .bool p, .int .i64 r, .int .i64 t] 67))
          case first =>
            cases y <;> cases p <;> cases x2
            all_goals
              go_wp2
              go_meet
              case rel => exact ⟨rfl, rfl⟩
          case rest =>
            obtain ⟨rfl, rfl⟩ := hcut
            generalize hz' : (y && !(p && x2)) = z
            have HZ : Hid ((y && !(p && x2)) = z) := hz'
            clear hz'
            cases p <;> cases x2
            all_goals
              go_wp2
              go_roundw
              case rel => exact ⟨k + 1, by omega, by go_num, by rw [HC.out, ← HZ.out, ← HY.out, Bool.and_assoc], by rw [HP.out]; rfl, (((Below.refl _ _).alloc (Nat.le_refl _) _).cell (p := ⟨w.heap.size, 0, none⟩) hz).trans hcs, by simp; omega, hbel.alloc (by omega) _⟩
              case measure => simp [intOf]; omega
      · have hkn : d.steps.take k = d.steps := by have := HN.out; rw [List.take_of_length_le (by omega)]
        rw [hkn, HH.out]
        clear hkn HH
        cases hok : d.ok
        all_goals
          go_wp2
          go_ret
          exact ⟨ret_int (by simp [chk, hok]), hbel⟩


set_option maxHeartbeats 400000 in
theorem checks_walk (v : Value) (d : Def) (w : World) (h : DefIs w v d) :
    Calls Try.prog 3 #[v] w fun e w' => e = .returned (.bool true) ∧ Quiet w w' := by
  have h0 := h
  obtain ⟨a, n, cap, rfl, _⟩ := h0
  go_enter Try.func3, Try.ntmps3
  have hq0 : ∀ o, Quiet w (w.alloc o) := fun o => (Below.refl _ _).alloc (Nat.le_refl _) _
  go_wp2_with (first
    | (go_at_call 13; refine (check_any _ d _ (h.quiet (hq0 _))).mono ?_; rintro e w1 ⟨rfl, hq1⟩; have cc := fun j v (hj : (#[Value.slice a n cap, .int .i64 d.quorum, .int .i64 d.expiry] : Array Value)[j]? = some v) => hq1.cell (p := ⟨w.heap.size, j, none⟩) (by simp))
    | (go_at_call 14; refine (refCheck_any _ d _ ((h.quiet (hq0 _)).quiet hq1)).mono ?_; rintro e w2 ⟨rfl, hq2⟩)
    | (go_at_call 15; refine (num_any _ _).mono ?_; rintro e w' ⟨rfl, rfl⟩))
  go_ret
  exact ⟨ret_bool (by simp), ((hq0 _).trans (hq1.mono (by simp))).trans (hq2.mono (by have := hq1.size; simp at this; omega))⟩

end Go.Proofs.Ytahfdglbbdacjaa

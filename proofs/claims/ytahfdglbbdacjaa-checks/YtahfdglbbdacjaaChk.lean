/-
  The walks of Check: the program's and the document's.
-/
import Derived.Test.YtahfdglbbdacjaaRows
import Derived.Test.YtahfdglbbdacjaaBase
import Derived.Test.YtahfdglbbdacjaaData
import Derived.WalkKit
import Derived.WalkSpells
import Derived.WalkLawsBesides
import Derived.BigQuiet
namespace Go.Proofs.Ytahfdglbbdacjaa
open Go.RowKit

theorem ret_bool {a b : Bool} (h : a = b) : Ending.returned (.bool a) = .returned (.bool b) := by rw [h]
theorem ret_int {k : IntKind} {a b : Int} (h : a = b) : Ending.returned (.int k a) = .returned (.int k b) := by rw [h]

theorem within_any (n lo hi : Int) (w : World) :
    Calls Try.prog 44 #[.int .i64 n, .int .i64 lo, .int .i64 hi] w fun e w' => e = .returned (.bool (within n lo hi)) ∧ w' = w := by
  by_cases h : lo ≤ n
  · have hd : decide (lo ≤ n) = true := by simpa using h
    go_enter Try.func44, Try.ntmps44
    go_wp2
    go_ret
    exact ⟨ret_bool (by simp [within, h]), rfl⟩
  · have hd : decide (lo ≤ n) = false := by simpa using h
    go_enter Try.func44, Try.ntmps44
    go_wp2
    go_ret
    exact ⟨ret_bool (by unfold within; rw [hd]; rfl), rfl⟩

theorem isStep_any (u p : Bool) (r t : Int) (w : World) :
    Calls Try.prog 58 #[.agg #[.bool u, .bool p, .int .i64 r, .int .i64 t]] w fun e w' => e = .returned (.bool (Step.ok ⟨u, p, r, t⟩)) ∧ Quiet w w' := by
  cases h : within r 0 3
  all_goals
    go_enter Try.func58, Try.ntmps58
    go_wp2_with (go_at_call 44; refine (within_any _ _ _ _).mono ?_; rintro e w' ⟨rfl, rfl⟩)
    go_ret
    exact ⟨ret_bool (by simp [Step.ok, h]), (Below.refl _ _).alloc (Nat.le_refl _) _⟩

def stepVals (l : List Step) : List (List Value) := l.map Step.cells

theorem Arr.step {w : World} {a : Option Addr} {n cap : Nat} {l : List Step} (h : Arr w 4 (.slice a n cap) (stepVals l)) (k : Nat) (hk : k < l.length) :
    ∃ b off, a = some ⟨b, off, none⟩ ∧ b < w.heap.size ∧
      w.cell? ⟨b, off + k * 4, none⟩ = some (.bool l[k].undo) ∧ w.cell? ⟨b, off + k * 4 + 1, none⟩ = some (.bool l[k].pivot) ∧
      w.cell? ⟨b, off + k * 4 + 2, none⟩ = some (.int .i64 l[k].retries) ∧ w.cell? ⟨b, off + k * 4 + 3, none⟩ = some (.int .i64 l[k].timeout) := by
  obtain ⟨a', cap', h1, h2, h3, h4, h5⟩ := h
  cases h1
  rcases h5 with h5 | ⟨b, off, ha, hx⟩
  · simp [stepVals] at h5; subst h5; simp at hk
  · have := hx k l[k].cells (by simp [stepVals, hk])
    exact ⟨b, off, ha, this.lt, this.four⟩

set_option maxHeartbeats 400000 in
theorem areSteps_any (a : Option Addr) (n cap : Nat) (l : List Step) (w : World) (h : Arr w 4 (.slice a n cap) (stepVals l)) :
    Calls Try.prog 45 #[.slice a n cap] w fun e w' => e = .returned (.bool (stepsOk l)) ∧ Quiet w w' := by
  have hn : n = l.length := by obtain ⟨_, _, h1, _⟩ := h; simp [stepVals] at h1; exact h1.2.1
  have hm : n ≤ maxLen := by obtain ⟨_, _, h1, h2, h3, _⟩ := h; simp [stepVals] at h1 h2; omega
  have HN : Hid (n = l.length) := hn
  clear hn
  unfold maxLen at hm
  go_enter Try.func45, Try.ntmps45
  go_wp2
  go_loopw [3, 4] (fun p i wr => ∃ k : Nat, k ≤ n ∧ i = .int .i64 k ∧ p = .int .i64 (pivots (l.take k)) ∧ (l.take k).all Step.ok = true ∧ Below w.heap.size w wr) (fun _ i _ => n - (intOf i).toNat)
  case atStart => exact ⟨0, Nat.zero_le _, rfl, by simp [pivots], by simp, Below.refl _ _⟩
  case round =>
    obtain ⟨k, hk, rfl, rfl, hall, hbel⟩ := hrel
    have HA : Hid ((l.take k).all Step.ok = true) := hall
    clear hall
    have hpl : (pivots (l.take k) : Int) ≤ k := by have := pivots_le (l.take k); simp at this; omega
    by_cases hlt : k < n
    · have hkl : k < l.length := by have := HN.out; omega
      obtain ⟨b, off, rfl, hb, c0, c1, c2, c3⟩ := (h.quiet hbel).step k hkl
      have HP := pivots_take l k hkl
      have HP' : Hid (pivots (l.take (k + 1)) = pivots (l.take k) + (if l[k].pivot then 1 else 0)) := HP
      have HB : Hid (∀ (h : l[k].ok = false), stepsOk l = false) := stepsOk_bad l k hkl
      have HC : Hid ((l.take (k + 1)).all Step.ok = ((l.take k).all Step.ok && l[k].ok)) := all_take l k hkl
      clear HP
      revert c0 c1 c2 c3 HP' HB HC
      generalize l[k] = s
      obtain ⟨u, p, r, t⟩ := s
      intro c0 c1 c2 c3 HP' HB HC
      simp only at c0 c1 c2 c3
      cases hok : (Step.ok ⟨u, p, r, t⟩)
      · go_wp2_with (go_at_call 58; refine (isStep_any u p r t _).mono ?_; rintro e w' ⟨rfl, hq⟩)
        go_ret
        exact ⟨ret_bool (HB.out hok).symm, hbel.trans (hq.mono hbel.size)⟩
      · cases p
        all_goals
          go_wp2_with (go_at_call 58; refine (isStep_any u _ r t _).mono ?_; rintro e w' ⟨rfl, hq⟩; have d1 := (hq.cell (p := ⟨b, off + k * 4 + 1, none⟩) hb).trans c1)
          go_roundw
          case rel => exact ⟨k + 1, by omega, by go_num, by rw [HP'.out]; simp, by rw [HC.out, HA.out, hok]; rfl, hbel.trans (hq.mono hbel.size)⟩
          case measure => simp [intOf]; omega
    · go_wp2
      go_ret
      have hkn : k = l.length := by have := HN.out; omega
      exact ⟨ret_bool (by
        have e : l.take k = l := by rw [hkn]; simp
        have := HA.out
        rw [e] at this ⊢
        simp [stepsOk, this]; omega), hbel⟩

theorem Arr.len {w : World} {m n cap : Nat} {a : Option Addr} {xs : List (List Value)} (h : Arr w m (.slice a n cap) xs) : n = xs.length ∧ n ≤ 9223372036854775807 := by
  obtain ⟨_, _, h1, h2, h3, _⟩ := h
  simp at h1
  unfold maxLen at h3
  omega

/-- A definition as a value. -/
def DefIs (w : World) (v : Value) (d : Def) : Prop :=
  ∃ a n cap, v = .agg #[.slice a n cap, .int .i64 d.quorum, .int .i64 d.expiry] ∧ Arr w 4 (.slice a n cap) (stepVals d.steps)

theorem DefIs.quiet {w w' : World} {v : Value} {d : Def} (h : DefIs w v d) (hq : Quiet w w') : DefIs w' v d := by
  obtain ⟨a, n, cap, hv, h⟩ := h
  exact ⟨a, n, cap, hv, h.quiet hq⟩

set_option maxHeartbeats 400000 in
theorem isDefinition_any (v : Value) (d : Def) (w : World) (h : DefIs w v d) :
    Calls Try.prog 37 #[v] w fun e w' => e = .returned (.bool d.ok) ∧ Quiet w w' := by
  obtain ⟨a, n, cap, rfl, h⟩ := h
  obtain ⟨hn, hm⟩ := h.len
  rw [stepVals, List.length_map] at hn
  have HD : Hid (d.ok = (within n 1 6 && (within d.quorum 0 3 && (within d.expiry 1 50 && stepsOk d.steps)))) := by rw [hn]; rfl
  clear hn
  cases h1 : within n 1 6
  · go_enter Try.func37, Try.ntmps37
    go_wp2_with (go_at_call 44; refine (within_any _ _ _ _).mono ?_; rintro e w' ⟨rfl, rfl⟩)
    go_ret
    exact ⟨ret_bool (by rw [HD.out, h1]; rfl), (Below.refl _ _).alloc (Nat.le_refl _) _⟩
  cases h2 : within d.quorum 0 3
  · go_enter Try.func37, Try.ntmps37
    go_wp2_with (go_at_call 44; refine (within_any _ _ _ _).mono ?_; rintro e w' ⟨rfl, rfl⟩)
    go_ret
    exact ⟨ret_bool (by rw [HD.out, h1, h2]; rfl), (Below.refl _ _).alloc (Nat.le_refl _) _⟩
  cases h3 : within d.expiry 1 50
  · go_enter Try.func37, Try.ntmps37
    go_wp2_with (go_at_call 44; refine (within_any _ _ _ _).mono ?_; rintro e w' ⟨rfl, rfl⟩)
    go_ret
    exact ⟨ret_bool (by rw [HD.out, h1, h2, h3]; rfl), (Below.refl _ _).alloc (Nat.le_refl _) _⟩
  go_enter Try.func37, Try.ntmps37
  go_wp2_with (first | (go_at_call 44; refine (within_any _ _ _ _).mono ?_; rintro e w' ⟨rfl, rfl⟩) | (go_at_call 45; refine (areSteps_any a n cap d.steps _ (h.quiet ((Below.refl _ _).alloc (Nat.le_refl _) _))).mono ?_; rintro e w' ⟨rfl, hq⟩))
  go_ret
  exact ⟨ret_bool (by rw [HD.out, h1, h2, h3]; rfl), ((Below.refl _ _).alloc (Nat.le_refl _) _).trans (hq.mono (by simp))⟩

/-- The number of an error that a check answers. -/
def chk (b : Bool) : Int := if b then 0 else 1

set_option maxHeartbeats 400000 in
theorem check_any (v : Value) (d : Def) (w : World) (h : DefIs w v d) :
    Calls Try.prog 13 #[v] w fun e w' => e = .returned (.int .i64 (chk d.ok)) ∧ Quiet w w' := by
  have h' : ∀ o, DefIs (w.alloc o) v d := fun o => by
    obtain ⟨a, n, cap, hv, h⟩ := h
    exact ⟨a, n, cap, hv, h.quiet ((Below.refl _ _).alloc (Nat.le_refl _) _)⟩
  have h0 := h
  obtain ⟨a, n, cap, rfl, _⟩ := h0
  cases hd : d.ok
  all_goals
    go_enter Try.func13, Try.ntmps13
    go_wp2_with (go_at_call 37; refine (isDefinition_any _ d _ (h' _)).mono ?_; rintro e w' ⟨rfl, hq⟩)
    go_ret
    exact ⟨ret_int (by simp [chk]), ((Below.refl _ _).alloc (Nat.le_refl _) _).trans (hq.mono (by simp))⟩

theorem num_any (x : Int) (w : World) : Calls Try.prog 15 #[.int .i64 x] w fun e w' => e = .returned (.int .i64 x) ∧ w' = w := by
  go_enter Try.func15, Try.ntmps15
  go_wp2
  go_ret
  exact ⟨rfl, rfl⟩

end Go.Proofs.Ytahfdglbbdacjaa

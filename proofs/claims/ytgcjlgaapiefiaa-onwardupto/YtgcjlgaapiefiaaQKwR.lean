import Derived.Test.YtgcjlgaapiefiaaQKpE
import Derived.Test.YtgcjlgaapiefiaaQKwN
import Derived.Test.YtgcjlgaapiefiaaQKwE
import Derived.Test.YtgcjlgaapiefiaaQKwP

/-
  sagakeep.ready: walked.
-/
namespace Go.Proofs.Ytgcjlgaapiefiaa
open Go.RowKit Go.Sort

set_option maxRecDepth 100000 in
set_option maxHeartbeats 2000000 in
theorem ready_any (dv : Value) (d : Def) (w : World) (hd : DefIs w dv d) (x : Inst) (la : Option Addr) (ln lc : Nat) (now : Int) (hdn : d.steps.length ≤ 6) (hk : 0 ≤ x.keys ∧ x.keys ≤ 30) (hs : 0 ≤ x.settled ∧ x.settled ≤ 6) :
    Calls Try.prog 33 #[dv, .agg #[.int .i64 x.id, .int .i64 x.mode, .bool x.stuck, .int .i64 x.settled, .int .i64 x.target, .bool x.resume, .int .i64 x.keys, .int .i64 x.key, .int .i64 x.due, .int .i64 x.tries, .int .i64 x.wake, .slice la ln lc], .int .i64 now] w fun e w' => e = .returned (.bool (eqB (ReadyP d x now))) ∧ Quiet w w' := by
  have hq0 : ∀ (w : World) o, Quiet w (w.alloc o) := fun w o => (Below.refl _ _).alloc (Nat.le_refl _) _
  obtain ⟨da, dn, dcap, rfl, hst⟩ := hd
  have HDN : Hid (dn = d.steps.length) := by obtain ⟨_, _, h1, _⟩ := hst; simp [stepVals] at h1; exact h1.2.1
  have hdm : (dn : Int) ≤ 6 := by have := HDN.out; omega
  clear hst
  obtain ⟨hk0, hk1⟩ := hk
  obtain ⟨hs0, hs1⟩ := hs
  obtain ⟨B, HB⟩ : ∃ B, Hid (eqB (ReadyP d x now) = B) := ⟨_, rfl⟩
  rw [HB.out]
  go_enter Try.func33, Try.ntmps33
  cases t1 : (x.mode != 1)
  · have e1 := bne_eq' t1
    have HE1 : Hid (x.mode = 1) := e1
    clear e1
    cases t2 : x.stuck
    · cases t3 : (x.key != 0)
      · have HE3 : Hid (x.key = 0) := bne_eq' t3
        by_cases t4 : now < x.wake
        · have hB : B = false := by rw [← HB.out]; exact eqB_false (fun q => by have := q.2.2.2.1; omega)
          subst hB
          go_wp2
          go_ret
          exact ⟨rfl, (hq0 _ _).after (hq0 _ _)⟩
        · by_cases t5 : x.keys + (dn : Int) - x.settled ≤ 30
          · have hB : B = true := by rw [← HB.out]; exact eqB_true ⟨HE1.out, t2, HE3.out, by omega, by have := HDN.out; omega⟩
            subst hB
            go_wp2
            go_ret
            exact ⟨rfl, (hq0 _ _).after (hq0 _ _)⟩
          · have hB : B = false := by rw [← HB.out]; exact eqB_false (fun q => by have := q.2.2.2.2; have := HDN.out; omega)
            subst hB
            go_wp2
            go_ret
            exact ⟨rfl, (hq0 _ _).after (hq0 _ _)⟩
      · have hB : B = false := by rw [← HB.out]; exact eqB_false (fun q => by have := q.2.2.1; rw [this] at t3; simp at t3)
        subst hB
        go_wp2
        go_ret
        exact ⟨rfl, (hq0 _ _).after (hq0 _ _)⟩
    · have hB : B = false := by rw [← HB.out]; exact eqB_false (fun q => by have := q.2.1; rw [t2] at this; simp at this)
      subst hB
      go_wp2
      go_ret
      exact ⟨rfl, (hq0 _ _).after (hq0 _ _)⟩
  · have hB : B = false := by rw [← HB.out]; exact eqB_false (fun q => by have := q.1; rw [this] at t1; simp at t1)
    subst hB
    go_wp2
    go_ret
    exact ⟨rfl, (hq0 _ _).after (hq0 _ _)⟩

end Go.Proofs.Ytgcjlgaapiefiaa

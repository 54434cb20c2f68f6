/-
  The statement Checks.
-/
import Derived.Test.YtahfdglbbdacjaaChkRef
import Derived.Test.YtahfdglbbdacjaaOpen
import Derived.ShutString
import Derived.ChangeOld
import Derived.Carry
import Derived.OpenShut
namespace Go.Proofs.Ytahfdglbbdacjaa
open Go.ChangeShapes Go.WideShapes Go.ChangeAt Go.RowKit Go.Deep

theorem own : ownKnob Try.prog.godebug = none := by kernel_rfl
theorem laidOut : laidOutB Try.prog = true := by kernel_rfl

section
variable {H : Type} {enc : TypeId × Value → H} {w : World} {base : Nat} {spare : Nat → Bool} {held : Bool}

theorem steps_open {fuel : Nat} {v : Value} {x : DataW H × List MemPlace} (h : DataW.trod enc Try.prog w base spare held fuel 22 [v] = some x) :
    ∃ l : List Step, Arr w 4 v (stepVals l) := by
  obtain ⟨xs, harr, ⟨n, hrow⟩, _⟩ := trod_rows Try.underlying22 Try.underlying67 (by kernel_rfl) (by kernel_rfl) (by decide) h
  obtain ⟨l, rfl, _⟩ := list_of (g := Step.cells) (p := fun _ => True) (xs := xs) (fun cs hcs => by
    have hr := hrow cs hcs
    have hlen : cs.length = 4 := by obtain ⟨_, _, _, _, _, h4, _⟩ := harr; exact h4 cs hcs
    obtain ⟨v0, y0, g0, t0⟩ := hr 0 _ rfl
    obtain ⟨v1, y1, g1, t1⟩ := hr 1 _ rfl
    obtain ⟨v2, y2, g2, t2⟩ := hr 2 _ rfl
    obtain ⟨v3, y3, g3, t3⟩ := hr 3 _ rfl
    obtain ⟨u, e0, _⟩ := DataW.trod_bool Try.underlying4 t0
    obtain ⟨p, e1, _⟩ := DataW.trod_bool Try.underlying4 t1
    obtain ⟨r, e2, _⟩ := DataW.trod_int Try.underlying3 t2
    obtain ⟨t, e3, _⟩ := DataW.trod_int Try.underlying3 t3
    simp only [List.cons.injEq, and_true] at e0 e1 e2 e3
    subst e0 e1 e2 e3
    refine ⟨⟨u, p, r, t⟩, ?_, trivial⟩
    match cs, hlen with
    | [c0, c1, c2, c3], _ => simp at g0 g1 g2 g3; subst g0 g1 g2 g3; rfl)
  exact ⟨l, harr⟩

set_option maxRecDepth 100000 in
theorem def_open {r : Reach} {b0 : Nat} {v : Value} {d : DataW H} {p : List MemPlace} (hv : Value.okWide Try.prog w r b0 24 v) (h : DataW.Trod enc Try.prog w base spare held 24 v d p) :
    ∃ D : Def, DefIs w v D := by
  obtain ⟨cs, rfl, hsz⟩ := okWide_struct Try.underlying24 hv
  obtain ⟨fuel, hf⟩ := h
  obtain ⟨hl, n, hr⟩ := trod_fields Try.underlying24 (by kernel_rfl) (by kernel_rfl) hf
  obtain ⟨v0, y0, g0, t0⟩ := hr 0 _ rfl
  obtain ⟨v1, y1, g1, t1⟩ := hr 1 _ rfl
  obtain ⟨v2, y2, g2, t2⟩ := hr 2 _ rfl
  obtain ⟨l, hl0⟩ := steps_open t0
  obtain ⟨q, e1, _⟩ := DataW.trod_int Try.underlying3 t1
  obtain ⟨x, e2, _⟩ := DataW.trod_int Try.underlying3 t2
  simp only [List.cons.injEq, and_true] at e1 e2
  subst e1 e2
  refine ⟨⟨l, q, x⟩, ?_⟩
  have hl0' := hl0
  obtain ⟨a, cap, rfl, _⟩ := hl0'
  refine ⟨a, _, cap, ?_, hl0⟩
  obtain ⟨cs⟩ := cs
  simp only [Value.cells] at g0 g1 g2 hl
  match cs, hl with
  | [c0, c1, c2], _ => simp at g0 g1 g2; subst g0 g1 g2; rfl
end

set_option maxRecDepth 100000 in
theorem checks_lifted (os : Os) (started : os.Started) (H : Type) (enc : TypeId × Value → H) :
    ReturnsInHanded {} Try.checked os 3 .any (Rows.checksSpec.pre6 enc Try.prog Try.f3 Rows.checksRow.domain false) (Rows.checksSpec.post enc Try.prog Try.f3 false true false false) := by
  refine returnsInHanded_of_change (C := Try.checked) own started (by kernel_rfl) Try.func3
    (ChangeSpec.witness6 (enc := enc) (C := Try.checked) false ⟨#[], #[.agg #[.slice none 0 0, .int .i64 0, .int .i64 0]], []⟩ 8 (by kernel_rfl) (by kernel_rfl) (by kernel_rfl) (by kernel_rfl)) ?_
  intro W base args ds gs before hval0 hW hcnd _
  have hval : ∀ (j : Nat) t v, Try.f3.params[j]? = some t → args[j]? = some v → Value.okWide Try.prog W .any base t v := hval0
  have hW' := hW
  obtain ⟨p, q, hA0, hV, rfl, hfz, hnd⟩ := hW
  have hA : DataW.TrodAll enc Try.prog W 0 (fun _ => true) true Try.f3.params.toList args.toList ds p := hA0
  rw [Try.params3] at hA hval
  obtain ⟨v0, vs0, d0, ds0, p0, q0, hargs, rfl, rfl, h0, r0⟩ := trodAll_cons hA
  obtain ⟨rfl, rfl, rfl⟩ := trodAll_nil r0
  obtain rfl : args = #[v0] := by cases args; simp_all
  obtain ⟨rfl, rfl⟩ := trodVars_none hV
  have k0 := h0
  have lt0 : ∀ x ∈ p0, x.block < W.heap.size := by obtain ⟨m, hm⟩ := k0; exact DataW.trod_lt m _ _ _ hm
  obtain ⟨D, hD⟩ := def_open (hval 0 24 v0 rfl rfl) h0
  clear hA0 hval0
  refine (checks_walk v0 D W hD).mono fun e W' ⟨he, bel⟩ => ?_
  subst he
  exact ⟨_, rfl, _, _, _, [], _, [], hW', trodAll_mk1 (shut_bool Try.underlying4 _), (trodAll_cons_mk (Below.trod laidOut (by kernel_rfl) (of_decide_eq_true (by kernel_rfl)) k0 bel lt0) trodAll_mk0), rfl, bel.frame _, fun h => by cases h⟩

theorem checks_holds : Rows.ChecksSaid :=
  OpenClaim.holds_of_wide 3 Try.f3 rfl rfl rfl rfl rfl rfl rfl ⟨rfl, rfl, rfl, rfl, rfl⟩ rfl rfl rfl rfl rfl (by kernel_rfl) Try.func3 (by kernel_rfl)
    (of_decide_eq_true (by kernel_rfl)) (by unfold Func.isWrapper; first | (rw [if_pos (by decide +kernel)]; kernel_rfl) | (rw [if_neg (by decide +kernel)]; exact ⟨rfl, rfl⟩))
    (fun os started H enc _ => checks_lifted os started H enc)
#print axioms checks_holds

end Go.Proofs.Ytahfdglbbdacjaa

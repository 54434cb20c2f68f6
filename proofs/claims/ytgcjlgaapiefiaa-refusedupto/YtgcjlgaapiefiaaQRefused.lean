import Derived.Test.YtgcjlgaapiefiaaQOpen
import Derived.Test.YtgcjlgaapiefiaaQKwE
import Derived.Test.YtgcjlgaapiefiaaQKwQ

/-
  The statement Refused, up to the bound.
-/
namespace Go.Proofs.Ytgcjlgaapiefiaa
open Go.ChangeShapes Go.WideShapes Go.ChangeAt Go.RowKit Go.Deep

section
variable {H : Type} {enc : TypeId × Value → H} {w : World} {base : Nat} {spare : Nat → Bool} {held : Bool}
set_option maxRecDepth 100000 in
theorem cmd_open {r : Reach} {b0 : Nat} {v : Value} {d : DataW H} {p : List MemPlace} (hv : Value.okWide Try.prog w r b0 54 v) (h : DataW.Trod enc Try.prog w base spare held 54 v d p) :
    ∃ c : Cmd, v = c.val ∧ c.reason.size ≤ 9223372036854775807 := by
  obtain ⟨cs, rfl, hsz⟩ := okWide_struct Try.underlying54 hv
  obtain ⟨fuel, hf⟩ := h
  obtain ⟨hl, n, hr⟩ := trod_fields Try.underlying54 (by kernel_rfl) (by kernel_rfl) hf
  obtain ⟨v0, y0, g0, t0⟩ := hr 0 _ rfl
  obtain ⟨v1, y1, g1, t1⟩ := hr 1 _ rfl
  obtain ⟨v2, y2, g2, t2⟩ := hr 2 _ rfl
  obtain ⟨v3, y3, g3, t3⟩ := hr 3 _ rfl
  obtain ⟨v4, y4, g4, t4⟩ := hr 4 _ rfl
  obtain ⟨v5, y5, g5, t5⟩ := hr 5 _ rfl
  obtain ⟨v6, y6, g6, t6⟩ := hr 6 _ rfl
  obtain ⟨k, e0, _⟩ := DataW.trod_int Try.underlying3 t0
  obtain ⟨i, e1, _⟩ := DataW.trod_int Try.underlying3 t1
  obtain ⟨a, e2, _⟩ := DataW.trod_int Try.underlying3 t2
  obtain ⟨b, e3, _⟩ := DataW.trod_int Try.underlying3 t3
  obtain ⟨o, e4, _⟩ := DataW.trod_int Try.underlying3 t4
  obtain ⟨s, e5, _, hs⟩ := DataW.trod_string Try.underlying9 t5
  obtain ⟨q, e6, _⟩ := DataW.trod_bool Try.underlying4 t6
  simp only [List.cons.injEq, and_true] at e0 e1 e2 e3 e4 e5 e6
  subst e0 e1 e2 e3 e4 e5 e6
  refine ⟨⟨k, i, a, b, o, s, q⟩, ?_, Nat.le_trans hs (by unfold maxLen; omega)⟩
  obtain ⟨cs⟩ := cs
  simp only [Value.cells] at g0 g1 g2 g3 g4 g5 g6 hl
  match cs, hl with
  | [c0, c1, c2, c3, c4, c5, c6], _ => simp at g0 g1 g2 g3 g4 g5 g6; subst g0 g1 g2 g3 g4 g5 g6; rfl
end

set_option maxRecDepth 100000 in
theorem refused_contract (H : Type) (enc : TypeId × Value → H) (W : World) (base : Nat) (args : Array Value) (ds gs : List (DataW H)) (before : List MemPlace)
    (hval0 : ∀ (j : Nat) t v, Try.f9.params[j]? = some t → args[j]? = some v → Value.okWide Try.prog W .any base t v)
    (hW : DataW.Whole enc Try.prog Try.f9.params.toList Rows.refusedSpec.vars false W args.toList ds gs before) (hk : Rows.uptoSmall H (ds ++ gs) = true) :
    Calls Try.prog 9 args W fun e W' => ∃ v, e = .returned v ∧ Rows.refusedSpec.post enc Try.prog Try.f9 false true false false W args v W' := by
  have hval : ∀ (j : Nat) t v, Try.f9.params[j]? = some t → args[j]? = some v → Value.okWide Try.prog W .any base t v := hval0
  have hW' := hW
  obtain ⟨p, q, hA0, hV, rfl, hfz, hnd⟩ := hW
  have hA : DataW.TrodAll enc Try.prog W 0 (fun _ => true) true Try.f9.params.toList args.toList ds p := hA0
  rw [Try.params9] at hA hval
  obtain ⟨v0, vs0, d0, ds0, p0, q0, hargs, rfl, rfl, h0, r0⟩ := trodAll_cons hA
  obtain ⟨v1, vs1, d1, ds1, p1, q1, hargs1, rfl, rfl, h1, r1⟩ := trodAll_cons r0
  obtain ⟨v2, vs2, d2, ds2, p2, q2, hargs2, rfl, rfl, h2, r2⟩ := trodAll_cons r1
  obtain ⟨rfl, rfl, rfl⟩ := trodAll_nil r2
  obtain rfl : args = #[v0, v1, v2] := by cases args; simp_all
  obtain ⟨rfl, rfl⟩ := trodVars_none hV
  have k0 := h0
  have k1 := h1
  have k2 := h2
  have lt0 : ∀ x ∈ p0, x.block < W.heap.size := by obtain ⟨m, hm⟩ := k0; exact DataW.trod_lt m _ _ _ hm
  have lt1 : ∀ x ∈ p1, x.block < W.heap.size := by obtain ⟨m, hm⟩ := k1; exact DataW.trod_lt m _ _ _ hm
  have lt2 : ∀ x ∈ p2, x.block < W.heap.size := by obtain ⟨m, hm⟩ := k2; exact DataW.trod_lt m _ _ _ hm
  obtain ⟨D, hD⟩ := def_open (hval 0 24 v0 rfl rfl) h0
  have hbulk : Rows.uptoBulk d0 + Rows.uptoBulk d1 + Rows.uptoBulk d2 ≤ 1048576 := by
    have h : Rows.uptoBulkAll ([d0, d1, d2] ++ []) ≤ 1048576 := of_decide_eq_true hk
    simp only [List.append_nil, Rows.uptoBulkAll] at h
    omega
  have hone0 := bulk_one d0
  have hone2 := bulk_one d2
  obtain ⟨l, hl, hn, hr⟩ := cmds_open2 (hval 1 29 v1 rfl rfl) h1 (by omega)
  have hsl := slOk_of (hval 1 29 v1 rfl rfl)
  obtain ⟨cc, rfl, hcc⟩ := cmd_open (hval 2 54 v2 rfl rfl) h2
  clear hA0 hval0
  refine (refused_walk v0 v1 D l cc hcc W hD hsl hl (by omega) hr).mono fun e W' ⟨he, bel⟩ => ?_
  subst he
  exact ⟨_, rfl, _, _, _, [], _, [], hW', trodAll_mk1 (shut_bool Try.underlying4 _), (trodAll_cons_mk (Below.trod laidOut (by kernel_rfl) (of_decide_eq_true (by kernel_rfl)) k0 bel lt0) (trodAll_cons_mk (Below.trod laidOut (by kernel_rfl) (of_decide_eq_true (by kernel_rfl)) k1 bel lt1) (trodAll_cons_mk (Below.trod laidOut (by kernel_rfl) (of_decide_eq_true (by kernel_rfl)) k2 bel lt2) trodAll_mk0))), rfl, bel.frame _, fun h => by cases h⟩

set_option maxRecDepth 100000 in
theorem refused_lifted (os : Os) (started : os.Started) (H : Type) (enc : TypeId × Value → H) (F : Stop.Interp) :
    ReturnsInHanded {} Try.checked os 9 .any ((Rows.OpenSpec.upto Rows.refusedSpec).pre6 enc Try.prog Try.f9 Rows.refusedUptoRow.domain false) (((Rows.OpenSpec.upto Rows.refusedSpec).at F).post enc Try.prog Try.f9 false true false false) := by
  refine returnsInHanded_of_cond (C := Try.checked) (s := Rows.OpenSpec.upto Rows.refusedSpec) (k := Rows.uptoSmall) rfl own started (by kernel_rfl) Try.func9
    (OpenSpec.witness (enc := enc) (C := Try.checked) (s := Rows.OpenSpec.upto Rows.refusedSpec) (k := Rows.uptoSmall) rfl false ⟨#[], #[.agg #[.slice none 0 0, .int .i64 0, .int .i64 0], .slice none 0 0, .agg #[.int .i64 0, .int .i64 0, .int .i64 0, .int .i64 0, .int .i64 0, .string ⟨#[]⟩, .bool false]], []⟩ 8 (by kernel_rfl) (by kernel_rfl) (by kernel_rfl)
      (x := ([.agg [.nil, .lit (.int .i64 0), .lit (.int .i64 0)], .nil, .agg [.lit (.int .i64 0), .lit (.int .i64 0), .lit (.int .i64 0), .lit (.int .i64 0), .lit (.int .i64 0), .lit (.string []), .lit (.bool false)]], [], [])) (by kernel_rfl) rfl (by kernel_rfl)) ?_
  intro W base args ds gs before hval hW _ hk _
  exact refused_contract H enc W base args ds gs before hval hW hk

theorem refused_holds : Rows.RefusedUptoSaid :=
  OpenClaim.holds_of_cond 9 Try.f9 rfl rfl rfl rfl rfl rfl rfl ⟨rfl, rfl, rfl, rfl, rfl⟩ rfl rfl rfl rfl rfl (by kernel_rfl) Try.func9 (by kernel_rfl)
    (of_decide_eq_true (by kernel_rfl)) (by unfold Func.isWrapper; first | (rw [if_pos (by decide +kernel)]; kernel_rfl) | (rw [if_neg (by decide +kernel)]; exact ⟨rfl, rfl⟩))
    (fun os started H enc _ F => refused_lifted os started H enc F)
#print axioms refused_holds

end Go.Proofs.Ytgcjlgaapiefiaa

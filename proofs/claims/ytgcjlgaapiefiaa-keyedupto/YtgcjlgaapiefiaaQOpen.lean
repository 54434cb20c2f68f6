import Derived.Test.YtgcjlgaapiefiaaQSame
import Derived.Test.YtgcjlgaapiefiaaQChk
import Derived.JoinedCond

/-
  A script that comes in, opened.
-/
namespace Go.Proofs.Ytgcjlgaapiefiaa
open Go.ChangeShapes Go.WideShapes Go.ChangeAt Go.RowKit Go.Deep

section
variable {H : Type} {enc : TypeId × Value → H} {w : World} {base : Nat} {spare : Nat → Bool} {held : Bool}

set_option maxRecDepth 100000 in
theorem cmds_open {r : Reach} {b0 : Nat} {v : Value} {d : DataW H} {p : List MemPlace} (hv : Value.okWide Try.prog w r b0 29 v) (h : DataW.Trod enc Try.prog w base spare held 29 v d p) (hb : Rows.uptoBulk d ≤ 1048576) :
    ∃ l : List Cmd, Cmds w v l ∧ l.length ≤ 1048576 ∧ ∀ c ∈ l, c.reason.size ≤ 9223372036854775807 := by
  obtain ⟨va, vn, vc, rfl⟩ := okWide_slice Try.underlying29 hv
  obtain ⟨fuel, hf⟩ := h
  obtain ⟨xs, harr, ⟨n, hrow⟩, hx⟩ := trod_rows Try.underlying29 Try.underlying54 (by kernel_rfl) (by kernel_rfl) (by decide) hf
  obtain ⟨l, rfl, hl⟩ := list_of (g := Cmd.cells) (p := fun c : Cmd => c.reason.size ≤ 9223372036854775807) (xs := xs) (fun cs hcs => by
    have hr := hrow cs hcs
    have hlen : cs.length = 7 := by obtain ⟨_, _, _, _, _, h4, _⟩ := harr; exact h4 cs hcs
    obtain ⟨v0, y0, g0, t0⟩ := hr 0 _ rfl
    obtain ⟨v1, y1, g1, t1⟩ := hr 1 _ rfl
    obtain ⟨v2, y2, g2, t2⟩ := hr 2 _ rfl
    obtain ⟨v3, y3, g3, t3⟩ := hr 3 _ rfl
    obtain ⟨v4, y4, g4, t4⟩ := hr 4 _ rfl
    obtain ⟨v5, y5, g5, t5⟩ := hr 5 _ rfl
    obtain ⟨v6, y6, g6, t6⟩ := hr 6 _ rfl
    obtain ⟨k, e0, _⟩ := DataW.trod_int Try.underlying3 t0
    obtain ⟨i, e1, _⟩ := DataW.trod_int Try.underlying3 t1
    obtain ⟨a, e2, _⟩ := DataW.trod_int Try.underlying3 t2
    obtain ⟨b, e3, _⟩ := DataW.trod_int Try.underlying3 t3
    obtain ⟨o, e4, _⟩ := DataW.trod_int Try.underlying3 t4
    obtain ⟨s, e5, _, hs⟩ := DataW.trod_string Try.underlying9 t5
    obtain ⟨q, e6, _⟩ := DataW.trod_bool Try.underlying4 t6
    simp only [List.cons.injEq, and_true] at e0 e1 e2 e3 e4 e5 e6
    subst e0 e1 e2 e3 e4 e5 e6
    refine ⟨⟨k, i, a, b, o, s, q⟩, ?_, ?_⟩
    · match cs, hlen with
      | [c0, c1, c2, c3, c4, c5, c6], _ => simp at g0 g1 g2 g3 g4 g5 g6; subst g0 g1 g2 g3 g4 g5 g6; rfl
    · exact Nat.le_trans hs (by unfold maxLen; omega))
  have hlen : l.length ≤ 1048576 := by
    rcases hx with ⟨_, hx⟩ | ⟨el, sp, hx, he⟩
    · have : l.length = 0 := by have := congrArg List.length hx; simpa using this
      omega
    · simp only at hx
      rw [hx] at hb
      have h1 : ∀ es : List (DataW H), es.length ≤ Rows.uptoBulkAll es := by
        intro es
        induction es with
        | nil => simp
        | cons e es ih =>
          have h0 : 1 ≤ Rows.uptoBulk e := by
            cases e with
            | lit l => cases l <;> simp [Rows.uptoBulk]
            | nil => simp [Rows.uptoBulk]
            | ptr d => simp [Rows.uptoBulk]
            | slice elems spare => simp [Rows.uptoBulk]
            | agg parts => simp [Rows.uptoBulk]
            | iface t d => simp [Rows.uptoBulk]
            | map entries => simp [Rows.uptoBulk]
            | held h => simp [Rows.uptoBulk]
          simp only [Rows.uptoBulkAll, List.length_cons]; omega
      have h2 := h1 el
      simp only [Rows.uptoBulk] at hb
      simp at he
      omega
  exact ⟨l, ⟨harr, by omega⟩, hlen, hl⟩
end

end Go.Proofs.Ytgcjlgaapiefiaa

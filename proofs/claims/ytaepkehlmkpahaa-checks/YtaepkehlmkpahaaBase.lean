/-
  Cells, rows of cells and slices of rows, over any program: what a walk wants to know of memory, and how it stays.
-/
import Derived.WalkKit
import Derived.Below
namespace Go.Proofs.Ytaepkehlmkpahaa
open Go.RowKit

/-- Only the blocks of S may have turned. -/
structure Keeps (S : Nat → Prop) (w w' : World) : Prop where
  os : w'.os = w.os
  tape : w'.tape = w.tape
  output : w'.output = w.output
  size : w.heap.size ≤ w'.heap.size
  block : ∀ k, k < w.heap.size → ¬ S k → w'.heap[k]? = w.heap[k]?

/-- No old block has turned. -/
abbrev Quiet (w w' : World) : Prop := Below w.heap.size w w'

theorem lt_of_cell {w : World} {a : Addr} {v : Value} (h : w.cell? a = some v) : a.block < w.heap.size := by
  unfold World.cell? at h
  by_cases hb : a.block < w.heap.size
  · exact hb
  · rw [Array.getElem?_eq_none (by omega)] at h; simp at h

/-- A row of cells at an address. -/
def At (w : World) (b o : Nat) (cs : List Value) : Prop := ∀ j v, cs[j]? = some v → w.cell? ⟨b, o + j, none⟩ = some v

theorem At.of_below {w w' : World} {B b o : Nat} {cs : List Value} (h : At w b o cs) (hb : Below B w w') (hlt : b < B) : At w' b o cs :=
  fun j v hj => (hb.cell (p := ⟨b, o + j, none⟩) hlt).trans (h j v hj)

theorem At.lt {w : World} {b o : Nat} {c : Value} {cs : List Value} (h : At w b o (c :: cs)) : b < w.heap.size := lt_of_cell (h 0 c rfl)

theorem At.quiet {w w' : World} {b o : Nat} {cs : List Value} (h : At w b o cs) (hb : Quiet w w') : At w' b o cs := by
  cases cs with
  | nil => intro j v hj; simp at hj
  | cons c cs => exact h.of_below hb h.lt

theorem At.three {w : World} {b o : Nat} {x y z : Value} (h : At w b o [x, y, z]) :
    w.cell? ⟨b, o, none⟩ = some x ∧ w.cell? ⟨b, o + 1, none⟩ = some y ∧ w.cell? ⟨b, o + 2, none⟩ = some z :=
  ⟨h 0 x rfl, h 1 y rfl, h 2 z rfl⟩

theorem At.four {w : World} {b o : Nat} {x y z u : Value} (h : At w b o [x, y, z, u]) :
    w.cell? ⟨b, o, none⟩ = some x ∧ w.cell? ⟨b, o + 1, none⟩ = some y ∧ w.cell? ⟨b, o + 2, none⟩ = some z ∧ w.cell? ⟨b, o + 3, none⟩ = some u :=
  ⟨h 0 x rfl, h 1 y rfl, h 2 z rfl, h 3 u rfl⟩

/-- A slice of rows of n cells: v is it, xs its rows. -/
def Arr (w : World) (n : Nat) (v : Value) (xs : List (List Value)) : Prop :=
  ∃ a cap, v = .slice a xs.length cap ∧ xs.length ≤ cap ∧ cap ≤ maxLen ∧ (∀ x ∈ xs, x.length = n) ∧
    (xs = [] ∨ ∃ b off, a = some ⟨b, off, none⟩ ∧ ∀ i x, xs[i]? = some x → At w b (off + i * n) x)

theorem Arr.quiet {w w' : World} {n : Nat} {v : Value} {xs : List (List Value)} (h : Arr w n v xs) (hb : Quiet w w') : Arr w' n v xs := by
  obtain ⟨a, cap, h1, h2, h3, h4, h5⟩ := h
  refine ⟨a, cap, h1, h2, h3, h4, ?_⟩
  rcases h5 with h5 | ⟨b, off, ha, hx⟩
  · exact .inl h5
  · exact .inr ⟨b, off, ha, fun i x hi => (hx i x hi).quiet hb⟩

end Go.Proofs.Ytaepkehlmkpahaa

/-
  What comes in, opened: structs of one-cell fields, slices of them; over any program.
-/
import Derived.Test.YtahfdglbbdacjaaBase
import Derived.ProofKit
import Derived.Deep.Slices
namespace Go.Proofs.Ytahfdglbbdacjaa
open Go.ChangeShapes Go.WideShapes Go.RowKit Go.Deep

def oneCells (P : Program) (fs : Array Field) : Bool := (List.range fs.size).all fun i => match fs[i]? with
  | some f => f.offset == i && P.cellsOf f.type == 1
  | none => false

section
variable {H : Type} {enc : TypeId × Value → H} {P : Program} {w : World} {base : Nat} {spare : Nat → Bool} {held : Bool}

/-- A struct of one-cell fields, field by field. -/
theorem trod_fields {t : TypeId} {fs : Array Field} {fuel : Nat} {cs : List Value} {x : DataW H × List MemPlace} (ht : P.underlying t = some (.struct fs)) (hone : oneCells P fs = true) (hC : P.cellsOf t = fs.size)
    (h : DataW.trod enc P w base spare held fuel t cs = some x) :
    cs.length = fs.size ∧ ∃ n, ∀ (i : Nat) (f : Field), fs[i]? = some f → ∃ v y, cs[i]? = some v ∧ DataW.trod enc P w base spare held n f.type [v] = some y := by
  obtain ⟨xs, n, _, _, hl, hlen, hf⟩ := DataW.trod_struct ht h
  rw [hC] at hl
  refine ⟨hl, n, fun i f hi => ?_⟩
  have hlt : i < fs.size := (Array.getElem?_eq_some_iff.1 hi).1
  have h1 := List.all_eq_true.1 hone i (List.mem_range.2 hlt)
  simp only [hi, Bool.and_eq_true, beq_iff_eq] at h1
  have h2 := hf i f hi
  rw [h1.1, h1.2] at h2
  have e : (cs.drop i).take 1 = [cs[i]'(by omega)] := by
    rw [List.drop_eq_getElem_cons (by omega), List.take_succ_cons, List.take_zero]
  rw [e, List.getElem?_eq_getElem (by omega)] at h2
  exact ⟨_, _, List.getElem?_eq_getElem (by omega), h2⟩

/-- A slice of rows of one-cell fields: each row with its own readings. -/
theorem trod_rows {t e : TypeId} {fs : Array Field} {fuel : Nat} {v : Value} {x : DataW H × List MemPlace} (ht : P.underlying t = some (.slice e)) (he : P.underlying e = some (.struct fs)) (hone : oneCells P fs = true) (hC : P.cellsOf e = fs.size) (hpos : 0 < fs.size)
    (h : DataW.trod enc P w base spare held fuel t [v] = some x) :
    ∃ xs : List (List Value), Arr w fs.size v xs ∧ (∃ n, ∀ cs ∈ xs, ∀ (i : Nat) (f : Field), fs[i]? = some f → ∃ u y, cs[i]? = some u ∧ DataW.trod enc P w base spare held n f.type [u] = some y) ∧
      ((x.1 = .nil ∧ xs = []) ∨ ∃ el sp, x.1 = .slice el sp ∧ el.length = xs.length) := by
  rcases open_slice ht h with ⟨hv, rfl⟩ | ⟨a, len, cap, m, n, D, Pl, hv, hb, hl, hm, hmm, rfl, hx⟩
  · simp only [List.cons.injEq, and_true] at hv
    subst hv
    exact ⟨[], ⟨none, 0, rfl, Nat.le_refl _, Nat.zero_le _, by simp, .inl rfl⟩, ⟨0, by simp⟩, .inl ⟨rfl, rfl⟩⟩
  · simp only [List.cons.injEq, and_true] at hv
    subst hv
    have hlm : len ≤ m := by rw [hmm]; split <;> omega
    rw [hC] at hx
    have key : ∀ i, i < len → ∃ cs : List Value, cs.length = fs.size ∧ (∀ j, j < fs.size → w.cell? ((a.add (i * fs.size)).add j) = cs[j]?) ∧ ∃ k, ∀ (j : Nat) (f : Field), fs[j]? = some f → ∃ u y, cs[j]? = some u ∧ DataW.trod enc P w base spare held k f.type [u] = some y := by
      intro i hi
      obtain ⟨cs, h1, h2⟩ := hx i (by omega)
      obtain ⟨_, _, h3⟩ := World.cells?_some h1
      obtain ⟨h4, k, h5⟩ := trod_fields he hone hC h2
      exact ⟨cs, h4, h3, k, h5⟩
    obtain ⟨F, hF⟩ := choose_lt key
    obtain ⟨k, hk⟩ := fuel_lt (n := len) (q := fun i k => ∀ (j : Nat) (f : Field), fs[j]? = some f → ∃ u y, (F i)[j]? = some u ∧ DataW.trod enc P w base spare held k f.type [u] = some y)
      (fun i _ _ hab hq j f hj => let ⟨u, y, h1, h2⟩ := hq j f hj; ⟨u, y, h1, DataW.trod_le hab h2⟩) (fun i hi => (hF i hi).2.2)
    refine ⟨(List.range len).map F, ⟨some a, cap, by simp, by simpa using hl, hm, ?_, ?_⟩, ⟨k, ?_⟩, .inr ⟨_, _, rfl, by simp⟩⟩
    · intro x hx; simp at hx; obtain ⟨i, hi, rfl⟩ := hx; exact (hF i hi).1
    · by_cases h0 : len = 0
      · left; simp [h0]
      · right
        obtain ⟨b, off, spot⟩ := a
        have hs : spot = none := by
          have h1 := (hF 0 (by omega)).2.1 0 hpos
          rw [List.getElem?_eq_getElem (by rw [(hF 0 (by omega)).1]; exact hpos)] at h1
          simpa [Addr.add] using World.cell?_spot h1
        subst hs
        refine ⟨b, off, rfl, fun i x hi j v hj => ?_⟩
        have hil : i < len := by have := (List.getElem?_eq_some_iff.1 hi).1; simpa using this
        have hix : F i = x := by
          rw [List.getElem?_map, List.getElem?_range hil] at hi
          exact Option.some.inj hi
        subst hix
        replace hi := hil
        have h1 := hF i hi
        have hjl : j < fs.size := by rw [← h1.1]; exact (List.getElem?_eq_some_iff.1 hj).1
        have h2 := h1.2.1 j hjl
        rw [hj, add_add] at h2
        by_cases hz : i * fs.size + j = 0
        · have : i * fs.size = 0 ∧ j = 0 := by omega
          rw [hz] at h2
          simpa [Addr.add, this.1, this.2] using h2
        · unfold Addr.add at h2
          rw [if_neg hz] at h2
          rw [Nat.add_assoc]
          exact h2
    · intro cs hcs; simp at hcs; obtain ⟨i, hi, rfl⟩ := hcs; exact hk i hi
end

/-- A list of values that each come from something. -/
theorem list_of {α : Type} {g : α → List Value} {p : α → Prop} {xs : List (List Value)} (h : ∀ cs ∈ xs, ∃ a, cs = g a ∧ p a) : ∃ l : List α, xs = l.map g ∧ ∀ a ∈ l, p a := by
  induction xs with
  | nil => exact ⟨[], rfl, by simp⟩
  | cons c xs ih =>
    obtain ⟨l, hl, hp⟩ := ih (fun cs hcs => h cs (List.mem_cons_of_mem _ hcs))
    obtain ⟨a, ha, hpa⟩ := h c (List.mem_cons_self ..)
    exact ⟨a :: l, by rw [ha, hl]; rfl, by intro x hx; rcases List.mem_cons.1 hx with rfl | hx <;> first | exact hpa | exact hp x hx⟩

end Go.Proofs.Ytahfdglbbdacjaa

import Derived.Test.YtgcjlgaapiefiabQRecA

/-
  Walks of the document's answer: Record, of ASK.
-/
namespace Go.Proofs.Ytgcjlgaapiefiab
open Go.RowKit Go.Lib

theorem Try.info5 : (Try.prog.info? 5).map (fun i => (i.zero, i.size, i.bytes)) = some (some (.int .u8 0), 1, 1) := by kernel_rfl

theorem quiet_bytes (W : World) (e : TypeId) (s : ByteArray) : Quiet W (bytesWorld W e s) :=
  ⟨rfl, rfl, rfl, by rw [bytesWorld_size]; omega, fun k hk => bytesWorld_at_old W e s k hk⟩
/-- Bytes of one's own, read. -/
theorem own_bytes {w : World} {base : Nat} {e : TypeId} {v : Value} {n : Nat} {xs : List Int} (h : w.ownsRow base e 1 v n (xs.map (Value.int .u8))) (h0 : 0 < n) :
    ∃ g cap, v = .slice (some ⟨g, 0, none⟩) n cap ∧ g < w.heap.size ∧ xs.length = n ∧ ∀ i, i < n → w.cell? ⟨g, i, none⟩ = some (.int .u8 (xs.getD i 0)) := by
  obtain ⟨h1, h2⟩ := h
  rcases h2 with ⟨_, h2⟩ | ⟨g, cap, cur, rfl, hb, hh, hc, _, hs, ht⟩
  · omega
  · refine ⟨g, cap, rfl, ?_, by simpa using h1, fun i hi => ?_⟩
    · by_cases hg : g < w.heap.size
      · exact hg
      · rw [Array.getElem?_eq_none (by omega)] at hh; simp at hh
    · have hl : xs.length = n := by simpa using h1
      have e1 : cur.toList[i]? = some (.int .u8 (xs.getD i 0)) := by
        have e2 : (cur.toList.take (n * 1))[i]? = cur.toList[i]? := List.getElem?_take_of_lt (by omega)
        rw [← e2, ht, List.getElem?_map, List.getElem?_eq_getElem (by omega), List.getD, List.getElem?_eq_getElem (by omega)]; rfl
      simp only [World.cell?, hh]
      simpa using e1

end Go.Proofs.Ytgcjlgaapiefiab

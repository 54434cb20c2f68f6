import Derived.Test.YtgcjlgaapiefiabQRefA
import Derived.Test.YtgcjlgaapiefiabQData
import Derived.Laws.BytesArg
import Derived.Lib.ConvBytes

/-
  Walks of the document's answer: Record.
-/
namespace Go.Proofs.Ytgcjlgaapiefiab
open Go.RowKit

theorem add_strs {P : Program} (xs ys : List Int) (w : World) (hx : xs.length ≤ 100000) (hy : ys.length ≤ 100000) : (Op.stringOp .add (strOfNums xs) (strOfNums ys)).run P w = .ok (.string (strOfNums xs ++ strOfNums ys)) w :=
  run_string_add_sum w _ _ (by rw [strOfNums_size, strOfNums_size]; omega)
theorem add_strs3 {P : Program} (xs ys zs : List Int) (w : World) (hx : xs.length ≤ 100000) (hy : ys.length ≤ 100000) (hz : zs.length ≤ 100000) : (Op.stringOp .add (strOfNums xs ++ strOfNums ys) (strOfNums zs)).run P w = .ok (.string (strOfNums xs ++ strOfNums ys ++ strOfNums zs)) w :=
  run_string_add_sum w _ _ (by rw [ByteArray.size_append, strOfNums_size, strOfNums_size, strOfNums_size]; omega)
/-- Bytes that lie there, as a string. -/
theorem conv_new1 (W : World) (z : Int) : (convert 62 9 (.slice (some ⟨W.heap.size, 0, none⟩) 1 1)).run Try.prog (W.alloc (.cells #[.int .u8 z] 5)) = .ok (.string (strOfNums [z])) (W.alloc (.cells #[.int .u8 z] 5)) :=
  run_convert_bytes_arg _ 62 5 Try.underlying62 Try.underlying5 W.heap.size 0 1 1 [z] rfl (fun i hi => by
    have : i = 0 := by omega
    subst this
    rw [(Blk.new W #[.int .u8 z] 5).cell]; rfl) 9 Try.underlying9
theorem conv_new2 (W : World) (z u : Int) : (convert 62 9 (.slice (some ⟨W.heap.size, 0, none⟩) 2 2)).run Try.prog (W.alloc (.cells #[.int .u8 z, .int .u8 u] 5)) = .ok (.string (strOfNums [z, u])) (W.alloc (.cells #[.int .u8 z, .int .u8 u] 5)) :=
  run_convert_bytes_arg _ 62 5 Try.underlying62 Try.underlying5 W.heap.size 0 2 2 [z, u] rfl (fun i hi => by
    rw [(Blk.new W #[.int .u8 z, .int .u8 u] 5).cell]
    match i, hi with
    | 0, _ => rfl
    | 1, _ => rfl) 9 Try.underlying9
theorem conv_old (W : World) (g n cap : Nat) (xs : List Int) (hl : xs.length = n) (hg : g < W.heap.size) (h : ∀ i, i < n → W.cell? ⟨g, i, none⟩ = some (.int .u8 (xs.getD i 0))) (o : Obj) :
    (convert 62 9 (.slice (some ⟨g, 0, none⟩) n cap)).run Try.prog (W.alloc o) = .ok (.string (strOfNums xs)) (W.alloc o) :=
  run_convert_bytes_arg _ 62 5 Try.underlying62 Try.underlying5 g 0 n cap xs hl (fun i hi => by
    rw [Nat.zero_add]
    exact (((Below.refl W.heap.size W).alloc (Nat.le_refl _) o).cell (p := ⟨g, i, none⟩) hg).trans (h i hi)) 9 Try.underlying9

end Go.Proofs.Ytgcjlgaapiefiab

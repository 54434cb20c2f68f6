import Derived.Test.YtgcjlgaapiefiabQRecB
import Derived.Test.YtgcjlgaapiefiabQLog
import Derived.Test.YtgcjlgaapiefiabQRefA
import Derived.Deep.AppendLies

/-
  Walks of the document's answer: bytes, cut.
-/
namespace Go.Proofs.Ytgcjlgaapiefiab
open Go.RowKit

end Go.Proofs.Ytgcjlgaapiefiab

/-
  Walks of the document's answer: a script played.
-/
namespace Go.Proofs.Ytgcjlgaapiefiab
open Go.RowKit

theorem Try.info58 : (Try.prog.info? 58).map (fun i => (i.zero, i.size, i.bytes)) = some (some (.agg #[.int .i64 0, .int .i64 0, .int .i64 0, .int .i64 0]), 4, 32) := by kernel_rfl

def ansVals (l : List Answer) : List Value := (l.map Answer.cells).flatten
theorem own_cmds {w : World} {base : Nat} {v : Value} {n : Nat} {l : List Cmd} (h : w.ownsRow base 32 7 v n (cmdVals l)) (hn : n = l.length) (hl : l.length ≤ 2199023255552) : Cmds w v l :=
  ⟨own_arr (base := base) (e := 32) (n := n) h (by simpa using hn) (by intro x hx; obtain ⟨c, _, rfl⟩ := List.mem_map.1 hx; rfl), hl⟩
theorem own_answers {w : World} {base : Nat} {v : Value} {n : Nat} {l : List Answer} (h : w.ownsRow base 58 4 v n (ansVals l)) (hn : n = l.length) : Answers w v l :=
  own_arr (base := base) (e := 58) (n := n) h (by simpa using hn) (by intro x hx; obtain ⟨c, _, rfl⟩ := List.mem_map.1 hx; rfl)
theorem undrewR {w w' : World} {row : Option Nat} (h : w.drew.grownBy w' row) : w.grownBy w' row := ⟨h.os, h.tape, h.output, h.size, h.block⟩

theorem answer_new (W : World) (a b c d : Value) : ∀ j u, [a, b, c, d][j]? = some u → (W.alloc (.cells #[a, b, c, d] 58)).cell? ((⟨W.heap.size, 0, none⟩ : Addr).add j) = some u := by
  have := World.news_of_block (heap_alloc_new W (.cells #[a, b, c, d] 58))
  simpa using this

end Go.Proofs.Ytgcjlgaapiefiab

/-
  No cell of these rows narrows 'for every input' (looked for: loops, veiled, ifaces, maps, wideKeys, modest, calm, conditions, laid).
  DERIVED. THE GIVEN ROWS OF THIS SEAT. 3 by the template 'for every input the law returns true; each argument reads behind the call as it read before'; 0 by the template 'total and deterministic' (their statements: YtgcjlgaapiefiabTotals.lean).
  GIVEN WITH THE SEED: the statements are not yours to turn. If you find one false, say at which input.
  Laid BY PROGRAM, IN A SANDBOX (cutbox-rows.mjs): the forced cells as the released guide's own fill.sh prints them over the translation 0a75a15b28e08327… (all of the seat's roots in one cut). By AI agents, Wed Nov 11 2026. No macro, syntax, notation, axiom, sorry.
-/
import Derived.Test.YtgcjlgaapiefiabChecked
import GoSem.Claim
import GoSem.ClaimJoined
import GoSem.ClaimMapViews
import Derived.JoinedTies
import Derived.KernelRfl
namespace Go.Proofs.Ytgcjlgaapiefiab
/- THE CELL 'sum', in the pinned program and in every row, IS THE sha256 OF THE DUMP (.gsa) THAT YtgcjlgaapiefiabProg.lean LOADS. Nothing in Lean hashes anything: it is a label: what it is worth is what the hold of that sum in a sandbox is worth. -/
noncomputable def Try.pinned : Pinned := { name := "ytgcjlgaapiefiab", sum := "0a75a15b28e083278405e09f04ad09bbbb6bb33afb22d2b8550753193093a453", checked := Try.checked }
namespace Rows
def none {H : Type} : Left H := { results := [], args := [] }

/-- 'sagakeep.Restored': WHATEVER THE INPUT: true; the input reads as it did. -/
def restoredSpec : ChangeSpec := { name := "restored", fn := fun _ => fun
  | [d1, d2, d3] => { results := [.lit (.bool true)], args := [d1, d2, d3] }
  | _ => none }
def restoredRow : OpenClaim := { program := "ytgcjlgaapiefiab", sum := "0a75a15b28e083278405e09f04ad09bbbb6bb33afb22d2b8550753193093a453", func := "saga/sagakeep.Restored", spec := "restored", apart := false }
def RestoredSaid : Prop := restoredRow.holds Try.pinned (OpenSpec.ofChange restoredSpec)

/-- ITS FALSE NEIGHBOUR: 'it returns false'. Refute it at one input. -/
def restoredWrong : ChangeSpec := { name := "restored", fn := fun _ => fun
  | [d1, d2, d3] => { results := [.lit (.bool false)], args := [d1, d2, d3] }
  | _ => none }
def RestoredWrongFalsely : Prop := restoredRow.holds Try.pinned (OpenSpec.ofChange restoredWrong)

/-- 'sagakeep.Torn': WHATEVER THE INPUT: true; the input reads as it did. -/
def tornSpec : ChangeSpec := { name := "torn", fn := fun _ => fun
  | [d1, d2, d3] => { results := [.lit (.bool true)], args := [d1, d2, d3] }
  | _ => none }
def tornRow : OpenClaim := { program := "ytgcjlgaapiefiab", sum := "0a75a15b28e083278405e09f04ad09bbbb6bb33afb22d2b8550753193093a453", func := "saga/sagakeep.Torn", spec := "torn", apart := false }
def TornSaid : Prop := tornRow.holds Try.pinned (OpenSpec.ofChange tornSpec)

/-- ITS FALSE NEIGHBOUR: 'it returns false'. Refute it at one input. -/
def tornWrong : ChangeSpec := { name := "torn", fn := fun _ => fun
  | [d1, d2, d3] => { results := [.lit (.bool false)], args := [d1, d2, d3] }
  | _ => none }
def TornWrongFalsely : Prop := tornRow.holds Try.pinned (OpenSpec.ofChange tornWrong)

/-- 'sagakeep.Safe': WHATEVER THE INPUT: true; the input reads as it did. -/
def safeSpec : ChangeSpec := { name := "safe", fn := fun _ => fun
  | [d1, d2, d3] => { results := [.lit (.bool true)], args := [d1, d2, d3] }
  | _ => none }
def safeRow : OpenClaim := { program := "ytgcjlgaapiefiab", sum := "0a75a15b28e083278405e09f04ad09bbbb6bb33afb22d2b8550753193093a453", func := "saga/sagakeep.Safe", spec := "safe", apart := false }
def SafeSaid : Prop := safeRow.holds Try.pinned (OpenSpec.ofChange safeSpec)

/-- ITS FALSE NEIGHBOUR: 'it returns false'. Refute it at one input. -/
def safeWrong : ChangeSpec := { name := "safe", fn := fun _ => fun
  | [d1, d2, d3] => { results := [.lit (.bool false)], args := [d1, d2, d3] }
  | _ => none }
def SafeWrongFalsely : Prop := safeRow.holds Try.pinned (OpenSpec.ofChange safeWrong)

/- THE SECOND FORM. 'bulk': how many values and letters a reading holds, each counted each time it is reached (what is shared counts as often as it is met; a slice's spare places count too). A statement '..UptoSaid' is the law's where the arguments, and the package variables that the reading takes, are together of bulk at most 1048576: NARROWER than '..Said'. Prove '..Said' where nothing that the law and all that it calls make is longer than what came in: it says more and counts as full. Else prove '..UptoSaid'. A law counts once. -/
mutual
def uptoBulk {H : Type} : DataW H → Nat
  | .lit (.string bytes) => bytes.length + 1
  | .lit _ => 1
  | .nil => 1
  | .ptr d => uptoBulk d + 1
  | .slice elems spare => uptoBulkAll elems + uptoBulkAll spare + 1
  | .agg parts => uptoBulkAll parts + 1
  | .iface _ d => uptoBulk d + 1
  | .map entries => uptoBulkEntries entries + 1
  | .held _ => 1
def uptoBulkAll {H : Type} : List (DataW H) → Nat
  | [] => 0
  | d :: r => uptoBulk d + uptoBulkAll r
def uptoBulkEntries {H : Type} : List (Lit × DataW H) → Nat
  | [] => 0
  | x :: r => uptoBulkEntry x + uptoBulkEntries r
def uptoBulkEntry {H : Type} : Lit × DataW H → Nat
  | (.string bytes, d) => bytes.length + uptoBulk d + 1
  | (_, d) => uptoBulk d + 1
 end
def uptoSmall : (H : Type) → List (DataW H) → Bool := fun _ ds => decide (uptoBulkAll ds ≤ 1048576)
def OpenSpec.upto (s : _root_.Go.ChangeSpec) : _root_.Go.OpenSpec := { _root_.Go.OpenSpec.ofChange s with cond := some uptoSmall }

/-- 'sagakeep.Restored', WHERE WHAT IT READS IS OF BULK AT MOST 1048576: true; the input reads as it did. -/
def restoredUptoRow : OpenClaim := { program := "ytgcjlgaapiefiab", sum := "0a75a15b28e083278405e09f04ad09bbbb6bb33afb22d2b8550753193093a453", func := "saga/sagakeep.Restored", spec := "restored", apart := false, narrowed := true }
def RestoredUptoSaid : Prop := restoredUptoRow.holds Try.pinned (OpenSpec.upto restoredSpec)

/-- 'sagakeep.Torn', WHERE WHAT IT READS IS OF BULK AT MOST 1048576: true; the input reads as it did. -/
def tornUptoRow : OpenClaim := { program := "ytgcjlgaapiefiab", sum := "0a75a15b28e083278405e09f04ad09bbbb6bb33afb22d2b8550753193093a453", func := "saga/sagakeep.Torn", spec := "torn", apart := false, narrowed := true }
def TornUptoSaid : Prop := tornUptoRow.holds Try.pinned (OpenSpec.upto tornSpec)

/-- 'sagakeep.Safe', WHERE WHAT IT READS IS OF BULK AT MOST 1048576: true; the input reads as it did. -/
def safeUptoRow : OpenClaim := { program := "ytgcjlgaapiefiab", sum := "0a75a15b28e083278405e09f04ad09bbbb6bb33afb22d2b8550753193093a453", func := "saga/sagakeep.Safe", spec := "safe", apart := false, narrowed := true }
def SafeUptoSaid : Prop := safeUptoRow.holds Try.pinned (OpenSpec.upto safeSpec)

end Rows
end Go.Proofs.Ytgcjlgaapiefiab

/-
  No cell of these rows narrows 'for every input' (looked for: loops, veiled, ifaces, maps, wideKeys, modest, calm, conditions, laid).
  DERIVED. THE GIVEN ROWS OF THIS SEAT. 10 by the template 'for every input the law returns true; each argument reads behind the call as it read before'; 0 by the template 'total and deterministic' (their statements: YtgcjlgaapiefiaaTotals.lean).
  GIVEN WITH THE SEED: the statements are not yours to turn. If you find one false, say at which input.
  Laid BY PROGRAM, IN A SANDBOX (cutbox-rows.mjs): the forced cells as the released guide's own fill.sh prints them over the translation 1600c14e783707a6… (all of the seat's roots in one cut). By AI agents, Wed Nov 11 2026. No macro, syntax, notation, axiom, sorry.
-/
import Derived.Test.YtgcjlgaapiefiaaChecked
import GoSem.Claim
import GoSem.ClaimJoined
import GoSem.ClaimMapViews
import Derived.JoinedTies
import Derived.KernelRfl
namespace Go.Proofs.Ytgcjlgaapiefiaa
/- THE CELL 'sum', in the pinned program and in every row, IS THE sha256 OF THE DUMP (.gsa) THAT YtgcjlgaapiefiaaProg.lean LOADS. Nothing in Lean hashes anything: it is a label: what it is worth is what the hold of that sum in a sandbox is worth. -/
noncomputable def Try.pinned : Pinned := { name := "ytgcjlgaapiefiaa", sum := "1600c14e783707a698b03e2d891c3a9ff998000091edd7594b884bcc57e3fd24", checked := Try.checked }
namespace Rows
def none {H : Type} : Left H := { results := [], args := [] }

/-- 'sagalaw.Checks': WHATEVER THE INPUT: true; the input reads as it did. -/
def checksSpec : ChangeSpec := { name := "checks", fn := fun _ => fun
  | [d] => { results := [.lit (.bool true)], args := [d] }
  | _ => none }
def checksRow : OpenClaim := { program := "ytgcjlgaapiefiaa", sum := "1600c14e783707a698b03e2d891c3a9ff998000091edd7594b884bcc57e3fd24", func := "saga/sagalaw.Checks", spec := "checks", apart := false }
def ChecksSaid : Prop := checksRow.holds Try.pinned (OpenSpec.ofChange checksSpec)

/-- ITS FALSE NEIGHBOUR: 'it returns false'. Refute it at one input. -/
def checksWrong : ChangeSpec := { name := "checks", fn := fun _ => fun
  | [d] => { results := [.lit (.bool false)], args := [d] }
  | _ => none }
def ChecksWrongFalsely : Prop := checksRow.holds Try.pinned (OpenSpec.ofChange checksWrong)

/-- 'sagalaw.Answers': WHATEVER THE INPUT: true; the input reads as it did. -/
def answersSpec : ChangeSpec := { name := "answers", fn := fun _ => fun
  | [d1, d2] => { results := [.lit (.bool true)], args := [d1, d2] }
  | _ => none }
def answersRow : OpenClaim := { program := "ytgcjlgaapiefiaa", sum := "1600c14e783707a698b03e2d891c3a9ff998000091edd7594b884bcc57e3fd24", func := "saga/sagalaw.Answers", spec := "answers", apart := false }
def AnswersSaid : Prop := answersRow.holds Try.pinned (OpenSpec.ofChange answersSpec)

/-- ITS FALSE NEIGHBOUR: 'it returns false'. Refute it at one input. -/
def answersWrong : ChangeSpec := { name := "answers", fn := fun _ => fun
  | [d1, d2] => { results := [.lit (.bool false)], args := [d1, d2] }
  | _ => none }
def AnswersWrongFalsely : Prop := answersRow.holds Try.pinned (OpenSpec.ofChange answersWrong)

/-- 'sagalaw.Worlds': WHATEVER THE INPUT: true; the input reads as it did. -/
def worldsSpec : ChangeSpec := { name := "worlds", fn := fun _ => fun
  | [d1, d2] => { results := [.lit (.bool true)], args := [d1, d2] }
  | _ => none }
def worldsRow : OpenClaim := { program := "ytgcjlgaapiefiaa", sum := "1600c14e783707a698b03e2d891c3a9ff998000091edd7594b884bcc57e3fd24", func := "saga/sagalaw.Worlds", spec := "worlds", apart := false }
def WorldsSaid : Prop := worldsRow.holds Try.pinned (OpenSpec.ofChange worldsSpec)

/-- ITS FALSE NEIGHBOUR: 'it returns false'. Refute it at one input. -/
def worldsWrong : ChangeSpec := { name := "worlds", fn := fun _ => fun
  | [d1, d2] => { results := [.lit (.bool false)], args := [d1, d2] }
  | _ => none }
def WorldsWrongFalsely : Prop := worldsRow.holds Try.pinned (OpenSpec.ofChange worldsWrong)

/-- 'sagakeep.Ledgers': WHATEVER THE INPUT: true; the input reads as it did. -/
def ledgersSpec : ChangeSpec := { name := "ledgers", fn := fun _ => fun
  | [d1, d2] => { results := [.lit (.bool true)], args := [d1, d2] }
  | _ => none }
def ledgersRow : OpenClaim := { program := "ytgcjlgaapiefiaa", sum := "1600c14e783707a698b03e2d891c3a9ff998000091edd7594b884bcc57e3fd24", func := "saga/sagakeep.Ledgers", spec := "ledgers", apart := false }
def LedgersSaid : Prop := ledgersRow.holds Try.pinned (OpenSpec.ofChange ledgersSpec)

/-- ITS FALSE NEIGHBOUR: 'it returns false'. Refute it at one input. -/
def ledgersWrong : ChangeSpec := { name := "ledgers", fn := fun _ => fun
  | [d1, d2] => { results := [.lit (.bool false)], args := [d1, d2] }
  | _ => none }
def LedgersWrongFalsely : Prop := ledgersRow.holds Try.pinned (OpenSpec.ofChange ledgersWrong)

/-- 'sagakeep.Backed': WHATEVER THE INPUT: true; the input reads as it did. -/
def backedSpec : ChangeSpec := { name := "backed", fn := fun _ => fun
  | [d1, d2] => { results := [.lit (.bool true)], args := [d1, d2] }
  | _ => none }
def backedRow : OpenClaim := { program := "ytgcjlgaapiefiaa", sum := "1600c14e783707a698b03e2d891c3a9ff998000091edd7594b884bcc57e3fd24", func := "saga/sagakeep.Backed", spec := "backed", apart := false }
def BackedSaid : Prop := backedRow.holds Try.pinned (OpenSpec.ofChange backedSpec)

/-- ITS FALSE NEIGHBOUR: 'it returns false'. Refute it at one input. -/
def backedWrong : ChangeSpec := { name := "backed", fn := fun _ => fun
  | [d1, d2] => { results := [.lit (.bool false)], args := [d1, d2] }
  | _ => none }
def BackedWrongFalsely : Prop := backedRow.holds Try.pinned (OpenSpec.ofChange backedWrong)

/-- 'sagakeep.Keyed': WHATEVER THE INPUT: true; the input reads as it did. -/
def keyedSpec : ChangeSpec := { name := "keyed", fn := fun _ => fun
  | [d1, d2] => { results := [.lit (.bool true)], args := [d1, d2] }
  | _ => none }
def keyedRow : OpenClaim := { program := "ytgcjlgaapiefiaa", sum := "1600c14e783707a698b03e2d891c3a9ff998000091edd7594b884bcc57e3fd24", func := "saga/sagakeep.Keyed", spec := "keyed", apart := false }
def KeyedSaid : Prop := keyedRow.holds Try.pinned (OpenSpec.ofChange keyedSpec)

/-- ITS FALSE NEIGHBOUR: 'it returns false'. Refute it at one input. -/
def keyedWrong : ChangeSpec := { name := "keyed", fn := fun _ => fun
  | [d1, d2] => { results := [.lit (.bool false)], args := [d1, d2] }
  | _ => none }
def KeyedWrongFalsely : Prop := keyedRow.holds Try.pinned (OpenSpec.ofChange keyedWrong)

/-- 'sagakeep.Refused': WHATEVER THE INPUT: true; the input reads as it did. -/
def refusedSpec : ChangeSpec := { name := "refused", fn := fun _ => fun
  | [d1, d2, d3] => { results := [.lit (.bool true)], args := [d1, d2, d3] }
  | _ => none }
def refusedRow : OpenClaim := { program := "ytgcjlgaapiefiaa", sum := "1600c14e783707a698b03e2d891c3a9ff998000091edd7594b884bcc57e3fd24", func := "saga/sagakeep.Refused", spec := "refused", apart := false }
def RefusedSaid : Prop := refusedRow.holds Try.pinned (OpenSpec.ofChange refusedSpec)

/-- ITS FALSE NEIGHBOUR: 'it returns false'. Refute it at one input. -/
def refusedWrong : ChangeSpec := { name := "refused", fn := fun _ => fun
  | [d1, d2, d3] => { results := [.lit (.bool false)], args := [d1, d2, d3] }
  | _ => none }
def RefusedWrongFalsely : Prop := refusedRow.holds Try.pinned (OpenSpec.ofChange refusedWrong)

/-- 'sagakeep.Onward': WHATEVER THE INPUT: true; the input reads as it did. -/
def onwardSpec : ChangeSpec := { name := "onward", fn := fun _ => fun
  | [d1, d2, d3] => { results := [.lit (.bool true)], args := [d1, d2, d3] }
  | _ => none }
def onwardRow : OpenClaim := { program := "ytgcjlgaapiefiaa", sum := "1600c14e783707a698b03e2d891c3a9ff998000091edd7594b884bcc57e3fd24", func := "saga/sagakeep.Onward", spec := "onward", apart := false }
def OnwardSaid : Prop := onwardRow.holds Try.pinned (OpenSpec.ofChange onwardSpec)

/-- ITS FALSE NEIGHBOUR: 'it returns false'. Refute it at one input. -/
def onwardWrong : ChangeSpec := { name := "onward", fn := fun _ => fun
  | [d1, d2, d3] => { results := [.lit (.bool false)], args := [d1, d2, d3] }
  | _ => none }
def OnwardWrongFalsely : Prop := onwardRow.holds Try.pinned (OpenSpec.ofChange onwardWrong)

/-- 'sagalaw.Journals': WHATEVER THE INPUT: true; the input reads as it did. -/
def journalsSpec : ChangeSpec := { name := "journals", fn := fun _ => fun
  | [d1, d2] => { results := [.lit (.bool true)], args := [d1, d2] }
  | _ => none }
def journalsRow : OpenClaim := { program := "ytgcjlgaapiefiaa", sum := "1600c14e783707a698b03e2d891c3a9ff998000091edd7594b884bcc57e3fd24", func := "saga/sagalaw.Journals", spec := "journals", apart := false }
def JournalsSaid : Prop := journalsRow.holds Try.pinned (OpenSpec.ofChange journalsSpec)

/-- ITS FALSE NEIGHBOUR: 'it returns false'. Refute it at one input. -/
def journalsWrong : ChangeSpec := { name := "journals", fn := fun _ => fun
  | [d1, d2] => { results := [.lit (.bool false)], args := [d1, d2] }
  | _ => none }
def JournalsWrongFalsely : Prop := journalsRow.holds Try.pinned (OpenSpec.ofChange journalsWrong)

/-- 'sagalaw.Recovers': WHATEVER THE INPUT: true; the input reads as it did. -/
def recoversSpec : ChangeSpec := { name := "recovers", fn := fun _ => fun
  | [d1, d2] => { results := [.lit (.bool true)], args := [d1, d2] }
  | _ => none }
def recoversRow : OpenClaim := { program := "ytgcjlgaapiefiaa", sum := "1600c14e783707a698b03e2d891c3a9ff998000091edd7594b884bcc57e3fd24", func := "saga/sagalaw.Recovers", spec := "recovers", apart := false }
def RecoversSaid : Prop := recoversRow.holds Try.pinned (OpenSpec.ofChange recoversSpec)

/-- ITS FALSE NEIGHBOUR: 'it returns false'. Refute it at one input. -/
def recoversWrong : ChangeSpec := { name := "recovers", fn := fun _ => fun
  | [d1, d2] => { results := [.lit (.bool false)], args := [d1, d2] }
  | _ => none }
def RecoversWrongFalsely : Prop := recoversRow.holds Try.pinned (OpenSpec.ofChange recoversWrong)

/- THE SECOND FORM. 'bulk': how many values and letters a reading holds, each counted each time it is reached (what is shared counts as often as it is met; a slice's spare places count too). A statement '..UptoSaid' is the law's where the arguments, and the package variables that the reading takes, are together of bulk at most 1048576: NARROWER than '..Said'. Prove '..Said' where nothing that the law and all that it calls make is longer than what came in: it says more and counts as full. Else prove '..UptoSaid'. A law counts once. -/
mutual
def uptoBulk {H : Type} : DataW H → Nat
  | .lit (.string bytes) => bytes.length + 1
  | .lit _ => 1
  | .nil => 1
  | .ptr d => uptoBulk d + 1
  | .slice elems spare => uptoBulkAll elems + uptoBulkAll spare + 1
  | .agg parts => uptoBulkAll parts + 1
  | .iface _ d => uptoBulk d + 1
  | .map entries => uptoBulkEntries entries + 1
  | .held _ => 1
def uptoBulkAll {H : Type} : List (DataW H) → Nat
  | [] => 0
  | d :: r => uptoBulk d + uptoBulkAll r
def uptoBulkEntries {H : Type} : List (Lit × DataW H) → Nat
  | [] => 0
  | x :: r => uptoBulkEntry x + uptoBulkEntries r
def uptoBulkEntry {H : Type} : Lit × DataW H → Nat
  | (.string bytes, d) => bytes.length + uptoBulk d + 1
  | (_, d) => uptoBulk d + 1
 end
def uptoSmall : (H : Type) → List (DataW H) → Bool := fun _ ds => decide (uptoBulkAll ds ≤ 1048576)
def OpenSpec.upto (s : _root_.Go.ChangeSpec) : _root_.Go.OpenSpec := { _root_.Go.OpenSpec.ofChange s with cond := some uptoSmall }

/-- 'sagalaw.Checks', WHERE WHAT IT READS IS OF BULK AT MOST 1048576: true; the input reads as it did. -/
def checksUptoRow : OpenClaim := { program := "ytgcjlgaapiefiaa", sum := "1600c14e783707a698b03e2d891c3a9ff998000091edd7594b884bcc57e3fd24", func := "saga/sagalaw.Checks", spec := "checks", apart := false, narrowed := true }
def ChecksUptoSaid : Prop := checksUptoRow.holds Try.pinned (OpenSpec.upto checksSpec)

/-- 'sagalaw.Answers', WHERE WHAT IT READS IS OF BULK AT MOST 1048576: true; the input reads as it did. -/
def answersUptoRow : OpenClaim := { program := "ytgcjlgaapiefiaa", sum := "1600c14e783707a698b03e2d891c3a9ff998000091edd7594b884bcc57e3fd24", func := "saga/sagalaw.Answers", spec := "answers", apart := false, narrowed := true }
def AnswersUptoSaid : Prop := answersUptoRow.holds Try.pinned (OpenSpec.upto answersSpec)

/-- 'sagalaw.Worlds', WHERE WHAT IT READS IS OF BULK AT MOST 1048576: true; the input reads as it did. -/
def worldsUptoRow : OpenClaim := { program := "ytgcjlgaapiefiaa", sum := "1600c14e783707a698b03e2d891c3a9ff998000091edd7594b884bcc57e3fd24", func := "saga/sagalaw.Worlds", spec := "worlds", apart := false, narrowed := true }
def WorldsUptoSaid : Prop := worldsUptoRow.holds Try.pinned (OpenSpec.upto worldsSpec)

/-- 'sagakeep.Ledgers', WHERE WHAT IT READS IS OF BULK AT MOST 1048576: true; the input reads as it did. -/
def ledgersUptoRow : OpenClaim := { program := "ytgcjlgaapiefiaa", sum := "1600c14e783707a698b03e2d891c3a9ff998000091edd7594b884bcc57e3fd24", func := "saga/sagakeep.Ledgers", spec := "ledgers", apart := false, narrowed := true }
def LedgersUptoSaid : Prop := ledgersUptoRow.holds Try.pinned (OpenSpec.upto ledgersSpec)

/-- 'sagakeep.Backed', WHERE WHAT IT READS IS OF BULK AT MOST 1048576: true; the input reads as it did. -/
def backedUptoRow : OpenClaim := { program := "ytgcjlgaapiefiaa", sum := "1600c14e783707a698b03e2d891c3a9ff998000091edd7594b884bcc57e3fd24", func := "saga/sagakeep.Backed", spec := "backed", apart := false, narrowed := true }
def BackedUptoSaid : Prop := backedUptoRow.holds Try.pinned (OpenSpec.upto backedSpec)

/-- 'sagakeep.Keyed', WHERE WHAT IT READS IS OF BULK AT MOST 1048576: true; the input reads as it did. -/
def keyedUptoRow : OpenClaim := { program := "ytgcjlgaapiefiaa", sum := "1600c14e783707a698b03e2d891c3a9ff998000091edd7594b884bcc57e3fd24", func := "saga/sagakeep.Keyed", spec := "keyed", apart := false, narrowed := true }
def KeyedUptoSaid : Prop := keyedUptoRow.holds Try.pinned (OpenSpec.upto keyedSpec)

/-- 'sagakeep.Refused', WHERE WHAT IT READS IS OF BULK AT MOST 1048576: true; the input reads as it did. -/
def refusedUptoRow : OpenClaim := { program := "ytgcjlgaapiefiaa", sum := "1600c14e783707a698b03e2d891c3a9ff998000091edd7594b884bcc57e3fd24", func := "saga/sagakeep.Refused", spec := "refused", apart := false, narrowed := true }
def RefusedUptoSaid : Prop := refusedUptoRow.holds Try.pinned (OpenSpec.upto refusedSpec)

/-- 'sagakeep.Onward', WHERE WHAT IT READS IS OF BULK AT MOST 1048576: true; the input reads as it did. -/
def onwardUptoRow : OpenClaim := { program := "ytgcjlgaapiefiaa", sum := "1600c14e783707a698b03e2d891c3a9ff998000091edd7594b884bcc57e3fd24", func := "saga/sagakeep.Onward", spec := "onward", apart := false, narrowed := true }
def OnwardUptoSaid : Prop := onwardUptoRow.holds Try.pinned (OpenSpec.upto onwardSpec)

/-- 'sagalaw.Journals', WHERE WHAT IT READS IS OF BULK AT MOST 1048576: true; the input reads as it did. -/
def journalsUptoRow : OpenClaim := { program := "ytgcjlgaapiefiaa", sum := "1600c14e783707a698b03e2d891c3a9ff998000091edd7594b884bcc57e3fd24", func := "saga/sagalaw.Journals", spec := "journals", apart := false, narrowed := true }
def JournalsUptoSaid : Prop := journalsUptoRow.holds Try.pinned (OpenSpec.upto journalsSpec)

/-- 'sagalaw.Recovers', WHERE WHAT IT READS IS OF BULK AT MOST 1048576: true; the input reads as it did. -/
def recoversUptoRow : OpenClaim := { program := "ytgcjlgaapiefiaa", sum := "1600c14e783707a698b03e2d891c3a9ff998000091edd7594b884bcc57e3fd24", func := "saga/sagalaw.Recovers", spec := "recovers", apart := false, narrowed := true }
def RecoversUptoSaid : Prop := recoversUptoRow.holds Try.pinned (OpenSpec.upto recoversSpec)

end Rows
end Go.Proofs.Ytgcjlgaapiefiaa

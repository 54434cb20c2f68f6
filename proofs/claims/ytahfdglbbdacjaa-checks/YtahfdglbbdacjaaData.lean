/-
  The plain data of the program, as Lean data; Check.
-/
import Derived.Below
namespace Go.Proofs.Ytahfdglbbdacjaa

structure Step where
  undo : Bool
  pivot : Bool
  retries : Int
  timeout : Int
  deriving Inhabited

structure Def where
  steps : List Step
  quorum : Int
  expiry : Int
  deriving Inhabited

def Step.cells (s : Step) : List Value := [.bool s.undo, .bool s.pivot, .int .i64 s.retries, .int .i64 s.timeout]

def within (n lo hi : Int) : Bool := decide (lo ≤ n) && decide (n ≤ hi)
def Step.ok (s : Step) : Bool := within s.retries 0 3 && within s.timeout 1 20
def pivots : List Step → Nat
  | [] => 0
  | s :: l => (if s.pivot then 1 else 0) + pivots l
def stepsOk (l : List Step) : Bool := l.all Step.ok && decide (pivots l ≤ 1)
def Def.ok (d : Def) : Bool := within d.steps.length 1 6 && (within d.quorum 0 3 && (within d.expiry 1 50 && stepsOk d.steps))

theorem pivots_snoc (l : List Step) (s : Step) : pivots (l ++ [s]) = pivots l + (if s.pivot then 1 else 0) := by
  induction l with
  | nil => simp [pivots]
  | cons a l ih => simp [pivots, ih]; omega
theorem pivots_le (l : List Step) : pivots l ≤ l.length := by
  induction l with
  | nil => simp [pivots]
  | cons a l ih => simp only [pivots, List.length_cons]; split <;> omega
theorem take_snoc (l : List Step) (k : Nat) (h : k < l.length) : l.take (k + 1) = l.take k ++ [l[k]] := by
  rw [List.take_succ_eq_append_getElem h]

theorem pivots_take (l : List Step) (k : Nat) (h : k < l.length) : pivots (l.take (k + 1)) = pivots (l.take k) + (if l[k].pivot then 1 else 0) := by
  rw [take_snoc l k h, pivots_snoc]
theorem all_take (l : List Step) (k : Nat) (h : k < l.length) : (l.take (k + 1)).all Step.ok = ((l.take k).all Step.ok && l[k].ok) := by
  rw [take_snoc l k h, List.all_append]; simp

/-- A bad step anywhere. -/
theorem stepsOk_bad (l : List Step) (k : Nat) (h : k < l.length) (hb : l[k].ok = false) : stepsOk l = false := by
  unfold stepsOk
  have : l.all Step.ok = false := by
    rw [List.all_eq_false]
    exact ⟨l[k], List.getElem_mem h, by simp [hb]⟩
  simp [this]

end Go.Proofs.Ytahfdglbbdacjaa

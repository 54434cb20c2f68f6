import Derived.Below
import Derived.Laws.BytesArg

/-
  The plain data of the program, as Lean data; Check.
-/
namespace Go.Proofs.YtgcjlgaapiefiabGreat

structure Step where
  undo : Bool
  pivot : Bool
  retries : Int
  timeout : Int
  deriving Inhabited

structure Def where
  steps : List Step
  quorum : Int
  expiry : Int
  deriving Inhabited

def Step.cells (s : Step) : List Value := [.bool s.undo, .bool s.pivot, .int .i64 s.retries, .int .i64 s.timeout]

def within (n lo hi : Int) : Bool := decide (lo ≤ n) && decide (n ≤ hi)
def Step.ok (s : Step) : Bool := within s.retries 0 3 && within s.timeout 1 20
def pivots : List Step → Nat
  | [] => 0
  | s :: l => (if s.pivot then 1 else 0) + pivots l
def stepsOk (l : List Step) : Bool := l.all Step.ok && decide (pivots l ≤ 1)
def Def.ok (d : Def) : Bool := within d.steps.length 1 6 && (within d.quorum 0 3 && (within d.expiry 1 50 && stepsOk d.steps))

theorem pivots_snoc (l : List Step) (s : Step) : pivots (l ++ [s]) = pivots l + (if s.pivot then 1 else 0) := by
  induction l with
  | nil => simp [pivots]
  | cons a l ih => simp [pivots, ih]; omega
theorem pivots_le (l : List Step) : pivots l ≤ l.length := by
  induction l with
  | nil => simp [pivots]
  | cons a l ih => simp only [pivots, List.length_cons]; split <;> omega
theorem take_snoc (l : List Step) (k : Nat) (h : k < l.length) : l.take (k + 1) = l.take k ++ [l[k]] := by
  rw [List.take_succ_eq_append_getElem h]

theorem pivots_take (l : List Step) (k : Nat) (h : k < l.length) : pivots (l.take (k + 1)) = pivots (l.take k) + (if l[k].pivot then 1 else 0) := by
  rw [take_snoc l k h, pivots_snoc]
theorem all_take (l : List Step) (k : Nat) (h : k < l.length) : (l.take (k + 1)).all Step.ok = ((l.take k).all Step.ok && l[k].ok) := by
  rw [take_snoc l k h, List.all_append]; simp

/-- A bad step anywhere. -/
theorem stepsOk_bad (l : List Step) (k : Nat) (h : k < l.length) (hb : l[k].ok = false) : stepsOk l = false := by
  unfold stepsOk
  have : l.all Step.ok = false := by
    rw [List.all_eq_false]
    exact ⟨l[k], List.getElem_mem h, by simp [hb]⟩
  simp [this]

end Go.Proofs.YtgcjlgaapiefiabGreat

/-
  The plain data of the program, as Lean data: commands, answers, entries, instances, requests; facts.
-/
namespace Go.Proofs.YtgcjlgaapiefiabGreat

structure Cmd where
  kind : Int
  inst : Int
  a : Int
  b : Int
  who : Int
  reason : ByteArray
  dry : Bool
  deriving Inhabited

structure Answer where
  code : Int
  number : Int
  step : Int
  what : Int
  deriving Inhabited, DecidableEq

structure Entry where
  kind : Int
  step : Int
  ref : Int
  deriving Inhabited, DecidableEq

structure Inst where
  id : Int
  mode : Int
  stuck : Bool
  settled : Int
  target : Int
  resume : Bool
  keys : Int
  key : Int
  due : Int
  tries : Int
  wake : Int
  ledger : List Entry
  deriving Inhabited, DecidableEq

structure Req where
  number : Int
  inst : Int
  what : Int
  target : Int
  who : Int
  reason : ByteArray
  bys : List Int
  upto : Int
  closed : Bool
  deriving Inhabited

structure Fact where
  kind : Int
  at_ : Int
  what : Int
  target : Int
  ref : Int
  deriving Inhabited, DecidableEq

def Cmd.cells (c : Cmd) : List Value := [.int .i64 c.kind, .int .i64 c.inst, .int .i64 c.a, .int .i64 c.b, .int .i64 c.who, .string c.reason, .bool c.dry]
def Answer.cells (a : Answer) : List Value := [.int .i64 a.code, .int .i64 a.number, .int .i64 a.step, .int .i64 a.what]
def Entry.cells (e : Entry) : List Value := [.int .i64 e.kind, .int .i64 e.step, .int .i64 e.ref]
def Fact.cells (f : Fact) : List Value := [.int .i64 f.kind, .int .i64 f.at_, .int .i64 f.what, .int .i64 f.target, .int .i64 f.ref]
/-- An instance, its ledger's slice given. -/
def Inst.cells (x : Inst) (lv : Value) : List Value := [.int .i64 x.id, .int .i64 x.mode, .bool x.stuck, .int .i64 x.settled, .int .i64 x.target, .bool x.resume, .int .i64 x.keys, .int .i64 x.key, .int .i64 x.due, .int .i64 x.tries, .int .i64 x.wake, lv]
def Req.cells (r : Req) (bv : Value) : List Value := [.int .i64 r.number, .int .i64 r.inst, .int .i64 r.what, .int .i64 r.target, .int .i64 r.who, .string r.reason, bv, .int .i64 r.upto, .bool r.closed]

/-! ### the document's functions -/

def clockStep (n : Int) (c : Cmd) : Int := if c.kind = 4 then n + c.a else n
def clockR (l : List Cmd) : Int := l.foldl clockStep 0
def startedStep (l : List Int) (c : Cmd) : List Int := if c.kind = 1 then l ++ [c.inst] else l
def startedR (l : List Cmd) : List Int := l.foldl startedStep []
def settledStep (n : Int) (e : Entry) : Int := if e.kind = 1 ∨ e.kind = 2 then n + 1 else n - 1
def settledR (l : List Entry) : Int := l.foldl settledStep 0

theorem foldl_take_succ {α β : Type} (f : β → α → β) (z : β) (l : List α) (k : Nat) (h : k < l.length) : (l.take (k + 1)).foldl f z = f ((l.take k).foldl f z) l[k] := by
  rw [List.take_succ_eq_append_getElem h, List.foldl_append]; rfl

theorem settledR_bd (l : List Entry) : -(l.length : Int) ≤ settledR l ∧ settledR l ≤ l.length := by
  unfold settledR
  suffices h : ∀ z : Int, z - l.length ≤ l.foldl settledStep z ∧ l.foldl settledStep z ≤ z + l.length by have := h 0; omega
  induction l with
  | nil => intro z; simp
  | cons e l ih =>
    intro z
    have h1 := ih (settledStep z e)
    have h2 : z - 1 ≤ settledStep z e ∧ settledStep z e ≤ z + 1 := by unfold settledStep; split <;> omega
    simp only [List.foldl_cons, List.length_cons]
    omega

/-- What is known of the ticks of a log. -/
def TicksOk (l : List Cmd) : Prop := (∀ c ∈ l, c.kind = 4 → 1 ≤ c.a ∧ c.a ≤ 100) ∧ clockR l ≤ 10000

theorem clock_mono (l : List Cmd) (h : ∀ c ∈ l, c.kind = 4 → 1 ≤ c.a ∧ c.a ≤ 100) (z : Int) : z ≤ l.foldl clockStep z := by
  induction l generalizing z with
  | nil => exact Int.le_refl _
  | cons c l ih =>
    have h1 := ih (fun c hc => h c (List.mem_cons_of_mem _ hc)) (clockStep z c)
    have h2 : z ≤ clockStep z c := by
      unfold clockStep; split
      · rename_i hk; have := h c (List.mem_cons_self ..) hk; omega
      · omega
    simp only [List.foldl_cons]; omega

theorem TicksOk.take {l : List Cmd} (h : TicksOk l) (k : Nat) : TicksOk (l.take k) := by
  refine ⟨fun c hc => h.1 c (List.mem_of_mem_take hc), ?_⟩
  have h1 := h.2
  unfold clockR at h1 ⊢
  rw [← List.take_append_drop k l, List.foldl_append] at h1
  have := clock_mono (l.drop k) (fun c hc => h.1 c (List.mem_of_mem_drop hc)) ((l.take k).foldl clockStep 0)
  omega

theorem TicksOk.bd {l : List Cmd} (h : TicksOk l) : 0 ≤ clockR l ∧ clockR l ≤ 10000 := ⟨clock_mono l h.1 0, h.2⟩

end Go.Proofs.YtgcjlgaapiefiabGreat

/-
  The document's functions on one instance, as Lean functions.
-/
namespace Go.Proofs.YtgcjlgaapiefiabGreat

def atR (x : Inst) : Int := if x.mode = 2 then settledR x.ledger - 1 else settledR x.ledger

/-- The first step with Pivot among those that are settled; -1: none. -/
def firstPivot : List Step → Nat → Nat → Int
  | [], _, _ => -1
  | _ :: _, 0, _ => -1
  | s :: l, n + 1, i => if s.pivot then i else firstPivot l n (i + 1)
def behindR (d : Def) (l : List Entry) : Int := firstPivot d.steps (settledR l).toNat 0

def anewR (x : Inst) (now : Int) : Inst := ⟨x.id, x.mode, false, 0, x.target, x.resume, x.keys, 0, 0, 0, now, x.ledger⟩

def closeR (d : Def) (x : Inst) : Inst :=
  if x.mode = 1 ∧ settledR x.ledger = d.steps.length then { x with mode := 3 }
  else if x.mode = 2 ∧ settledR x.ledger = x.target ∧ x.resume = true then { x with mode := 1, target := 0, resume := false }
  else if x.mode = 2 ∧ settledR x.ledger = x.target then { x with mode := 4 }
  else x

def enteredR (d : Def) (x : Inst) (kind ref now : Int) : Inst := closeR d (anewR { x with ledger := x.ledger ++ [⟨kind, atR x, ref⟩] } now)

def backwardR (x : Inst) (target : Int) (resume : Bool) (now : Int) : Inst :=
  ⟨x.id, if settledR x.ledger = 0 then 4 else 2, false, 0, target, resume, x.keys, 0, 0, 0, now, x.ledger⟩

/-- 2 to the (tries - 1), at least 1. -/
def pauseR (tries : Int) : Int := 2 ^ (tries - 1).toNat

def stepR (d : Def) (s : Int) : Step := d.steps.getD s.toNat default

def wrongR (d : Def) (x : Inst) (now : Int) : Inst :=
  if x.tries ≤ (stepR d (atR x)).retries then { x with key := 0, due := 0, wake := now + pauseR x.tries }
  else if x.mode = 1 ∧ behindR d x.ledger < 0 then backwardR x 0 false now
  else { x with key := 0, due := 0, stuck := true }

def doneR (d : Def) (x : Inst) (f : Fact) : Inst :=
  if f.what = 1 then { x with stuck := false, tries := 0, wake := f.at_ }
  else if f.what = 2 then enteredR d x 2 f.ref f.at_
  else if f.what = 3 then enteredR d x 4 f.ref f.at_
  else if f.what = 4 then backwardR x 0 false f.at_
  else backwardR x f.target true f.at_

def pickedR (d : Def) (x : Inst) (now : Int) : Inst :=
  if x.key = 0 then { x with keys := x.keys + 1, tries := x.tries + 1, key := x.keys + 1, due := now + (stepR d (atR x)).timeout }
  else { x with due := now + (stepR d (atR x)).timeout }

def afterR (d : Def) (x : Inst) (f : Fact) : Inst :=
  if f.kind = 1 then pickedR d x f.at_
  else if f.kind = 2 then (if x.mode = 1 then enteredR d x 1 x.key f.at_ else enteredR d x 3 x.key f.at_)
  else if f.kind = 3 then wrongR d x f.at_
  else doneR d x f

theorem closeR_ledger (d : Def) (x : Inst) : (closeR d x).ledger = x.ledger := by
  unfold closeR; repeat' split
  all_goals rfl
theorem enteredR_ledger (d : Def) (x : Inst) (kind ref now : Int) : (enteredR d x kind ref now).ledger = x.ledger ++ [⟨kind, atR x, ref⟩] := by
  unfold enteredR; rw [closeR_ledger]; rfl
theorem backwardR_ledger (x : Inst) (target : Int) (resume : Bool) (now : Int) : (backwardR x target resume now).ledger = x.ledger := rfl

theorem firstPivot_none (l : List Step) (n i : Nat) (h : ∀ j, j < n → ∀ hj : j < l.length, l[j].pivot = false) : firstPivot l n i = -1 := by
  induction l generalizing n i with
  | nil => cases n <;> rfl
  | cons s l ih =>
    cases n with
    | zero => rfl
    | succ n =>
      have h0 := h 0 (by omega) (by simp)
      simp at h0
      simp only [firstPivot, h0]
      exact ih n (i + 1) (fun j hj hjl => h (j + 1) (by omega) (by simpa using hjl))
theorem firstPivot_some (l : List Step) (n i k : Nat) (hk : k < n) (hl : k < l.length) (hp : l[k].pivot = true) (h : ∀ j, j < k → ∀ hj : j < l.length, l[j].pivot = false) : firstPivot l n i = i + k := by
  induction l generalizing n i k with
  | nil => simp at hl
  | cons s l ih =>
    cases n with
    | zero => omega
    | succ n =>
      cases k with
      | zero => simp at hp; simp [firstPivot, hp]
      | succ k =>
        have h0 := h 0 (by omega) (by simp)
        simp at h0
        simp only [firstPivot, h0]
        have := ih n (i + 1) k (by omega) (by simpa using hl) (by simpa using hp) (fun j hj hjl => h (j + 1) (by omega) (by simpa using hjl))
        simp only [Bool.false_eq_true, if_false]
        omega

end Go.Proofs.YtgcjlgaapiefiabGreat

/-
  The document's functions on requests and facts, as Lean functions.
-/
namespace Go.Proofs.YtgcjlgaapiefiabGreat

def reqBase (d : Def) (pre : List Cmd) (c : Cmd) (number : Int) : Req :=
  ⟨number, c.inst, c.a, if c.a = 5 then c.b else 0, c.who, c.reason, [], clockR pre + d.expiry, decide (d.quorum = 0)⟩
def reqStep (d : Def) (number : Int) (r : Req) (c : Cmd) : Req :=
  if c.a = number ∧ c.kind = 6 then { r with bys := r.bys ++ [c.who], closed := decide (((r.bys ++ [c.who]).length : Int) = d.quorum) }
  else if c.a = number ∧ c.kind = 7 then { r with closed := true }
  else r
def requestR (d : Def) (log : List Cmd) (k : Nat) (number : Int) : Req :=
  (log.drop (k + 1)).foldl (reqStep d number) (reqBase d (log.take k) (log.getD k default) number)

theorem reqStep_len (d : Def) (number : Int) (r : Req) (c : Cmd) : (reqStep d number r c).bys.length ≤ r.bys.length + 1 := by
  unfold reqStep; split
  · simp
  · split <;> simp
theorem reqFold_len (d : Def) (number : Int) (l : List Cmd) (r : Req) : (l.foldl (reqStep d number) r).bys.length ≤ r.bys.length + l.length := by
  induction l generalizing r with
  | nil => simp
  | cons c l ih =>
    have h1 := ih (reqStep d number r c)
    have h2 := reqStep_len d number r c
    simp only [List.foldl_cons, List.length_cons]; omega

/-- The request behind j commands. -/
def reqAt (d : Def) (l : List Cmd) (k : Nat) (number : Int) (j : Nat) : Req := ((l.drop (k + 1)).take j).foldl (reqStep d number) (reqBase d (l.take k) (l.getD k default) number)
theorem reqAt_succ (d : Def) (l : List Cmd) (k : Nat) (number : Int) (j : Nat) (h : k + 1 + j < l.length) : reqAt d l k number (j + 1) = reqStep d number (reqAt d l k number j) l[k + 1 + j] := by
  unfold reqAt
  rw [foldl_take_succ _ _ _ _ (by simp; omega)]
  simp
theorem reqAt_end (d : Def) (l : List Cmd) (k : Nat) (number : Int) (j : Nat) (h : l.length ≤ k + 1 + j) : reqAt d l k number j = requestR d l k number := by
  unfold reqAt requestR
  have : (l.drop (k + 1)).take j = l.drop (k + 1) := List.take_of_length_le (by simp; omega)
  rw [this]
theorem reqAt_len (d : Def) (l : List Cmd) (k : Nat) (number : Int) (j : Nat) : (reqAt d l k number j).bys.length ≤ j := by
  unfold reqAt
  have h1 := reqFold_len d number ((l.drop (k + 1)).take j) (reqBase d (l.take k) (l.getD k default) number)
  have h2 : (reqBase d (l.take k) (l.getD k default) number).bys.length = 0 := rfl
  have h3 : ((l.drop (k + 1)).take j).length ≤ j := List.length_take_le _ _
  omega

def Req.val (r : Req) (bv : Value) : Value := .agg #[.int .i64 r.number, .int .i64 r.inst, .int .i64 r.what, .int .i64 r.target, .int .i64 r.who, .string r.reason, bv, .int .i64 r.upto, .bool r.closed]

end Go.Proofs.YtgcjlgaapiefiabGreat

/-
  The document's functions: requests, what is carried out, facts.
-/
namespace Go.Proofs.YtgcjlgaapiefiabGreat

def requestsTo (d : Def) (l : List Cmd) : Nat → List Req
  | 0 => []
  | k + 1 => if (l.getD k default).kind = 5 then requestsTo d l k ++ [requestR d l k ((requestsTo d l k).length + 1)] else requestsTo d l k
def requestsR (d : Def) (l : List Cmd) : List Req := requestsTo d l l.length

theorem requestsTo_len (d : Def) (l : List Cmd) (k : Nat) : (requestsTo d l k).length ≤ k := by
  induction k with
  | zero => simp [requestsTo]
  | succ k ih =>
    unfold requestsTo
    split
    · simp; omega
    · omega

/-- The number of the request that the last command of a list carries out; 0: none. -/
def carriedN (d : Def) (c : Cmd) (rs : List Req) : Int :=
  if c.kind = 5 ∧ d.quorum = 0 then rs.length
  else if c.kind = 6 ∧ ((rs.getD (c.a - 1).toNat default).bys.length : Int) = d.quorum then c.a
  else 0
def carriedR (d : Def) (l : List Cmd) (id : Int) : Fact × Bool :=
  let c := l.getD (l.length - 1) default
  let rs := requestsR d l
  let n := carriedN d c rs
  if n = 0 then (⟨0, 0, 0, 0, 0⟩, false)
  else if (rs.getD (n - 1).toNat default).inst = id then (⟨4, clockR l, (rs.getD (n - 1).toNat default).what, (rs.getD (n - 1).toNat default).target, n⟩, true)
  else (⟨0, 0, 0, 0, 0⟩, false)

end Go.Proofs.YtgcjlgaapiefiabGreat

/-
  The document's functions: facts, instance.
-/
namespace Go.Proofs.YtgcjlgaapiefiabGreat

def factOf (d : Def) (l : List Cmd) (id : Int) (k : Nat) (c : Cmd) : List Fact :=
  if c.kind = 2 ∧ c.inst = id then [⟨1, clockR (l.take k), 0, 0, 0⟩]
  else if c.kind = 3 ∧ c.inst = id ∧ c.b = 1 then [⟨2, clockR (l.take k), 0, 0, 0⟩]
  else if c.kind = 3 ∧ c.inst = id then [⟨3, clockR (l.take k), 0, 0, 0⟩]
  else if c.kind = 5 ∨ c.kind = 6 then (if (carriedR d (l.take (k + 1)) id).2 then [(carriedR d (l.take (k + 1)) id).1] else [])
  else []
def factsTo (d : Def) (l : List Cmd) (id : Int) : Nat → List Fact
  | 0 => []
  | k + 1 => factsTo d l id k ++ factOf d l id k (l.getD k default)
def factsR (d : Def) (l : List Cmd) (id : Int) : List Fact := factsTo d l id l.length

theorem factOf_len (d : Def) (l : List Cmd) (id : Int) (k : Nat) (c : Cmd) : (factOf d l id k c).length ≤ 1 := by
  unfold factOf; repeat' split
  all_goals simp
theorem factsTo_len (d : Def) (l : List Cmd) (id : Int) (k : Nat) : (factsTo d l id k).length ≤ k := by
  induction k with
  | zero => simp [factsTo]
  | succ k ih =>
    unfold factsTo
    have := factOf_len d l id k (l.getD k default)
    simp only [List.length_append]
    omega

/-- Of each approval in a log there is a request. -/
def ApprovesOk (d : Def) (l : List Cmd) : Prop := ∀ k, (hk : k < l.length) → l[k].kind = 6 → 1 ≤ l[k].a ∧ l[k].a ≤ (requestsR d (l.take (k + 1))).length

def startR (id : Int) : Inst := ⟨id, 1, false, 0, 0, false, 0, 0, 0, 0, 0, []⟩
def instFold (d : Def) (id : Int) (fs : List Fact) : Inst := fs.foldl (afterR d) (startR id)
def instanceR (d : Def) (l : List Cmd) (id : Int) : Inst :=
  { instFold d id (factsR d l id) with settled := settledR (instFold d id (factsR d l id)).ledger }

theorem instFold_snoc (d : Def) (id : Int) (fs : List Fact) (k : Nat) (h : k < fs.length) : instFold d id (fs.take (k + 1)) = afterR d (instFold d id (fs.take k)) fs[k] := by
  unfold instFold; exact foldl_take_succ _ _ _ _ h

/-- What one fact can do to the counts of an instance. -/
theorem closeR_counts (d : Def) (x : Inst) : (closeR d x).keys = x.keys ∧ (closeR d x).tries = x.tries := by
  unfold closeR; repeat' split
  all_goals exact ⟨rfl, rfl⟩
theorem enteredR_counts (d : Def) (x : Inst) (kind ref now : Int) : (enteredR d x kind ref now).keys = x.keys ∧ (enteredR d x kind ref now).tries = 0 := by
  unfold enteredR; exact closeR_counts ..
theorem afterR_counts (d : Def) (x : Inst) (f : Fact) (h : 0 ≤ x.keys ∧ 0 ≤ x.tries) :
    x.keys ≤ (afterR d x f).keys ∧ (afterR d x f).keys ≤ x.keys + 1 ∧ 0 ≤ (afterR d x f).tries ∧ (afterR d x f).tries ≤ x.tries + 1 ∧ (afterR d x f).ledger.length ≤ x.ledger.length + 1 := by
  unfold afterR
  split
  · unfold pickedR; split <;> simp <;> omega
  split
  · split
    · rw [enteredR_ledger]; obtain ⟨h1, h2⟩ := enteredR_counts d x 1 x.key f.at_; simp; omega
    · rw [enteredR_ledger]; obtain ⟨h1, h2⟩ := enteredR_counts d x 3 x.key f.at_; simp; omega
  split
  · unfold wrongR; split
    · simp; omega
    split
    · simp [backwardR]; omega
    · simp; omega
  · unfold doneR
    split
    · simp; omega
    split
    · rw [enteredR_ledger]; obtain ⟨h1, h2⟩ := enteredR_counts d x 2 f.ref f.at_; simp; omega
    split
    · rw [enteredR_ledger]; obtain ⟨h1, h2⟩ := enteredR_counts d x 4 f.ref f.at_; simp; omega
    split
    · simp [backwardR]; omega
    · simp [backwardR]; omega

theorem instFold_bd (d : Def) (id : Int) (fs : List Fact) (k : Nat) (h : k ≤ fs.length) :
    0 ≤ (instFold d id (fs.take k)).keys ∧ (instFold d id (fs.take k)).keys ≤ k ∧ 0 ≤ (instFold d id (fs.take k)).tries ∧ (instFold d id (fs.take k)).tries ≤ k ∧ (instFold d id (fs.take k)).ledger.length ≤ k := by
  induction k with
  | zero => simp [instFold, startR]
  | succ k ih =>
    have hi := ih (by omega)
    rw [instFold_snoc d id fs k (by omega)]
    have := afterR_counts d (instFold d id (fs.take k)) fs[k] ⟨hi.1, hi.2.2.1⟩
    omega

theorem carriedR_at (d : Def) (l : List Cmd) (id : Int) (h : TicksOk l) : 0 ≤ (carriedR d l id).1.at_ ∧ (carriedR d l id).1.at_ ≤ 10000 := by
  have := h.bd
  unfold carriedR
  dsimp only
  split
  · simp
  split
  · exact this
  · simp
theorem factOf_at (d : Def) (l : List Cmd) (id : Int) (k : Nat) (c : Cmd) (h : TicksOk l) : ∀ f ∈ factOf d l id k c, 0 ≤ f.at_ ∧ f.at_ ≤ 10000 := by
  have h1 := (h.take k).bd
  have h2 := carriedR_at d (l.take (k + 1)) id (h.take (k + 1))
  intro f hf
  unfold factOf at hf
  split at hf
  · simp at hf; subst hf; exact h1
  split at hf
  · simp at hf; subst hf; exact h1
  split at hf
  · simp at hf; subst hf; exact h1
  split at hf
  · split at hf
    · simp at hf; subst hf; exact h2
    · simp at hf
  · simp at hf
theorem factsTo_at (d : Def) (l : List Cmd) (id : Int) (k : Nat) (h : TicksOk l) : ∀ f ∈ factsTo d l id k, 0 ≤ f.at_ ∧ f.at_ ≤ 10000 := by
  induction k with
  | zero => intro f hf; simp [factsTo] at hf
  | succ k ih =>
    intro f hf
    unfold factsTo at hf
    rcases List.mem_append.1 hf with hf | hf
    · exact ih f hf
    · exact factOf_at d l id k _ h f hf

end Go.Proofs.YtgcjlgaapiefiabGreat

/-
  The document's functions: what can be asked for, the answers to PICK, REPLY and ASK.
-/
namespace Go.Proofs.YtgcjlgaapiefiabGreat

def canR (d : Def) (x : Inst) (what target : Int) : Bool :=
  if what = 1 then x.stuck
  else if what = 2 then x.mode == 1
  else if what = 3 then x.mode == 2
  else if what = 4 then (x.mode == 1) && decide (behindR d x.ledger < 0)
  else (x.mode == 1) && (decide (0 ≤ target) && (decide (target < settledR x.ledger) && decide (behindR d x.ledger < target)))

def noR (e : Int) : Answer := ⟨e, 0, 0, 0⟩

def pickAns (d : Def) (x : Inst) (now : Int) : Answer :=
  if 2 < x.mode then noR 6
  else if x.stuck = true then noR 7
  else if 0 < x.key ∧ now < x.due then noR 8
  else if 0 < x.key then ⟨0, x.key, atR x, x.mode⟩
  else if now < x.wake then noR 9
  else if x.mode = 2 ∧ (stepR d (atR x)).undo = false then noR 10
  else if x.keys = 30 then noR 5
  else ⟨0, x.keys + 1, atR x, x.mode⟩

end Go.Proofs.YtgcjlgaapiefiabGreat

/-
  The document's functions: the answers.
-/
namespace Go.Proofs.YtgcjlgaapiefiabGreat

def askAns (d : Def) (c : Cmd) (x : Inst) (n : Int) : Answer :=
  if c.a < 1 ∨ 5 < c.a then noR 2
  else if c.who < 0 ∨ 9 < c.who then noR 13
  else if (c.reason.size : Int) < 1 ∨ 20 < (c.reason.size : Int) then noR 12
  else if canR d x c.a c.b = false then noR 14
  else if n = 40 then noR 5
  else ⟨0, n + 1, 0, 0⟩

def answeredR (d : Def) (l : List Cmd) (c : Cmd) (x : Inst) (now : Int) : Answer :=
  if c.kind = 2 then pickAns d x now
  else if c.kind = 3 then (if x.key ≠ c.a ∨ x.key = 0 then noR 11 else noR 0)
  else askAns d c x (requestsR d l).length

/-- Is there a request of this number that is open? -/
def openR (rs : List Req) (a now : Int) : Bool := decide (1 ≤ a) && (decide (a ≤ rs.length) && (!(rs.getD (a - 1).toNat default).closed && decide (now < (rs.getD (a - 1).toNat default).upto)))

def decidedR (d : Def) (l : List Cmd) (c : Cmd) (now : Int) : Int :=
  if openR (requestsR d l) c.a now = false then 15
  else if c.kind = 7 then (if c.who = ((requestsR d l).getD (c.a - 1).toNat default).who then 0 else 13)
  else if c.who < 0 ∨ 9 < c.who ∨ c.who = ((requestsR d l).getD (c.a - 1).toNat default).who ∨ ((requestsR d l).getD (c.a - 1).toNat default).bys.any (· == c.who) = true then 13
  else if (((requestsR d l).getD (c.a - 1).toNat default).bys.length : Int) + 1 = d.quorum ∧
      canR d (instanceR d l ((requestsR d l).getD (c.a - 1).toNat default).inst) ((requestsR d l).getD (c.a - 1).toNat default).what ((requestsR d l).getD (c.a - 1).toNat default).target = false then 14
  else 0

def answerR (d : Def) (l : List Cmd) (c : Cmd) : Answer :=
  if c.kind = 1 then
    (if c.inst < 0 ∨ 255 < c.inst then noR 3 else if (startedR l).any (· == c.inst) = true then noR 4 else if (startedR l).length = 4 then noR 5 else noR 0)
  else if c.kind = 4 then
    (if c.a < 1 ∨ 100 < c.a then noR 3 else if 10000 < clockR l + c.a then noR 16 else noR 0)
  else if c.kind = 6 ∨ c.kind = 7 then noR (decidedR d l c (clockR l))
  else if c.kind = 2 ∨ c.kind = 3 ∨ c.kind = 5 then
    (if (startedR l).any (· == c.inst) = true then answeredR d l c (instanceR d l c.inst) (clockR l) else noR 4)
  else noR 2

end Go.Proofs.YtgcjlgaapiefiabGreat

/-
  The document's records, as bytes (plain).
-/
namespace Go.Proofs.YtgcjlgaapiefiabGreat

/-- The bytes of a string, as numbers. -/
def nums (s : ByteArray) : List Int := s.data.toList.map fun b => (b.toNat : Int)
theorem nums_length (s : ByteArray) : (nums s).length = s.size := by
  unfold nums; rw [List.length_map, Array.length_toList]; rfl
theorem nums_bd (s : ByteArray) : ∀ x ∈ nums s, 0 ≤ x ∧ x ≤ 255 := by
  intro x hx
  simp only [nums, List.mem_map] at hx
  obtain ⟨b, _, rfl⟩ := hx
  have := b.toNat_lt
  omega

def recHead (c : Cmd) : List Int :=
  [c.kind % 256, if c.kind = 1 ∨ c.kind = 2 ∨ c.kind = 3 ∨ c.kind = 5 then c.inst % 256 else 0, if 2 < c.kind then c.a % 256 else 0,
    if (c.kind = 3 ∧ c.b = 1) ∨ (c.kind = 5 ∧ c.a = 5) then c.b % 256 else 0, if 4 < c.kind then c.who % 256 else 0]
def recBody (c : Cmd) : List Int := recHead c ++ (if c.kind = 5 then nums c.reason else [])

def sumTo (xs : List Int) : Nat → Int
  | 0 => 0
  | k + 1 => sumTo xs k + 7 + (k + 1) * xs.getD k 0
def recSum (xs : List Int) : Int := sumTo xs xs.length % 65521

def recordR (c : Cmd) : ByteArray :=
  strOfNums [((recBody c).length : Int) % 256] ++ strOfNums (recBody c) ++ strOfNums [recSum (recBody c) % 256, recSum (recBody c) / 256 % 256]
def bytesR (l : List Cmd) : ByteArray := l.foldl (fun s c => s ++ recordR c) ByteArray.empty

theorem recHead_bd (c : Cmd) : ∀ x ∈ recHead c, 0 ≤ x ∧ x ≤ 255 := by
  intro x hx
  simp only [recHead, List.mem_cons, List.not_mem_nil, or_false] at hx
  rcases hx with rfl | rfl | rfl | rfl | rfl
  · omega
  all_goals (split <;> omega)
theorem recBody_bd (c : Cmd) : ∀ x ∈ recBody c, 0 ≤ x ∧ x ≤ 255 := by
  intro x hx
  unfold recBody at hx
  rcases List.mem_append.1 hx with hx | hx
  · exact recHead_bd c x hx
  · split at hx
    · exact nums_bd c.reason x hx
    · simp at hx
theorem recBody_length (c : Cmd) : (recBody c).length = 5 + (if c.kind = 5 then c.reason.size else 0) := by
  have h : (recHead c).length = 5 := rfl
  unfold recBody
  rw [List.length_append, h]
  by_cases h5 : c.kind = 5
  · rw [if_pos h5, if_pos h5, nums_length]
  · rw [if_neg h5, if_neg h5]; rfl

theorem getD_bd {xs : List Int} (h : ∀ x ∈ xs, 0 ≤ x ∧ x ≤ 255) (k : Nat) : 0 ≤ xs.getD k 0 ∧ xs.getD k 0 ≤ 255 := by
  by_cases hk : k < xs.length
  · rw [List.getD, List.getElem?_eq_getElem hk]
    exact h _ (List.getElem_mem hk)
  · rw [List.getD, List.getElem?_eq_none (by omega)]; simp
theorem sumTo_bd {xs : List Int} (h : ∀ x ∈ xs, 0 ≤ x ∧ x ≤ 255) (k : Nat) (hk : k ≤ 255) : 0 ≤ sumTo xs k ∧ sumTo xs k ≤ k * 100000 := by
  induction k with
  | zero => simp [sumTo]
  | succ k ih =>
    have h1 := ih (by omega)
    have h2 := getD_bd h k
    unfold sumTo
    have h3 : 0 ≤ ((k : Int) + 1) * xs.getD k 0 := Int.mul_nonneg (by omega) h2.1
    have h4 : ((k : Int) + 1) * xs.getD k 0 ≤ 256 * 255 := Int.mul_le_mul (by omega) h2.2 h2.1 (by omega)
    omega

theorem strOfNums_append (xs ys : List Int) : strOfNums (xs ++ ys) = strOfNums xs ++ strOfNums ys := by
  apply ByteArray.ext
  simp [strOfNums]

end Go.Proofs.YtgcjlgaapiefiabGreat

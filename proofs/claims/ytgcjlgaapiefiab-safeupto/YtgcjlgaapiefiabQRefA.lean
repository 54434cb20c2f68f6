import Derived.Test.YtgcjlgaapiefiabQChk
import Derived.Test.YtgcjlgaapiefiabQData
import Derived.Deep.DeepCutAuto
import Derived.Deep.RegionHeld3
import Derived.Deep.RegionLaw
import Derived.Deep.AppendLies
import Derived.Deep.RegionWith
import Derived.Test.YtgcjlgaapiefiabQLog
import Derived.Lib.QuietBelow

/-
  Walks of the document's answer: clock, started, settled, has, no.
-/
namespace Go.Proofs.Ytgcjlgaapiefiab
open Go.RowKit

theorem At.seven {w : World} {b o : Nat} {x0 x1 x2 x3 x4 x5 x6 : Value} (h : At w b o [x0, x1, x2, x3, x4, x5, x6]) :
    w.cell? ⟨b, o, none⟩ = some x0 ∧ w.cell? ⟨b, o + 1, none⟩ = some x1 ∧ w.cell? ⟨b, o + 2, none⟩ = some x2 ∧ w.cell? ⟨b, o + 3, none⟩ = some x3 ∧ w.cell? ⟨b, o + 4, none⟩ = some x4 ∧ w.cell? ⟨b, o + 5, none⟩ = some x5 ∧ w.cell? ⟨b, o + 6, none⟩ = some x6 :=
  ⟨h 0 x0 rfl, h 1 x1 rfl, h 2 x2 rfl, h 3 x3 rfl, h 4 x4 rfl, h 5 x5 rfl, h 6 x6 rfl⟩

theorem Arr.row {w : World} {m n cap : Nat} {a : Option Addr} {xs : List (List Value)} (h : Arr w m (.slice a n cap) xs) (k : Nat) (hk : k < xs.length) :
    ∃ b off, a = some ⟨b, off, none⟩ ∧ At w b (off + k * m) xs[k] := by
  obtain ⟨a', cap', h1, h2, h3, h4, h5⟩ := h
  cases h1
  rcases h5 with h5 | ⟨b, off, ha, hx⟩
  · subst h5; simp at hk
  · exact ⟨b, off, ha, hx k xs[k] (by simp [hk])⟩

theorem Arr.shape {w : World} {m : Nat} {v : Value} {xs : List (List Value)} (h : Arr w m v xs) : ∃ a n cap, v = .slice a n cap := by
  obtain ⟨a, cap, h1, _⟩ := h; exact ⟨a, _, cap, h1⟩

/-- A slice of commands. -/
def Cmds (w : World) (v : Value) (l : List Cmd) : Prop := Arr w 7 v (l.map Cmd.cells) ∧ l.length ≤ 2199023255552

theorem Cmds.quiet {w w' : World} {v : Value} {l : List Cmd} (h : Cmds w v l) (hq : Quiet w w') : Cmds w' v l := ⟨h.1.quiet hq, h.2⟩

theorem Cmds.len {w : World} {n cap : Nat} {a : Option Addr} {l : List Cmd} (h : Cmds w (.slice a n cap) l) : n = l.length ∧ n ≤ 2199023255552 := by
  have h1 := h.1.len.1
  have h2 := h.2
  simp at h1
  omega

theorem Cmds.cell {w : World} {n cap : Nat} {a : Option Addr} {l : List Cmd} (h : Cmds w (.slice a n cap) l) (k : Nat) (hk : k < l.length) :
    ∃ b off, a = some ⟨b, off, none⟩ ∧ b < w.heap.size ∧
      w.cell? ⟨b, off + k * 7, none⟩ = some (.int .i64 l[k].kind) ∧ w.cell? ⟨b, off + k * 7 + 1, none⟩ = some (.int .i64 l[k].inst) ∧ w.cell? ⟨b, off + k * 7 + 2, none⟩ = some (.int .i64 l[k].a) ∧
      w.cell? ⟨b, off + k * 7 + 3, none⟩ = some (.int .i64 l[k].b) ∧ w.cell? ⟨b, off + k * 7 + 4, none⟩ = some (.int .i64 l[k].who) ∧ w.cell? ⟨b, off + k * 7 + 5, none⟩ = some (.string l[k].reason) ∧ w.cell? ⟨b, off + k * 7 + 6, none⟩ = some (.bool l[k].dry) := by
  obtain ⟨b, off, ha, hx⟩ := h.1.row k (by simpa using hk)
  simp only [List.getElem_map] at hx
  exact ⟨b, off, ha, hx.lt, hx.seven⟩

theorem Try.info3 : (Try.prog.info? 3).map (fun i => (i.zero, i.size, i.bytes)) = some (some (.int .i64 0), 1, 8) := by kernel_rfl

/-- A slice of ints that the call made. -/
def ints (l : List Int) : List Value := l.map (Value.int .i64)
theorem startedR_len (l : List Cmd) : (startedR l).length ≤ l.length := by
  unfold startedR
  suffices h : ∀ z : List Int, (l.foldl startedStep z).length ≤ z.length + l.length by have := h []; simpa using this
  induction l with
  | nil => intro z; simp
  | cons c l ih =>
    intro z
    have := ih (startedStep z c)
    have h2 : (startedStep z c).length ≤ z.length + 1 := by unfold startedStep; split <;> simp
    simp only [List.foldl_cons, List.length_cons]
    omega

/-- A slice of entries. -/
def Ents (w : World) (v : Value) (l : List Entry) : Prop := Arr w 3 v (l.map Entry.cells) ∧ l.length ≤ 2199023255552

theorem Ents.quiet {w w' : World} {v : Value} {l : List Entry} (h : Ents w v l) (hq : Quiet w w') : Ents w' v l := ⟨h.1.quiet hq, h.2⟩

theorem Ents.len {w : World} {n cap : Nat} {a : Option Addr} {l : List Entry} (h : Ents w (.slice a n cap) l) : n = l.length ∧ n ≤ 2199023255552 := by
  have h1 := h.1.len.1
  have h2 := h.2
  simp at h1
  omega

theorem Ents.cell {w : World} {n cap : Nat} {a : Option Addr} {l : List Entry} (h : Ents w (.slice a n cap) l) (k : Nat) (hk : k < l.length) :
    ∃ b off, a = some ⟨b, off, none⟩ ∧ b < w.heap.size ∧
      w.cell? ⟨b, off + k * 3, none⟩ = some (.int .i64 l[k].kind) ∧ w.cell? ⟨b, off + k * 3 + 1, none⟩ = some (.int .i64 l[k].step) ∧ w.cell? ⟨b, off + k * 3 + 2, none⟩ = some (.int .i64 l[k].ref) := by
  obtain ⟨b, off, ha, hx⟩ := h.1.row k (by simpa using hk)
  simp only [List.getElem_map] at hx
  exact ⟨b, off, ha, hx.lt, hx.three⟩

/-- A slice of ints. -/
def Ints (w : World) (v : Value) (l : List Int) : Prop := Arr w 1 v (l.map fun i => [Value.int .i64 i])

theorem Ints.quiet {w w' : World} {v : Value} {l : List Int} (h : Ints w v l) (hq : Quiet w w') : Ints w' v l := Arr.quiet h hq
theorem flatten_ints (l : List Int) : (l.map fun i => [Value.int .i64 i]).flatten = ints l := by
  induction l with
  | nil => rfl
  | cons a l ih => simp [ints] at ih ⊢; exact ih
theorem own_ints {w : World} {base : Nat} {e : TypeId} {v : Value} {l : List Int} (h : w.ownsRow base e 1 v l.length (ints l)) : Ints w v l :=
  own_arr (base := base) (e := e) (n := l.length) (by rw [flatten_ints]; exact h) (by simp) (by simp)

theorem Ints.cell {w : World} {n cap : Nat} {a : Option Addr} {l : List Int} (h : Ints w (.slice a n cap) l) (k : Nat) (hk : k < l.length) :
    ∃ b off, a = some ⟨b, off, none⟩ ∧ b < w.heap.size ∧ w.cell? ⟨b, off + k, none⟩ = some (.int .i64 l[k]) := by
  obtain ⟨b, off, ha, hx⟩ := Arr.row h k (by simpa using hk)
  simp only [List.getElem_map] at hx
  have := hx 0 _ rfl
  exact ⟨b, off, ha, hx.lt, by simpa using this⟩

def hasR (l : List Int) (x : Int) : Bool := l.any (· == x)

end Go.Proofs.Ytgcjlgaapiefiab

/-
  Walks of the document's answer: no, at, behind, anew.
-/
namespace Go.Proofs.Ytgcjlgaapiefiab
open Go.RowKit

/-- An instance as a value. -/
def Inst.val (x : Inst) (lv : Value) : Value := .agg #[.int .i64 x.id, .int .i64 x.mode, .bool x.stuck, .int .i64 x.settled, .int .i64 x.target, .bool x.resume, .int .i64 x.keys, .int .i64 x.key, .int .i64 x.due, .int .i64 x.tries, .int .i64 x.wake, lv]
def Answer.val (a : Answer) : Value := .agg #[.int .i64 a.code, .int .i64 a.number, .int .i64 a.step, .int .i64 a.what]

theorem ret_val {a b : Value} (h : a = b) : Ending.returned a = .returned b := by rw [h]

end Go.Proofs.Ytgcjlgaapiefiab

/-
  Walks of the document's answer: entered.
-/
namespace Go.Proofs.Ytgcjlgaapiefiab
open Go.RowKit

theorem Try.info60 : (Try.prog.info? 60).map (fun i => (i.zero, i.size, i.bytes)) = some (some (.agg #[.int .i64 0, .int .i64 0, .int .i64 0]), 3, 24) := by kernel_rfl

/-- The cells of a ledger. -/
def ents (l : List Entry) : List Value := (l.map Entry.cells).flatten
theorem ents_snoc (l : List Entry) (e : Entry) : ents (l ++ [e]) = ents l ++ e.cells := by simp [ents]
theorem own_ents {w : World} {base : Nat} {v : Value} {n : Nat} {l : List Entry} (h : w.ownsRow base 60 3 v n (ents l)) (hn : n = l.length) (hl : l.length ≤ 2199023255552) : Ents w v l :=
  ⟨own_arr (base := base) (e := 60) (n := n) h (by simpa using hn) (by simp [Entry.cells]), hl⟩

end Go.Proofs.Ytgcjlgaapiefiab

/-
  Walks of the document's answer: backward, wrong.
-/
namespace Go.Proofs.Ytgcjlgaapiefiab
open Go.RowKit

end Go.Proofs.Ytgcjlgaapiefiab

/-
  Walks of the document's answer: wrong.
-/
namespace Go.Proofs.Ytgcjlgaapiefiab
open Go.RowKit

theorem _root_.Go.RowKit.Below.drewN {B : Nat} {a w : World} (h : Below B a w) {n : Nat} : Below B a (w.drewN n) := by
  induction n with
  | zero => exact h
  | succ n ih => exact ih.drew
theorem Blk.drewN {w : World} {b : Nat} {cs : Array Value} {t : TypeId} (h : Blk w b cs t) {n : Nat} : Blk (w.drewN n) b cs t := h
theorem pauseR_succ (k : Nat) (h : 1 ≤ k) : pauseR ((k : Int) + 1) = 2 * pauseR k := by
  unfold pauseR
  have : ((k : Int) + 1 - 1).toNat = ((k : Int) - 1).toNat + 1 := by omega
  rw [this, Int.pow_succ]; omega
theorem pauseR_bd (k : Int) (h : k ≤ 3) : 1 ≤ pauseR k ∧ pauseR k ≤ 4 := by
  unfold pauseR
  have : (k - 1).toNat = 0 ∨ (k - 1).toNat = 1 ∨ (k - 1).toNat = 2 := by omega
  rcases this with h | h | h <;> rw [h] <;> decide

end Go.Proofs.Ytgcjlgaapiefiab

/-
  Walks of the document's answer: done, after.
-/
namespace Go.Proofs.Ytgcjlgaapiefiab
open Go.RowKit

def Fact.val (f : Fact) : Value := .agg #[.int .i64 f.kind, .int .i64 f.at_, .int .i64 f.what, .int .i64 f.target, .int .i64 f.ref]

/-- A ledger that the call (which began in w0) owns. -/
structure Led (w0 w : World) (l : List Entry) (a : Option Addr) (n cap : Nat) : Prop where
  own : w.ownsRow w0.heap.size 60 3 (.slice a n cap) n (ents l)
  len : n = l.length
  bound : l.length < 1099511627776

theorem Led.quiet {w0 w w' : World} {l : List Entry} {a : Option Addr} {n cap : Nat} (h : Led w0 w l a n cap) (hq : Quiet w w') : Led w0 w' l a n cap := ⟨own_quiet h.own hq, h.len, h.bound⟩
theorem Led.ents {w0 w : World} {l : List Entry} {a : Option Addr} {n cap : Nat} (h : Led w0 w l a n cap) : Ents w (.slice a n cap) l := own_ents h.own h.len (by have := h.bound; omega)
theorem Led.other {w0 w : World} {l : List Entry} {a : Option Addr} {n cap : Nat} (h : Led w0 w l a n cap) {p : Addr} {cs : Array Value} {t : TypeId} (hb : Blk w p.block cs t) (ht : 60 ≠ t) (v : Value) : Led w0 (w.setCell p v) l a n cap :=
  ⟨ownsRow_setCell_other h.own (own_ne h.own hb ht) v, h.len, h.bound⟩

/-- What a function answers that makes an instance of one: y, its ledger owned; nothing old but the ledger's row has turned. -/
def Gives (w0 w : World) (row : Option Nat) (y : Inst) (e : Ending) (w' : World) : Prop :=
  ∃ a' n' cap', e = .returned (y.val (.slice a' n' cap')) ∧ w'.ownsRow w0.heap.size 60 3 (.slice a' n' cap') n' (ents y.ledger) ∧ n' = y.ledger.length ∧ w.grownBy w' row

theorem own_set12 {w : World} {base : Nat} {e : TypeId} {size : Nat} {v : Value} {n : Nat} {xs : List Value} (h : w.ownsRow base e size v n xs) {b : Nat} {cs : Array Value} {t : TypeId} (hb : Blk w b cs t) (ht : e ≠ t) (v0 v1 v2 v3 v4 v5 v6 v7 v8 v9 v10 v11 : Value) :
    ((((((((((((w.setCell ⟨b, 0, none⟩ v0).setCell ⟨b, 1, none⟩ v1).setCell ⟨b, 2, none⟩ v2).setCell ⟨b, 3, none⟩ v3).setCell ⟨b, 4, none⟩ v4).setCell ⟨b, 5, none⟩ v5).setCell ⟨b, 6, none⟩ v6).setCell ⟨b, 7, none⟩ v7).setCell ⟨b, 8, none⟩ v8).setCell ⟨b, 9, none⟩ v9).setCell ⟨b, 10, none⟩ v10).setCell ⟨b, 11, none⟩ v11).ownsRow base e size v n xs := by
  have hr := own_ne h hb ht
  iterate 12 refine ownsRow_setCell_other ?_ hr _
  exact h

end Go.Proofs.Ytgcjlgaapiefiab

/-
  The walk of the document's answer: after.
-/
namespace Go.Proofs.Ytgcjlgaapiefiab
open Go.RowKit

theorem grown_drew {w w1 : World} {row : Option Nat} (h : w.grownBy w1 row) : w.grownBy w1.drew row := ⟨h.os, h.tape, h.output, h.size, h.block⟩

/-- What a definition that is one says of its steps. -/
def StepsOk (d : Def) : Prop := ∀ s ∈ d.steps, 0 ≤ s.retries ∧ s.retries ≤ 3 ∧ 1 ≤ s.timeout ∧ s.timeout ≤ 20
theorem stepsOk_of (d : Def) (h : d.ok = true) : StepsOk d := by
  intro s hs
  simp only [Def.ok, stepsOk, Bool.and_eq_true, List.all_eq_true] at h
  have := h.2.2.2.1 s hs
  simp only [Step.ok, within, Bool.and_eq_true, decide_eq_true_eq] at this
  omega

/-- The next step is one of the definition's. -/
def InSteps (d : Def) (x : Inst) : Prop := 0 ≤ atR x ∧ atR x < d.steps.length

theorem stepR_at {d : Def} {x : Inst} (h : InSteps d x) : ∃ k : Nat, ∃ hk : k < d.steps.length, atR x = k ∧ stepR d (atR x) = d.steps[k] := by
  obtain ⟨k, hk⟩ := Int.eq_ofNat_of_zero_le h.1
  have hkl : k < d.steps.length := by have := h.2; omega
  exact ⟨k, hkl, hk, by rw [hk]; unfold stepR; simp [List.getD, hkl]⟩

end Go.Proofs.Ytgcjlgaapiefiab

/-
  Walks of the document's answer: request.
-/
namespace Go.Proofs.Ytgcjlgaapiefiab
open Go.RowKit

theorem wp_gen {P : Program} {c : Code} {Q : Exit → Act → World → Prop} {a : Act} {w : World} (R : World → Prop) (hR : R w) (h : ∀ w', R w' → Code.wp P c Q a w') : Code.wp P c Q a w := h w hR

theorem Cmds.take {w : World} {a : Option Addr} {n cap : Nat} {l : List Cmd} (h : Cmds w (.slice a n cap) l) (k : Nat) (hk : k ≤ l.length) : Cmds w (.slice a k cap) (l.take k) := by
  obtain ⟨⟨a', cap', h1, h2, h3, h4, h5⟩, h6⟩ := h
  simp only [Value.slice.injEq, List.length_map] at h1
  obtain ⟨rfl, rfl, rfl⟩ := h1
  simp only [List.length_map] at h2
  refine ⟨⟨a, cap, by simp [hk], by simp; omega, h3, ?_, ?_⟩, by simp; omega⟩
  · intro x hx; exact h4 x (by rw [List.map_take] at hx; exact List.mem_of_mem_take hx)
  · rcases h5 with h5 | ⟨b, off, ha, hx⟩
    · left; simp at h5; simp [h5]
    · right
      refine ⟨b, off, ha, fun i x hi => hx i x ?_⟩
      rw [List.map_take, List.getElem?_take] at hi
      split at hi
      · exact hi
      · simp at hi

theorem Cmds.cap {w : World} {a : Option Addr} {n cap : Nat} {l : List Cmd} (h : Cmds w (.slice a n cap) l) : n ≤ cap ∧ cap ≤ 9223372036854775807 := by
  obtain ⟨⟨a', cap', h1, h2, h3, h4, h5⟩, h6⟩ := h
  simp only [Value.slice.injEq, List.length_map] at h1
  obtain ⟨rfl, rfl, rfl⟩ := h1
  simp at h2
  unfold maxLen at h3
  omega

end Go.Proofs.Ytgcjlgaapiefiab

/-
  Walks of the document's answer: requests.
-/
namespace Go.Proofs.Ytgcjlgaapiefiab
open Go.RowKit

theorem Try.info72 : (Try.prog.info? 72).map (fun i => (i.zero, i.size, i.bytes)) = some (some (.agg #[.int .i64 0, .int .i64 0, .int .i64 0, .int .i64 0, .int .i64 0, .string ⟨#[]⟩, .slice none 0 0, .int .i64 0, .bool false]), 9, 96) := by kernel_rfl

/-- An owned row stays, where another of another element type is appended to. -/
theorem own_other {w w' : World} {o : Obj} {base base2 : Nat} {e e2 : TypeId} {m m2 : Nat} {v v2 : Value} {n n2 : Nat} {xs xs2 : List Value} (h : w.ownsRow base e m v n xs) (h2 : w.ownsRow base2 e2 m2 v2 n2 xs2) (hne : e ≠ e2)
    (hg : (w.alloc o).grownBy w' v2.ownBlock) : w'.ownsRow base e m v n xs := by
  have hge := own_ge h
  obtain ⟨h1, hv⟩ := h
  refine ⟨h1, ?_⟩
  rcases hv with hv | ⟨g, cap, cur, rfl, hb, hh, r⟩
  · exact .inl hv
  · refine .inr ⟨g, cap, cur, rfl, hb, ?_, r⟩
    have hlt := (hge g rfl).2
    rw [hg.block g (by simp; omega) ?_]
    · rw [Below.heap_alloc _ _ _ hlt]; exact hh
    · intro e'
      exact own_ne h2 (b := g) (cs := cur) (t := e) hh (fun x => hne x.symm) e'.symm

theorem own_base {w : World} {base base' : Nat} {e : TypeId} {m : Nat} {v : Value} {n : Nat} {xs : List Value} (h : w.ownsRow base e m v n xs) (hb : base' ≤ base) : w.ownsRow base' e m v n xs := by
  obtain ⟨h1, hv⟩ := h
  refine ⟨h1, ?_⟩
  rcases hv with hv | ⟨g, cap, cur, rfl, hg, r⟩
  · exact .inl hv
  · exact .inr ⟨g, cap, cur, rfl, by omega, r⟩

/-- A request with its list of approvals, which lies in memory of its own. -/
def ByOwn (base : Nat) (w : World) (p : Req × Value) : Prop := ∃ a n cap, p.2 = .slice a n cap ∧ n = p.1.bys.length ∧ w.ownsRow base 3 1 p.2 n (ints p.1.bys)
def reqVals (ps : List (Req × Value)) : List (List Value) := ps.map fun p => p.1.cells p.2
/-- A slice of requests that the call made. -/
def ReqsOwn (base : Nat) (w : World) (v : Value) (rs : List Req) : Prop :=
  ∃ ps : List (Req × Value), ps.map (·.1) = rs ∧ w.ownsRow base 72 9 v ps.length (reqVals ps).flatten ∧ ∀ p ∈ ps, ByOwn base w p

end Go.Proofs.Ytgcjlgaapiefiab

/-
  Walks of the document's answer: carried.
-/
namespace Go.Proofs.Ytgcjlgaapiefiab
open Go.RowKit

theorem At.nine {w : World} {b o : Nat} {x0 x1 x2 x3 x4 x5 x6 x7 x8 : Value} (h : At w b o [x0, x1, x2, x3, x4, x5, x6, x7, x8]) :
    w.cell? ⟨b, o, none⟩ = some x0 ∧ w.cell? ⟨b, o + 1, none⟩ = some x1 ∧ w.cell? ⟨b, o + 2, none⟩ = some x2 ∧ w.cell? ⟨b, o + 3, none⟩ = some x3 ∧ w.cell? ⟨b, o + 4, none⟩ = some x4 ∧ w.cell? ⟨b, o + 5, none⟩ = some x5 ∧ w.cell? ⟨b, o + 6, none⟩ = some x6 ∧ w.cell? ⟨b, o + 7, none⟩ = some x7 ∧ w.cell? ⟨b, o + 8, none⟩ = some x8 :=
  ⟨h 0 x0 rfl, h 1 x1 rfl, h 2 x2 rfl, h 3 x3 rfl, h 4 x4 rfl, h 5 x5 rfl, h 6 x6 rfl, h 7 x7 rfl, h 8 x8 rfl⟩

theorem own_reqs {w : World} {base : Nat} {v : Value} {n : Nat} {ps : List (Req × Value)} (h : w.ownsRow base 72 9 v n (reqVals ps).flatten) (hn : n = ps.length) : Arr w 9 v (reqVals ps) :=
  own_arr (base := base) (e := 72) (n := n) h (by simp [reqVals, hn]) (by intro x hx; simp [reqVals] at hx; obtain ⟨a, b, _, rfl⟩ := hx; rfl)

theorem reqs_cell {w : World} {n cap : Nat} {a : Option Addr} {ps : List (Req × Value)} (h : Arr w 9 (.slice a n cap) (reqVals ps)) (k : Nat) (hk : k < ps.length) :
    ∃ b off, a = some ⟨b, off, none⟩ ∧ b < w.heap.size ∧
      w.cell? ⟨b, off + k * 9, none⟩ = some (.int .i64 ps[k].1.number) ∧ w.cell? ⟨b, off + k * 9 + 1, none⟩ = some (.int .i64 ps[k].1.inst) ∧ w.cell? ⟨b, off + k * 9 + 2, none⟩ = some (.int .i64 ps[k].1.what) ∧
      w.cell? ⟨b, off + k * 9 + 3, none⟩ = some (.int .i64 ps[k].1.target) ∧ w.cell? ⟨b, off + k * 9 + 4, none⟩ = some (.int .i64 ps[k].1.who) ∧ w.cell? ⟨b, off + k * 9 + 5, none⟩ = some (.string ps[k].1.reason) ∧
      w.cell? ⟨b, off + k * 9 + 6, none⟩ = some ps[k].2 ∧ w.cell? ⟨b, off + k * 9 + 7, none⟩ = some (.int .i64 ps[k].1.upto) ∧ w.cell? ⟨b, off + k * 9 + 8, none⟩ = some (.bool ps[k].1.closed) := by
  obtain ⟨b, off, ha, hx⟩ := h.row k (by simpa [reqVals] using hk)
  simp only [reqVals, List.getElem_map] at hx
  exact ⟨b, off, ha, hx.lt, hx.nine⟩

theorem Blk.set5 {w : World} {b : Nat} {cs : Array Value} {t : TypeId} (h : Blk w b cs t) (hs : cs.size = 5) (v0 v1 v2 v3 v4 : Value) :
    Blk (((((w.setCell ⟨b, 0, none⟩ v0).setCell ⟨b, 1, none⟩ v1).setCell ⟨b, 2, none⟩ v2).setCell ⟨b, 3, none⟩ v3).setCell ⟨b, 4, none⟩ v4) b #[v0, v1, v2, v3, v4] t := by
  obtain ⟨cs⟩ := cs
  match cs, hs with
  | [_, _, _, _, _], _ => simpa using ((((h.set 0 v0).set 1 v1).set 2 v2).set 3 v3).set 4 v4
theorem Below.set5 {B : Nat} {w0 w : World} (h : Below B w0 w) {b : Nat} (hb : B ≤ b) (v0 v1 v2 v3 v4 : Value) :
    Below B w0 (((((w.setCell ⟨b, 0, none⟩ v0).setCell ⟨b, 1, none⟩ v1).setCell ⟨b, 2, none⟩ v2).setCell ⟨b, 3, none⟩ v3).setCell ⟨b, 4, none⟩ v4) :=
  ((((h.setCell hb v0).setCell hb v1).setCell hb v2).setCell hb v3).setCell hb v4
theorem requestR_bys (d : Def) (l : List Cmd) (k : Nat) (number : Int) : (requestR d l k number).bys.length ≤ l.length := by
  unfold requestR
  have h1 := reqFold_len d number (l.drop (k + 1)) (reqBase d (l.take k) (l.getD k default) number)
  have h2 : (reqBase d (l.take k) (l.getD k default) number).bys.length = 0 := rfl
  have h3 : (l.drop (k + 1)).length ≤ l.length := by simp
  omega
theorem requestsTo_bys (d : Def) (l : List Cmd) (m : Nat) : ∀ r ∈ requestsTo d l m, r.bys.length ≤ l.length := by
  induction m with
  | zero => intro r hr; simp [requestsTo] at hr
  | succ m ih =>
    intro r hr
    unfold requestsTo at hr
    split at hr
    · rcases List.mem_append.1 hr with hr | hr
      · exact ih r hr
      · simp at hr; subst hr; exact requestR_bys ..
    · exact ih r hr
theorem requests_bys (d : Def) (l : List Cmd) (k : Nat) : ((requestsR d l).getD k default).bys.length ≤ l.length := by
  by_cases h : k < (requestsR d l).length
  · have : (requestsR d l).getD k default = (requestsR d l)[k] := by simp [List.getD, h]
    rw [this]; exact requestsTo_bys d l l.length _ (List.getElem_mem h)
  · have : (requestsR d l).getD k default = default := by simp [List.getD, h]
    rw [this]; exact Nat.zero_le _

end Go.Proofs.Ytgcjlgaapiefiab

/-
  Walks of the document's answer: facts.
-/
namespace Go.Proofs.Ytgcjlgaapiefiab
open Go.RowKit

theorem Blk.other5 {w : World} {b c : Nat} {cs : Array Value} {t : TypeId} (h : Blk w c cs t) (hc : c ≠ b) (v0 v1 v2 v3 v4 : Value) :
    Blk (((((w.setCell ⟨b, 0, none⟩ v0).setCell ⟨b, 1, none⟩ v1).setCell ⟨b, 2, none⟩ v2).setCell ⟨b, 3, none⟩ v3).setCell ⟨b, 4, none⟩ v4) c cs t :=
  ((((h.other v0 hc).other v1 hc).other v2 hc).other v3 hc).other v4 hc

def factVals (l : List Fact) : List Value := (l.map Fact.cells).flatten
end Go.Proofs.Ytgcjlgaapiefiab

/-
  Walks of the document's answer: instance.
-/
namespace Go.Proofs.Ytgcjlgaapiefiab
open Go.RowKit

/-- The facts of an instance are such that no step is asked for that there is not. -/
def FactsOk (d : Def) (id : Int) (fs : List Fact) : Prop := ∀ k (hk : k < fs.length), fs[k].kind = 1 ∨ fs[k].kind = 3 → InSteps d (instFold d id (fs.take k))

theorem own_grown {w w' : World} {base base2 : Nat} {e e2 : TypeId} {m m2 : Nat} {v v2 : Value} {n n2 : Nat} {xs xs2 : List Value} (h : w.ownsRow base e m v n xs) (h2 : w.ownsRow base2 e2 m2 v2 n2 xs2) (hne : e ≠ e2)
    (hg : w.grownBy w' v2.ownBlock) : w'.ownsRow base e m v n xs := by
  have hge := own_ge h
  obtain ⟨h1, hv⟩ := h
  refine ⟨h1, ?_⟩
  rcases hv with hv | ⟨g, cap, cur, rfl, hb, hh, r⟩
  · exact .inl hv
  · refine .inr ⟨g, cap, cur, rfl, hb, ?_, r⟩
    rw [hg.block g (hge g rfl).2 ?_]
    · exact hh
    · intro e'
      exact own_ne h2 (b := g) (cs := cur) (t := e) hh (fun x => hne x.symm) e'.symm

theorem facts_cell {w : World} {n cap : Nat} {a : Option Addr} {l : List Fact} (h : Arr w 5 (.slice a n cap) (l.map Fact.cells)) (k : Nat) (hk : k < l.length) :
    ∃ b off, a = some ⟨b, off, none⟩ ∧ b < w.heap.size ∧
      w.cell? ⟨b, off + k * 5, none⟩ = some (.int .i64 l[k].kind) ∧ w.cell? ⟨b, off + k * 5 + 1, none⟩ = some (.int .i64 l[k].at_) ∧ w.cell? ⟨b, off + k * 5 + 2, none⟩ = some (.int .i64 l[k].what) ∧
      w.cell? ⟨b, off + k * 5 + 3, none⟩ = some (.int .i64 l[k].target) ∧ w.cell? ⟨b, off + k * 5 + 4, none⟩ = some (.int .i64 l[k].ref) := by
  obtain ⟨b, off, ha, hx⟩ := h.row k (by simpa using hk)
  simp only [List.getElem_map] at hx
  exact ⟨b, off, ha, hx.lt, hx 0 _ rfl, hx 1 _ rfl, hx 2 _ rfl, hx 3 _ rfl, hx 4 _ rfl⟩

end Go.Proofs.Ytgcjlgaapiefiab

/-
  Walks of the document's answer: can.
-/
namespace Go.Proofs.Ytgcjlgaapiefiab
open Go.RowKit

end Go.Proofs.Ytgcjlgaapiefiab

/-
  Walks of the document's answer: picked.
-/
namespace Go.Proofs.Ytgcjlgaapiefiab
open Go.RowKit

theorem Blk.set4 {w : World} {b : Nat} {cs : Array Value} {t : TypeId} (h : Blk w b cs t) (hs : cs.size = 4) (v0 v1 v2 v3 : Value) :
    Blk ((((w.setCell ⟨b, 0, none⟩ v0).setCell ⟨b, 1, none⟩ v1).setCell ⟨b, 2, none⟩ v2).setCell ⟨b, 3, none⟩ v3) b #[v0, v1, v2, v3] t := by
  obtain ⟨cs⟩ := cs
  match cs, hs with
  | [_, _, _, _], _ => simpa using (((h.set 0 v0).set 1 v1).set 2 v2).set 3 v3
theorem Below.set4 {B : Nat} {w0 w : World} (h : Below B w0 w) {b : Nat} (hb : B ≤ b) (v0 v1 v2 v3 : Value) :
    Below B w0 ((((w.setCell ⟨b, 0, none⟩ v0).setCell ⟨b, 1, none⟩ v1).setCell ⟨b, 2, none⟩ v2).setCell ⟨b, 3, none⟩ v3) :=
  (((h.setCell hb v0).setCell hb v1).setCell hb v2).setCell hb v3

end Go.Proofs.Ytgcjlgaapiefiab

/-
  Walks of the document's answer: answered.
-/
namespace Go.Proofs.Ytgcjlgaapiefiab
open Go.RowKit

def Cmd.val (c : Cmd) : Value := .agg #[.int .i64 c.kind, .int .i64 c.inst, .int .i64 c.a, .int .i64 c.b, .int .i64 c.who, .string c.reason, .bool c.dry]

end Go.Proofs.Ytgcjlgaapiefiab

/-
  Walks of the document's answer: decided.
-/
namespace Go.Proofs.Ytgcjlgaapiefiab
open Go.RowKit

end Go.Proofs.Ytgcjlgaapiefiab

/-
  Walks of the document's answer: answer.
-/
namespace Go.Proofs.Ytgcjlgaapiefiab
open Go.RowKit

theorem inst_keys (d : Def) (l : List Cmd) (id : Int) (hl : l.length ≤ 549755813888) : 0 ≤ (instanceR d l id).keys ∧ (instanceR d l id).keys ≤ 2199023255552 ∧ (instanceR d l id).ledger.length ≤ 549755813888 := by
  have h1 := instFold_bd d id (factsR d l id) (factsR d l id).length (Nat.le_refl _)
  rw [List.take_length] at h1
  have h2 := factsTo_len d l id l.length
  change (factsR d l id).length ≤ _ at h2
  change 0 ≤ (instFold d id (factsR d l id)).keys ∧ (instFold d id (factsR d l id)).keys ≤ _ ∧ (instFold d id (factsR d l id)).ledger.length ≤ _
  omega

end Go.Proofs.Ytgcjlgaapiefiab

/-
  Walks of the document's answer: world.
-/
namespace Go.Proofs.Ytgcjlgaapiefiab
open Go.RowKit

theorem Try.info56 : (Try.prog.info? 56).map (fun i => (i.zero, i.size, i.bytes)) = some (some (.agg #[.int .i64 0, .int .i64 0, .bool false, .int .i64 0, .int .i64 0, .bool false, .int .i64 0, .int .i64 0, .int .i64 0, .int .i64 0, .int .i64 0, .slice none 0 0]), 12, 112) := by kernel_rfl

/-- An instance with its ledger, which lies in memory of its own. -/
def LedOwn (base : Nat) (w : World) (p : Inst × Value) : Prop := ∃ a n cap, p.2 = .slice a n cap ∧ n = p.1.ledger.length ∧ w.ownsRow base 60 3 p.2 n (ents p.1.ledger)
def instVals (ps : List (Inst × Value)) : List (List Value) := ps.map fun p => p.1.cells p.2
/-- A slice of instances that the call made. -/
def InstsOwn (base : Nat) (w : World) (v : Value) (xs : List Inst) : Prop :=
  ∃ ps : List (Inst × Value), ps.map (·.1) = xs ∧ w.ownsRow base 56 12 v ps.length (instVals ps).flatten ∧ ∀ p ∈ ps, LedOwn base w p

theorem ReqsOwn.quiet {base : Nat} {w w' : World} {v : Value} {rs : List Req} (h : ReqsOwn base w v rs) (hq : Quiet w w') : ReqsOwn base w' v rs := by
  obtain ⟨ps, h1, h2, h3⟩ := h
  exact ⟨ps, h1, own_quiet h2 hq, fun p hp => by obtain ⟨a, n, cap, e1, e2, e3⟩ := h3 p hp; exact ⟨a, n, cap, e1, e2, own_quiet e3 hq⟩⟩
theorem InstsOwn.quiet {base : Nat} {w w' : World} {v : Value} {rs : List Inst} (h : InstsOwn base w v rs) (hq : Quiet w w') : InstsOwn base w' v rs := by
  obtain ⟨ps, h1, h2, h3⟩ := h
  exact ⟨ps, h1, own_quiet h2 hq, fun p hp => by obtain ⟨a, n, cap, e1, e2, e3⟩ := h3 p hp; exact ⟨a, n, cap, e1, e2, own_quiet e3 hq⟩⟩
theorem ReqsOwn.base {base base' : Nat} {w : World} {v : Value} {rs : List Req} (h : ReqsOwn base w v rs) (hb : base' ≤ base) : ReqsOwn base' w v rs := by
  obtain ⟨ps, h1, h2, h3⟩ := h
  exact ⟨ps, h1, own_base h2 hb, fun p hp => by obtain ⟨a, n, cap, e1, e2, e3⟩ := h3 p hp; exact ⟨a, n, cap, e1, e2, own_base e3 hb⟩⟩
/-- .. behind an append to a row of another element type. -/
theorem ReqsOwn.grown {base base2 : Nat} {w w' : World} {o : Obj} {v v2 : Value} {rs : List Req} {e2 : TypeId} {m2 n2 : Nat} {xs2 : List Value} (h : ReqsOwn base w v rs) (h2 : w.ownsRow base2 e2 m2 v2 n2 xs2) (hr : 72 ≠ e2) (hi : 3 ≠ e2) (hg : (w.alloc o).grownBy w' v2.ownBlock) : ReqsOwn base w' v rs := by
  obtain ⟨ps, q1, q2, q3⟩ := h
  exact ⟨ps, q1, own_other q2 h2 hr hg, fun p hp => by obtain ⟨a, n, cap, t1, t2, t3⟩ := q3 p hp; exact ⟨a, n, cap, t1, t2, own_other t3 h2 hi hg⟩⟩
theorem ReqsOwn.set {base : Nat} {w : World} {v : Value} {rs : List Req} (h : ReqsOwn base w v rs) {p : Addr} {cs : Array Value} {t : TypeId} (hb : Blk w p.block cs t) (hr : 72 ≠ t) (hi : 3 ≠ t) (u : Value) : ReqsOwn base (w.setCell p u) v rs := by
  obtain ⟨ps, q1, q2, q3⟩ := h
  exact ⟨ps, q1, ownsRow_setCell_other q2 (own_ne q2 hb hr) u, fun q hq => by obtain ⟨a, n, cap, t1, t2, t3⟩ := q3 q hq; exact ⟨a, n, cap, t1, t2, ownsRow_setCell_other t3 (own_ne t3 hb hi) u⟩⟩

end Go.Proofs.Ytgcjlgaapiefiab

/-
  The document's answer and world, behind every log that came about.
-/
namespace Go.Proofs.Ytgcjlgaapiefiab
open Go.RowKit

theorem ok_steps {d : Def} (h : d.ok = true) : 0 < d.steps.length ∧ 0 ≤ d.expiry ∧ d.expiry ≤ 50 := by
  simp only [Def.ok, within, Bool.and_eq_true, decide_eq_true_eq] at h
  omega

end Go.Proofs.Ytgcjlgaapiefiab

/-
  Walks of the laws' own filter: plain.
-/
namespace Go.Proofs.Ytgcjlgaapiefiab
open Go.RowKit

theorem Try.info32 : (Try.prog.info? 32).map (fun i => (i.zero, i.size, i.bytes)) = some (some (.agg #[.int .i64 0, .int .i64 0, .int .i64 0, .int .i64 0, .int .i64 0, .string ⟨#[]⟩, .bool false]), 7, 64) := by kernel_rfl

def cmdVals (l : List Cmd) : List Value := (l.map Cmd.cells).flatten
def plainStep (l : List Cmd) (c : Cmd) : List Cmd := if 1 ≤ c.kind ∧ c.kind ≤ 4 then l ++ [{ c with dry := false }] else l
def plainR (l : List Cmd) : List Cmd := l.foldl plainStep []
theorem plainR_len (l : List Cmd) : (plainR l).length ≤ l.length := by
  unfold plainR
  suffices h : ∀ z : List Cmd, (l.foldl plainStep z).length ≤ z.length + l.length by have := h []; simpa using this
  induction l with
  | nil => intro z; simp
  | cons c l ih =>
    intro z
    have := ih (plainStep z c)
    have h2 : (plainStep z c).length ≤ z.length + 1 := by unfold plainStep; split <;> simp
    simp only [List.foldl_cons, List.length_cons]
    omega

end Go.Proofs.Ytgcjlgaapiefiab

/-
  Walks of the laws' own comparisons: what is the same is found the same.
-/
namespace Go.Proofs.Ytgcjlgaapiefiab
open Go.RowKit

/-- A slice of answers. -/
def Answers (w : World) (v : Value) (l : List Answer) : Prop := Arr w 4 v (l.map Answer.cells)
theorem Answers.cell {w : World} {n cap : Nat} {a : Option Addr} {l : List Answer} (h : Answers w (.slice a n cap) l) (k : Nat) (hk : k < l.length) :
    ∃ b off, a = some ⟨b, off, none⟩ ∧ b < w.heap.size ∧
      w.cell? ⟨b, off + k * 4, none⟩ = some (.int .i64 l[k].code) ∧ w.cell? ⟨b, off + k * 4 + 1, none⟩ = some (.int .i64 l[k].number) ∧ w.cell? ⟨b, off + k * 4 + 2, none⟩ = some (.int .i64 l[k].step) ∧ w.cell? ⟨b, off + k * 4 + 3, none⟩ = some (.int .i64 l[k].what) := by
  obtain ⟨b, off, ha, hx⟩ := Arr.row h k (by simpa using hk)
  simp only [List.getElem_map] at hx
  exact ⟨b, off, ha, hx.lt, hx.four⟩

end Go.Proofs.Ytgcjlgaapiefiab

/-
  Walks of the laws' own comparisons of instances and requests: what is the same is found the same.
-/
namespace Go.Proofs.Ytgcjlgaapiefiab
open Go.RowKit

end Go.Proofs.Ytgcjlgaapiefiab

/-
  The walk of the laws' own comparison of worlds: what is the same is found the same.
-/
namespace Go.Proofs.Ytgcjlgaapiefiab
open Go.RowKit Go.Sort

/-- A slice of instances. -/
def InstsAt (w : World) (v : Value) (xs : List Inst) : Prop :=
  ∃ ps : List (Inst × Value), ps.map (·.1) = xs ∧ Arr w 12 v (instVals ps) ∧ ∀ p ∈ ps, ∃ a n cap, p.2 = .slice a n cap ∧ Ents w (.slice a n cap) p.1.ledger
/-- A slice of requests. -/
def ReqsAt (w : World) (v : Value) (rs : List Req) : Prop :=
  ∃ ps : List (Req × Value), ps.map (·.1) = rs ∧ Arr w 9 v (reqVals ps) ∧ ∀ p ∈ ps, ∃ a n cap, p.2 = .slice a n cap ∧ Ints w (.slice a n cap) p.1.bys

theorem InstsAt.quiet {w w' : World} {v : Value} {xs : List Inst} (h : InstsAt w v xs) (hq : Quiet w w') : InstsAt w' v xs := by
  obtain ⟨ps, h1, h2, h3⟩ := h
  exact ⟨ps, h1, h2.quiet hq, fun p hp => by obtain ⟨a, n, cap, e1, e2⟩ := h3 p hp; exact ⟨a, n, cap, e1, e2.quiet hq⟩⟩
theorem ReqsAt.quiet {w w' : World} {v : Value} {xs : List Req} (h : ReqsAt w v xs) (hq : Quiet w w') : ReqsAt w' v xs := by
  obtain ⟨ps, h1, h2, h3⟩ := h
  exact ⟨ps, h1, h2.quiet hq, fun p hp => by obtain ⟨a, n, cap, e1, e2⟩ := h3 p hp; exact ⟨a, n, cap, e1, e2.quiet hq⟩⟩

theorem InstsAt.get {w : World} {a : Option Addr} {n cap : Nat} {xs : List Inst} (h : InstsAt w (.slice a n cap) xs) (k : Nat) (hk : k < xs.length) :
    ∃ b off la ln lc, a = some ⟨b, off, none⟩ ∧ b < w.heap.size ∧ At w b (off + k * 12) (xs[k].cells (.slice la ln lc)) ∧ Ents w (.slice la ln lc) xs[k].ledger := by
  obtain ⟨ps, rfl, h2, h3⟩ := h
  simp only [List.length_map] at hk
  obtain ⟨b, off, ha, hx⟩ := h2.row k (by simpa [instVals] using hk)
  obtain ⟨la, ln, lc, e1, e2⟩ := h3 ps[k] (List.getElem_mem hk)
  simp only [instVals, List.getElem_map] at hx
  rw [e1] at hx
  refine ⟨b, off, la, ln, lc, ha, hx.lt, ?_, ?_⟩
  · simpa using hx
  · simpa using e2
theorem ReqsAt.get {w : World} {a : Option Addr} {n cap : Nat} {xs : List Req} (h : ReqsAt w (.slice a n cap) xs) (k : Nat) (hk : k < xs.length) :
    ∃ b off la ln lc, a = some ⟨b, off, none⟩ ∧ b < w.heap.size ∧ At w b (off + k * 9) (xs[k].cells (.slice la ln lc)) ∧ Ints w (.slice la ln lc) xs[k].bys := by
  obtain ⟨ps, rfl, h2, h3⟩ := h
  simp only [List.length_map] at hk
  obtain ⟨b, off, ha, hx⟩ := h2.row k (by simpa [reqVals] using hk)
  obtain ⟨la, ln, lc, e1, e2⟩ := h3 ps[k] (List.getElem_mem hk)
  simp only [reqVals, List.getElem_map] at hx
  rw [e1] at hx
  refine ⟨b, off, la, ln, lc, ha, hx.lt, ?_, ?_⟩
  · simpa using hx
  · simpa using e2
theorem InstsAt.len {w : World} {a : Option Addr} {n cap : Nat} {xs : List Inst} (h : InstsAt w (.slice a n cap) xs) : n = xs.length ∧ n ≤ 9223372036854775807 := by
  obtain ⟨ps, rfl, h2, _⟩ := h
  have := h2.len
  simpa [instVals] using this
theorem ReqsAt.len {w : World} {a : Option Addr} {n cap : Nat} {xs : List Req} (h : ReqsAt w (.slice a n cap) xs) : n = xs.length ∧ n ≤ 9223372036854775807 := by
  obtain ⟨ps, rfl, h2, _⟩ := h
  have := h2.len
  simpa [reqVals] using this
theorem InstsAt.shape {w : World} {v : Value} {xs : List Inst} (h : InstsAt w v xs) : ∃ a n cap, v = .slice a n cap := by obtain ⟨_, _, h2, _⟩ := h; exact h2.shape
theorem ReqsAt.shape {w : World} {v : Value} {xs : List Req} (h : ReqsAt w v xs) : ∃ a n cap, v = .slice a n cap := by obtain ⟨_, _, h2, _⟩ := h; exact h2.shape

theorem mixed : Try.prog.follows .mixedOrders = true := by kernel_rfl

end Go.Proofs.Ytgcjlgaapiefiab

/-
  What a call made is a slice of instances, of requests, of answers, as the laws' comparisons want it.
-/
namespace Go.Proofs.Ytgcjlgaapiefiab
open Go.RowKit

theorem InstsOwn.at {base : Nat} {w : World} {v : Value} {xs : List Inst} (h : InstsOwn base w v xs) (hb : ∀ x ∈ xs, x.ledger.length ≤ 2199023255552) : InstsAt w v xs := by
  obtain ⟨ps, rfl, h2, h3⟩ := h
  refine ⟨ps, rfl, own_arr (base := base) (e := 56) (n := ps.length) h2 (by simp [instVals]) (by intro x hx; simp [instVals] at hx; obtain ⟨a, b, _, rfl⟩ := hx; rfl), fun p hp => ?_⟩
  obtain ⟨a, n, cap, e1, e2, e3⟩ := h3 p hp
  rw [e1] at e3
  exact ⟨a, n, cap, e1, own_ents e3 e2 (hb p.1 (List.mem_map_of_mem hp))⟩
theorem ReqsOwn.at {base : Nat} {w : World} {v : Value} {rs : List Req} (h : ReqsOwn base w v rs) : ReqsAt w v rs := by
  obtain ⟨ps, rfl, h2, h3⟩ := h
  refine ⟨ps, rfl, own_reqs h2 rfl, fun p hp => ?_⟩
  obtain ⟨a, n, cap, e1, e2, e3⟩ := h3 p hp
  rw [e1] at e3
  exact ⟨a, n, cap, e1, own_ints (by rw [← e2]; exact e3)⟩


/-- The world of a log, its ledgers bounded. -/
theorem worldR_bound (d : Def) (l : List Cmd) (hl : l.length ≤ 549755813888) : ∀ x ∈ (worldR d l).insts, x.ledger.length ≤ 2199023255552 := by
  intro x hx
  simp only [worldR, List.mem_map] at hx
  obtain ⟨id, _, rfl⟩ := hx
  have := (inst_keys d l id hl).2.2
  omega

end Go.Proofs.Ytgcjlgaapiefiab

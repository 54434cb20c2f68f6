import Derived.Test.YtgcjlgaapiefiabGreatQPrwA
import Derived.Test.YtgcjlgaapiefiabGreatQRefA
import Derived.Test.YtgcjlgaapiefiabGreatQRefB
import Derived.Deep.AppendLies

/-
  A row of cells within a block that is written into; an instance with its ledger, as it lies in memory.
-/
namespace Go.Proofs.YtgcjlgaapiefiabGreat
open Go.RowKit

/-- A row within a block, none of which is frozen. -/
def Row (w : World) (b o : Nat) (t : TypeId) (cs : Array Value) (vs : List Value) : Prop := Blk w b cs t ∧ ∀ j, j < vs.length → cs[o + j]? = vs[j]?

theorem Row.at {w : World} {b o : Nat} {t : TypeId} {cs : Array Value} {vs : List Value} (h : Row w b o t cs vs) : At w b o vs := by
  intro j v hj
  have hjl : j < vs.length := (List.getElem?_eq_some_iff.1 hj).1
  rw [h.1.cell, h.2 j hjl, hj]
theorem Row.set {w : World} {b o : Nat} {t : TypeId} {cs : Array Value} {vs : List Value} (h : Row w b o t cs vs) (j : Nat) (v : Value) (hj : j < vs.length) : Row (w.setCell ⟨b, o + j, none⟩ v) b o t (cs.setIfInBounds (o + j) v) (vs.set j v) := by
  refine ⟨h.1.set (o + j) v, fun i hi => ?_⟩
  rw [List.length_set] at hi
  have hs : o + j < cs.size := by
    have := h.2 j hj
    rw [List.getElem?_eq_getElem hj] at this
    exact (Array.getElem?_eq_some_iff.1 this).1
  rw [Array.getElem?_setIfInBounds, List.getElem?_set]
  by_cases e : j = i
  · subst e; simp [hs, hj]
  · rw [if_neg (by omega), if_neg e]; exact h.2 i hi
theorem Row.quiet {w w' : World} {b o : Nat} {t : TypeId} {cs : Array Value} {vs : List Value} (h : Row w b o t cs vs) (hq : Quiet w w') : Row w' b o t cs vs := ⟨h.1.quiet hq, h.2⟩
theorem Row.grown {w w' : World} {row : Option Nat} {b o : Nat} {t : TypeId} {cs : Array Value} {vs : List Value} (h : Row w b o t cs vs) (hg : w.grownBy w' row) (hr : some b ≠ row) : Row w' b o t cs vs := ⟨h.1.grown hg hr, h.2⟩

/-- Only n cells from o on of a block, and one row, may have turned. -/
structure Turned (w w' : World) (b o n : Nat) (row : Option Nat) : Prop where
  os : w'.os = w.os
  tape : w'.tape = w.tape
  output : w'.output = w.output
  size : w.heap.size ≤ w'.heap.size
  block : ∀ k, k < w.heap.size → k ≠ b → some k ≠ row → w'.heap[k]? = w.heap[k]?
  here : ∀ cs t, Blk w b cs t → ∃ cs', Blk w' b cs' t ∧ cs'.size = cs.size ∧ ∀ j, ¬ (o ≤ j ∧ j < o + n) → cs'[j]? = cs[j]?

theorem Turned.refl (w : World) (b o n : Nat) (row : Option Nat) : Turned w w b o n row :=
  ⟨rfl, rfl, rfl, Nat.le_refl _, fun _ _ _ _ => rfl, fun cs _ h => ⟨cs, h, rfl, fun _ _ => rfl⟩⟩
theorem Turned.quiet {w w' : World} (h : Quiet w w') (b o n : Nat) (row : Option Nat) : Turned w w' b o n row :=
  ⟨h.os, h.tape, h.output, h.size, fun k hk _ _ => h.block k hk, fun cs _ hb => ⟨cs, hb.quiet h, rfl, fun _ _ => rfl⟩⟩
theorem Turned.trans {w w1 w2 : World} {b o n : Nat} {row row' : Option Nat} (h : Turned w w1 b o n row) (h2 : Turned w1 w2 b o n row') (hr : row' = row ∨ ∀ k, row' = some k → w.heap.size ≤ k) : Turned w w2 b o n row := by
  refine ⟨h2.os.trans h.os, h2.tape.trans h.tape, h2.output.trans h.output, Nat.le_trans h.size h2.size, fun k hk hb hrow => ?_, fun cs t hB => ?_⟩
  · rw [h2.block k (Nat.lt_of_lt_of_le hk h.size) hb ?_, h.block k hk hb hrow]
    rcases hr with rfl | hr
    · exact hrow
    · intro e; have := hr k e.symm; omega
  · obtain ⟨c1, b1, s1, e1⟩ := h.here cs t hB
    obtain ⟨c2, b2, s2, e2⟩ := h2.here c1 t b1
    exact ⟨c2, b2, s2.trans s1, fun j hj => (e2 j hj).trans (e1 j hj)⟩
theorem Turned.set {w : World} {b o n : Nat} (row : Option Nat) (j : Nat) (v : Value) (hj : j < n) : Turned w (w.setCell ⟨b, o + j, none⟩ v) b o n row := by
  refine ⟨rfl, rfl, rfl, by simp [World.setCell], fun k _ hb _ => Below.heap_setCell w ⟨b, o + j, none⟩ v k hb, fun cs t hB => ⟨_, hB.set (o + j) v, by simp, fun i hi => ?_⟩⟩
  rw [Array.getElem?_setIfInBounds, if_neg (by omega)]
theorem Turned.grown {w w' : World} {b o n : Nat} {row : Option Nat} (h : w.grownBy w' row) (hr : ∀ cs t, Blk w b cs t → some b ≠ row) : Turned w w' b o n row :=
  ⟨h.os, h.tape, h.output, h.size, fun k hk _ hrow => h.block k hk hrow, fun cs t hB => ⟨cs, hB.grown h (hr cs t hB), rfl, fun _ _ => rfl⟩⟩
/-- Below a base that lies under all that turns. -/
theorem Turned.below {w w' : World} {b o n : Nat} {row : Option Nat} (h : Turned w w' b o n row) {base : Nat} (hs : base ≤ w.heap.size) (hb : base ≤ b) (hr : ∀ k, row = some k → base ≤ k) : Below base w w' :=
  ⟨h.os, h.tape, h.output, h.size, fun k hk => h.block k (by omega) (by omega) (fun e => by have := hr k e.symm; omega)⟩

/-- An instance with its ledger, as it lies in memory. -/
structure InstIn (base : Nat) (w : World) (b o : Nat) (cs : Array Value) (x : Inst) (a : Option Addr) (n cap : Nat) : Prop where
  row : Row w b o 78 cs (x.cells (.slice a n cap))
  own : w.ownsRow base 92 3 (.slice a n cap) n (ents x.ledger)
  len : n = x.ledger.length

theorem InstIn.at {base : Nat} {w : World} {b o : Nat} {cs : Array Value} {x : Inst} {a : Option Addr} {n cap : Nat} (h : InstIn base w b o cs x a n cap) : InstAt w b o x := ⟨_, h.row.at⟩
theorem InstIn.quiet {base : Nat} {w w' : World} {b o : Nat} {cs : Array Value} {x : Inst} {a : Option Addr} {n cap : Nat} (h : InstIn base w b o cs x a n cap) (hq : Quiet w w') : InstIn base w' b o cs x a n cap := ⟨h.row.quiet hq, own_quiet h.own hq, h.len⟩
theorem InstIn.set {base : Nat} {w : World} {b o : Nat} {cs : Array Value} {x : Inst} {a : Option Addr} {n cap : Nat} (h : InstIn base w b o cs x a n cap) (j : Nat) (v : Value) (y : Inst) (hj : j < 12) (hy : (x.cells (.slice a n cap)).set j v = y.cells (.slice a n cap)) (hl : y.ledger = x.ledger) :
    InstIn base (w.setCell ⟨b, o + j, none⟩ v) b o (cs.setIfInBounds (o + j) v) y a n cap := by
  refine ⟨?_, ?_, by rw [hl]; exact h.len⟩
  · rw [← hy]; exact h.row.set j v hj
  · rw [hl]; exact ownsRow_setCell_other h.own (own_ne h.own h.row.1 (by decide)) v

/-- What a call makes of an instance. -/
def Makes (base : Nat) (w : World) (b o : Nat) (row : Option Nat) (y : Inst) (w' : World) : Prop :=
  ∃ cs a n cap, InstIn base w' b o cs y a n cap ∧ Turned w w' b o 12 row ∧ ((Value.slice a n cap).ownBlock = row ∨ ∀ k, (Value.slice a n cap).ownBlock = some k → w.heap.size ≤ k)

theorem Makes.trans {base : Nat} {w w1 w2 : World} {b o : Nat} {row row1 : Option Nat} {z : Inst} (h1 : Turned w w1 b o 12 row) (hr : row1 = row ∨ ∀ k, row1 = some k → w.heap.size ≤ k) (h2 : Makes base w1 b o row1 z w2) : Makes base w b o row z w2 := by
  obtain ⟨cs, a, n, cap, hi, ht, hb⟩ := h2
  refine ⟨cs, a, n, cap, hi, h1.trans ht hr, ?_⟩
  rcases hb with hb | hb
  · rw [hb]; exact hr
  · exact .inr fun k hk => Nat.le_trans h1.size (hb k hk)
theorem Makes.quiet {base : Nat} {w w1 w2 : World} {b o : Nat} {row : Option Nat} {z : Inst} (h1 : Quiet w w1) (h2 : Makes base w1 b o row z w2) : Makes base w b o row z w2 := Makes.trans (Turned.quiet h1 b o 12 row) (.inl rfl) h2
theorem Makes.of {base : Nat} {w w' : World} {b o : Nat} {cs : Array Value} {y : Inst} {a : Option Addr} {n cap : Nat} {row : Option Nat} (h : InstIn base w' b o cs y a n cap) (ht : Turned w w' b o 12 row) (hr : (Value.slice a n cap).ownBlock = row) : Makes base w b o row y w' := ⟨cs, a, n, cap, h, ht, .inl hr⟩
theorem Makes.behind {base : Nat} {w w1 w2 : World} {b o : Nat} {row : Option Nat} {z : Inst} (h1 : Makes base w b o row z w1) (h2 : Quiet w1 w2) : Makes base w b o row z w2 := by
  obtain ⟨cs, a, n, cap, hi, ht, hb⟩ := h1
  exact ⟨cs, a, n, cap, hi.quiet h2, ht.trans (Turned.quiet h2 b o 12 row) (.inl rfl), hb⟩

end Go.Proofs.YtgcjlgaapiefiabGreat

/-
  Walks of the program: what writes into one instance.
-/
namespace Go.Proofs.YtgcjlgaapiefiabGreat
open Go.RowKit

section
variable (base : Nat) (w : World) (b o : Nat) (cs : Array Value) (x : Inst) (a : Option Addr) (n cap : Nat)

theorem dropKey_any (h : InstIn base w b o cs x a n cap) :
    Calls Tryz.prog 119 #[.pointer (some ⟨b, o, none⟩)] w fun e w' => ∃ v, e = .returned v ∧ Makes base w b o (Value.slice a n cap).ownBlock { x with key := 0, due := 0 } w' := by
  obtain ⟨c0, c1, c2, c3, c4, c5, c6, c7, c8, c9, c10, c11⟩ := h.row.at.twelve
  have f := h.row.1.frozen
  go_enter Tryz.func119, Tryz.ntmps119
  go_wp2
  refine bodyPost_end (v := .tuple #[]) (by simp [results, Tryz.results119, go_sem]) rfl ⟨_, rfl, ?_⟩
  exact Makes.of ((h.set 7 (.int .i64 0) { x with key := 0 } (by omega) rfl rfl).set 8 (.int .i64 0) { x with key := 0, due := 0 } (by omega) rfl rfl) ((Turned.set _ 7 _ (by omega)).trans (Turned.set _ 8 _ (by omega)) (.inl rfl)) rfl

theorem beginAnew_any (clock : Int) (h : InstIn base w b o cs x a n cap) :
    Calls Tryz.prog 123 #[.int .i64 clock, .pointer (some ⟨b, o, none⟩)] w fun e w' => ∃ v, e = .returned v ∧ Makes base w b o (Value.slice a n cap).ownBlock (anewP clock x) w' := by
  go_enter Tryz.func123, Tryz.ntmps123
  go_wp2_with fail
  refine (dropKey_any base w b o cs x a n cap h).mono ?_
  rintro e w1 ⟨v, rfl, cs1, a1, n1, cap1, h1, ht, hr⟩
  obtain ⟨c0, c1, c2, c3, c4, c5, c6, c7, c8, c9, c10, c11⟩ := h1.row.at.twelve
  have f := h1.row.1.frozen
  go_wp2
  refine bodyPost_end (v := .tuple #[]) (by simp [results, Tryz.results123, go_sem]) rfl ⟨_, rfl, ?_⟩
  refine Makes.trans ht hr ?_
  exact Makes.of (((h1.set 9 (.int .i64 0) { x with key := 0, due := 0, tries := 0 } (by omega) rfl rfl).set 2 (.bool false) { x with key := 0, due := 0, tries := 0, stuck := false } (by omega) rfl rfl).set 10 (.int .i64 clock) (anewP clock x) (by omega) rfl rfl) (((Turned.set _ 9 _ (by omega)).trans (Turned.set _ 2 _ (by omega)) (.inl rfl)).trans (Turned.set _ 10 _ (by omega)) (.inl rfl)) rfl

theorem arrive_any (h : InstIn base w b o cs x a n cap) :
    Calls Tryz.prog 124 #[.pointer (some ⟨b, o, none⟩)] w fun e w' => ∃ v, e = .returned v ∧ Makes base w b o (Value.slice a n cap).ownBlock (arriveP x) w' := by
  obtain ⟨c0, c1, c2, c3, c4, c5, c6, c7, c8, c9, c10, c11⟩ := h.row.at.twelve
  have f := h.row.1.frozen
  cases hr : x.resume
  · have HA : Hid (arriveP x = { x with mode := 4, target := 0, resume := false }) := by show arriveP x = _; unfold arriveP; rw [hr]; rfl
    go_enter Tryz.func124, Tryz.ntmps124
    go_wp2
    refine bodyPost_end (v := .tuple #[]) (by simp [results, Tryz.results124, go_sem]) rfl ⟨_, rfl, ?_⟩
    rw [HA.out]
    exact Makes.of (((h.set 1 (.int .i64 4) { x with mode := 4 } (by omega) rfl rfl).set 4 (.int .i64 0) { x with mode := 4, target := 0 } (by omega) rfl rfl).set 5 (.bool false) { x with mode := 4, target := 0, resume := false } (by omega) rfl rfl) (((Turned.set _ 1 _ (by omega)).trans (Turned.set _ 4 _ (by omega)) (.inl rfl)).trans (Turned.set _ 5 _ (by omega)) (.inl rfl)) rfl
  · have HA : Hid (arriveP x = { x with mode := 1, target := 0, resume := false }) := by show arriveP x = _; unfold arriveP; rw [hr]; rfl
    go_enter Tryz.func124, Tryz.ntmps124
    go_wp2
    refine bodyPost_end (v := .tuple #[]) (by simp [results, Tryz.results124, go_sem]) rfl ⟨_, rfl, ?_⟩
    rw [HA.out]
    exact Makes.of ((((h.set 1 (.int .i64 4) { x with mode := 4 } (by omega) rfl rfl).set 1 (.int .i64 1) { x with mode := 1 } (by omega) rfl rfl).set 4 (.int .i64 0) { x with mode := 1, target := 0 } (by omega) rfl rfl).set 5 (.bool false) { x with mode := 1, target := 0, resume := false } (by omega) rfl rfl) ((((Turned.set _ 1 _ (by omega)).trans (Turned.set _ 1 _ (by omega)) (.inl rfl)).trans (Turned.set _ 4 _ (by omega)) (.inl rfl)).trans (Turned.set _ 5 _ (by omega)) (.inl rfl)) rfl

theorem goBack_any (clock target : Int) (resume : Bool) (h : InstIn base w b o cs x a n cap) :
    Calls Tryz.prog 127 #[.int .i64 clock, .pointer (some ⟨b, o, none⟩), .int .i64 target, .bool resume] w fun e w' => ∃ v, e = .returned v ∧ Makes base w b o (Value.slice a n cap).ownBlock (goBackP clock x target resume) w' := by
  go_enter Tryz.func127, Tryz.ntmps127
  go_wp2_with fail
  refine (beginAnew_any base w b o cs x a n cap clock h).mono ?_
  rintro e w1 ⟨v, rfl, cs1, a1, n1, cap1, h1, ht, hr⟩
  obtain ⟨c0, c1, c2, c3, c4, c5, c6, c7, c8, c9, c10, c11⟩ := h1.row.at.twelve
  have f := h1.row.1.frozen
  go_wp2
  refine bodyPost_end (v := .tuple #[]) (by simp [results, Tryz.results127, go_sem]) rfl ⟨_, rfl, ?_⟩
  refine Makes.trans ht hr ?_
  exact Makes.of (((h1.set 1 (.int .i64 2) { anewP clock x with mode := 2 } (by omega) rfl rfl).set 4 (.int .i64 target) { anewP clock x with mode := 2, target := target } (by omega) rfl rfl).set 5 (.bool resume) (goBackP clock x target resume) (by omega) rfl rfl) (((Turned.set _ 1 _ (by omega)).trans (Turned.set _ 4 _ (by omega)) (.inl rfl)).trans (Turned.set _ 5 _ (by omega)) (.inl rfl)) rfl

theorem abort_any (clock : Int) (h : InstIn base w b o cs x a n cap) :
    Calls Tryz.prog 122 #[.int .i64 clock, .pointer (some ⟨b, o, none⟩)] w fun e w' => ∃ v, e = .returned v ∧ Makes base w b o (Value.slice a n cap).ownBlock (abortP clock x) w' := by
  cases hs : x.settled == 0
  · have HA : Hid (abortP clock x = goBackP clock x 0 false) := by show abortP clock x = _; simp at hs; unfold abortP goBackP; rw [if_neg hs]
    have hs' : ((goBackP clock x 0 false).settled == 0) = false := hs
    go_enter Tryz.func122, Tryz.ntmps122
    go_wp2_with fail
    refine (goBack_any base w b o cs x a n cap clock 0 false h).mono ?_
    rintro e w1 ⟨v, rfl, cs1, a1, n1, cap1, h1, ht, hr⟩
    rw [← HA.out] at h1 hs'
    obtain ⟨y, HY⟩ : ∃ y, Hid (abortP clock x = y) := ⟨_, rfl⟩
    rw [HY.out] at h1 hs'
    obtain ⟨c0, c1, c2, c3, c4, c5, c6, c7, c8, c9, c10, c11⟩ := h1.row.at.twelve
    go_wp2
    refine bodyPost_end (v := .tuple #[]) (by simp [results, Tryz.results122, go_sem]) rfl ⟨_, rfl, ?_⟩
    rw [HY.out]
    exact ⟨cs1, a1, n1, cap1, h1, ht, hr⟩
  · have HA : Hid (abortP clock x = { goBackP clock x 0 false with mode := 4 }) := by show abortP clock x = _; simp at hs; unfold abortP goBackP; rw [if_pos hs]
    have hs' : ((goBackP clock x 0 false).settled == 0) = true := hs
    go_enter Tryz.func122, Tryz.ntmps122
    go_wp2_with fail
    refine (goBack_any base w b o cs x a n cap clock 0 false h).mono ?_
    rintro e w1 ⟨v, rfl, cs1, a1, n1, cap1, h1, ht, hr⟩
    generalize goBackP clock x 0 false = y at *
    obtain ⟨c0, c1, c2, c3, c4, c5, c6, c7, c8, c9, c10, c11⟩ := h1.row.at.twelve
    have f := h1.row.1.frozen
    go_wp2
    refine bodyPost_end (v := .tuple #[]) (by simp [results, Tryz.results122, go_sem]) rfl ⟨_, rfl, ?_⟩
    rw [HA.out]
    refine Makes.trans ht hr ?_
    exact Makes.of (h1.set 1 (.int .i64 4) { y with mode := 4 } (by omega) rfl rfl) (Turned.set _ 1 _ (by omega)) rfl

theorem pause_any (tries : Int) (w : World) (h3 : tries ≤ 3) :
    Calls Tryz.prog 120 #[.int .i64 tries] w fun e w' => e = .returned (.int .i64 (pauseR tries)) ∧ w' = w := by
  have HS : Hid (∀ k : Nat, 1 ≤ k → pauseR ((k : Int) + 1) = 2 * pauseR k) := by
    intro k hk
    unfold pauseR
    rw [show ((k : Int) + 1 - 1).toNat = ((k : Int) - 1).toNat + 1 by omega, Int.pow_succ, Int.mul_comm]
  go_enter Tryz.func120, Tryz.ntmps120
  go_wp2
  go_loop [3, 4] (fun s i => ∃ k : Nat, 1 ≤ k ∧ (k : Int) ≤ max tries 1 ∧ i = .int .i64 k ∧ s = .int .i64 (pauseR k)) (fun _ i => 10 - (intOf i).toNat)
  case atStart => exact ⟨1, Nat.le_refl _, by omega, rfl, rfl⟩
  case round =>
    obtain ⟨k, hk1, hk, rfl, rfl⟩ := hrel
    have hk3 : k ≤ 3 := by omega
    have hp : 1 ≤ pauseR k ∧ pauseR k ≤ 4 := by
      have hcase : k = 1 ∨ k = 2 ∨ k = 3 := by omega
      rcases hcase with rfl | rfl | rfl <;> decide
    obtain ⟨hp1, hp4⟩ := hp
    by_cases hlt : (k : Int) < tries
    · have HS' : Hid (pauseR ((k : Int) + 1) = 2 * pauseR k) := HS.out k hk1
      generalize hpk : pauseR k = p at *
      go_wp2
      go_round
      case rel => exact ⟨k + 1, by omega, by omega, by go_num, by rw [show (((k + 1 : Nat)) : Int) = (k : Int) + 1 by omega, HS'.out, Int.mul_comm]⟩
      case measure => simp [intOf]; omega
    · have HE : Hid (pauseR tries = pauseR k) := by
        show pauseR tries = _
        unfold pauseR
        rw [show (tries - 1).toNat = ((k : Int) - 1).toNat by omega]
      go_wp2
      go_ret
      exact ⟨ret_int HE.out.symm, rfl⟩
end

end Go.Proofs.YtgcjlgaapiefiabGreat

/-
  Walks of the program: an entry joins a ledger.
-/
namespace Go.Proofs.YtgcjlgaapiefiabGreat
open Go.RowKit

theorem Blk.turned {w w' : World} {b o n : Nat} {row : Option Nat} (h : Turned w w' b o n row) {k : Nat} {cs : Array Value} {t : TypeId} (hk : Blk w k cs t) (hb : k ≠ b) (hr : some k ≠ row) : Blk w' k cs t := (h.block k hk.lt hb hr).trans hk
theorem Blk.ne {w : World} {b k : Nat} {cs cs' : Array Value} {t t' : TypeId} (h : Blk w b cs t) (hk : Blk w k cs' t') (ht : t ≠ t') : k ≠ b := by
  rintro rfl
  unfold Blk at h hk
  rw [h] at hk
  simp at hk
  exact ht hk.2
theorem InstIn.apart {base : Nat} {w : World} {b o : Nat} {cs : Array Value} {x : Inst} {a : Option Addr} {n cap : Nat} (h : InstIn base w b o cs x a n cap) : some b ≠ (Value.slice a n cap).ownBlock := fun e => own_ne h.own h.row.1 (by decide) e.symm
theorem InstIn.apart_of {base : Nat} {w : World} {b o : Nat} {cs : Array Value} {x : Inst} {a : Option Addr} {n cap : Nat} (h : InstIn base w b o cs x a n cap) {k : Nat} {c : Array Value} {t : TypeId} (hk : Blk w k c t) (ht : 92 ≠ t) : some k ≠ (Value.slice a n cap).ownBlock := fun e => own_ne h.own hk ht e.symm

theorem entry_new (W : World) (k s r : Value) : ∀ j u, [k, s, r][j]? = some u → (W.alloc (.cells #[k, s, r] 92)).cell? ((⟨W.heap.size, 0, none⟩ : Addr).add j) = some u := by
  intro j u hj
  match j, hj with
  | 0, hj => simp at hj; subst hj; simp [Addr.add, go_sem]
  | 1, hj => simp at hj; subst hj; simp [Addr.add, go_sem]
  | 2, hj => simp at hj; subst hj; simp [Addr.add, go_sem]

set_option maxRecDepth 100000 in
set_option maxHeartbeats 4000000 in
theorem takeBack_any (base : Nat) (w : World) (b o : Nat) (cs : Array Value) (x : Inst) (a : Option Addr) (n cap : Nat) (clock kind ref : Int) (h : InstIn base w b o cs x a n cap) (hbase : base ≤ w.heap.size) (h0 : -1000 < x.settled) (h1 : x.settled ≤ 1000) (hlen : x.ledger.length < 1099511627776) :
    Calls Tryz.prog 110 #[.int .i64 clock, .pointer (some ⟨b, o, none⟩), .int .i64 kind, .int .i64 ref] w fun e w' => ∃ v, e = .returned v ∧ Makes base w b o (Value.slice a n cap).ownBlock (takeBackP clock x kind ref) w' := by
  obtain ⟨i0, hi, hz0, hz1, hz2⟩ := info_parts Tryz.info92
  have hN := h.len
  have HN : Hid (n = x.ledger.length) := hN
  have hnl : n < 1099511627776 := by omega
  clear hN hlen
  go_enter Tryz.func110, Tryz.ntmps110
  go_wp2_with (go_at_call 102; refine (nextStep_any b o x _ h.at (by omega) h1).mono ?_; rintro e w1 ⟨rfl, hw⟩; rw [hw]; clear hw w1)
  generalize hnx : nextP x = nx at *
  have HNX : Hid (nextP x = nx) := hnx
  clear hnx
  refine wp_gen1 (fun W => Blk W w.heap.size #[.int .i64 kind, .int .i64 nx, .int .i64 ref] 92 ∧ Quiet w W) ⟨Blk.new' rfl, (Below.refl _ _).alloc (Nat.le_refl _) _⟩ ?_
  rintro W ⟨be, hqW⟩
  have hW := h.quiet hqW
  have ge := be.cell
  have ze := be.lt
  have zb := hW.row.1.lt
  have fW := hW.row.1.frozen
  obtain ⟨c0, c1, c2, c3, c4, c5, c6, c7, c8, c9, c10, c11⟩ := hW.row.at.twelve
  have HNEW : Hid (∀ j u, [Value.int .i64 kind, .int .i64 nx, .int .i64 ref][j]? = some u → (W.alloc (.cells #[.int .i64 kind, .int .i64 nx, .int .i64 ref] 92)).cell? ((⟨W.heap.size, 0, none⟩ : Addr).add j) = some u) := entry_new W _ _ _
  go_cut [] (fun wc => ∃ (cs2 : Array Value) (a2 : Option Addr) (cap2 : Nat), InstIn base wc b o cs2 { x with ledger := x.ledger ++ [⟨kind, nx, ref⟩] } a2 (n + 1) cap2 ∧ Turned W wc b o 12 (Value.slice a n cap).ownBlock ∧ ((Value.slice a2 (n + 1) cap2).ownBlock = (Value.slice a n cap).ownBlock ∨ ∀ k, (Value.slice a2 (n + 1) cap2).ownBlock = some k → w.heap.size ≤ k))
  case first =>
    go_region_law (refine step_append_lies _ (by rfl) (.tmp 18) (.tmp 20) 76 (by rfl) base 92 i0 (.agg #[.int .i64 0, .int .i64 0, .int .i64 0]) 3 24 Tryz.underlying76 hi hz0 hz1 hz2 rfl (by decide) (.slice a n cap) n (ents x.ledger) (by simp [Act.eval]) (by exact World.ownsRow.drew (hW.own.alloc _)) ⟨W.heap.size, 0, none⟩ 1 1 [.int .i64 kind, .int .i64 nx, .int .i64 ref] (by simp [Act.eval]) rfl (by exact HNEW.out) (by intro u hu; simp at hu; rcases hu with rfl | rfl | rfl <;> rfl) (by decide) (by unfold maxLen; omega) (by omega) (by have := hqW.size; simp; omega) (W.heap.size + 1) (by simp) ?_; intro g2 cap2 w1 hown2 hgrow hat hlt2; have q := (hW.row.quiet (Below.drew ((Below.refl _ _).alloc (Nat.le_refl _) (.cells #[.int .i64 kind, .int .i64 nx, .int .i64 ref] 92)))).grown hgrow hW.apart; have qc := q.at.twelve.2.2.2.2.2.2.2.2.2.2.2; have qf := q.1.frozen)
    all_goals (try go_wp2)
    all_goals
      go_meet
      case rel =>
        refine ⟨_, some ⟨g2, 0, none⟩, cap2, ⟨q.set 11 _ (by simp [Inst.cells]), ?_, by have := HN.out; simp; omega⟩, ?_, ?_⟩
        · rw [ents_snoc]
          exact ownsRow_setCell_other hown2 (own_ne hown2 q.1 (by decide)) _
        · exact ((Turned.quiet (Below.drew ((Below.refl _ _).alloc (Nat.le_refl _) _)) b o 12 _).trans (Turned.grown hgrow (fun _ _ _ => hW.apart)) (.inl rfl)).trans (Turned.set _ 11 _ (by omega)) (.inl rfl)
        · rcases hat with hat | hat
          · exact .inl hat.symm
          · exact .inr fun k hk => by have := hqW.size; simp [Value.ownBlock] at hk; omega
  case rest =>
    obtain ⟨cs2, a2, cap2, hI, hT, hR⟩ := hcut
    have hT0 : Turned w wc b o 12 (Value.slice a n cap).ownBlock := (Turned.quiet hqW b o 12 _).trans hT (.inl rfl)
    clear c0 c1 c2 c3 c4 c5 c6 c7 c8 c9 c10 c11 ge ze zb fW HNEW be hW hT hqW
    obtain ⟨c0, c1, c2, c3, c4, c5, c6, c7, c8, c9, c10, c11⟩ := hI.row.at.twelve
    have f := hI.row.1.frozen
    go_wp2_with fail
    have hI2 := hI.set 3 (.int .i64 (x.settled - 1)) { x with ledger := x.ledger ++ [⟨kind, nx, ref⟩], settled := x.settled - 1 } (by omega) rfl rfl
    have hT1 := hT0.trans (Turned.set (w := wc) (b := b) (o := o) (n := 12) (Value.slice a n cap).ownBlock 3 (.int .i64 (x.settled - 1)) (by omega)) (.inl rfl)
    refine (beginAnew_any base _ b o _ _ a2 (n + 1) cap2 clock hI2).mono ?_
    rintro e w2 ⟨v, rfl, cs3, a3, n3, cap3, hI3, hT3, hR3⟩
    have hT4 := hT1.trans hT3 hR
    have hR4 : (Value.slice a3 n3 cap3).ownBlock = (Value.slice a n cap).ownBlock ∨ ∀ k, (Value.slice a3 n3 cap3).ownBlock = some k → w.heap.size ≤ k := by
      rcases hR3 with hR3 | hR3
      · rw [hR3]; exact hR
      · exact .inr fun k hk => Nat.le_trans hT1.size (hR3 k hk)
    clear c0 c1 c2 c3 c4 c5 c6 c7 c8 c9 c10 c11 f hI hT0 hT1 hI2 hT3 hR3 hR
    have HY : Hid (anewP clock { x with ledger := x.ledger ++ [⟨kind, nx, ref⟩], settled := x.settled - 1 } = ⟨x.id, x.mode, false, x.settled - 1, x.target, x.resume, x.keys, 0, 0, 0, clock, x.ledger ++ [⟨kind, nx, ref⟩]⟩) := rfl
    obtain ⟨c0, c1, c2, c3, c4, c5, c6, c7, c8, c9, c10, c11⟩ := hI3.row.at.twelve
    simp only [anewP] at c0 c1 c2 c3 c4 c5 c6 c7 c8 c9 c10 c11
    cases ht : (x.settled - 1 == x.target)
    · have HP : Hid (takeBackP clock x kind ref = ⟨x.id, x.mode, false, x.settled - 1, x.target, x.resume, x.keys, 0, 0, 0, clock, x.ledger ++ [⟨kind, nx, ref⟩]⟩) := by
        show takeBackP clock x kind ref = _; simp at ht; unfold takeBackP; rw [if_neg ht, HNX.out]
      go_wp2_with fail
      go_quiet (fail)
      go_wp2
      refine bodyPost_end (v := .tuple #[]) (by simp [results, Tryz.results110, go_sem]) rfl ⟨_, rfl, ?_⟩
      rw [HP.out, ← HY.out]
      exact Makes.behind ⟨cs3, a3, n3, cap3, hI3, hT4, hR4⟩ (Below.refl _ _).drewN
    · have HP : Hid (takeBackP clock x kind ref = arriveP ⟨x.id, x.mode, false, x.settled - 1, x.target, x.resume, x.keys, 0, 0, 0, clock, x.ledger ++ [⟨kind, nx, ref⟩]⟩) := by
        show takeBackP clock x kind ref = _; simp at ht; unfold takeBackP arriveP; rw [if_pos ht, HNX.out]
      go_wp2_with fail
      go_quiet (fail)
      go_wp2_with fail
      refine (arrive_any base _ b o _ _ a3 n3 cap3 (hI3.quiet (Below.refl _ _).drewN)).mono ?_
      rintro e w4 ⟨v, rfl, hM⟩
      go_wp2
      refine bodyPost_end (v := .tuple #[]) (by simp [results, Tryz.results110, go_sem]) rfl ⟨_, rfl, ?_⟩
      rw [HP.out, ← HY.out]
      exact Makes.trans (hT4.trans (Turned.quiet (Below.refl _ _).drewN b o 12 (Value.slice a n cap).ownBlock) (.inl rfl)) hR4 hM

set_option maxRecDepth 100000 in
set_option maxHeartbeats 4000000 in
theorem settle_any (dv : Value) (d : Def) (base : Nat) (w : World) (b o : Nat) (cs : Array Value) (x : Inst) (a : Option Addr) (n cap : Nat) (clock kind ref : Int) (hd : DefIs w dv d) (h : InstIn base w b o cs x a n cap) (hbase : base ≤ w.heap.size) (h0 : -1000 < x.settled) (h1 : x.settled ≤ 1000) (hlen : x.ledger.length < 1099511627776) :
    Calls Tryz.prog 111 #[dv, .int .i64 clock, .pointer (some ⟨b, o, none⟩), .int .i64 kind, .int .i64 ref] w fun e w' => ∃ v, e = .returned v ∧ Makes base w b o (Value.slice a n cap).ownBlock (settleP d clock x kind ref) w' := by
  obtain ⟨i0, hi, hz0, hz1, hz2⟩ := info_parts Tryz.info92
  have hN := h.len
  have HN : Hid (n = x.ledger.length) := hN
  have hnl : n < 1099511627776 := by omega
  clear hN hlen
  obtain ⟨da, dn, dcap, rfl, hst⟩ := hd
  obtain ⟨hdn, hdm⟩ := hst.len
  rw [stepVals, List.length_map] at hdn
  have HD : Hid (dn = d.steps.length) := hdn
  clear hdn hst
  have hq0 : ∀ o, Quiet w (w.alloc o) := fun o => (Below.refl _ _).alloc (Nat.le_refl _) _
  go_enter Tryz.func111, Tryz.ntmps111
  go_wp2_with (go_at_call 102; refine (nextStep_any b o x _ (h.at.quiet (hq0 _)) (by omega) h1).mono ?_; rintro e w1 ⟨rfl, rfl⟩)
  generalize hnx : nextP x = nx at *
  have HNX : Hid (nextP x = nx) := hnx
  clear hnx
  refine wp_gen1 (fun W => Blk W (w.heap.size + 1) #[.int .i64 kind, .int .i64 nx, .int .i64 ref] 92 ∧ Blk W w.heap.size #[.slice da dn dcap, .int .i64 d.quorum, .int .i64 d.expiry] 24 ∧ Quiet w W) ⟨Blk.new' (by simp), (Blk.new' rfl).alloc _, (hq0 _).alloc (by simp) _⟩ ?_
  rintro W ⟨be, bd, hqW⟩
  have hW := h.quiet hqW
  have ge := be.cell
  have ze := be.lt
  have zb := hW.row.1.lt
  have fW := hW.row.1.frozen
  obtain ⟨c0, c1, c2, c3, c4, c5, c6, c7, c8, c9, c10, c11⟩ := hW.row.at.twelve
  have HNEW : Hid (∀ j u, [Value.int .i64 kind, .int .i64 nx, .int .i64 ref][j]? = some u → (W.alloc (.cells #[.int .i64 kind, .int .i64 nx, .int .i64 ref] 92)).cell? ((⟨W.heap.size, 0, none⟩ : Addr).add j) = some u) := entry_new W _ _ _
  go_cut [] (fun wc => ∃ (cs2 : Array Value) (a2 : Option Addr) (cap2 : Nat), InstIn base wc b o cs2 { x with ledger := x.ledger ++ [⟨kind, nx, ref⟩] } a2 (n + 1) cap2 ∧ Turned W wc b o 12 (Value.slice a n cap).ownBlock ∧ ((Value.slice a2 (n + 1) cap2).ownBlock = (Value.slice a n cap).ownBlock ∨ ∀ k, (Value.slice a2 (n + 1) cap2).ownBlock = some k → w.heap.size ≤ k))
  case first =>
    go_region_law (refine step_append_lies _ (by rfl) (.tmp 20) (.tmp 22) 76 (by rfl) base 92 i0 (.agg #[.int .i64 0, .int .i64 0, .int .i64 0]) 3 24 Tryz.underlying76 hi hz0 hz1 hz2 rfl (by decide) (.slice a n cap) n (ents x.ledger) (by simp [Act.eval]) (by exact World.ownsRow.drew (hW.own.alloc _)) ⟨W.heap.size, 0, none⟩ 1 1 [.int .i64 kind, .int .i64 nx, .int .i64 ref] (by simp [Act.eval]) rfl (by exact HNEW.out) (by intro u hu; simp at hu; rcases hu with rfl | rfl | rfl <;> rfl) (by decide) (by unfold maxLen; omega) (by omega) (by have := hqW.size; simp; omega) (W.heap.size + 1) (by simp) ?_; intro g2 cap2 w1 hown2 hgrow hat hlt2; have q := (hW.row.quiet (Below.drew ((Below.refl _ _).alloc (Nat.le_refl _) (.cells #[.int .i64 kind, .int .i64 nx, .int .i64 ref] 92)))).grown hgrow hW.apart; have qc := q.at.twelve.2.2.2.2.2.2.2.2.2.2.2; have qf := q.1.frozen)
    all_goals (try go_wp2)
    all_goals
      go_meet
      case rel =>
        refine ⟨_, some ⟨g2, 0, none⟩, cap2, ⟨q.set 11 _ (by simp [Inst.cells]), ?_, by have := HN.out; simp; omega⟩, ?_, ?_⟩
        · rw [ents_snoc]
          exact ownsRow_setCell_other hown2 (own_ne hown2 q.1 (by decide)) _
        · exact ((Turned.quiet (Below.drew ((Below.refl _ _).alloc (Nat.le_refl _) _)) b o 12 _).trans (Turned.grown hgrow (fun _ _ _ => hW.apart)) (.inl rfl)).trans (Turned.set _ 11 _ (by omega)) (.inl rfl)
        · rcases hat with hat | hat
          · exact .inl hat.symm
          · exact .inr fun k hk => by have := hqW.size; simp [Value.ownBlock] at hk; omega
  case rest =>
    obtain ⟨cs2, a2, cap2, hI, hT, hR⟩ := hcut
    have bd1 := Blk.turned hT bd (hW.row.1.ne bd (by decide)) (hW.apart_of bd (by decide))
    have hT0 : Turned w wc b o 12 (Value.slice a n cap).ownBlock := (Turned.quiet hqW b o 12 _).trans hT (.inl rfl)
    clear c0 c1 c2 c3 c4 c5 c6 c7 c8 c9 c10 c11 ge ze zb fW HNEW be bd hW hT hqW
    obtain ⟨c0, c1, c2, c3, c4, c5, c6, c7, c8, c9, c10, c11⟩ := hI.row.at.twelve
    have f := hI.row.1.frozen
    go_wp2_with fail
    have hI2 := hI.set 3 (.int .i64 (x.settled + 1)) { x with ledger := x.ledger ++ [⟨kind, nx, ref⟩], settled := x.settled + 1 } (by omega) rfl rfl
    have hT1 := hT0.trans (Turned.set (w := wc) (b := b) (o := o) (n := 12) (Value.slice a n cap).ownBlock 3 (.int .i64 (x.settled + 1)) (by omega)) (.inl rfl)
    refine (beginAnew_any base _ b o _ _ a2 (n + 1) cap2 clock hI2).mono ?_
    rintro e w2 ⟨v, rfl, cs3, a3, n3, cap3, hI3, hT3, hR3⟩
    have bd2 := Blk.turned hT3 (Blk.other bd1 (a := ⟨b, o + 3, none⟩) (.int .i64 (x.settled + 1)) (hI.row.1.ne bd1 (by decide))) (hI.row.1.ne bd1 (by decide)) (hI.apart_of bd1 (by decide))
    have hT4 := hT1.trans hT3 hR
    have hR4 : (Value.slice a3 n3 cap3).ownBlock = (Value.slice a n cap).ownBlock ∨ ∀ k, (Value.slice a3 n3 cap3).ownBlock = some k → w.heap.size ≤ k := by
      rcases hR3 with hR3 | hR3
      · rw [hR3]; exact hR
      · exact .inr fun k hk => Nat.le_trans hT1.size (hR3 k hk)
    clear c0 c1 c2 c3 c4 c5 c6 c7 c8 c9 c10 c11 f hI hT0 hT1 hI2 hT3 hR3 hR bd1
    have gd := bd2.cell
    have HY : Hid (anewP clock { x with ledger := x.ledger ++ [⟨kind, nx, ref⟩], settled := x.settled + 1 } = ⟨x.id, x.mode, false, x.settled + 1, x.target, x.resume, x.keys, 0, 0, 0, clock, x.ledger ++ [⟨kind, nx, ref⟩]⟩) := rfl
    obtain ⟨c0, c1, c2, c3, c4, c5, c6, c7, c8, c9, c10, c11⟩ := hI3.row.at.twelve
    simp only [anewP] at c0 c1 c2 c3 c4 c5 c6 c7 c8 c9 c10 c11
    have f := hI3.row.1.frozen
    cases ht : (x.settled + 1 == (dn : Int))
    · have HP : Hid (settleP d clock x kind ref = ⟨x.id, x.mode, false, x.settled + 1, x.target, x.resume, x.keys, 0, 0, 0, clock, x.ledger ++ [⟨kind, nx, ref⟩]⟩) := by
        show settleP d clock x kind ref = _; simp at ht; unfold settleP; rw [if_neg (by have := HD.out; omega), HNX.out]
      go_wp2_with fail
      go_quiet (fail)
      go_wp2
      refine bodyPost_end (v := .tuple #[]) (by simp [results, Tryz.results111, go_sem]) rfl ⟨_, rfl, ?_⟩
      rw [HP.out, ← HY.out]
      exact Makes.behind ⟨cs3, a3, n3, cap3, hI3, hT4, hR4⟩ (Below.refl _ _).drewN
    · have HP : Hid (settleP d clock x kind ref = ⟨x.id, 3, false, x.settled + 1, x.target, x.resume, x.keys, 0, 0, 0, clock, x.ledger ++ [⟨kind, nx, ref⟩]⟩) := by
        show settleP d clock x kind ref = _; simp at ht; unfold settleP; rw [if_pos (by have := HD.out; omega), HNX.out]
      go_wp2_with fail
      go_quiet (fail)
      go_wp2
      refine bodyPost_end (v := .tuple #[]) (by simp [results, Tryz.results111, go_sem]) rfl ⟨_, rfl, ?_⟩
      rw [HP.out]
      have hqn : Quiet w2 (w2.drewN nq) := (Below.refl _ _).drewN
      refine Makes.trans (hT4.trans (Turned.quiet hqn b o 12 (Value.slice a n cap).ownBlock) (.inl rfl)) hR4 ?_
      exact Makes.of ((hI3.quiet hqn).set 1 (.int .i64 3) _ (by omega) rfl rfl) (Turned.set _ 1 _ (by omega)) rfl

end Go.Proofs.YtgcjlgaapiefiabGreat

import Derived.Test.YtgcjlgaapiefiabGreatQSame
import Derived.Test.YtgcjlgaapiefiabGreatQChk
import Derived.JoinedCond
import Derived.Test.YtgcjlgaapiefiabGreatQPlyA
import Derived.Laws.IdiomCopy
import Derived.OwnWalk
import Derived.Test.YtgcjlgaapiefiabGreatQPrwN

/-
  A script that comes in, opened.
-/
namespace Go.Proofs.YtgcjlgaapiefiabGreat
open Go.ChangeShapes Go.WideShapes Go.ChangeAt Go.RowKit Go.Deep

section
variable {H : Type} {enc : TypeId × Value → H} {w : World} {base : Nat} {spare : Nat → Bool} {held : Bool}

set_option maxRecDepth 100000 in
theorem cmds_open {r : Reach} {b0 : Nat} {v : Value} {d : DataW H} {p : List MemPlace} (hv : Value.okWide Tryz.prog w r b0 25 v) (h : DataW.Trod enc Tryz.prog w base spare held 25 v d p) (hb : Rows.uptoBulk d ≤ 1048576) :
    ∃ l : List Cmd, Cmds w v l ∧ l.length ≤ 1048576 ∧ ∀ c ∈ l, c.reason.size ≤ 9223372036854775807 := by
  obtain ⟨va, vn, vc, rfl⟩ := okWide_slice Tryz.underlying25 hv
  obtain ⟨fuel, hf⟩ := h
  obtain ⟨xs, harr, ⟨n, hrow⟩, hx⟩ := trod_rows Tryz.underlying25 Tryz.underlying43 (by kernel_rfl) (by kernel_rfl) (by decide) hf
  obtain ⟨l, rfl, hl⟩ := list_of (g := Cmd.cells) (p := fun c : Cmd => c.reason.size ≤ 9223372036854775807) (xs := xs) (fun cs hcs => by
    have hr := hrow cs hcs
    have hlen : cs.length = 7 := by obtain ⟨_, _, _, _, _, h4, _⟩ := harr; exact h4 cs hcs
    obtain ⟨v0, y0, g0, t0⟩ := hr 0 _ rfl
    obtain ⟨v1, y1, g1, t1⟩ := hr 1 _ rfl
    obtain ⟨v2, y2, g2, t2⟩ := hr 2 _ rfl
    obtain ⟨v3, y3, g3, t3⟩ := hr 3 _ rfl
    obtain ⟨v4, y4, g4, t4⟩ := hr 4 _ rfl
    obtain ⟨v5, y5, g5, t5⟩ := hr 5 _ rfl
    obtain ⟨v6, y6, g6, t6⟩ := hr 6 _ rfl
    obtain ⟨k, e0, _⟩ := DataW.trod_int Tryz.underlying3 t0
    obtain ⟨i, e1, _⟩ := DataW.trod_int Tryz.underlying3 t1
    obtain ⟨a, e2, _⟩ := DataW.trod_int Tryz.underlying3 t2
    obtain ⟨b, e3, _⟩ := DataW.trod_int Tryz.underlying3 t3
    obtain ⟨o, e4, _⟩ := DataW.trod_int Tryz.underlying3 t4
    obtain ⟨s, e5, _, hs⟩ := DataW.trod_string Tryz.underlying9 t5
    obtain ⟨q, e6, _⟩ := DataW.trod_bool Tryz.underlying4 t6
    simp only [List.cons.injEq, and_true] at e0 e1 e2 e3 e4 e5 e6
    subst e0 e1 e2 e3 e4 e5 e6
    refine ⟨⟨k, i, a, b, o, s, q⟩, ?_, ?_⟩
    · match cs, hlen with
      | [c0, c1, c2, c3, c4, c5, c6], _ => simp at g0 g1 g2 g3 g4 g5 g6; subst g0 g1 g2 g3 g4 g5 g6; rfl
    · exact Nat.le_trans hs (by unfold maxLen; omega))
  have hlen : l.length ≤ 1048576 := by
    rcases hx with ⟨_, hx⟩ | ⟨el, sp, hx, he⟩
    · have : l.length = 0 := by have := congrArg List.length hx; simpa using this
      omega
    · simp only at hx
      rw [hx] at hb
      have h1 : ∀ es : List (DataW H), es.length ≤ Rows.uptoBulkAll es := by
        intro es
        induction es with
        | nil => simp
        | cons e es ih =>
          have h0 : 1 ≤ Rows.uptoBulk e := by
            cases e with
            | lit l => cases l <;> simp [Rows.uptoBulk]
            | nil => simp [Rows.uptoBulk]
            | ptr d => simp [Rows.uptoBulk]
            | slice elems spare => simp [Rows.uptoBulk]
            | agg parts => simp [Rows.uptoBulk]
            | iface t d => simp [Rows.uptoBulk]
            | map entries => simp [Rows.uptoBulk]
            | held h => simp [Rows.uptoBulk]
          simp only [Rows.uptoBulkAll, List.length_cons]; omega
      have h2 := h1 el
      simp only [Rows.uptoBulk] at hb
      simp at he
      omega
  exact ⟨l, ⟨harr, by omega⟩, hlen, hl⟩
end

end Go.Proofs.YtgcjlgaapiefiabGreat

/-
  Rows that are made, and copied into: general laws.
-/
namespace Go.Proofs.YtgcjlgaapiefiabGreat
open Go.RowKit

theorem flat_lenA {m : Nat} : ∀ (xs : List (List Value)), (∀ x ∈ xs, x.length = m) → xs.flatten.length = xs.length * m
  | [], _ => by simp
  | y :: ys, h => by
    have hy : y.length = m := h y (List.mem_cons_self ..)
    have := flat_lenA ys (fun x hx => h x (List.mem_cons_of_mem _ hx))
    simp only [List.flatten_cons, List.length_append, List.length_cons, hy, this, Nat.succ_mul]; omega
theorem flat_getA {m : Nat} : ∀ (xs : List (List Value)), (∀ x ∈ xs, x.length = m) → ∀ (i j : Nat) (x : List Value) (u : Value), xs[i]? = some x → x[j]? = some u → xs.flatten[i * m + j]? = some u
  | [], _, i, j, x, u, hi, _ => by simp at hi
  | y :: ys, h, 0, j, x, u, hi, hj => by
    simp at hi; subst hi
    have hjl : j < y.length := (List.getElem?_eq_some_iff.1 hj).1
    simp only [List.flatten_cons, Nat.zero_mul, Nat.zero_add]
    rw [List.getElem?_append_left hjl]; exact hj
  | y :: ys, h, i + 1, j, x, u, hi, hj => by
    have hy : y.length = m := h y (List.mem_cons_self ..)
    simp only [List.flatten_cons]
    rw [List.getElem?_append_right (by rw [hy, Nat.succ_mul]; omega), hy, show (i + 1) * m + j - m = i * m + j by rw [Nat.succ_mul]; omega]
    exact flat_getA ys (fun x hx => h x (List.mem_cons_of_mem _ hx)) i j x u (by simpa using hi) hj
theorem flat_srcA {w : World} {b m : Nat} : ∀ (xs : List (List Value)) (off : Nat), (∀ x ∈ xs, x.length = m) → (∀ i x, xs[i]? = some x → At w b (off + i * m) x) → ∀ j u, xs.flatten[j]? = some u → w.cell? ⟨b, off + j, none⟩ = some u
  | [], _, _, _, j, u, hu => by simp at hu
  | y :: ys, off, h, hx, j, u, hu => by
    have hy : y.length = m := h y (List.mem_cons_self ..)
    simp only [List.flatten_cons] at hu
    by_cases hj : j < y.length
    · rw [List.getElem?_append_left hj] at hu
      have := hx 0 y rfl j u hu
      simpa using this
    · rw [List.getElem?_append_right (by omega)] at hu
      have := flat_srcA ys (off + m) (fun x hx => h x (List.mem_cons_of_mem _ hx)) (fun i x hi => by
        have := hx (i + 1) x (by simpa using hi)
        rwa [show off + (i + 1) * m = off + m + i * m by rw [Nat.succ_mul]; omega] at this) (j - y.length) u hu
      rwa [show off + m + (j - y.length) = off + j by omega] at this

theorem Arr.src {w : World} {m : Nat} {sp : Option Addr} {n cap : Nat} {xs : List (List Value)} (h : Arr w m (.slice sp n cap) xs) : n = xs.length ∧ (∀ x ∈ xs, x.length = m) ∧ (xs = [] ∨ ∃ a, sp = some a ∧ ∀ j v, xs.flatten[j]? = some v → w.cell? (a.add j) = some v) := by
  obtain ⟨a, cap', e, _, _, h4, h5⟩ := h
  simp only [Value.slice.injEq] at e
  obtain ⟨rfl, rfl, rfl⟩ := e
  refine ⟨rfl, h4, ?_⟩
  rcases h5 with h5 | ⟨b, off, rfl, h6⟩
  · exact .inl h5
  · refine .inr ⟨_, rfl, fun j v hv => ?_⟩
    have := flat_srcA xs off h4 h6 j v hv
    unfold Addr.add
    by_cases hj : j = 0
    · subst hj; simpa using this
    · simpa [hj] using this

/-! ### copy -/

def setAll (c : Array Value) : Nat → List Value → Array Value
  | _, [] => c
  | o, v :: r => setAll (c.setIfInBounds o v) (o + 1) r
theorem Blk.setCells {b : Nat} {t : TypeId} : ∀ (vs : List Value) (o : Nat) {w : World} {c : Array Value}, Blk w b c t → Blk (w.setCells b o vs) b (setAll c o vs) t
  | [], _, _, _, h => h
  | v :: r, o, _, _, h => Blk.setCells r (o + 1) (h.set o v)
theorem Blk.others {b k : Nat} {t : TypeId} {c : Array Value} (hk : k ≠ b) : ∀ (vs : List Value) (o : Nat) {w : World}, Blk w k c t → Blk (w.setCells b o vs) k c t
  | [], _, _, h => h
  | v :: r, o, _, h => Blk.others hk r (o + 1) (h.other v hk)
theorem Below.setCells {B b : Nat} {w0 : World} (hb : B ≤ b) : ∀ (vs : List Value) (o : Nat) {w : World}, Below B w0 w → Below B w0 (w.setCells b o vs)
  | [], _, _, h => h
  | v :: r, o, _, h => Below.setCells hb r (o + 1) (Below.setCell (p := ⟨b, o, none⟩) h hb v)

theorem run_copy_rows {P : Program} (w : World) (dT sT ty elem : TypeId) (m b dLen dCap : Nat) (sp : Option Addr) (sLen sCap : Nat) (cs : List Value)
    (hu : P.underlying dT = some (.slice elem)) (hs : (P.info? elem).map (·.size) = some m) (hn : cs.length = Nat.min sLen dLen * m)
    (hsrc : cs = [] ∨ ∃ a, sp = some a ∧ ∀ j v, cs[j]? = some v → w.cell? (a.add j) = some v) (hc : ∀ j, j < cs.length → (w.cell? ⟨b, j, none⟩).isSome = true) (hf : ∀ j, j < cs.length → w.frozen? ⟨b, j, none⟩ = false) (h1 : ∀ v ∈ cs, v.oneCell' = true) :
    (Builtin.copy_ #[dT, sT] ty #[.slice (some ⟨b, 0, none⟩) dLen dCap, .slice sp sLen sCap]).run P w = .ok (goInt (Nat.min sLen dLen)) (w.setCells b 0 cs) := by
  have hst := run_storeCells_cells (P := P) b 0 cs 0 w (by simpa using hc) (by simpa using hf) h1
  cases hq : P.info? elem with
  | none => simp [hq] at hs
  | some i =>
    have hi : i.size = m := by simpa [hq] using hs
    cases sp with
    | none =>
      rcases hsrc with rfl | ⟨a, ha, _⟩
      · simp [Builtin.copy_, run_underlying hu, Builtin.lenOf, Builtin.firstCells, sizeOf, typeInfo, hq, storeCells, World.setCells]
      · simp at ha
    | some a =>
      have hl : (loadCells a (Nat.min sLen dLen * m)).run P w = .ok cs.toArray w := by
        rw [← hn]
        refine run_loadCells_list (P := P) w a cs ?_
        rcases hsrc with rfl | ⟨a', ha, h⟩
        · intro j v hv; simp at hv
        · simp at ha; subst ha; exact h
      simp [Builtin.copy_, run_underlying hu, Builtin.lenOf, Builtin.firstCells, sizeOf, typeInfo, hq, hi, hl, hst]

theorem wpList_copy_rows {P : Program} {w : World} {ops : Array Oper} {rest : List Oper} {o : Oper} {a : Act} {Q : Exit → Act → World → Prop} (hgd : o.guard = none) (d s : Operand) (dT sT : TypeId)
    (ho : o.op = .call { callee := .builtin .copy, args := #[d, s], argTypes := #[dT, sT] }) (elem : TypeId) (m : Nat) (hu : P.underlying dT = some (.slice elem)) (hsz : (P.info? elem).map (·.size) = some m)
    (b dLen dCap : Nat) (sp : Option Addr) (sLen sCap : Nat) (hd : a.eval d = .slice (some ⟨b, 0, none⟩) dLen dCap) (hs : a.eval s = .slice sp sLen sCap)
    (cs : List Value) (hn : cs.length = Nat.min sLen dLen * m) (hsrc : cs = [] ∨ ∃ a, sp = some a ∧ ∀ j v, cs[j]? = some v → w.cell? (a.add j) = some v)
    (c0 : Array Value) (t : TypeId) (hb : Blk w b c0 t) (hfit : cs.length ≤ c0.size) (h1 : ∀ v ∈ cs, v.oneCell' = true)
    (h : ∀ (w2 : World) (c1 : Array Value), Blk w2 b c1 t → (∀ (j : Nat) (v : Value), cs[j]? = some v → c1[j]? = some v) → (∀ (j : Nat), cs.length ≤ j → c1[j]? = c0[j]?) → (∀ k c t', k ≠ b → Blk w k c t' → Blk w2 k c t') → (∀ B w0, Below B w0 w → B ≤ b → Below B w0 w2) → wpList P ops Q rest (a.put o.dst (goInt (Nat.min sLen dLen))) w2) : wpList P ops Q (o :: rest) a w := by
  refine wpList_plain hgd fun K hK => ?_
  have hcell : ∀ j, j < cs.length → (w.cell? ⟨b, j, none⟩).isSome = true := fun j hj => by rw [hb.cell]; simp; omega
  have hrun := run_copy_rows (P := P) w dT sT o.type elem m b dLen dCap sp sLen sCap cs hu hsz hn hsrc hcell (fun j _ => hb.frozen j) h1
  unfold Oper.wp
  simp [execOp, ho, resolve, invoke, builtin, hd, hs, hrun, Result.andThen]
  have hb2 := Blk.setCells cs 0 hb
  refine hK _ _ (h _ _ hb2 ?_ ?_ (fun k c t' hk hb' => Blk.others hk cs 0 hb') (fun B w0 hB hBb => Below.setCells hBb cs 0 hB))
  · intro j v hv
    have hj := (List.getElem?_eq_some_iff.1 hv).1
    have := World.cell?_setCells_in b cs 0 w (by simpa using hcell) j hj
    rw [Nat.zero_add, hb2.cell] at this
    rw [this, ← hv, List.getElem?_eq_getElem hj]
  · intro j hj
    have := World.cell?_setCells_out b cs 0 w ⟨b, j, none⟩ (fun _ _ => .inr (by simpa using hj))
    rw [hb2.cell, hb.cell] at this
    exact this

/-- A copy of n rows into a row of n + 2 that was made. -/
theorem copy_rows_ex {P : Program} (w : World) (dT sT ty elem : TypeId) (m b n cap : Nat) (sp : Option Addr) (xs : List (List Value)) (hA : Arr w m (.slice sp n cap) xs)
    (hu : P.underlying dT = some (.slice elem)) (hsz : (P.info? elem).map (·.size) = some m) (c0 : Array Value) (t : TypeId) (hb : Blk w b c0 t) (hc : c0.size = (n + 2) * m) (h1 : ∀ v ∈ xs.flatten, v.oneCell' = true) :
    ∃ (w2 : World) (c1 : Array Value), (Builtin.copy_ #[dT, sT] ty #[.slice (some ⟨b, 0, none⟩) (n + 2) (n + 2), .slice sp n cap]).run P w = .ok (.int .i64 n) w2 ∧ Blk w2 b c1 t ∧ c1.size = (n + 2) * m ∧
      (∀ (j : Nat) (v : Value), xs.flatten[j]? = some v → c1[j]? = some v) ∧ (∀ (j : Nat), n * m ≤ j → c1[j]? = c0[j]?) ∧ (∀ k c t', k ≠ b → Blk w k c t' → Blk w2 k c t') ∧ (∀ B w0, Below B w0 w → B ≤ b → Below B w0 w2) := by
  obtain ⟨hn, hx, hsrc⟩ := hA.src
  have hfl := flat_lenA xs hx
  rw [← hn] at hfl
  have hmin : Nat.min n (n + 2) = n := Nat.min_eq_left (by omega)
  have hle : n * m ≤ (n + 2) * m := Nat.mul_le_mul_right m (by omega)
  have hcell : ∀ j, j < xs.flatten.length → (w.cell? ⟨b, j, none⟩).isSome = true := fun j hj => by rw [hb.cell]; simp; omega
  have hrun := run_copy_rows (P := P) w dT sT ty elem m b (n + 2) (n + 2) sp n cap xs.flatten hu hsz (by rw [hmin]; exact hfl) (by
    rcases hsrc with h | h
    · left; rw [h]; rfl
    · exact .inr h) hcell (fun j _ => hb.frozen j) h1
  have hb2 := Blk.setCells xs.flatten 0 hb
  have hsize : ∀ (vs : List Value) (o : Nat) (c : Array Value), (setAll c o vs).size = c.size := by
    intro vs
    induction vs with
    | nil => intro o c; rfl
    | cons v r ih => intro o c; rw [setAll, ih]; simp
  refine ⟨_, _, ?_, hb2, by rw [hsize]; exact hc, ?_, ?_, fun k c t' hk hb' => Blk.others hk xs.flatten 0 hb', fun B w0 hB hBb => Below.setCells hBb xs.flatten 0 hB⟩
  · rw [hrun, hmin]; rfl
  · intro j v hv
    have hj := (List.getElem?_eq_some_iff.1 hv).1
    have := World.cell?_setCells_in b xs.flatten 0 w (by simpa using hcell) j hj
    rw [Nat.zero_add, hb2.cell] at this
    rw [this, ← hv, List.getElem?_eq_getElem hj]
  · intro j hj
    have := World.cell?_setCells_out b xs.flatten 0 w ⟨b, j, none⟩ (fun _ _ => .inr (by simp only [Nat.zero_add]; omega))
    rw [hb2.cell, hb.cell] at this
    exact this

end Go.Proofs.YtgcjlgaapiefiabGreat

/-
  sagalaw.def, sagalaw.commands: walked.
-/
namespace Go.Proofs.YtgcjlgaapiefiabGreat
open Go.RowKit Go.Sort

/-- The steps of a definition with spare room, marked. -/
def SpareD (w : World) (b : Nat) (d : Def) : Prop := ∃ cs : Array Value, Blk w b cs 41 ∧ cs.size = (d.steps.length + 2) * 4 ∧ (∀ (j : Nat) (v : Value), (stepVals d.steps).flatten[j]? = some v → cs[j]? = some v) ∧ cs[d.steps.length * 4 + 3]? = some (.int .i64 77) ∧ cs[(d.steps.length + 1) * 4 + 3]? = some (.int .i64 77)
theorem SpareD.quiet {w w' : World} {b : Nat} {d : Def} (h : SpareD w b d) (hq : Quiet w w') : SpareD w' b d := by
  obtain ⟨cs, h1, h2⟩ := h
  exact ⟨cs, h1.quiet hq, h2⟩
theorem stepVals_len (l : List Step) : ∀ x ∈ stepVals l, x.length = 4 := by
  intro x hx; obtain ⟨s, _, rfl⟩ := List.mem_map.1 hx; rfl
theorem SpareD.is {w : World} {b : Nat} {d : Def} (h : SpareD w b d) (hl : d.steps.length + 2 ≤ maxLen) : DefIs w (.agg #[.slice (some ⟨b, 0, none⟩) d.steps.length (d.steps.length + 2), .int .i64 d.quorum, .int .i64 d.expiry]) d := by
  obtain ⟨cs, h1, h2, h3, _⟩ := h
  refine ⟨some ⟨b, 0, none⟩, d.steps.length, d.steps.length + 2, rfl, some ⟨b, 0, none⟩, d.steps.length + 2, by simp [stepVals], by simp [stepVals], hl, stepVals_len _, .inr ⟨b, 0, rfl, ?_⟩⟩
  intro i x hi j v hv
  have := flat_getA (stepVals d.steps) (stepVals_len _) i j x v hi hv
  rw [h1.cell, Nat.zero_add]
  exact h3 _ _ this
/-- A script with spare room, marked. -/
def SpareC (w : World) (b : Nat) (l : List Cmd) : Prop := ∃ cs : Array Value, Blk w b cs 43 ∧ cs.size = (l.length + 2) * 7 ∧ (∀ (j : Nat) (v : Value), (l.map Cmd.cells).flatten[j]? = some v → cs[j]? = some v) ∧ cs[l.length * 7]? = some (.int .i64 77) ∧ cs[(l.length + 1) * 7]? = some (.int .i64 77)
theorem SpareC.quiet {w w' : World} {b : Nat} {l : List Cmd} (h : SpareC w b l) (hq : Quiet w w') : SpareC w' b l := by
  obtain ⟨cs, h1, h2⟩ := h
  exact ⟨cs, h1.quiet hq, h2⟩
theorem cmdCells_len (l : List Cmd) : ∀ x ∈ l.map Cmd.cells, x.length = 7 := by
  intro x hx; obtain ⟨s, _, rfl⟩ := List.mem_map.1 hx; rfl
theorem SpareC.is {w : World} {b : Nat} {l : List Cmd} (h : SpareC w b l) (hl : l.length ≤ 1048576) : Cmds w (.slice (some ⟨b, 0, none⟩) l.length (l.length + 2)) l := by
  obtain ⟨cs, h1, h2, h3, _⟩ := h
  refine ⟨⟨some ⟨b, 0, none⟩, l.length + 2, by simp, by simp, by unfold maxLen; omega, cmdCells_len _, .inr ⟨b, 0, rfl, ?_⟩⟩, by omega⟩
  intro i x hi j v hv
  have := flat_getA (l.map Cmd.cells) (cmdCells_len _) i j x v hi hv
  rw [h1.cell, Nat.zero_add]
  exact h3 _ _ this

set_option maxRecDepth 100000 in
theorem size_stepsA (w : World) : (sizeOf (Tryz.prog.elem 22)).run Tryz.prog w = .ok 4 w := by
  have e : Tryz.prog.elem 22 = 41 := by kernel_rfl
  obtain ⟨i0, hi, hz0, hz1, hz2⟩ := info_parts (show (Tryz.prog.info? 41).map (fun i => (i.zero, i.size, i.bytes)) = some (some (.agg #[.bool false, .bool false, .int .i64 0, .int .i64 0]), 4, 24) by kernel_rfl)
  rw [e]
  simp [sizeOf, typeInfo, hi, hz1]
set_option maxRecDepth 100000 in
theorem slice_steps (U : World) (a : Option Addr) (n cap k : Nat) (hk : k ≤ cap) : (Instr.slice 22 (.slice a n cap) none (some (.int .i64 k)) none).run Tryz.prog U = .ok (.slice a k cap) U := by
  rw [run_slice_h U 22 a n cap Tryz.underlying22 .i64 k (by omega) (by omega), size_stepsA]
  have e : (if cap = 0 then a else a.map (·.add (0 * 4))) = a := by
    split
    · rfl
    · cases a with
      | none => rfl
      | some a => simp [Addr.add]
  show Result.ok (Value.slice (if cap = 0 then a else a.map (·.add (0 * 4))) ((k : Int).toNat - 0) (cap - 0)) U = _
  rw [e]
  simp
set_option maxRecDepth 100000 in
theorem size_cmdsA (w : World) : (sizeOf (Tryz.prog.elem 25)).run Tryz.prog w = .ok 7 w := by
  have e : Tryz.prog.elem 25 = 43 := by kernel_rfl
  obtain ⟨i0, hi, hz0, hz1, hz2⟩ := info_parts (show (Tryz.prog.info? 43).map (fun i => (i.zero, i.size, i.bytes)) = some (some (.agg #[.int .i64 0, .int .i64 0, .int .i64 0, .int .i64 0, .int .i64 0, .string ⟨#[]⟩, .bool false]), 7, 64) by kernel_rfl)
  rw [e]
  simp [sizeOf, typeInfo, hi, hz1]
set_option maxRecDepth 100000 in
theorem slice_cmdsA (U : World) (a : Option Addr) (n cap k : Nat) (hk : k ≤ cap) : (Instr.slice 25 (.slice a n cap) none (some (.int .i64 k)) none).run Tryz.prog U = .ok (.slice a k cap) U := by
  rw [run_slice_h U 25 a n cap Tryz.underlying25 .i64 k (by omega) (by omega), size_cmdsA]
  have e : (if cap = 0 then a else a.map (·.add (0 * 7))) = a := by
    split
    · rfl
    · cases a with
      | none => rfl
      | some a => simp [Addr.add]
  show Result.ok (Value.slice (if cap = 0 then a else a.map (·.add (0 * 7))) ((k : Int).toNat - 0) (cap - 0)) U = _
  rw [e]
  simp
set_option maxRecDepth 100000 in
theorem make_steps (n : Nat) (hn : n ≤ 2000000) : ∃ cs : Array Value, cs.size = (n + 2) * 4 ∧ (∀ k, k < n + 2 → cs[k * 4 + 3]? = some (.int .i64 0)) ∧ ∀ w : World, (Instr.makeSlice 22 (.int .i64 ((n : Int) + 2)) (.int .i64 ((n : Int) + 2))).run Tryz.prog w = .ok (.slice (some ⟨w.heap.size, 0, none⟩) (n + 2) (n + 2)) (w.alloc (.cells cs 41)) := by
  obtain ⟨i0, hi, hz0, hz1, hz2⟩ := info_parts (show (Tryz.prog.info? 41).map (fun i => (i.zero, i.size, i.bytes)) = some (some (.agg #[.bool false, .bool false, .int .i64 0, .int .i64 0]), 4, 24) by kernel_rfl)
  refine ⟨madeCells #[.bool false, .bool false, .int .i64 0, .int .i64 0] ((n + 2) * 4), by rw [size_madeCells], fun k hk => ?_, fun w => ?_⟩
  · simp only [madeCells]
    rw [Array.getElem?_map, Array.getElem?_range, if_pos (by omega)]
    have e : (k * 4 + 3) % 4 = 3 := by omega
    simp [e]
  · have h := run_make (P := Tryz.prog) w 22 41 i0 (.agg #[.bool false, .bool false, .int .i64 0, .int .i64 0]) Tryz.underlying22 hi hz0 .i64 .i64 ((n : Int) + 2) ((n : Int) + 2) (by omega) (Int.le_refl _) (by rw [hz2]; omega) (by omega)
    rw [hz1] at h
    have e : ((n : Int) + 2).toNat = n + 2 := by omega
    rw [e] at h
    simpa [Value.cells] using h
set_option maxRecDepth 100000 in
theorem make_cmds (n : Nat) (hn : n ≤ 2000000) : ∃ cs : Array Value, cs.size = (n + 2) * 7 ∧ (∀ k, k < n + 2 → cs[k * 7]? = some (.int .i64 0)) ∧ ∀ w : World, (Instr.makeSlice 25 (.int .i64 ((n : Int) + 2)) (.int .i64 ((n : Int) + 2))).run Tryz.prog w = .ok (.slice (some ⟨w.heap.size, 0, none⟩) (n + 2) (n + 2)) (w.alloc (.cells cs 43)) := by
  obtain ⟨i0, hi, hz0, hz1, hz2⟩ := info_parts (show (Tryz.prog.info? 43).map (fun i => (i.zero, i.size, i.bytes)) = some (some (.agg #[.int .i64 0, .int .i64 0, .int .i64 0, .int .i64 0, .int .i64 0, .string ⟨#[]⟩, .bool false]), 7, 64) by kernel_rfl)
  refine ⟨madeCells #[.int .i64 0, .int .i64 0, .int .i64 0, .int .i64 0, .int .i64 0, .string ⟨#[]⟩, .bool false] ((n + 2) * 7), by rw [size_madeCells], fun k hk => ?_, fun w => ?_⟩
  · simp only [madeCells]
    rw [Array.getElem?_map, Array.getElem?_range, if_pos (by omega)]
    have e : (k * 7) % 7 = 0 := by omega
    simp [e]
  · have h := run_make (P := Tryz.prog) w 25 43 i0 (.agg #[.int .i64 0, .int .i64 0, .int .i64 0, .int .i64 0, .int .i64 0, .string ⟨#[]⟩, .bool false]) Tryz.underlying25 hi hz0 .i64 .i64 ((n : Int) + 2) ((n : Int) + 2) (by omega) (Int.le_refl _) (by rw [hz2]; omega) (by omega)
    rw [hz1] at h
    have e : ((n : Int) + 2).toNat = n + 2 := by omega
    rw [e] at h
    simpa [Value.cells] using h

set_option maxRecDepth 100000 in
set_option maxHeartbeats 2000000 in
theorem commands_any (v : Value) (l : List Cmd) (w : World) (h : Cmds w v l) (hl : l.length ≤ 1048576) :
    Calls Tryz.prog 6 #[v] w fun e w' => ∃ b, e = .returned (.slice (some ⟨b, 0, none⟩) l.length (l.length + 2)) ∧ SpareC w' b l ∧ Quiet w w' := by
  have hq0 : ∀ (w : World) o, Quiet w (w.alloc o) := fun w o => (Below.refl _ _).alloc (Nat.le_refl _) _
  obtain ⟨a, n, cap, rfl⟩ := h.1.shape
  have HN : Hid (n = l.length) := h.len.1
  have hn1 : n ≤ 1048576 := by have := HN.out; omega
  obtain ⟨c0, hc0, hc1, hmk⟩ := make_cmds n (by omega)
  obtain ⟨w2, c1, hrun, hb2, hsz, hin, hout, hoth, hbel⟩ := copy_rows_ex (P := Tryz.prog) (w.alloc (.cells c0 43)) 25 25 3 43 7 w.heap.size n cap a (l.map Cmd.cells) (h.1.quiet (hq0 _ _)) Tryz.underlying25 (by kernel_rfl) c0 43 (Blk.new' rfl) hc0 (by
    intro u hu
    obtain ⟨x, hx, hux⟩ := List.mem_flatten.1 hu
    obtain ⟨c, _, rfl⟩ := List.mem_map.1 hx
    simp [Cmd.cells] at hux
    rcases hux with rfl | rfl | rfl | rfl | rfl | rfl | rfl <;> rfl)
  have hq2 : Quiet w w2 := hbel _ _ (hq0 w _) (Nat.le_refl _)
  have o1 : c1[n * 7]? = some (.int .i64 0) := by rw [hout _ (Nat.le_refl _)]; exact hc1 n (by omega)
  have o2 : c1[(n + 1) * 7]? = some (.int .i64 0) := by rw [hout _ (by omega)]; exact hc1 (n + 1) (by omega)
  have fb := hb2.frozen
  have zb := hb2.lt
  have q1 : w2.cell? ⟨w.heap.size, n * 7, none⟩ = some (.int .i64 0) := by rw [hb2.cell]; exact o1
  have q2 : w2.cell? ⟨w.heap.size, (n + 1) * 7, none⟩ = some (.int .i64 0) := by rw [hb2.cell]; exact o2
  have hni : (n : Int) ≤ 1048576 := by omega
  have hsl := fun U => run_slice_h (P := Tryz.prog) U 25 (some ⟨w.heap.size, 0, none⟩) (n + 2) (n + 2) Tryz.underlying25 .i64 n (by omega) (by omega)
  rw [← HN.out]
  clear o1 o2 hoth hbel hc1 h
  go_enter Tryz.func6, Tryz.ntmps6
  go_wp2
  go_ret
  refine ⟨w.heap.size, rfl, ⟨_, (hb2.set _ _).set _ _, ?_, ?_, ?_, ?_⟩, (hq2.setCell (p := ⟨w.heap.size, n * 7, none⟩) (Nat.le_refl _) _).setCell (p := ⟨w.heap.size, (n + 1) * 7, none⟩) (Nat.le_refl _) _⟩
  · rw [Array.size_setIfInBounds, Array.size_setIfInBounds, hsz, HN.out]
  · intro j v hv
    have hj := (List.getElem?_eq_some_iff.1 hv).1
    rw [flat_lenA _ (cmdCells_len l), List.length_map, ← HN.out] at hj
    rw [Array.getElem?_setIfInBounds_ne (by omega), Array.getElem?_setIfInBounds_ne (by omega)]
    exact hin j v hv
  · rw [← HN.out, Array.getElem?_setIfInBounds_ne (by omega), Array.getElem?_setIfInBounds_self_of_lt (by rw [hsz]; omega)]
  · rw [← HN.out, Array.getElem?_setIfInBounds_self_of_lt (by rw [Array.size_setIfInBounds, hsz]; omega)]

set_option maxRecDepth 100000 in
set_option maxHeartbeats 2000000 in
theorem defC_any (dv : Value) (d : Def) (w : World) (hd : DefIs w dv d) (hl : d.steps.length ≤ 1048576) :
    Calls Tryz.prog 5 #[dv] w fun e w' => ∃ b, e = .returned (.agg #[.slice (some ⟨b, 0, none⟩) d.steps.length (d.steps.length + 2), .int .i64 d.quorum, .int .i64 d.expiry]) ∧ SpareD w' b d ∧ Quiet w w' := by
  have hq0 : ∀ (w : World) o, Quiet w (w.alloc o) := fun w o => (Below.refl _ _).alloc (Nat.le_refl _) _
  obtain ⟨a, n, cap, rfl, hst⟩ := hd
  have HN : Hid (n = d.steps.length) := by show n = _; have := hst.src.1; simpa [stepVals] using this
  have hn1 : n ≤ 1048576 := by have := HN.out; omega
  obtain ⟨c0, hc0, hc1, hmk⟩ := make_steps n (by omega)
  have hni : (n : Int) ≤ 1048576 := by omega
  rw [← HN.out]
  go_enter Tryz.func5, Tryz.ntmps5
  go_upto_region 2 with (fail)
  refine wp_gen (fun V => Blk V w.heap.size #[.slice a n cap, .int .i64 d.quorum, .int .i64 d.expiry] 24 ∧ Blk V (w.heap.size + 1) #[.slice none 0 0, .int .i64 0, .int .i64 0] 24 ∧ Quiet w V) ⟨(Blk.new' rfl).alloc _, Blk.new' (by simp), (hq0 _ _).after (hq0 _ _)⟩ ?_
  rintro V ⟨bd, br, hqV⟩
  obtain ⟨w2, c1, hrun, hb2, hsz, hin, hout, hoth, hbel⟩ := copy_rows_ex (P := Tryz.prog) (V.alloc (.cells c0 41)) 22 22 3 41 4 V.heap.size n cap a (stepVals d.steps) ((hst.quiet hqV).quiet (hq0 _ _)) Tryz.underlying22 (by kernel_rfl) c0 41 (Blk.new' rfl) hc0 (by
    intro u hu
    obtain ⟨x, hx, hux⟩ := List.mem_flatten.1 hu
    obtain ⟨c, _, rfl⟩ := List.mem_map.1 hx
    simp [Step.cells] at hux
    rcases hux with rfl | rfl | rfl | rfl <;> rfl)
  have hzd := bd.lt
  have hzr := br.lt
  have hq2 : Quiet w w2 := hqV.after (hbel _ _ (hq0 V _) (Nat.le_refl _))
  have bd2 := hoth _ _ _ (by omega) (bd.alloc (.cells c0 41))
  have br2 := hoth _ _ _ (by omega) (br.alloc (.cells c0 41))
  have o1 : c1[n * 4 + 3]? = some (.int .i64 0) := by rw [hout _ (by omega)]; exact hc1 n (by omega)
  have o2 : c1[(n + 1) * 4 + 3]? = some (.int .i64 0) := by rw [hout _ (by omega)]; exact hc1 (n + 1) (by omega)
  have fb := hb2.frozen
  have zb := hb2.lt
  have q1 : w2.cell? ⟨V.heap.size, n * 4 + 3, none⟩ = some (.int .i64 0) := by rw [hb2.cell]; exact o1
  have q2 : w2.cell? ⟨V.heap.size, (n + 1) * 4 + 3, none⟩ = some (.int .i64 0) := by rw [hb2.cell]; exact o2
  have gd := bd.cell
  have zd := bd.lt
  have gd2 := bd2.cell
  have zd2 := bd2.lt
  have gr2 := br2.cell
  have fr2 := br2.frozen
  have zr2 := br2.lt
  have hsl := fun U => slice_steps U (some ⟨V.heap.size, 0, none⟩) (n + 2) (n + 2) n (by omega)
  have e1 : w.heap.size ≠ V.heap.size := by omega
  have e2 : V.heap.size ≠ w.heap.size := by omega
  have e3 : w.heap.size + 1 ≠ V.heap.size := by omega
  have e4 : V.heap.size ≠ w.heap.size + 1 := by omega
  go_upto_region 6 with (fail)
  have hSp : SpareD ((w2.setCell ⟨V.heap.size, n * 4 + 3, none⟩ (.int .i64 77)).setCell ⟨V.heap.size, (n + 1) * 4 + 3, none⟩ (.int .i64 77)) V.heap.size d := by
    refine ⟨_, (hb2.set _ _).set _ _, ?_, ?_, ?_, ?_⟩
    · rw [Array.size_setIfInBounds, Array.size_setIfInBounds, hsz, HN.out]
    · intro j v hv
      have hj := (List.getElem?_eq_some_iff.1 hv).1
      rw [flat_lenA _ (stepVals_len _), show (stepVals d.steps).length = n by simp [stepVals, HN.out]] at hj
      rw [Array.getElem?_setIfInBounds_ne (by omega), Array.getElem?_setIfInBounds_ne (by omega)]
      exact hin j v hv
    · rw [← HN.out, Array.getElem?_setIfInBounds_ne (by omega), Array.getElem?_setIfInBounds_self_of_lt (by rw [hsz]; omega)]
    · rw [← HN.out, Array.getElem?_setIfInBounds_self_of_lt (by rw [Array.size_setIfInBounds, hsz]; omega)]
  refine wp_gen (fun U => Blk U w.heap.size #[.slice a n cap, .int .i64 d.quorum, .int .i64 d.expiry] 24 ∧ Blk U (w.heap.size + 1) #[.slice none 0 0, .int .i64 0, .int .i64 0] 24 ∧ SpareD U V.heap.size d ∧ Quiet w U) ⟨(bd2.other _ e1).other _ e1, (br2.other _ e3).other _ e3, hSp, (hq2.setCell (p := ⟨V.heap.size, n * 4 + 3, none⟩) hqV.size _).setCell (p := ⟨V.heap.size, (n + 1) * 4 + 3, none⟩) hqV.size _⟩ ?_
  rintro U ⟨bd3, br3, hS3, hqU⟩
  clear gd zd gd2 zd2 gr2 fr2 zr2 q1 q2 fb zb hSp
  have gd := bd3.cell
  have zd := bd3.lt
  have gr := br3.cell
  have fr := br3.frozen
  have zr := br3.lt
  go_region
  go_wp2
  obtain ⟨cs, hcs, hrest⟩ := hS3
  refine bodyPost_ret (v := .agg #[.slice (some ⟨V.heap.size, 0, none⟩) n (n + 2), .int .i64 d.quorum, .int .i64 d.expiry]) (by simp [results, Tryz.results5, go_sem, gr]) rfl ⟨V.heap.size, rfl, ⟨cs, Blk.drew (((hcs.other _ e4).other _ e4).other _ e4), hrest⟩, ?_⟩
  exact Below.drew (((hqU.setCell (p := ⟨w.heap.size + 1, 0, none⟩) (Nat.le_succ _) _).setCell (p := ⟨w.heap.size + 1, 1, none⟩) (Nat.le_succ _) _).setCell (p := ⟨w.heap.size + 1, 2, none⟩) (Nat.le_succ _) _)

end Go.Proofs.YtgcjlgaapiefiabGreat

/-
  sagalaw.defStill, commandsStill, calls, All: walked.
-/
namespace Go.Proofs.YtgcjlgaapiefiabGreat
open Go.RowKit Go.Sort

theorem SpareD.step {w : World} {b : Nat} {d : Def} (h : SpareD w b d) (k : Nat) (hk : k < d.steps.length) : w.cell? ⟨b, k * 4, none⟩ = some (.bool d.steps[k].undo) ∧ w.cell? ⟨b, k * 4 + 1, none⟩ = some (.bool d.steps[k].pivot) ∧ w.cell? ⟨b, k * 4 + 2, none⟩ = some (.int .i64 d.steps[k].retries) ∧ w.cell? ⟨b, k * 4 + 3, none⟩ = some (.int .i64 d.steps[k].timeout) := by
  obtain ⟨cs, h1, _, h3, _⟩ := h
  have hx : (stepVals d.steps)[k]? = some d.steps[k].cells := by simp [stepVals, hk]
  have key : ∀ j u, d.steps[k].cells[j]? = some u → w.cell? ⟨b, k * 4 + j, none⟩ = some u := fun j u hu => by
    rw [h1.cell]; exact h3 _ _ (flat_getA _ (stepVals_len _) k j _ u hx hu)
  exact ⟨key 0 _ rfl, key 1 _ rfl, key 2 _ rfl, key 3 _ rfl⟩
theorem SpareC.cmd {w : World} {b : Nat} {l : List Cmd} (h : SpareC w b l) (k : Nat) (hk : k < l.length) : w.cell? ⟨b, k * 7, none⟩ = some (.int .i64 l[k].kind) ∧ w.cell? ⟨b, k * 7 + 1, none⟩ = some (.int .i64 l[k].inst) ∧ w.cell? ⟨b, k * 7 + 2, none⟩ = some (.int .i64 l[k].a) ∧ w.cell? ⟨b, k * 7 + 3, none⟩ = some (.int .i64 l[k].b) ∧ w.cell? ⟨b, k * 7 + 4, none⟩ = some (.int .i64 l[k].who) ∧ w.cell? ⟨b, k * 7 + 5, none⟩ = some (.string l[k].reason) ∧ w.cell? ⟨b, k * 7 + 6, none⟩ = some (.bool l[k].dry) := by
  obtain ⟨cs, h1, _, h3, _⟩ := h
  have hx : (l.map Cmd.cells)[k]? = some l[k].cells := by simp [hk]
  have key : ∀ j u, l[k].cells[j]? = some u → w.cell? ⟨b, k * 7 + j, none⟩ = some u := fun j u hu => by
    rw [h1.cell]; exact h3 _ _ (flat_getA _ (cmdCells_len _) k j _ u hx hu)
  exact ⟨key 0 _ rfl, key 1 _ rfl, key 2 _ rfl, key 3 _ rfl, key 4 _ rfl, key 5 _ rfl, key 6 _ rfl⟩
theorem SpareD.marks {w : World} {b : Nat} {d : Def} (h : SpareD w b d) : b < w.heap.size ∧ w.cell? ⟨b, d.steps.length * 4 + 3, none⟩ = some (.int .i64 77) ∧ w.cell? ⟨b, (d.steps.length + 1) * 4 + 3, none⟩ = some (.int .i64 77) := by
  obtain ⟨cs, h1, _, _, h4, h5⟩ := h
  exact ⟨h1.lt, by rw [h1.cell]; exact h4, by rw [h1.cell]; exact h5⟩
theorem SpareC.marks {w : World} {b : Nat} {l : List Cmd} (h : SpareC w b l) : b < w.heap.size ∧ w.cell? ⟨b, l.length * 7, none⟩ = some (.int .i64 77) ∧ w.cell? ⟨b, (l.length + 1) * 7, none⟩ = some (.int .i64 77) := by
  obtain ⟨cs, h1, _, _, h4, h5⟩ := h
  exact ⟨h1.lt, by rw [h1.cell]; exact h4, by rw [h1.cell]; exact h5⟩

set_option maxRecDepth 100000 in
set_option maxHeartbeats 2000000 in
theorem commandsStill_any (v : Value) (l : List Cmd) (b : Nat) (w : World) (h : Cmds w v l) (hS : SpareC w b l) (hl : l.length ≤ 1048576) :
    Calls Tryz.prog 9 #[.slice (some ⟨b, 0, none⟩) l.length (l.length + 2), v] w fun e w' => e = .returned (.bool true) ∧ Quiet w w' := by
  have hq0 : ∀ (w : World) o, Quiet w (w.alloc o) := fun w o => (Below.refl _ _).alloc (Nat.le_refl _) _
  obtain ⟨a, n, cap, rfl⟩ := h.1.shape
  have HN : Hid (n = l.length) := h.len.1
  have hn1 : n ≤ 1048576 := by have := HN.out; omega
  have hni : (n : Int) ≤ 1048576 := by omega
  rw [← HN.out]
  go_enter Tryz.func9, Tryz.ntmps9
  go_wp2
  go_loopw [6, 7, 8] (fun i x y wr => ∃ k : Nat, k ≤ n ∧ i = .int .i64 k ∧ Quiet w wr) (fun i _ _ _ => n - (intOf i).toNat)
  case atStart => exact ⟨0, Nat.zero_le _, rfl, Below.refl _ _⟩
  case round =>
    obtain ⟨k, hk, rfl, hqr⟩ := hrel
    by_cases hlt : k < n
    · have hkl : k < l.length := by have := HN.out; omega
      obtain ⟨b1, off, rfl, hb, c0, c1, c2, c3, c4, c5, c6⟩ := (h.quiet hqr).cell k hkl
      obtain ⟨d0, d1, d2, d3, d4, d5, d6⟩ := (hS.quiet hqr).cmd k hkl
      have zb := (hS.quiet hqr).marks.1
      generalize l[k] = c at *
      have hki : (0 : Int) ≤ (k : Int) := by omega
      have hkj : (k : Int) < (n : Int) := by omega
      have hkj2 : (k : Int) < (n : Int) + 2 := by omega
      have u0 : (c.kind != c.kind) = false := by simp
      have u1 : (c.inst != c.inst) = false := by simp
      have u2 : (c.a != c.a) = false := by simp
      have u3 : (c.b != c.b) = false := by simp
      have u4 : (c.who != c.who) = false := by simp
      have u5 : (c.reason.toList != c.reason.toList) = false := by simp
      have u6 : (c.dry != c.dry) = false := by simp
      go_wp2
      go_roundw
      case rel => exact ⟨k + 1, by omega, by go_num, hqr.after ((hq0 _ _).after (hq0 _ _))⟩
      case measure => simp [intOf]; omega
    · obtain ⟨zb, m1, m2⟩ := (hS.quiet hqr).marks
      rw [← HN.out] at m1 m2
      have hsl := fun U => slice_cmdsA U (some ⟨b, 0, none⟩) n (n + 2) (n + 2) (by omega)
      go_wp2
      go_ret
      exact ⟨rfl, hqr⟩

set_option maxRecDepth 100000 in
set_option maxHeartbeats 2000000 in
theorem defStill_any (dv : Value) (d : Def) (b : Nat) (w : World) (hd : DefIs w dv d) (hS : SpareD w b d) (hl : d.steps.length ≤ 1048576) :
    Calls Tryz.prog 8 #[.agg #[.slice (some ⟨b, 0, none⟩) d.steps.length (d.steps.length + 2), .int .i64 d.quorum, .int .i64 d.expiry], dv] w fun e w' => e = .returned (.bool true) ∧ Quiet w w' := by
  have hq0 : ∀ (w : World) o, Quiet w (w.alloc o) := fun w o => (Below.refl _ _).alloc (Nat.le_refl _) _
  obtain ⟨a, n, cap, rfl, hst⟩ := hd
  have HN : Hid (n = d.steps.length) := by show n = _; have := hst.src.1; simpa [stepVals] using this
  have hn1 : n ≤ 1048576 := by have := HN.out; omega
  have hni : (n : Int) ≤ 1048576 := by omega
  rw [← HN.out]
  go_enter Tryz.func8, Tryz.ntmps8
  go_upto_region 2 with (fail)
  refine wp_gen (fun V => Blk V w.heap.size #[.slice (some ⟨b, 0, none⟩) n (n + 2), .int .i64 d.quorum, .int .i64 d.expiry] 24 ∧ Blk V (w.heap.size + 1) #[.slice a n cap, .int .i64 d.quorum, .int .i64 d.expiry] 24 ∧ Quiet w V) ⟨(Blk.new' rfl).alloc _, Blk.new' (by simp), (hq0 _ _).after (hq0 _ _)⟩ ?_
  rintro V ⟨bo, bd, hqV⟩
  go_wp2
  go_loopw [6, 7, 8] (fun i x y wr => ∃ k : Nat, k ≤ n ∧ i = .int .i64 k ∧ Quiet V wr) (fun i _ _ _ => n - (intOf i).toNat)
  case atStart => exact ⟨0, Nat.zero_le _, rfl, Below.refl _ _⟩
  case round =>
    obtain ⟨k, hk, rfl, hqr⟩ := hrel
    replace bo := bo.quiet hqr
    replace bd := bd.quiet hqr
    have go := bo.cell
    have zo := bo.lt
    have gd := bd.cell
    have zd := bd.lt
    have hqw : Quiet w wr := hqV.after hqr
    by_cases hlt : k < n
    · have hkl : k < d.steps.length := by have := HN.out; omega
      obtain ⟨b1, off, rfl, hb, c0, c1, c2, c3⟩ := Arr.step (hst.quiet hqw) k hkl
      obtain ⟨d0, d1, d2, d3⟩ := (hS.quiet hqw).step k hkl
      have zb := (hS.quiet hqw).marks.1
      generalize d.steps[k] = s at *
      have hki : (0 : Int) ≤ (k : Int) := by omega
      have hkj : (k : Int) < (n : Int) := by omega
      have u0 : (s.undo != s.undo) = false := by simp
      have u1 : (s.pivot != s.pivot) = false := by simp
      have u2 : (s.retries != s.retries) = false := by simp
      have u3 : (s.timeout != s.timeout) = false := by simp
      go_wp2
      go_roundw
      case rel => exact ⟨k + 1, by omega, by go_num, hqr.after ((hq0 _ _).after (hq0 _ _))⟩
      case measure => simp [intOf]; omega
    · obtain ⟨zb, m1, m2⟩ := (hS.quiet hqw).marks
      rw [← HN.out] at m1 m2
      have hsl := fun U => slice_steps U (some ⟨b, 0, none⟩) n (n + 2) (n + 2) (by omega)
      go_wp2
      go_ret
      exact ⟨rfl, hqw⟩

end Go.Proofs.YtgcjlgaapiefiabGreat

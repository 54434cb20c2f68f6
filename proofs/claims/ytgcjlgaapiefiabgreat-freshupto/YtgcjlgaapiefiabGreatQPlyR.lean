import Derived.Test.YtgcjlgaapiefiabGreatQPlyA
import Derived.Orders

/-
  Walks of the document's answer: 'Log = cut(Log, Safe+A)': a statement that draws its order, with a call and a store.
-/
namespace Go.Proofs.YtgcjlgaapiefiabGreat
open Go.RowKit

def cutOps : Array Oper := #[{ dst := some 98, op := Op.move (Operand.tmp 5), type := 66, pos := "journal.go:93", after := #[], guard := none },
  { dst := some 99, op := Op.move (Operand.tmp 5), type := 66, pos := "journal.go:93", after := #[], guard := none },
  { dst := some 100, op := Op.nilCheck (Operand.tmp 99), type := 0, pos := "journal.go:93", after := #[{ on := 1, ground := Ground.data }], guard := none },
  { dst := some 101, op := Op.fieldAddr 70 (Operand.tmp 100) 0, type := 0, pos := "journal.go:93", after := #[{ on := 2, ground := Ground.data }], guard := none },
  { dst := some 102, op := Op.load 25 (Operand.tmp 101), type := 25, pos := "journal.go:93", after := #[{ on := 3, ground := Ground.data }], guard := none },
  { dst := some 103, op := Op.move (Operand.tmp 5), type := 66, pos := "journal.go:93", after := #[], guard := none },
  { dst := some 104, op := Op.nilCheck (Operand.tmp 103), type := 0, pos := "journal.go:93", after := #[{ on := 5, ground := Ground.data }], guard := none },
  { dst := some 105, op := Op.fieldAddr 70 (Operand.tmp 104) 1, type := 0, pos := "journal.go:93", after := #[{ on := 6, ground := Ground.data }], guard := none },
  { dst := some 106, op := Op.load 3 (Operand.tmp 105), type := 3, pos := "journal.go:93", after := #[{ on := 7, ground := Ground.data }], guard := none },
  { dst := some 107, op := Op.fieldAddr 43 (Operand.tmp 7) 2, type := 0, pos := "journal.go:93", after := #[], guard := none },
  { dst := some 108, op := Op.load 3 (Operand.tmp 107), type := 3, pos := "journal.go:93", after := #[{ on := 9, ground := Ground.data }], guard := none },
  { dst := some 109, op := Op.binOp BinOp.add 3 (Operand.tmp 106) (Operand.tmp 108) 3, type := 3, pos := "journal.go:93", after := #[{ on := 8, ground := Ground.data }, { on := 10, ground := Ground.data }], guard := none },
  { dst := some 110, op := Op.call { callee := Callee.value (Operand.func 42), args := #[Operand.tmp 102, Operand.tmp 109], argTypes := #[25, 3] }, type := 25, pos := "journal.go:93", after := #[{ on := 4, ground := Ground.data }, { on := 11, ground := Ground.data }], guard := none },
  { dst := some 111, op := Op.nilCheck (Operand.tmp 98), type := 0, pos := "journal.go:93", after := #[{ on := 0, ground := Ground.data }, { on := 0, ground := Ground.phase }, { on := 1, ground := Ground.phase }, { on := 2, ground := Ground.phase }, { on := 3, ground := Ground.phase }, { on := 4, ground := Ground.phase }, { on := 5, ground := Ground.phase }, { on := 6, ground := Ground.phase }, { on := 7, ground := Ground.phase }, { on := 8, ground := Ground.phase }, { on := 9, ground := Ground.phase }, { on := 10, ground := Ground.phase }, { on := 11, ground := Ground.phase }, { on := 12, ground := Ground.phase }], guard := none },
  { dst := some 112, op := Op.fieldAddr 70 (Operand.tmp 111) 0, type := 0, pos := "journal.go:93", after := #[{ on := 13, ground := Ground.data }, { on := 0, ground := Ground.phase }, { on := 1, ground := Ground.phase }, { on := 2, ground := Ground.phase }, { on := 3, ground := Ground.phase }, { on := 4, ground := Ground.phase }, { on := 5, ground := Ground.phase }, { on := 6, ground := Ground.phase }, { on := 7, ground := Ground.phase }, { on := 8, ground := Ground.phase }, { on := 9, ground := Ground.phase }, { on := 10, ground := Ground.phase }, { on := 11, ground := Ground.phase }, { on := 12, ground := Ground.phase }], guard := none },
  { dst := none, op := Op.store 25 (Operand.tmp 112) (Operand.tmp 110), type := 0, pos := "journal.go:93", after := #[{ on := 14, ground := Ground.data }, { on := 12, ground := Ground.data }, { on := 12, ground := Ground.chain }, { on := 0, ground := Ground.phase }, { on := 1, ground := Ground.phase }, { on := 2, ground := Ground.phase }, { on := 3, ground := Ground.phase }, { on := 4, ground := Ground.phase }, { on := 5, ground := Ground.phase }, { on := 6, ground := Ground.phase }, { on := 7, ground := Ground.phase }, { on := 8, ground := Ground.phase }, { on := 9, ground := Ground.phase }, { on := 10, ground := Ground.phase }, { on := 11, ground := Ground.phase }, { on := 12, ground := Ground.phase }], guard := none }]

theorem wpOp_val {P : Program} {ops : Array Oper} {Q : Exit → Act → World → Prop} {i : Nat} {o : Oper} {K : Act → World → Prop} {a : Act} {w w' : World} {v : Value} (d : Option Tmp) (hd : o.dst = d) (hi : ops[i]? = some o) (hg : o.guard = none) (hrun : (execOp a.eval o).run P w = .ok (.value v) w') (h : K (a.put d v) w') : wpOp P ops Q i K a w := by
  subst hd
  unfold wpOp
  simp only [hi]
  rw [if_pos (by simp [Region.wanted, hg])]
  left
  unfold Oper.wp
  rw [hrun]
  exact h
theorem wpAny_take' {P : Program} {ops : Array Oper} {Q : Exit → Act → World → Prop} {md : Region.Mode} {i : Nat} {oi : Oper} {v : Value} {fuel : Nat} {listed : Array Bool} {a : Act} {w : World} (d : Option Tmp) (hd : oi.dst = d) (hi : ops[i]? = some oi)
    (hs : Region.noSelect ops = true) (hf : Region.free md ops listed i = true) (hr : (Region.ready md ops listed).contains i = true)
    (hQ : ∀ c a w, Q (.panic c) (a.put d v) w → Q (.panic c) a w) (hy : Yields P ops oi v a)
    (h : wpAny P md ops Q fuel (listed.setIfInBounds i true) (a.put d v) w) : wpAny P md ops Q (fuel + 1) listed a w := by
  subst hd
  exact wpAny_take hi hs hf hr hQ hy h
theorem put_comm' (a : Act) (d e : Nat) (u v : Value) (h : d ≠ e) : (a.put (some d) v).put (some e) u = (a.put (some e) u).put (some d) v := Act.put_comm a v u (by rintro x hx; simp at hx; subst hx; simpa using fun q => h q.symm)

theorem wpOp_skip {P : Program} {ops : Array Oper} {Q : Exit → Act → World → Prop} {i : Nat} {o : Oper} {K : Act → World → Prop} {a : Act} {w w' : World} (hd : o.dst = none) (hi : ops[i]? = some o) (hg : o.guard = none) (hrun : (execOp a.eval o).run P w = .ok .skip w') (h : K a w') : wpOp P ops Q i K a w := by
  unfold wpOp
  simp only [hi]
  rw [if_pos (by simp [Region.wanted, hg])]
  left
  unfold Oper.wp
  rw [hrun]
  show K (a.put o.dst undef) w'
  rw [hd]
  exact h
theorem wpOp_enter {P : Program} {ops : Array Oper} {Q : Exit → Act → World → Prop} {i : Nat} {o : Oper} {K : Act → World → Prop} {a : Act} {w w' : World} {f : FuncId} {args : Array Value} (d : Option Tmp) (hd : o.dst = d) (hi : ops[i]? = some o) (hg : o.guard = none) (hrun : (execOp a.eval o).run P w = .ok (.enter f args) w') (h : Calls P f args w' fun e w2 => ∃ v, e = .returned v ∧ K (a.put d v) w2) : wpOp P ops Q i K a w := by
  subst hd
  unfold wpOp
  simp only [hi]
  rw [if_pos (by simp [Region.wanted, hg])]
  left
  unfold Oper.wp
  rw [hrun]
  refine h.mono ?_
  rintro e w2 ⟨v, rfl, hk⟩
  exact hk

set_option maxRecDepth 100000 in
set_option maxHeartbeats 1000000 in
theorem cut_region (Q : Exit → Act → World → Prop) (a : Act) (w : World) (tb cb : Nat) (la : Option Addr) (L lc : Nat) (S A : Int) (hlt : ∀ d, d < 113 → d < a.tmps.size)
    (h5 : a.tmps[5]? = some (.pointer (some ⟨tb, 0, none⟩))) (h7 : a.tmps[7]? = some (.pointer (some ⟨cb, 0, none⟩)))
    (g0 : w.cell? ⟨tb, 0, none⟩ = some (.slice la L lc)) (g1 : w.cell? ⟨tb, 1, none⟩ = some (.int .i64 S)) (gA : w.cell? ⟨cb, 2, none⟩ = some (.int .i64 A)) (hS0 : 0 ≤ S) (hA0 : 0 ≤ A) (hSA : S + A ≤ 9223372036854775807)
    (hQ : ∀ c a d v w, Q (.panic c) (Act.put a d v) w → Q (.panic c) a w)
    (HC : Calls Tryz.prog 42 #[.slice la L lc, .int .i64 (S + A)] w.drew fun e w2 => ∃ la2 L2 lc2, e = .returned (.slice la2 L2 lc2) ∧ (∃ u, w2.cell? ⟨tb, 0, none⟩ = some u) ∧ w2.frozen? ⟨tb, 0, none⟩ = false ∧
      Q .normal ((((((((((((((((a.put (some 98) (.pointer (some ⟨tb, 0, none⟩))).put (some 99) (.pointer (some ⟨tb, 0, none⟩))).put (some 100) (.pointer (some ⟨tb, 0, none⟩))).put (some 101) (.pointer (some ⟨tb, 0, none⟩))).put (some 103) (.pointer (some ⟨tb, 0, none⟩))).put (some 104) (.pointer (some ⟨tb, 0, none⟩))).put (some 105) (.pointer (some ⟨tb, 1, none⟩))).put (some 107) (.pointer (some ⟨cb, 2, none⟩))).put (some 102) (.slice la L lc)).put (some 106) (.int .i64 S)).put (some 108) (.int .i64 A)).put (some 109) (.int .i64 (S + A))).put (some 110) (.slice la2 L2 lc2)).put (some 111) (.pointer (some ⟨tb, 0, none⟩))).put (some 112) (.pointer (some ⟨tb, 0, none⟩)))) (w2.setCell ⟨tb, 0, none⟩ (.slice la2 L2 lc2))) :
    (Code.region 19 cutOps true).wp Tryz.prog Q a w := by
  have h5' : ∀ h : 5 < a.tmps.size, a.tmps[5]'h = .pointer (some ⟨tb, 0, none⟩) := fun h => by simpa [h] using h5
  have h7' : ∀ h : 7 < a.tmps.size, a.tmps[7]'h = .pointer (some ⟨cb, 0, none⟩) := fun h => by simpa [h] using h7
  have hw1 : IntKind.i64.wrap (S + A) = S + A := by rw [IntKind.wrap_i64]; omega
  have fin : wpAny Tryz.prog .any cutOps Q 4 #[true, true, true, true, true, true, true, true, true, true, true, true, false, false, false, false] ((((((((((((a.put (some 98) (.pointer (some ⟨tb, 0, none⟩))).put (some 99) (.pointer (some ⟨tb, 0, none⟩))).put (some 100) (.pointer (some ⟨tb, 0, none⟩))).put (some 101) (.pointer (some ⟨tb, 0, none⟩))).put (some 103) (.pointer (some ⟨tb, 0, none⟩))).put (some 104) (.pointer (some ⟨tb, 0, none⟩))).put (some 105) (.pointer (some ⟨tb, 1, none⟩))).put (some 107) (.pointer (some ⟨cb, 2, none⟩))).put (some 102) (.slice la L lc)).put (some 106) (.int .i64 S)).put (some 108) (.int .i64 A)).put (some 109) (.int .i64 (S + A))) w.drew := by
    refine wpAny_all (rs := [12]) (by kernel_rfl) (by simp) ?_
    intro i hi
    simp only [List.mem_cons, List.not_mem_nil, or_false] at hi
    subst hi
    refine wpOp_enter (d := some 110) (hd := rfl) (o := { dst := some 110, op := Op.call { callee := Callee.value (Operand.func 42), args := #[Operand.tmp 102, Operand.tmp 109], argTypes := #[25, 3] }, type := 25, pos := "journal.go:93", after := #[{ on := 4, ground := Ground.data }, { on := 11, ground := Ground.data }], guard := none }) (f := 42) (args := #[.slice la L lc, .int .i64 (S + A)]) (w' := w.drew) rfl rfl (by simp [hlt, go_sem]) ?_
    refine HC.mono ?_
    rintro e w2 ⟨la2, L2, lc2, rfl, ⟨u, hu⟩, hfz, hfin⟩
    refine ⟨_, rfl, ?_⟩
    refine wpAny_take' (i := 13) (d := some 111) (hd := rfl) (oi := { dst := some 111, op := Op.nilCheck (Operand.tmp 98), type := 0, pos := "journal.go:93", after := #[{ on := 0, ground := Ground.data }, { on := 0, ground := Ground.phase }, { on := 1, ground := Ground.phase }, { on := 2, ground := Ground.phase }, { on := 3, ground := Ground.phase }, { on := 4, ground := Ground.phase }, { on := 5, ground := Ground.phase }, { on := 6, ground := Ground.phase }, { on := 7, ground := Ground.phase }, { on := 8, ground := Ground.phase }, { on := 9, ground := Ground.phase }, { on := 10, ground := Ground.phase }, { on := 11, ground := Ground.phase }, { on := 12, ground := Ground.phase }], guard := none }) (v := .pointer (some ⟨tb, 0, none⟩)) rfl (by kernel_rfl) (by kernel_rfl) (by kernel_rfl) (fun c a w h => hQ c a _ _ w h) (Or.inl ⟨by rfl, fun U => by simp [execOp, hlt, go_sem]⟩) ?_
    refine wpAny_take' (i := 14) (d := some 112) (hd := rfl) (oi := { dst := some 112, op := Op.fieldAddr 70 (Operand.tmp 111) 0, type := 0, pos := "journal.go:93", after := #[{ on := 13, ground := Ground.data }, { on := 0, ground := Ground.phase }, { on := 1, ground := Ground.phase }, { on := 2, ground := Ground.phase }, { on := 3, ground := Ground.phase }, { on := 4, ground := Ground.phase }, { on := 5, ground := Ground.phase }, { on := 6, ground := Ground.phase }, { on := 7, ground := Ground.phase }, { on := 8, ground := Ground.phase }, { on := 9, ground := Ground.phase }, { on := 10, ground := Ground.phase }, { on := 11, ground := Ground.phase }, { on := 12, ground := Ground.phase }], guard := none }) (v := .pointer (some ⟨tb, 0, none⟩)) rfl (by kernel_rfl) (by kernel_rfl) (by kernel_rfl) (fun c a w h => hQ c a _ _ w h) (Or.inl ⟨by rfl, fun U => by simp [execOp, hlt, go_sem]⟩) ?_
    refine wpAny_all (rs := [15]) (by kernel_rfl) (by simp) ?_
    intro i hi
    simp only [List.mem_cons, List.not_mem_nil, or_false] at hi
    subst hi
    refine wpOp_skip (hd := rfl) (o := { dst := none, op := Op.store 25 (Operand.tmp 112) (Operand.tmp 110), type := 0, pos := "journal.go:93", after := #[{ on := 14, ground := Ground.data }, { on := 12, ground := Ground.data }, { on := 12, ground := Ground.chain }, { on := 0, ground := Ground.phase }, { on := 1, ground := Ground.phase }, { on := 2, ground := Ground.phase }, { on := 3, ground := Ground.phase }, { on := 4, ground := Ground.phase }, { on := 5, ground := Ground.phase }, { on := 6, ground := Ground.phase }, { on := 7, ground := Ground.phase }, { on := 8, ground := Ground.phase }, { on := 9, ground := Ground.phase }, { on := 10, ground := Ground.phase }, { on := 11, ground := Ground.phase }, { on := 12, ground := Ground.phase }], guard := none }) (w' := w2.setCell ⟨tb, 0, none⟩ (.slice la2 L2 lc2)) rfl rfl (by simp [execOp, hlt, go_sem, hu, hfz]) ?_
    exact wpAny_done (by kernel_rfl) hfin _
  have fin2 : ∀ l b, l = #[true, true, true, true, true, true, true, true, true, true, true, true, false, false, false, false] → b = ((((((((((((a.put (some 98) (.pointer (some ⟨tb, 0, none⟩))).put (some 99) (.pointer (some ⟨tb, 0, none⟩))).put (some 100) (.pointer (some ⟨tb, 0, none⟩))).put (some 101) (.pointer (some ⟨tb, 0, none⟩))).put (some 103) (.pointer (some ⟨tb, 0, none⟩))).put (some 104) (.pointer (some ⟨tb, 0, none⟩))).put (some 105) (.pointer (some ⟨tb, 1, none⟩))).put (some 107) (.pointer (some ⟨cb, 2, none⟩))).put (some 102) (.slice la L lc)).put (some 106) (.int .i64 S)).put (some 108) (.int .i64 A)).put (some 109) (.int .i64 (S + A))) → wpAny Tryz.prog .any cutOps Q 4 l b w.drew := by rintro l b rfl rfl; exact fin
  refine wp_region_any (by kernel_rfl) ?_
  show wpAny Tryz.prog .any cutOps Q 16 (Array.replicate 16 false) a w.drew
  refine wpAny_take' (i := 0) (d := some 98) (hd := rfl) (oi := { dst := some 98, op := Op.move (Operand.tmp 5), type := 66, pos := "journal.go:93", after := #[], guard := none }) (v := .pointer (some ⟨tb, 0, none⟩)) rfl (by kernel_rfl) (by kernel_rfl) (by kernel_rfl) (fun c a w h => hQ c a _ _ w h) (Or.inl ⟨by rfl, fun U => by simp [execOp, hlt, h5', go_sem]⟩) ?_
  refine wpAny_take' (i := 1) (d := some 99) (hd := rfl) (oi := { dst := some 99, op := Op.move (Operand.tmp 5), type := 66, pos := "journal.go:93", after := #[], guard := none }) (v := .pointer (some ⟨tb, 0, none⟩)) rfl (by kernel_rfl) (by kernel_rfl) (by kernel_rfl) (fun c a w h => hQ c a _ _ w h) (Or.inl ⟨by rfl, fun U => by simp [execOp, hlt, h5', go_sem]⟩) ?_
  refine wpAny_take' (i := 2) (d := some 100) (hd := rfl) (oi := { dst := some 100, op := Op.nilCheck (Operand.tmp 99), type := 0, pos := "journal.go:93", after := #[{ on := 1, ground := Ground.data }], guard := none }) (v := .pointer (some ⟨tb, 0, none⟩)) rfl (by kernel_rfl) (by kernel_rfl) (by kernel_rfl) (fun c a w h => hQ c a _ _ w h) (Or.inl ⟨by rfl, fun U => by simp [execOp, hlt, go_sem]⟩) ?_
  refine wpAny_take' (i := 3) (d := some 101) (hd := rfl) (oi := { dst := some 101, op := Op.fieldAddr 70 (Operand.tmp 100) 0, type := 0, pos := "journal.go:93", after := #[{ on := 2, ground := Ground.data }], guard := none }) (v := .pointer (some ⟨tb, 0, none⟩)) rfl (by kernel_rfl) (by kernel_rfl) (by kernel_rfl) (fun c a w h => hQ c a _ _ w h) (Or.inl ⟨by rfl, fun U => by simp [execOp, hlt, go_sem]⟩) ?_
  refine wpAny_take' (i := 5) (d := some 103) (hd := rfl) (oi := { dst := some 103, op := Op.move (Operand.tmp 5), type := 66, pos := "journal.go:93", after := #[], guard := none }) (v := .pointer (some ⟨tb, 0, none⟩)) rfl (by kernel_rfl) (by kernel_rfl) (by kernel_rfl) (fun c a w h => hQ c a _ _ w h) (Or.inl ⟨by rfl, fun U => by simp [execOp, hlt, h5', go_sem]⟩) ?_
  refine wpAny_take' (i := 6) (d := some 104) (hd := rfl) (oi := { dst := some 104, op := Op.nilCheck (Operand.tmp 103), type := 0, pos := "journal.go:93", after := #[{ on := 5, ground := Ground.data }], guard := none }) (v := .pointer (some ⟨tb, 0, none⟩)) rfl (by kernel_rfl) (by kernel_rfl) (by kernel_rfl) (fun c a w h => hQ c a _ _ w h) (Or.inl ⟨by rfl, fun U => by simp [execOp, hlt, go_sem]⟩) ?_
  refine wpAny_take' (i := 7) (d := some 105) (hd := rfl) (oi := { dst := some 105, op := Op.fieldAddr 70 (Operand.tmp 104) 1, type := 0, pos := "journal.go:93", after := #[{ on := 6, ground := Ground.data }], guard := none }) (v := .pointer (some ⟨tb, 1, none⟩)) rfl (by kernel_rfl) (by kernel_rfl) (by kernel_rfl) (fun c a w h => hQ c a _ _ w h) (Or.inl ⟨by rfl, fun U => by simp [execOp, hlt, go_sem]⟩) ?_
  refine wpAny_take' (i := 9) (d := some 107) (hd := rfl) (oi := { dst := some 107, op := Op.fieldAddr 43 (Operand.tmp 7) 2, type := 0, pos := "journal.go:93", after := #[], guard := none }) (v := .pointer (some ⟨cb, 2, none⟩)) rfl (by kernel_rfl) (by kernel_rfl) (by kernel_rfl) (fun c a w h => hQ c a _ _ w h) (Or.inl ⟨by rfl, fun U => by simp [execOp, hlt, h7', go_sem]⟩) ?_
  refine wpAny_all (rs := [4, 8, 10]) (by kernel_rfl) (by simp) ?_
  intro i hi
  simp only [List.mem_cons, List.not_mem_nil, or_false] at hi
  rcases hi with rfl | rfl | rfl
  · refine wpOp_val (d := some 102) (hd := rfl) (o := { dst := some 102, op := Op.load 25 (Operand.tmp 101), type := 25, pos := "journal.go:93", after := #[{ on := 3, ground := Ground.data }], guard := none }) (v := .slice la L lc) (w' := w.drew) rfl rfl (by simp [execOp, hlt, go_sem, g0]) ?_
    refine wpAny_all (rs := [8, 10]) (by kernel_rfl) (by simp) ?_
    intro i hi
    simp only [List.mem_cons, List.not_mem_nil, or_false] at hi
    rcases hi with rfl | rfl
    · refine wpOp_val (d := some 106) (hd := rfl) (o := { dst := some 106, op := Op.load 3 (Operand.tmp 105), type := 3, pos := "journal.go:93", after := #[{ on := 7, ground := Ground.data }], guard := none }) (v := .int .i64 S) (w' := w.drew) rfl rfl (by simp [execOp, hlt, go_sem, g1]) ?_
      refine wpAny_all (rs := [10]) (by kernel_rfl) (by simp) ?_
      intro i hi
      simp only [List.mem_cons, List.not_mem_nil, or_false] at hi
      subst hi
      refine wpOp_val (d := some 108) (hd := rfl) (o := { dst := some 108, op := Op.load 3 (Operand.tmp 107), type := 3, pos := "journal.go:93", after := #[{ on := 9, ground := Ground.data }], guard := none }) (v := .int .i64 A) (w' := w.drew) rfl rfl (by simp [execOp, hlt, go_sem, gA]) ?_
      refine wpAny_take' (i := 11) (d := some 109) (hd := rfl) (oi := { dst := some 109, op := Op.binOp BinOp.add 3 (Operand.tmp 106) (Operand.tmp 108) 3, type := 3, pos := "journal.go:93", after := #[{ on := 8, ground := Ground.data }, { on := 10, ground := Ground.data }], guard := none }) (v := .int .i64 (S + A)) rfl (by kernel_rfl) (by kernel_rfl) (by kernel_rfl) (fun c a w h => hQ c a _ _ w h) (Or.inl ⟨by rfl, fun U => by simp [execOp, hlt, go_sem, hw1]⟩) ?_
      exact fin2 _ _ (by kernel_rfl) (by rfl)
    · refine wpOp_val (d := some 108) (hd := rfl) (o := { dst := some 108, op := Op.load 3 (Operand.tmp 107), type := 3, pos := "journal.go:93", after := #[{ on := 9, ground := Ground.data }], guard := none }) (v := .int .i64 A) (w' := w.drew) rfl rfl (by simp [execOp, hlt, go_sem, gA]) ?_
      refine wpAny_all (rs := [8]) (by kernel_rfl) (by simp) ?_
      intro i hi
      simp only [List.mem_cons, List.not_mem_nil, or_false] at hi
      subst hi
      refine wpOp_val (d := some 106) (hd := rfl) (o := { dst := some 106, op := Op.load 3 (Operand.tmp 105), type := 3, pos := "journal.go:93", after := #[{ on := 7, ground := Ground.data }], guard := none }) (v := .int .i64 S) (w' := w.drew) rfl rfl (by simp [execOp, hlt, go_sem, g1]) ?_
      refine wpAny_take' (i := 11) (d := some 109) (hd := rfl) (oi := { dst := some 109, op := Op.binOp BinOp.add 3 (Operand.tmp 106) (Operand.tmp 108) 3, type := 3, pos := "journal.go:93", after := #[{ on := 8, ground := Ground.data }, { on := 10, ground := Ground.data }], guard := none }) (v := .int .i64 (S + A)) rfl (by kernel_rfl) (by kernel_rfl) (by kernel_rfl) (fun c a w h => hQ c a _ _ w h) (Or.inl ⟨by rfl, fun U => by simp [execOp, hlt, go_sem, hw1]⟩) ?_
      exact fin2 _ _ (by kernel_rfl) (by rw [put_comm' _ 108 106 _ _ (by decide)])
  · refine wpOp_val (d := some 106) (hd := rfl) (o := { dst := some 106, op := Op.load 3 (Operand.tmp 105), type := 3, pos := "journal.go:93", after := #[{ on := 7, ground := Ground.data }], guard := none }) (v := .int .i64 S) (w' := w.drew) rfl rfl (by simp [execOp, hlt, go_sem, g1]) ?_
    refine wpAny_all (rs := [4, 10]) (by kernel_rfl) (by simp) ?_
    intro i hi
    simp only [List.mem_cons, List.not_mem_nil, or_false] at hi
    rcases hi with rfl | rfl
    · refine wpOp_val (d := some 102) (hd := rfl) (o := { dst := some 102, op := Op.load 25 (Operand.tmp 101), type := 25, pos := "journal.go:93", after := #[{ on := 3, ground := Ground.data }], guard := none }) (v := .slice la L lc) (w' := w.drew) rfl rfl (by simp [execOp, hlt, go_sem, g0]) ?_
      refine wpAny_all (rs := [10]) (by kernel_rfl) (by simp) ?_
      intro i hi
      simp only [List.mem_cons, List.not_mem_nil, or_false] at hi
      subst hi
      refine wpOp_val (d := some 108) (hd := rfl) (o := { dst := some 108, op := Op.load 3 (Operand.tmp 107), type := 3, pos := "journal.go:93", after := #[{ on := 9, ground := Ground.data }], guard := none }) (v := .int .i64 A) (w' := w.drew) rfl rfl (by simp [execOp, hlt, go_sem, gA]) ?_
      refine wpAny_take' (i := 11) (d := some 109) (hd := rfl) (oi := { dst := some 109, op := Op.binOp BinOp.add 3 (Operand.tmp 106) (Operand.tmp 108) 3, type := 3, pos := "journal.go:93", after := #[{ on := 8, ground := Ground.data }, { on := 10, ground := Ground.data }], guard := none }) (v := .int .i64 (S + A)) rfl (by kernel_rfl) (by kernel_rfl) (by kernel_rfl) (fun c a w h => hQ c a _ _ w h) (Or.inl ⟨by rfl, fun U => by simp [execOp, hlt, go_sem, hw1]⟩) ?_
      exact fin2 _ _ (by kernel_rfl) (by rw [put_comm' _ 106 102 _ _ (by decide)])
    · refine wpOp_val (d := some 108) (hd := rfl) (o := { dst := some 108, op := Op.load 3 (Operand.tmp 107), type := 3, pos := "journal.go:93", after := #[{ on := 9, ground := Ground.data }], guard := none }) (v := .int .i64 A) (w' := w.drew) rfl rfl (by simp [execOp, hlt, go_sem, gA]) ?_
      refine wpAny_take' (i := 11) (d := some 109) (hd := rfl) (oi := { dst := some 109, op := Op.binOp BinOp.add 3 (Operand.tmp 106) (Operand.tmp 108) 3, type := 3, pos := "journal.go:93", after := #[{ on := 8, ground := Ground.data }, { on := 10, ground := Ground.data }], guard := none }) (v := .int .i64 (S + A)) rfl (by kernel_rfl) (by kernel_rfl) (by kernel_rfl) (fun c a w h => hQ c a _ _ w h) (Or.inl ⟨by rfl, fun U => by simp [execOp, hlt, go_sem, hw1]⟩) ?_
      refine wpAny_all (rs := [4]) (by kernel_rfl) (by simp) ?_
      intro i hi
      simp only [List.mem_cons, List.not_mem_nil, or_false] at hi
      subst hi
      refine wpOp_val (d := some 102) (hd := rfl) (o := { dst := some 102, op := Op.load 25 (Operand.tmp 101), type := 25, pos := "journal.go:93", after := #[{ on := 3, ground := Ground.data }], guard := none }) (v := .slice la L lc) (w' := w.drew) rfl rfl (by simp [execOp, hlt, go_sem, g0]) ?_
      exact fin2 _ _ (by kernel_rfl) (by rw [put_comm' _ 109 102 _ _ (by decide), put_comm' _ 108 102 _ _ (by decide), put_comm' _ 106 102 _ _ (by decide)])
  · refine wpOp_val (d := some 108) (hd := rfl) (o := { dst := some 108, op := Op.load 3 (Operand.tmp 107), type := 3, pos := "journal.go:93", after := #[{ on := 9, ground := Ground.data }], guard := none }) (v := .int .i64 A) (w' := w.drew) rfl rfl (by simp [execOp, hlt, go_sem, gA]) ?_
    refine wpAny_all (rs := [4, 8]) (by kernel_rfl) (by simp) ?_
    intro i hi
    simp only [List.mem_cons, List.not_mem_nil, or_false] at hi
    rcases hi with rfl | rfl
    · refine wpOp_val (d := some 102) (hd := rfl) (o := { dst := some 102, op := Op.load 25 (Operand.tmp 101), type := 25, pos := "journal.go:93", after := #[{ on := 3, ground := Ground.data }], guard := none }) (v := .slice la L lc) (w' := w.drew) rfl rfl (by simp [execOp, hlt, go_sem, g0]) ?_
      refine wpAny_all (rs := [8]) (by kernel_rfl) (by simp) ?_
      intro i hi
      simp only [List.mem_cons, List.not_mem_nil, or_false] at hi
      subst hi
      refine wpOp_val (d := some 106) (hd := rfl) (o := { dst := some 106, op := Op.load 3 (Operand.tmp 105), type := 3, pos := "journal.go:93", after := #[{ on := 7, ground := Ground.data }], guard := none }) (v := .int .i64 S) (w' := w.drew) rfl rfl (by simp [execOp, hlt, go_sem, g1]) ?_
      refine wpAny_take' (i := 11) (d := some 109) (hd := rfl) (oi := { dst := some 109, op := Op.binOp BinOp.add 3 (Operand.tmp 106) (Operand.tmp 108) 3, type := 3, pos := "journal.go:93", after := #[{ on := 8, ground := Ground.data }, { on := 10, ground := Ground.data }], guard := none }) (v := .int .i64 (S + A)) rfl (by kernel_rfl) (by kernel_rfl) (by kernel_rfl) (fun c a w h => hQ c a _ _ w h) (Or.inl ⟨by rfl, fun U => by simp [execOp, hlt, go_sem, hw1]⟩) ?_
      exact fin2 _ _ (by kernel_rfl) (by rw [put_comm' _ 108 102 _ _ (by decide), put_comm' _ 108 106 _ _ (by decide)])
    · refine wpOp_val (d := some 106) (hd := rfl) (o := { dst := some 106, op := Op.load 3 (Operand.tmp 105), type := 3, pos := "journal.go:93", after := #[{ on := 7, ground := Ground.data }], guard := none }) (v := .int .i64 S) (w' := w.drew) rfl rfl (by simp [execOp, hlt, go_sem, g1]) ?_
      refine wpAny_take' (i := 11) (d := some 109) (hd := rfl) (oi := { dst := some 109, op := Op.binOp BinOp.add 3 (Operand.tmp 106) (Operand.tmp 108) 3, type := 3, pos := "journal.go:93", after := #[{ on := 8, ground := Ground.data }, { on := 10, ground := Ground.data }], guard := none }) (v := .int .i64 (S + A)) rfl (by kernel_rfl) (by kernel_rfl) (by kernel_rfl) (fun c a w h => hQ c a _ _ w h) (Or.inl ⟨by rfl, fun U => by simp [execOp, hlt, go_sem, hw1]⟩) ?_
      refine wpAny_all (rs := [4]) (by kernel_rfl) (by simp) ?_
      intro i hi
      simp only [List.mem_cons, List.not_mem_nil, or_false] at hi
      subst hi
      refine wpOp_val (d := some 102) (hd := rfl) (o := { dst := some 102, op := Op.load 25 (Operand.tmp 101), type := 25, pos := "journal.go:93", after := #[{ on := 3, ground := Ground.data }], guard := none }) (v := .slice la L lc) (w' := w.drew) rfl rfl (by simp [execOp, hlt, go_sem, g0]) ?_
      exact fin2 _ _ (by kernel_rfl) (by rw [put_comm' _ 108 106 _ _ (by decide), put_comm' _ 109 102 _ _ (by decide), put_comm' _ 108 102 _ _ (by decide), put_comm' _ 106 102 _ _ (by decide)])

end Go.Proofs.YtgcjlgaapiefiabGreat

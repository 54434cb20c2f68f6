import Derived.Test.YtgcjlgaapiefiabGreatQJwD

/-
  Walks of the program: the machine's journal is cut, written.
-/
namespace Go.Proofs.YtgcjlgaapiefiabGreat
open Go.RowKit Go.Sort Go.Lib

theorem size_u8 (U : World) : (sizeOf (Tryz.prog.elem 71)).run Tryz.prog U = .ok 1 U := by
  simp [sizeOf, Program.elem, Tryz.underlying71, go_sem]
  rfl
theorem under_u8 : Tryz.prog.underlying 71 = some (.slice (Tryz.prog.elem 71)) := by
  simp [Program.elem, Tryz.underlying71]
theorem slice_to (U : World) (a : Option Addr) (n cap k : Nat) (ha : a = none ∨ ∃ g, a = some ⟨g, 0, none⟩) (hk : k ≤ cap) : (Instr.slice 71 (.slice a n cap) none (some (.int .i64 k)) none).run Tryz.prog U = .ok (.slice a k cap) U := by
  rw [run_slice_h U 71 a n cap under_u8 .i64 k (by omega) (by omega), size_u8]
  have e : (if cap = 0 then a else a.map (·.add (0 * 1))) = a := by
    split
    · rfl
    · rcases ha with rfl | ⟨g, rfl⟩
      · rfl
      · simp [Addr.add]
  show Result.ok (Value.slice (if cap = 0 then a else a.map (·.add (0 * 1))) ((k : Int).toNat - 0) (cap - 0)) U = _
  rw [e]
  simp
theorem slice_from (U : World) (g n cap k : Nat) (hk : k ≤ n) (hkc : k < cap) : (Instr.slice 71 (.slice (some ⟨g, 0, none⟩) n cap) (some (.int .i64 k)) none none).run Tryz.prog U = .ok (.slice (some ⟨g, k, none⟩) (n - k) (cap - k)) U := by
  rw [run_slice_l U 71 _ n cap under_u8 .i64 k (by omega) (by omega), size_u8]
  show Result.ok (Value.slice (if cap = (k : Int).toNat then _ else (some (⟨g, 0, none⟩ : Addr)).map (·.add ((k : Int).toNat * 1))) (n - (k : Int).toNat) (cap - (k : Int).toNat)) U = _
  rw [if_neg (by omega)]
  by_cases h0 : k = 0
  · subst h0; simp [Addr.add]
  · simp [Addr.add, h0]
theorem slice_from_end (U : World) (a : Option Addr) (n cap k : Nat) (hk : k = n) (hkc : k = cap) : (Instr.slice 71 (.slice a n cap) (some (.int .i64 k)) none none).run Tryz.prog U = .ok (.slice a 0 0) U := by
  subst hk
  rw [run_slice_l U 71 _ k cap under_u8 .i64 k (by omega) (by omega), size_u8]
  show Result.ok (Value.slice (if cap = (k : Int).toNat then _ else _) (k - (k : Int).toNat) (cap - (k : Int).toNat)) U = _
  rw [if_pos (by omega)]
  simp
  omega

/-- A slice of one's own, cut. -/
theorem own_cut {w : World} {base : Nat} {e : TypeId} {a : Option Addr} {n cap k : Nat} {xs : List Value} (h : w.ownsRow base e 1 (.slice a n cap) n xs) (hk : k ≤ n) : w.ownsRow base e 1 (.slice a k cap) k (xs.take k) ∧ k ≤ cap ∧ (a = none ∨ ∃ g, a = some ⟨g, 0, none⟩) := by
  obtain ⟨h1, h2⟩ := h
  rcases h2 with ⟨h2, h0⟩ | ⟨g, cap', cur, h2, hb, hh, hc, hm, hs, ht⟩
  · simp at h2
    obtain ⟨rfl, rfl, rfl⟩ := h2
    have : k = 0 := by omega
    subst this
    exact ⟨⟨by simp, .inl ⟨rfl, rfl⟩⟩, Nat.le_refl _, .inl rfl⟩
  · simp at h2
    obtain ⟨rfl, rfl⟩ := h2
    refine ⟨⟨by simp at h1 ⊢; omega, .inr ⟨g, cap, cur, rfl, hb, hh, by omega, hm, hs, ?_⟩⟩, by omega, .inr ⟨g, rfl⟩⟩
    rw [← ht, List.take_take]
    congr 1; omega

def machTypes : List TypeId := [73, 5]

set_option maxRecDepth 100000 in
set_option maxHeartbeats 1000000 in
theorem cutM_any (w0 w : World) (hq : Quiet w0 w) (pb : Nat) (hpb : w0.heap.size ≤ pb) (v0 v1 v2 v4 v5 v6 v7 v8 : Value) (ja : Option Addr) (jn jc k : Nat) (hB : Blk w pb #[v0, v1, v2, .slice ja jn jc, v4, v5, v6, v7, v8] 73) (hk : k ≤ jn) (hkc : k ≤ jc) (ha : ja = none ∨ ∃ g, ja = some ⟨g, 0, none⟩) :
    Calls Tryz.prog 68 #[.pointer (some ⟨pb, 0, none⟩), .int .i64 k] w fun e w' => (∃ v, e = .returned v) ∧ Blk w' pb #[v0, v1, v2, .slice ja k jc, v4, v5, v6, v7, v8] 73 ∧ Frame [73] w w' ∧ Quiet w0 w' := by
  have fs := fun U => slice_to U ja jn jc k ha hkc
  have gB := hB.cell
  have fB := hB.frozen
  have zB := hB.lt
  have hk0 : (0 : Int) ≤ (k : Int) := by omega
  have hk1 : (k : Int) ≤ (jn : Int) := by omega
  go_enter Tryz.func68, Tryz.ntmps68
  go_wp2
  refine bodyPost_end (v := .tuple #[]) (by simp [results, Tryz.results68, go_sem]) rfl ⟨⟨_, rfl⟩, by simpa using hB.set 3 (.slice ja k jc), Frame.set (p := ⟨pb, 3, none⟩) hB (by simp) _, Below.setCell hq (p := ⟨pb, 3, none⟩) hpb _⟩

/-- How many bytes stay. -/
def loseN (jn : Nat) (S a : Int) : Nat := if a < (jn : Int) - S then (S + a).toNat else jn

set_option maxRecDepth 100000 in
set_option maxHeartbeats 2000000 in
theorem loseM_any (w0 w : World) (hq : Quiet w0 w) (pb : Nat) (hpb : w0.heap.size ≤ pb) (v0 v1 v2 v5 v6 v7 v8 : Value) (S a : Int) (ja : Option Addr) (jn jc : Nat) (hB : Blk w pb #[v0, v1, v2, .slice ja jn jc, .int .i64 S, v5, v6, v7, v8] 73) (hjc : jn ≤ jc) (hj : jn ≤ 4611686018427387904) (hS0 : 0 ≤ S) (hS1 : S ≤ jn) (ha0 : 0 ≤ a) (ha : ja = none ∨ ∃ g, ja = some ⟨g, 0, none⟩) :
    Calls Tryz.prog 66 #[.pointer (some ⟨pb, 0, none⟩), .int .i64 a] w fun e w' => (∃ v, e = .returned v) ∧ Blk w' pb #[v0, v1, v2, .slice ja (loseN jn S a) jc, .int .i64 S, v5, v6, v7, v8] 73 ∧ Frame [73] w w' ∧ Quiet w0 w' := by
  have gB := hB.cell
  have fB := hB.frozen
  have zB := hB.lt
  by_cases hl : a < (jn : Int) - S
  · have HL : Hid (loseN jn S a = (S + a).toNat) := by show loseN jn S a = _; unfold loseN; rw [if_pos hl]
    have HC : Hid (∀ U, Quiet w U → Calls Tryz.prog 68 #[.pointer (some ⟨pb, 0, none⟩), .int .i64 (S + a)] U fun e w' => (∃ v, e = .returned v) ∧ Blk w' pb #[v0, v1, v2, .slice ja (S + a).toNat jc, .int .i64 S, v5, v6, v7, v8] 73 ∧ Frame [73] U w' ∧ Quiet w0 w') := fun U hU => by
      have := cutM_any w0 U (hq.after hU) pb hpb v0 v1 v2 (.int .i64 S) v5 v6 v7 v8 ja jn jc (S + a).toNat (hB.quiet hU) (by omega) (by omega) ha
      rw [show (((S + a).toNat : Nat) : Int) = S + a by omega] at this
      exact this
    rw [HL.out]
    go_enter Tryz.func66, Tryz.ntmps66
    go_wp2_with fail
    go_quiet (fail)
    go_wp2_with fail
    refine (HC.out _ (Below.refl _ _).drewN).mono ?_
    rintro e w1 ⟨⟨v, rfl⟩, hB1, hF1, hq1⟩
    go_wp2
    refine bodyPost_end (v := .tuple #[]) (by simp [results, Tryz.results66, go_sem]) rfl ⟨⟨_, rfl⟩, hB1, (Frame.quiet _ (Below.refl _ _).drewN).trans hF1, hq1⟩
  · have HL : Hid (loseN jn S a = jn) := by show loseN jn S a = _; unfold loseN; rw [if_neg hl]
    rw [HL.out]
    go_enter Tryz.func66, Tryz.ntmps66
    go_wp2_with fail
    go_quiet (fail)
    go_wp2
    refine bodyPost_end (v := .tuple #[]) (by simp [results, Tryz.results66, go_sem]) rfl ⟨⟨_, rfl⟩, hB.quiet (Below.refl _ _).drewN, Frame.quiet _ (Below.refl _ _).drewN, hq.after (Below.refl _ _).drewN⟩

set_option maxRecDepth 100000 in
set_option maxHeartbeats 2000000 in
theorem writeM_any (w0 w : World) (hq : Quiet w0 w) (pb : Nat) (hpb : w0.heap.size ≤ pb) (v0 v1 v2 v4 v5 v6 v7 v8 : Value) (ja : Option Addr) (jn jc : Nat) (xs : List Value) (hB : Blk w pb #[v0, v1, v2, .slice ja jn jc, v4, v5, v6, v7, v8] 73) (hown : w.ownsRow w0.heap.size 5 1 (.slice ja jn jc) jn xs) (c : Cmd) (hr : (namC c).reason.size ≤ 250) (hj : jn ≤ 70368744177664) :
    Calls Tryz.prog 54 #[.pointer (some ⟨pb, 0, none⟩), c.val] w fun e w' => (∃ v, e = .returned v) ∧ ∃ ja' jc', Blk w' pb #[v0, v1, v2, .slice ja' (jn + (8 + (namC c).reason.size)) jc', (if c.kind = 2 then .int .i64 ((jn + (8 + (namC c).reason.size) : Nat) : Int) else v4), v5, v6, v7, v8] 73 ∧ w'.ownsRow w0.heap.size 5 1 (.slice ja' (jn + (8 + (namC c).reason.size)) jc') (jn + (8 + (namC c).reason.size)) (xs ++ (recP c).map (Value.int .u8)) ∧ Frame machTypes w w' ∧ Quiet w0 w' := by
  obtain ⟨i0, hi, hz0, hz1, hz2⟩ := info_parts Tryz.info5
  have hq0 : ∀ (w : World) o, Quiet w (w.alloc o) := fun w o => (Below.refl _ _).alloc (Nat.le_refl _) _
  have HR : Hid (∀ V, Calls Tryz.prog 72 #[.agg #[.int .i64 c.kind, .int .i64 c.inst, .int .i64 c.a, .int .i64 c.b, .int .i64 c.who, .string c.reason, .bool c.dry]] V fun e w' => ∃ v, e = .returned v ∧ w'.ownsRow V.heap.size 5 1 v (8 + (namC c).reason.size) ((recP c).map (Value.int .u8)) ∧ Quiet V w') := fun V => recordP_any c V hr
  have hrn : 8 + (namC c).reason.size ≤ 258 := by omega
  have hln := recP_length c
  generalize recP c = ys at *
  generalize 8 + (namC c).reason.size = rn at *
  have HLN : Hid (ys.length = rn) := hln
  clear hln hr
  obtain ⟨vs, HVS⟩ : ∃ vs, Hid (vs = (if c.kind = 2 then .int .i64 ((jn + rn : Nat) : Int) else v4)) := ⟨_, rfl⟩
  rw [← HVS.out]
  unfold Cmd.val
  go_enter Tryz.func54, Tryz.ntmps54
  go_wp2_with fail
  refine calls_gen (fun V => Blk V w.heap.size #[.int .i64 c.kind, .int .i64 c.inst, .int .i64 c.a, .int .i64 c.b, .int .i64 c.who, .string c.reason, .bool c.dry] 43 ∧ Quiet w V) ⟨Blk.new' rfl, hq0 _ _⟩ ?_
  rintro V ⟨bc, hqV⟩
  refine (HR.out V).mono ?_
  rintro e w1 ⟨v1, rfl, hown1, hq1⟩
  replace bc := bc.quiet hq1
  have hsrc := hown1
  replace hq1 : Quiet w w1 := hqV.after hq1
  clear hqV HR hown1
  obtain ⟨a1, cap1, rfl⟩ := own_shape hsrc
  have hB1 := hB.quiet hq1
  have gB := hB1.cell
  have fB := hB1.frozen
  have zB := hB1.lt
  have hownJ := own_quiet hown hq1
  have hqw := hq.after hq1
  have hsz := hqw.size
  go_wp2_with (at_builtin; refine wpList_append_two rfl _ _ 71 rfl w0.heap.size V.heap.size 5 i0 (.int .u8 0) 1 1 Tryz.underlying71 hi hz0 hz1 hz2 rfl (by decide) _ _ _ rfl hownJ a1 rn cap1 (ys.map (Value.int .u8)) rfl hsrc ?c2 ?c3 ?c4 ?c5 ?_)
  case c2 => intro u hu; simp at hu; obtain ⟨x, _, rfl⟩ := hu; rfl
  case c3 => unfold maxLen; omega
  case c4 => omega
  case c5 => omega
  intro v2 w2 hown2 hgrow2 _
  obtain ⟨a2, cap2, rfl⟩ := own_shape hown2
  have hF2 : Frame machTypes w1 w2 := by
    refine ⟨hgrow2.size, fun k cs t hk ht => hgrow2.block k hk.lt (fun e => ?_)⟩
    obtain ⟨c', hc'⟩ := own_blk hownJ e.symm
    unfold Blk at hc' hk; rw [hc'] at hk; simp at hk
    exact ht (by rw [← hk.2]; simp [machTypes])
  have hq2 : Quiet w0 w2 := Below.grown hqw hgrow2 hsz (fun k hk => (own_ge hownJ k hk).1)
  have hne : some pb ≠ (Value.slice ja jn jc).ownBlock := fun e => own_ne hownJ hB1 (by decide) e.symm
  have hB2 : Blk w2 pb #[v0, v1, v2, .slice ja jn jc, v4, v5, v6, v7, v8] 73 := hB1.grown hgrow2 hne
  have bc2 : Blk w2 w.heap.size #[.int .i64 c.kind, .int .i64 c.inst, .int .i64 c.a, .int .i64 c.b, .int .i64 c.who, .string c.reason, .bool c.dry] 43 := hF2.blk bc (by decide)
  have hF0 : Frame machTypes w w2 := (Frame.quiet _ hq1).trans hF2
  clear gB fB zB hgrow2 hsrc hownJ hB1 bc hF2
  have gB := hB2.cell
  have fB := hB2.frozen
  have zB := hB2.lt
  have gc := bc2.cell
  have zc := bc2.lt
  have hcn : w.heap.size ≠ pb := by have := hB.lt; omega
  have hB3 : Blk (w2.setCell ⟨pb, 3, none⟩ (.slice a2 (jn + rn) cap2)) pb #[v0, v1, v2, .slice a2 (jn + rn) cap2, v4, v5, v6, v7, v8] 73 := by simpa using hB2.set 3 (.slice a2 (jn + rn) cap2)
  have hown3 := ownsRow_setCell_other (a := ⟨pb, 3, none⟩) hown2 (own_ne hown2 hB2 (by decide)) (.slice a2 (jn + rn) cap2)
  have hF3 : Frame machTypes w (w2.setCell ⟨pb, 3, none⟩ (.slice a2 (jn + rn) cap2)) := hF0.trans (Frame.set (p := ⟨pb, 3, none⟩) hB2 (by simp [machTypes]) _)
  have hq3 : Quiet w0 (w2.setCell ⟨pb, 3, none⟩ (.slice a2 (jn + rn) cap2)) := Below.setCell hq2 (p := ⟨pb, 3, none⟩) hpb _
  cases hk2 : c.kind == 2
  · have e2 : ¬ c.kind = 2 := by simpa using hk2
    have HV : Hid (vs = v4) := HVS.out.trans (if_neg e2)
    clear e2
    go_wp2
    exact bodyPost_end (v := .tuple #[]) (by simp [results, Tryz.results54, go_sem]) rfl ⟨⟨_, rfl⟩, a2, cap2, by rw [HV.out]; exact hB3, hown3, hF3, hq3⟩
  · have e2 : c.kind = 2 := by simpa using hk2
    have HV : Hid (vs = .int .i64 ((jn + rn : Nat) : Int)) := HVS.out.trans (if_pos e2)
    clear e2
    go_wp2
    refine bodyPost_end (v := .tuple #[]) (by simp [results, Tryz.results54, go_sem]) rfl ⟨⟨_, rfl⟩, a2, cap2, ?_, ?_, ?_, ?_⟩
    · rw [HV.out]; simpa using hB3.set 4 (.int .i64 ((jn + rn : Nat) : Int))
    · exact ownsRow_setCell_other (a := ⟨pb, 4, none⟩) hown3 (own_ne hown3 hB3 (by decide)) _
    · exact hF3.trans (Frame.set (p := ⟨pb, 4, none⟩) hB3 (by simp [machTypes]) _)
    · exact Below.setCell hq3 (p := ⟨pb, 4, none⟩) hpb _

end Go.Proofs.YtgcjlgaapiefiabGreat

/-
  Walks of the program: the machine reads on.
-/
namespace Go.Proofs.YtgcjlgaapiefiabGreat
open Go.RowKit Go.Sort Go.Lib

/-- A program's world over the base that it lies upon. -/
theorem PW.of_mem {lo w : World} {hp : Array Obj} {hle : lo.heap.size ≤ hp.size} {pb po : Nat} {tw : TypeId} {pcs : Array Value} {W : WorldR} {ia : Option Addr} {n ic : Nat} {ra : Option Addr} {m rc : Nat}
    (row : Row w pb po tw pcs [.int .i64 W.clock, .slice ia n ic, .slice ra m rc]) (hi : InstsMem hp.size w ia n ic W.insts) (hr : ReqsMem hp.size w ra m rc W.reqs) (hq : Quiet lo w) (hpb : lo.heap.size ≤ pb) (ha : Aside tw) (hsz : hp.size ≤ w.heap.size) (hb : ∀ k, k < hp.size → k ≠ pb → w.heap[k]? = hp[k]?) :
    PW ⟨lo, hp, hle, pcs⟩ w pb po tw pcs W ia n ic ra m rc := ⟨row, hi, hr, hq, hpb, ha, ⟨hsz, hb⟩, Rest.refl _ _⟩

theorem mach_row6 {w : World} {pb : Nat} {v0 v1 v2 v3 v4 v5 v6 v7 v8 : Value} (h : Blk w pb #[v0, v1, v2, v3, v4, v5, v6, v7, v8] 73) : Row w pb 6 73 #[v0, v1, v2, v3, v4, v5, v6, v7, v8] [v6, v7, v8] :=
  ⟨h, fun j hj => by
    match j, hj with
    | 0, _ => rfl
    | 1, _ => rfl
    | 2, _ => rfl⟩
theorem mach_row0 {w : World} {pb : Nat} {v0 v1 v2 v3 v4 v5 v6 v7 v8 : Value} (h : Blk w pb #[v0, v1, v2, v3, v4, v5, v6, v7, v8] 73) : Row w pb 0 73 #[v0, v1, v2, v3, v4, v5, v6, v7, v8] [v0, v1, v2] :=
  ⟨h, fun j hj => by
    match j, hj with
    | 0, _ => rfl
    | 1, _ => rfl
    | 2, _ => rfl⟩
theorem mach_rest6 {v0 v1 v2 v3 v4 v5 v6 v7 v8 u6 u7 u8 : Value} {w : World} {pb : Nat} {pcs : Array Value} (hr : Rest #[v0, v1, v2, v3, v4, v5, v6, v7, v8] 6 pcs) (h : Row w pb 6 73 pcs [u6, u7, u8]) : pcs = #[v0, v1, v2, v3, v4, v5, u6, u7, u8] := by
  obtain ⟨hs, he⟩ := hr
  have h6 := h.2 0 (by simp)
  have h7 := h.2 1 (by simp)
  have h8 := h.2 2 (by simp)
  have e0 := he 0 (by omega)
  have e1 := he 1 (by omega)
  have e2 := he 2 (by omega)
  have e3 := he 3 (by omega)
  have e4 := he 4 (by omega)
  have e5 := he 5 (by omega)
  apply Array.ext'
  apply List.ext_getElem?
  intro j
  simp only [Array.getElem?_toList]
  match j with
  | 0 => simpa using e0
  | 1 => simpa using e1
  | 2 => simpa using e2
  | 3 => simpa using e3
  | 4 => simpa using e4
  | 5 => simpa using e5
  | 6 => simpa using h6
  | 7 => simpa using h7
  | 8 => simpa using h8
  | j + 9 =>
    rw [Array.getElem?_eq_none (by rw [hs]; simp)]; rfl
theorem mach_rest0 {v0 v1 v2 v3 v4 v5 v6 v7 v8 u0 u1 u2 : Value} {w : World} {pb : Nat} {pcs : Array Value} (hr : Rest #[v0, v1, v2, v3, v4, v5, v6, v7, v8] 0 pcs) (h : Row w pb 0 73 pcs [u0, u1, u2]) : pcs = #[u0, u1, u2, v3, v4, v5, v6, v7, v8] := by
  obtain ⟨hs, he⟩ := hr
  have h0 := h.2 0 (by simp)
  have h1 := h.2 1 (by simp)
  have h2 := h.2 2 (by simp)
  have e3 := he 3 (by omega)
  have e4 := he 4 (by omega)
  have e5 := he 5 (by omega)
  have e6 := he 6 (by omega)
  have e7 := he 7 (by omega)
  have e8 := he 8 (by omega)
  apply Array.ext'
  apply List.ext_getElem?
  intro j
  simp only [Array.getElem?_toList]
  match j with
  | 0 => simpa using h0
  | 1 => simpa using h1
  | 2 => simpa using h2
  | 3 => simpa using e3
  | 4 => simpa using e4
  | 5 => simpa using e5
  | 6 => simpa using e6
  | 7 => simpa using e7
  | 8 => simpa using e8
  | j + 9 =>
    rw [Array.getElem?_eq_none (by rw [hs]; simp)]; rfl

theorem aside_mach : Aside 73 := by unfold Aside; decide

/-- The rest of the journal, as a string. -/
theorem conv_from (W : World) (g r n cap : Nat) (J : ByteArray) (hr : r ≤ J.size) (hn : n = J.size - r) (h : ∀ i, i < J.size → W.cell? ⟨g, i, none⟩ = some (.int .u8 ((nums J).getD i 0))) :
    (convert 71 9 (.slice (some ⟨g, r, none⟩) n cap)).run Tryz.prog W = .ok (.string (J.extract r J.size)) W := by
  have e : J.extract r J.size = strOfNums ((nums J).drop r) := by
    apply nums_inj
    rw [nums_extract, nums_strOfNums _ (fun x hx => nums_bd J x (List.mem_of_mem_drop hx)), List.take_of_length_le (by rw [nums_length]; omega)]
  rw [e]
  exact run_convert_bytes_arg _ 71 5 Tryz.underlying71 Tryz.underlying5 g r n cap ((nums J).drop r) (by rw [List.length_drop, nums_length]; omega) (fun i hi => by
    rw [h (r + i) (by omega)]
    simp [List.getD, List.getElem?_drop]) 9 Tryz.underlying9
theorem conv_none (W : World) (a : Option Addr) (ha : a = none ∨ ∃ g, a = some ⟨g, 0, none⟩) : (convert 71 9 (.slice a 0 0)).run Tryz.prog W = .ok (.string ⟨#[]⟩) W := by
  rcases ha with rfl | ⟨g, rfl⟩
  · exact run_convert_bytes_nil _ 71 5 Tryz.underlying71 Tryz.underlying5 0 0 9 Tryz.underlying9
  · exact run_convert_bytes_arg _ 71 5 Tryz.underlying71 Tryz.underlying5 g 0 0 0 [] rfl (fun i hi => by omega) 9 Tryz.underlying9

/-- What a machine's two worlds and its journal may turn. -/
def allTypes : List TypeId := [73, 5, 78, 92, 83, 3]
theorem Frame.all_world {w w' : World} (h : Frame (worldTypes 73) w w') : Frame allTypes w w' := ⟨h.1, fun k cs t hb ht => h.2 k cs t hb (fun q => ht (by simp [worldTypes] at q; simp [allTypes]; rcases q with q | q | q | q | q <;> simp [q]))⟩
theorem Frame.all_mach {w w' : World} (h : Frame machTypes w w') : Frame allTypes w w' := ⟨h.1, fun k cs t hb ht => h.2 k cs t hb (fun q => ht (by simp [machTypes] at q; simp [allTypes]; rcases q with q | q <;> simp [q]))⟩

/-- The journal in memory, the rest of it as a slice. -/
theorem rest_slice {w : World} {base : Nat} {ja : Option Addr} {jn jc : Nat} {J : ByteArray} (hown : w.ownsRow base 5 1 (.slice ja jn jc) jn ((nums J).map (Value.int .u8))) (hjn : jn = J.size) (rn : Nat) (hr : rn ≤ J.size) :
    ∃ a1 n1 c1, (∀ U, (Instr.slice 71 (.slice ja jn jc) (some (.int .i64 rn)) none none).run Tryz.prog U = .ok (.slice a1 n1 c1) U) ∧ ∀ U, Quiet w U → (convert 71 9 (.slice a1 n1 c1)).run Tryz.prog U = .ok (.string (J.extract rn J.size)) U := by
  obtain ⟨_, hc, ha⟩ := own_cut hown (Nat.le_refl jn)
  by_cases hlt : rn < jc
  · by_cases h0 : jn = 0
    · have hr0 : rn = 0 := by omega
      subst hr0
      have he : J.extract 0 J.size = ⟨#[]⟩ := by rw [ByteArray.extract_zero_size]; exact (size_none J).2 (by omega)
      rcases own_none hown with ⟨rfl, _, rfl, _⟩ | ⟨g, rfl⟩
      · omega
      · refine ⟨_, _, _, fun U => slice_from U g jn jc 0 (by omega) hlt, fun U hU => ?_⟩
        rw [he, h0]
        exact run_convert_bytes_arg _ 71 5 Tryz.underlying71 Tryz.underlying5 g 0 0 _ [] rfl (fun i hi => by omega) 9 Tryz.underlying9
    · obtain ⟨g, cap, e, hg, hxl, hcell⟩ := own_bytes hown (by omega)
      simp at e
      obtain ⟨rfl, rfl⟩ := e
      refine ⟨_, _, _, fun U => slice_from U g jn jc rn (by omega) hlt, fun U hU => ?_⟩
      exact conv_from U g rn (jn - rn) (jc - rn) J hr (by omega) (fun i hi => ((bcell hU).1 g i hg).trans (hcell i (by omega)))
  · have he : J.extract rn J.size = ⟨#[]⟩ := by apply (size_none _).2; rw [ByteArray.size_extract]; omega
    exact ⟨_, _, _, fun U => slice_from_end U ja jn jc rn (by omega) (by omega), fun U _ => by rw [he]; exact conv_none U ja ha⟩

theorem readF_le (d : Def) (s : ByteArray) : ∀ (f : Nat) (l : List Cmd) (i : Nat), i ≤ s.size → (readF d s f l i).2 ≤ s.size := by
  intro f
  induction f with
  | zero => intro l i hi; exact hi
  | succ f ih =>
    intro l i hi
    unfold readF
    split
    · rename_i q
      have h3 := q.1.2.2.1
      have hb := byteAt_bd (restOf s i) 0
      have e : (restOf s i).size = s.size - i := by unfold restOf; rw [ByteArray.size_extract]; omega
      rw [e] at h3
      exact ih _ _ (by omega)
    · exact hi

set_option maxRecDepth 100000 in
set_option maxHeartbeats 4000000 in
theorem readOn_any (w0 w : World) (hq : Quiet w0 w) (pb : Nat) (hpb : w0.heap.size ≤ pb) (dv : Value) (d : Def) (hd : DefIs w0 dv d) (hok : d.ok = true) (l : List Cmd) (hl : LogOk d l) (v0 v1 v2 v4 : Value) (ja : Option Addr) (jn jc : Nat) (J : ByteArray) (rn : Nat) (xa : Option Addr) (xn xc : Nat) (ya : Option Addr) (yn yc : Nat)
    (hB : Blk w pb #[v0, v1, v2, .slice ja jn jc, v4, .int .i64 rn, .int .i64 (worldR d l).clock, .slice xa xn xc, .slice ya yn yc] 73) (hI : InstsMem w0.heap.size w xa xn xc (worldR d l).insts) (hR : ReqsMem w0.heap.size w ya yn yc (worldR d l).reqs) (hown : w.ownsRow w0.heap.size 5 1 (.slice ja jn jc) jn ((nums J).map (Value.int .u8))) (hjn : jn = J.size) (hr : rn ≤ J.size) (hjs : J.size ≤ 33554432) (hlen : 8 * l.length + (J.size - rn) ≤ 33554432) :
    Calls Tryz.prog 67 #[.pointer (some ⟨pb, 0, none⟩), dv] w fun e w' => (∃ v, e = .returned v) ∧ ∃ xa' xn' xc' ya' yn' yc', Blk w' pb #[v0, v1, v2, .slice ja jn jc, v4, .int .i64 ((rn + (readR d l (J.extract rn J.size)).2 : Nat) : Int), .int .i64 (worldR d (readR d l (J.extract rn J.size)).1).clock, .slice xa' xn' xc', .slice ya' yn' yc'] 73 ∧
      InstsMem w0.heap.size w' xa' xn' xc' (worldR d (readR d l (J.extract rn J.size)).1).insts ∧ ReqsMem w0.heap.size w' ya' yn' yc' (worldR d (readR d l (J.extract rn J.size)).1).reqs ∧ w'.ownsRow w0.heap.size 5 1 (.slice ja jn jc) jn ((nums J).map (Value.int .u8)) ∧ Frame allTypes w w' ∧ Quiet w0 w' := by
  have hq0 : ∀ (w : World) o, Quiet w (w.alloc o) := fun w o => (Below.refl _ _).alloc (Nat.le_refl _) _
  obtain ⟨a1, n1, c1, hsl, hcv⟩ := rest_slice hown hjn rn hr
  have hd0 := hd
  have hd1 := hd.quiet hq
  obtain ⟨da, dn, dcap, rfl, hst⟩ := hd1
  clear hst
  have hxs : (J.extract rn J.size).size = J.size - rn := by rw [ByteArray.size_extract]; omega
  obtain ⟨u, HU⟩ : ∃ u, Hid (u = (readR d l (J.extract rn J.size)).2) := ⟨_, rfl⟩
  obtain ⟨l', HL⟩ : ∃ l', Hid (l' = (readR d l (J.extract rn J.size)).1) := ⟨_, rfl⟩
  have HRead : Hid (∀ U, Quiet w U → Calls Tryz.prog 38 #[.agg #[.slice da dn dcap, .int .i64 d.quorum, .int .i64 d.expiry], .pointer (some ⟨pb, 6, none⟩), .string (J.extract rn J.size)] U fun e w' => e = .returned (.int .i64 u) ∧ ∃ xa' xn' xc' ya' yn' yc', Blk w' pb #[v0, v1, v2, .slice ja jn jc, v4, .int .i64 rn, .int .i64 (worldR d l').clock, .slice xa' xn' xc', .slice ya' yn' yc'] 73 ∧ InstsMem w0.heap.size w' xa' xn' xc' (worldR d l').insts ∧ ReqsMem w0.heap.size w' ya' yn' yc' (worldR d l').reqs ∧ Frame (worldTypes 73) U w' ∧ Quiet w0 w') := fun U hU => by
    have hP : PW ⟨w0, w0.heap, Nat.le_refl _, #[v0, v1, v2, .slice ja jn jc, v4, .int .i64 rn, .int .i64 (worldR d l).clock, .slice xa xn xc, .slice ya yn yc]⟩ U pb 6 73 #[v0, v1, v2, .slice ja jn jc, v4, .int .i64 rn, .int .i64 (worldR d l).clock, .slice xa xn xc, .slice ya yn yc] (worldR d l) xa xn xc ya yn yc :=
      PW.of_mem (mach_row6 (hB.quiet hU)) (hI.quiet (hq := hU)) (hR.quiet (hq := hU)) (hq.after hU) hpb aside_mach (hq.after hU).size (fun k hk _ => (hq.after hU).block k hk)
    refine (read_any _ U _ d hd0 hok pb 6 73 (by decide) (by decide) l hl (J.extract rn J.size) (by omega) ⟨_, _, _, _, _, _, _, hP⟩).mono ?_
    rintro e w' ⟨rfl, _, ⟨pcs, xa', xn', xc', ya', yn', yc', hP'⟩, hF⟩
    rw [HU.out, HL.out]
    have hrow := hP'.row
    rw [mach_rest6 hP'.rest hrow] at hrow
    exact ⟨rfl, xa', xn', xc', ya', yn', yc', hrow.1, hP'.insts, hP'.reqs, hF, hP'.quiet⟩
  rw [← HU.out, ← HL.out]
  have hub : 0 ≤ (u : Int) := by omega
  have hul : u ≤ J.size := by
    have := readF_le d (J.extract rn J.size) (J.extract rn J.size).size l 0 (Nat.zero_le _)
    rw [HU.out]; unfold readR; omega
  clear HU HL hd hd0 hI hR
  generalize J.extract rn J.size = s at *
  have hjr : (rn : Int) ≤ (jn : Int) := by omega
  have hjr0 : (0 : Int) ≤ (rn : Int) := by omega
  have hjm : jn ≤ 33554432 := by omega
  have HJ : Hid (jn = J.size) := hjn
  clear hjn
  go_enter Tryz.func67, Tryz.ntmps67
  go_upto_region 1 with (fail)
  refine wp_gen (fun V => Blk V w.heap.size #[.slice da dn dcap, .int .i64 d.quorum, .int .i64 d.expiry] 24 ∧ Quiet w V) ⟨Blk.new' rfl, hq0 _ _⟩ ?_
  rintro V ⟨bd, hqV⟩
  have hBV := hB.quiet hqV
  have gB := hBV.cell
  have fB := hBV.frozen
  have zB := hBV.lt
  go_wp2_with fail
  go_quiet (fail)
  go_wp2_with fail
  refine wp_gen (fun V2 => Quiet V V2) (Below.refl _ _).drewN ?_
  intro V2 hqV2
  replace bd := bd.quiet hqV2
  replace hqV2 : Quiet w V2 := hqV.after hqV2
  clear hBV gB fB zB hqV
  have hBV := hB.quiet hqV2
  have gB := hBV.cell
  have fB := hBV.frozen
  have zB := hBV.lt
  have fc := hcv V2 hqV2
  have fc' := hcv V2.drew (Below.drew hqV2)
  go_region
  go_upto_region 3 with (fail)
  refine wp_gen (fun V3 => Quiet V2 V3) (Below.drew (Below.refl _ _)) ?_
  intro V3 hqV3
  replace bd := bd.quiet hqV3
  replace hqV3 : Quiet w V3 := hqV2.after hqV3
  clear hBV gB fB zB hqV2 fc fc' hsl hcv
  have gd := bd.cell
  have zd := bd.lt
  have zB := (hB.quiet hqV3).lt
  have hFd : Frame allTypes w V3 := Frame.quiet _ hqV3
  have hownV := own_quiet hown hqV3
  go_wp2_with fail
  go_region_with (first | (go_at_call 38; refine (HRead.out _ ?_).mono ?_; (first | exact Below.drew hqV3 | exact hqV3 | exact hqV3.drewN); rintro e w2 ⟨rfl, xa', xn', xc', ya', yn', yc', hB2, hI2, hR2, hF2, hq2⟩))
  all_goals (have gB2 := hB2.cell; have fB2 := hB2.frozen; have zB2 := hB2.lt)
  all_goals (try go_wp2)
  all_goals
    refine bodyPost_end (v := .tuple #[]) (by simp [results, Tryz.results67, go_sem]) rfl ⟨⟨_, rfl⟩, xa', xn', xc', ya', yn', yc', ?_, ?_, ?_, ?_, ?_, ?_⟩
    · simpa using hB2.set 5 (.int .i64 ((rn : Int) + (u : Int)))
    · have hs : ∀ k c t', Blk w2 k c t' → t' ≠ 73 → (w2.setCell ⟨pb, 5, none⟩ (.int .i64 ((rn : Int) + (u : Int)))).heap[k]? = w2.heap[k]? := fun k c t' hk ht => Below.heap_setCell _ _ _ _ (Blk.ne hB2 hk (Ne.symm ht))
      exact hI2.frame (h1 := fun z c hz => hs z c _ hz (by decide)) (h2 := fun z c hz => hs z c _ hz (by decide))
    · have hs : ∀ k c t', Blk w2 k c t' → t' ≠ 73 → (w2.setCell ⟨pb, 5, none⟩ (.int .i64 ((rn : Int) + (u : Int)))).heap[k]? = w2.heap[k]? := fun k c t' hk ht => Below.heap_setCell _ _ _ _ (Blk.ne hB2 hk (Ne.symm ht))
      exact hR2.frame (h1 := fun z c hz => hs z c _ hz (by decide)) (h2 := fun z c hz => hs z c _ hz (by decide))
    · have ho := hF2.own (by first | exact hownV | exact hownV.drew) (by decide)
      exact ownsRow_setCell_other (a := ⟨pb, 5, none⟩) ho (own_ne ho hB2 (by decide)) _
    · exact ((by first | exact hFd | exact hFd.trans (Frame.quiet _ (Below.drew (Below.refl _ _))) | exact hFd.trans (Frame.quiet _ (Below.refl _ _).drewN)) : Frame allTypes w _).trans (hF2.all_world.trans (Frame.set (p := ⟨pb, 5, none⟩) hB2 (by simp [allTypes]) _))
    · exact Below.setCell hq2 (p := ⟨pb, 5, none⟩) hpb _

end Go.Proofs.YtgcjlgaapiefiabGreat

import Derived.Test.YtgcjlgaapiefiabGreatQPrwE
import Derived.Test.YtgcjlgaapiefiabGreatQLog
import Derived.Test.YtgcjlgaapiefiabGreatQPrwH
import Derived.Maps.AppendAt

/-
  Walks of the program: a row of one's own grows by one; START, carried out.
-/
namespace Go.Proofs.YtgcjlgaapiefiabGreat
open Go.RowKit Go.Sort

theorem Tryz.infoRow78 : (Tryz.prog.info? 78).map (fun i => (i.zero, i.size, i.bytes)) = some (some (.agg #[.int .i64 0, .int .i64 0, .bool false, .int .i64 0, .int .i64 0, .bool false, .int .i64 0, .int .i64 0, .int .i64 0, .int .i64 0, .int .i64 0, .slice none 0 0]), 12, 112) := by kernel_rfl

section
variable {α : Type} (t e : TypeId) (m s : Nat) (cells : α → Value → List Value) (inner : α → List Value) (len : α → Nat)

/-- One row more, whose inner slice is empty. -/
theorem RowsOf.snoc {base : Nat} {w w' : World} {ia ia' : Option Addr} {n ic ic' : Nat} {ps : List (α × Value)} (h : RowsOf t e m s cells inner len base w ia n ic ps) (x : α) (hx : inner x = []) (hl : len x = 0)
    (hown : w'.ownsRow base t m (.slice ia' (n + 1) ic') (n + 1) ((ps.map fun p => cells p.1 p.2).flatten ++ cells x (.slice none 0 0))) (hs : ∀ k cs, Blk w k cs e → w'.heap[k]? = w.heap[k]?) :
    RowsOf t e m s cells inner len base w' ia' (n + 1) ic' (ps ++ [(x, .slice none 0 0)]) := by
  refine ⟨by simp [h.count], by simpa using hown, fun p hp => ?_, ?_⟩
  · rcases List.mem_append.1 hp with hp | hp
    · obtain ⟨a, k, c, q1, q2, q3⟩ := h.each p hp
      exact ⟨a, k, c, q1, q2, own_same q3 (fun j hj => by obtain ⟨cs, hb⟩ := own_blk q3 hj; exact hs j cs hb)⟩
    · simp at hp; subst hp
      exact ⟨none, 0, 0, rfl, hl.symm, by rw [hx]; exact World.ownsRow_nil _ _ _ _⟩
  · intro i j p q hp hq hij k hk hk2
    have hold : ∀ (i : Nat) (p : α × Value), (ps ++ [(x, Value.slice none 0 0)])[i]? = some p → p.2.ownBlock ≠ none → ps[i]? = some p := by
      intro i p hp hne
      by_cases hi : i < ps.length
      · rwa [List.getElem?_append_left hi] at hp
      · rw [List.getElem?_append_right (by omega)] at hp
        by_cases h0 : i - ps.length = 0
        · rw [h0] at hp; simp at hp; subst hp; simp [Value.ownBlock] at hne
        · rw [List.getElem?_eq_none (by simp; omega)] at hp; simp at hp
    exact h.apart i j p q (hold i p hp (by rw [hk]; simp)) (hold j q hq (by rw [hk2]; simp)) hij k hk hk2
end

theorem grown_frame {w w' : World} {o : Obj} {row : Option Nat} (hg : (w.alloc o).grownBy w' row) {e : TypeId} (hr : ∀ k, row = some k → ∃ c, Blk w k c e) {ts : List TypeId} (he : e ∈ ts) : Frame ts w w' := by
  refine ⟨by have := hg.size; simp at this; omega, fun k cs t hk ht => ?_⟩
  rw [hg.block k (by have := hk.lt; simp; omega) (fun q => by
    obtain ⟨c, hc⟩ := hr k q.symm
    unfold Blk at hc hk; rw [hc] at hk; simp at hk; exact ht (hk.2 ▸ he))]
  exact Below.heap_alloc w o k hk.lt

set_option maxRecDepth 100000 in
set_option maxHeartbeats 1000000 in
theorem start_any (w0 : Bas) (w : World) (pb po : Nat) (tw : TypeId) (pcs : Array Value) (W : WorldR) (ia : Option Addr) (n ic : Nat) (ra : Option Addr) (m rc : Nat) (h : PW w0 w pb po tw pcs W ia n ic ra m rc) (hn : n ≤ 1000000) (id : Int) :
    Calls Tryz.prog 89 #[.pointer (some ⟨pb, po, none⟩), .int .i64 id] w fun e w' => ∃ v, e = .returned v ∧ ∃ pcs' ia' ic', PW w0 w' pb po tw pcs' ⟨W.clock, W.insts ++ [startR id], W.reqs⟩ ia' (n + 1) ic' ra m rc ∧ Frame (worldTypes tw) w w' := by
  obtain ⟨i0, hi, hz0, hz1, hz2⟩ := info_parts Tryz.infoRow78
  obtain ⟨p0, p1, p2⟩ := h.row.at.three
  have hpl := h.row.1.lt
  have f := h.row.1.frozen
  obtain ⟨ps, e1, e2⟩ := h.insts
  have hown := e2.own
  have hsz := h.high.size
  go_enter Tryz.func89, Tryz.ntmps89
  go_wp2_with (at_builtin; refine wpList_append_own _ rfl _ _ 44 rfl w0.heap.size 78 i0 (.agg #[.int .i64 0, .int .i64 0, .bool false, .int .i64 0, .int .i64 0, .bool false, .int .i64 0, .int .i64 0, .int .i64 0, .int .i64 0, .int .i64 0, .slice none 0 0]) 12 112 Tryz.underlying44 hi hz0 hz1 hz2 rfl (by decide) _ _ _ rfl (hown.alloc _) ⟨w.heap.size, 0, none⟩ 1 1 ((startR id).cells (.slice none 0 0)) rfl rfl ?c1 ?c2 ?c3 ?c4 ?c5 ?_)
  case c1 =>
    have := World.news_of_block (heap_alloc_new w (.cells #[.int .i64 (startR id).id, .int .i64 (startR id).mode, .bool (startR id).stuck, .int .i64 (startR id).settled, .int .i64 (startR id).target, .bool (startR id).resume, .int .i64 (startR id).keys, .int .i64 (startR id).key, .int .i64 (startR id).due, .int .i64 (startR id).tries, .int .i64 (startR id).wake, .slice none 0 0] 78))
    simpa [Inst.cells, startR] using this
  case c2 => intro u hu; simp [Inst.cells] at hu; rcases hu with rfl | rfl | rfl | rfl | rfl | rfl | rfl | rfl | rfl | rfl | rfl | rfl <;> rfl
  case c3 => unfold maxLen; omega
  case c4 => omega
  case c5 => simp; omega
  intro v' w1 hown' hgrow _
  obtain ⟨ia4, ic4, rfl⟩ := own_shape hown'
  have hF : Frame [78] w w1 := grown_frame hgrow (fun k hk => own_blk hown hk) (by simp)
  have hrow : Row w1 pb po tw pcs [.int .i64 W.clock, .slice ia n ic, .slice ra m rc] := ⟨hF.blk h.row.1 (by simp [h.aside.1]), h.row.2⟩
  obtain ⟨c0, c1, c2⟩ := hrow.at.three
  have f1 := hrow.1.frozen
  have hq1 : Quiet w0 w1 := Below.grown (h.quiet.alloc h.quiet.size _) hgrow (by have := w0.le; simp; omega) (fun k hk => Nat.le_trans w0.le (own_ge hown k hk).1)
  clear p0 p1 p2 f hpl
  go_wp2
  refine bodyPost_end (v := .tuple #[]) (by simp [results, Tryz.results89, go_sem]) rfl ⟨_, rfl, pcs.setIfInBounds (po + 1) (.slice ia4 (n + 1) ic4), ia4, ic4, ?_, ?_⟩
  · have hs : ∀ k cs t, Blk w k cs t → t ≠ 78 → t ≠ tw → (w1.setCell ⟨pb, po + 1, none⟩ (.slice ia4 (n + 1) ic4)).heap[k]? = w.heap[k]? := fun k cs t hb h1 h2 => by
      have e := hF.2 k cs t hb (by simpa using h1)
      rw [← e]
      exact Below.heap_setCell w1 _ _ k (Blk.ne hrow.1 (e.trans hb) (Ne.symm h2))
    obtain ⟨a1, a2, a3, a4⟩ := h.aside
    refine ⟨hrow.set 1 _ (by simp), ⟨ps ++ [(startR id, .slice none 0 0)], by simp [e1], ?_⟩, ?_, Below.setCell hq1 (p := ⟨pb, po + 1, none⟩) h.above _, h.above, h.aside, ((h.high.quiet ((Below.refl _ _).alloc (Nat.le_refl _) _)).grown hgrow (fun k hk => (own_ge hown k hk).1)).set _ _, h.rest.set 1 (by omega) _⟩
    · refine RowsOf.snoc _ _ _ _ _ _ _ e2 (startR id) rfl rfl ?_ (fun k cs hb => hs k cs _ hb (by decide) (Ne.symm a2))
      exact ownsRow_setCell_other hown' (own_ne hown' hrow.1 (Ne.symm a1)) _
    · exact h.reqs.frame (h1 := fun k cs hb => hs k cs _ hb (by decide) (Ne.symm a3)) (h2 := fun k cs hb => hs k cs _ hb (by decide) (Ne.symm a4))
  · exact Frame.trans ⟨hF.1, fun k cs t hb ht => hF.2 k cs t hb (by simp [worldTypes] at ht; simp; exact ht.2.1)⟩ (Frame.set (p := ⟨pb, po + 1, none⟩) hrow.1 (by simp [worldTypes]) _)

end Go.Proofs.YtgcjlgaapiefiabGreat

/-
  Walks of the program: APPROVE, carried out.
-/
namespace Go.Proofs.YtgcjlgaapiefiabGreat
open Go.RowKit Go.Sort

/-- A request is closed in its row. -/
theorem PW.close {w0 : Bas} {w : World} {pb po : Nat} {tw : TypeId} {pcs : Array Value} {W : WorldR} {ia : Option Addr} {n ic : Nat} {g : Nat} {m rc : Nat} (h : PW w0 w pb po tw pcs W ia n ic (some ⟨g, 0, none⟩) m rc) (k : Nat) (hk : k < W.reqs.length) :
    PW w0 (w.setCell ⟨g, k * 9 + 8, none⟩ (.bool true)) pb po tw pcs ⟨W.clock, W.insts, W.reqs.set k { W.reqs[k] with closed := true }⟩ ia n ic (some ⟨g, 0, none⟩) m rc ∧ ReqAt (w.setCell ⟨g, k * 9 + 8, none⟩ (.bool true)) g (k * 9) { W.reqs[k] with closed := true } ∧ Frame (worldTypes tw) w (w.setCell ⟨g, k * 9 + 8, none⟩ (.bool true)) := by
  obtain ⟨g', cs, a', n', cap', e1, hg, hin, hput⟩ := h.req k hk
  obtain rfl : g = g' := by simp at e1; exact e1
  have hM : MakesR w0.heap.size w g (k * 9) (Value.slice a' n' cap').ownBlock { W.reqs[k] with closed := true } (w.setCell ⟨g, k * 9 + 8, none⟩ (.bool true)) :=
    ⟨_, a', n', cap', ⟨hin.row.set 8 (.bool true) (by simp [Req.cells]), ownsRow_setCell_other hin.own (own_ne hin.own hin.row.1 (by decide)) _, hin.len⟩, Turned.set _ 8 _ (by omega), .inl rfl⟩
  obtain ⟨q1, q2⟩ := hput _ _ hM
  refine ⟨q1, ?_, q2⟩
  obtain ⟨cs2, a2, n2, cap2, hI, _⟩ := hM
  exact ReqIn.at hI
theorem PW.reqAt {w0 : Bas} {w : World} {pb po : Nat} {tw : TypeId} {pcs : Array Value} {W : WorldR} {ia : Option Addr} {n ic : Nat} {g : Nat} {m rc : Nat} (h : PW w0 w pb po tw pcs W ia n ic (some ⟨g, 0, none⟩) m rc) (k : Nat) (hk : k < W.reqs.length) :
    ReqAt w g (k * 9) W.reqs[k] ∧ ∀ j, w.frozen? ⟨g, j, none⟩ = false := by
  obtain ⟨g', cs, a', n', cap', e1, hg, hin, hput⟩ := h.req k hk
  obtain rfl : g = g' := by simp at e1; exact e1
  exact ⟨ReqIn.at hin, hin.row.1.frozen⟩

theorem inst_world_le {tw : TypeId} {w w' : World} (h : Frame instTypes w w') : Frame (worldTypes tw) w w' := h.mono (inst_world tw)

set_option maxRecDepth 100000 in
set_option maxHeartbeats 4000000 in
theorem approve_any (w0 : Bas) (w : World) (dv : Value) (d : Def) (hd : DefIs w0 dv d) (pb po : Nat) (tw : TypeId) (pcs : Array Value) (W : WorldR) (ia : Option Addr) (n ic : Nat) (ra : Option Addr) (m rc : Nat) (h : PW w0 w pb po tw pcs W ia n ic ra m rc) (hb : WBd W) (a who : Int) (r : Req) (ho : openP W a = some r) (hbl : r.bys.length < 1000) :
    Calls Tryz.prog 93 #[dv, .pointer (some ⟨pb, po, none⟩), .int .i64 a, .int .i64 who] w fun e w' => ∃ v, e = .returned v ∧ PW w0 w' pb po tw pcs ⟨W.clock, decideI d W { r with bys := r.bys ++ [who] }, W.reqs.set (a - 1).toNat (decideR d { r with bys := r.bys ++ [who] })⟩ ia n ic ra m rc ∧ Frame (worldTypes tw) w w' := by
  obtain ⟨i0, hi, hz0, hz1, hz2⟩ := info_parts Tryz.info3
  obtain ⟨ha1, hk, hr, _⟩ := open_get ho
  obtain ⟨k, hka⟩ : ∃ k : Nat, a = (k : Int) + 1 := ⟨(a - 1).toNat, by omega⟩
  subst hka
  have hkt : ((k : Int) + 1 - 1).toNat = k := by omega
  simp only [hkt] at hk hr ⊢
  have hq0 : ∀ o, Quiet w (w.alloc o) := fun o => (Below.refl _ _).alloc (Nat.le_refl _) _
  have hd1 := hd.quiet h.quiet
  obtain ⟨da, dn, dcap, rfl, hst⟩ := hd1
  clear hst
  have HO : Hid (∀ V, Quiet w V → Calls Tryz.prog 105 #[.pointer (some ⟨pb, po, none⟩), .int .i64 ((k : Int) + 1)] V fun e w' => e = .returned (.int .i64 k) ∧ Quiet V w') := fun V hV => by
    have := openPlace_any V pb po W ia n ic ra m rc ((k : Int) + 1) (h.view.quiet hV)
    rw [openI_some ho, show (k : Int) + 1 - 1 = k by omega] at this
    exact this
  have hkm : (k : Int) < (m : Int) := by have := h.rlen; omega
  have hki : (0 : Int) ≤ (k : Int) := by omega
  go_enter Tryz.func93, Tryz.ntmps93
  go_wp2_with fail
  refine calls_gen (fun V => Blk V w.heap.size #[.slice da dn dcap, .int .i64 d.quorum, .int .i64 d.expiry] 24 ∧ Quiet w V) ⟨Blk.new' rfl, hq0 _⟩ ?_
  rintro V ⟨bd, hqV⟩
  refine (HO.out _ hqV).mono ?_
  rintro e w1 ⟨rfl, hq1⟩
  replace bd := bd.quiet hq1
  replace hq1 : Quiet w w1 := hqV.after hq1
  clear hqV HO
  have h1 := h.hush hq1
  obtain ⟨g, cs, a', n', cap', rfl, hg, hin, hput⟩ := h1.req k hk
  have HPut : Hid (∀ w' y, MakesR w0.heap.size w1 g (k * 9) (Value.slice a' n' cap').ownBlock y w' → PW w0 w' pb po tw pcs ⟨W.clock, W.insts, W.reqs.set k y⟩ ia n ic (some ⟨g, 0, none⟩) m rc ∧ Frame (worldTypes tw) w1 w') := hput
  clear hput
  rw [hr] at hin
  have hn' : n' = r.bys.length := hin.len
  have hnb : n' < 1000 := by omega
  have HN' : Hid (n' = r.bys.length) := hn'
  clear hn'
  obtain ⟨p0, p1, p2⟩ := h1.row.at.three
  obtain ⟨c0, c1, c2, c3, c4, c5, c6, c7, c8⟩ := hin.row.at.nine9
  have f := hin.row.1.frozen
  have zb := hin.row.1.lt
  have hsz := h1.high.size
  go_wp2_with (at_builtin; refine wpList_append_own_at _ rfl _ _ 81 rfl w0.heap.size 3 i0 (.int .i64 0) 1 8 Tryz.underlying81 hi hz0 hz1 hz2 rfl (by decide) _ _ _ rfl (World.ownsRow.alloc hin.own _) ⟨w1.heap.size, 0, none⟩ 1 1 [.int .i64 who] rfl rfl ?c1 ?c2 ?c3 ?c4 ?c5 ?_)
  case c1 => exact cell_one_new _ _ _
  case c2 => intro u hu; simp at hu; subst hu; rfl
  case c3 => unfold maxLen; omega
  case c4 => omega
  case c5 => simp; omega
  intro v' w2 hown' hgrow _ hat
  obtain ⟨a2, cap2, rfl⟩ := own_shape hown'
  have hap : some g ≠ (Value.slice a' n' cap').ownBlock := fun e => own_ne hin.own hin.row.1 (by decide) e.symm
  have hq1a : Quiet w1 (w1.alloc (.cells #[.int .i64 who] 3)) := (Below.refl _ _).alloc (Nat.le_refl _) _
  have hrow2 := (hin.row.quiet hq1a).grown hgrow hap
  have bd2 := (bd.alloc (.cells #[.int .i64 who] 3)).grown hgrow (fun e => own_ne hin.own bd (by decide) e.symm)
  clear c0 c1 c2 c3 c4 c5 c6 c7 c8 f p0 p1 p2 zb
  obtain ⟨c0, c1, c2, c3, c4, c5, c6, c7, c8⟩ := hrow2.at.nine9
  have f := hrow2.1.frozen
  have gd := bd2.cell
  obtain ⟨r1, HR1⟩ : ∃ r1 : Req, Hid (r1 = { r with bys := r.bys ++ [who] }) := ⟨_, rfl⟩
  have hM : MakesR w0.heap.size w1 g (k * 9) (Value.slice a' n' cap').ownBlock r1 (w2.setCell ⟨g, k * 9 + 6, none⟩ (.slice a2 (n' + 1) cap2)) := by
    rw [HR1.out]
    refine ⟨_, a2, n' + 1, cap2, ⟨hrow2.set 6 _ (by simp [Req.cells]), ?_, by have := HN'.out; simp; exact this⟩, ((Turned.quiet hq1a _ _ _ _).trans (Turned.grown hgrow (fun _ _ _ => hap)) (.inl rfl)).trans (Turned.set _ 6 _ (by omega)) (.inl rfl), ?_⟩
    · refine ownsRow_setCell_other ?_ (own_ne hown' hrow2.1 (by decide)) _
      simpa [ints] using hown'
    · rcases hat with hat | hat
      · exact .inl hat
      · exact .inr fun z hz => by rw [hat] at hz; simp at hz; omega
  obtain ⟨h2, hF2⟩ := HPut.out _ _ hM
  have bd3 := bd2.other (a := ⟨g, k * 9 + 6, none⟩) (.slice a2 (n' + 1) cap2) (hrow2.1.ne bd2 (by decide))
  clear HPut hM hrow2 bd2 hgrow hown' hat hin h1
  go_wp2_with fail
  refine calls_gen (fun V => PW w0 V pb po tw pcs ⟨W.clock, W.insts, W.reqs.set k r1⟩ ia n ic (some ⟨g, 0, none⟩) m rc ∧ Frame (worldTypes tw) w1 V) ⟨h2, hF2⟩ ?_
  clear c0 c1 c2 c3 c4 c5 c6 c7 c8 f gd h2 hF2 bd3
  rintro V ⟨h2, hF2⟩
  have hkr : k < (W.reqs.set k r1).length := by simpa using hk
  have hrk : (W.reqs.set k r1)[k] = r1 := by simp
  obtain ⟨hra, hfz⟩ := h2.reqAt k hkr
  replace hra : ReqAt V g (k * 9) r1 := by have := hra; simp only [List.getElem_set_self] at this; exact this
  have hF0 : Frame (worldTypes tw) w V := (Frame.quiet _ hq1).trans hF2
  by_cases hqu : (r1.bys.length : Int) < d.quorum
  · refine (decide_few V _ d (hd.quiet h2.quiet) _ g (k * 9) r1 hra hqu).mono ?_
    rintro e w3 ⟨v, rfl, hq3⟩
    go_wp2
    refine bodyPost_end (v := .tuple #[]) (by simp [results, Tryz.results93, go_sem]) rfl ⟨_, rfl, ?_, hF0.trans (Frame.quiet _ hq3)⟩
    rw [← HR1.out]
    have e1 : decideI d W r1 = W.insts := by unfold decideI; rw [if_pos hqu]
    have e2 : decideR d r1 = r1 := by unfold decideR; rw [if_pos hqu]
    rw [e1, e2]
    exact h2.hush hq3
  · have hmem : r ∈ W.reqs := by rw [← hr]; exact List.getElem_mem hk
    have hwhat := (hb.reqs r hmem).2
    have hb2 : WBd ⟨W.clock, W.insts, W.reqs.set k r1⟩ := ⟨hb.clock, hb.insts, by simpa using hb.count, fun q hq => by
      rcases List.mem_or_eq_of_mem_set hq with hq | rfl
      · exact hb.reqs q hq
      · rw [HR1.out]; exact ⟨by simp; omega, hwhat⟩⟩
    refine (decide_do w0 V _ d hd pb po tw pcs ⟨W.clock, W.insts, W.reqs.set k r1⟩ ia n ic (some ⟨g, 0, none⟩) m rc (W.reqs.set k { r1 with closed := true }) h2.quiet h2.view hb2 g (k * 9) r1 hra (by rw [HR1.out]; exact hwhat.1) (by rw [HR1.out]; exact hwhat.2) (by omega) (fun V2 hV2 => ?_) (fun V2 hV2 => ?_)).mono ?_
    · exact ((h2.hush hV2).reqAt k hkr).2 _
    · obtain ⟨z1, z2, _⟩ := (h2.hush hV2).close k hkr
      simp only [List.getElem_set_self, List.set_set] at z1 z2
      exact ⟨z1, z2⟩
    · rintro e w3 ⟨v, rfl, V3, hV3, h3, hF3⟩
      go_wp2
      refine bodyPost_end (v := .tuple #[]) (by simp [results, Tryz.results93, go_sem]) rfl ⟨_, rfl, ?_, ?_⟩
      · rw [← HR1.out]
        have e1 : decideI d W r1 = modI W.insts r1.inst (fun x => grantP d W.clock x r1.what r1.target r1.number) := by unfold decideI; rw [if_neg (by omega)]
        have e2 : decideR d r1 = { r1 with closed := true } := by unfold decideR; rw [if_neg (by omega)]
        rw [e1, e2]
        exact h3
      · obtain ⟨_, _, z3⟩ := (h2.hush hV3).close k hkr
        exact ((hF0.trans (Frame.quiet _ hV3)).trans z3).trans (inst_world_le hF3)

end Go.Proofs.YtgcjlgaapiefiabGreat

import Derived.Test.YtgcjlgaapiefiabGreatQPrwH
import Derived.Test.YtgcjlgaapiefiabGreatQPrwI
import Derived.Test.YtgcjlgaapiefiabGreatQAnsA
import Derived.Deep.AppendLies

/-
  Walks of the program: ASK, carried out.
-/
namespace Go.Proofs.YtgcjlgaapiefiabGreat
open Go.RowKit Go.Sort

def CmdCells (c : Cmd) : Array Value := #[.int .i64 c.kind, .int .i64 c.inst, .int .i64 c.a, .int .i64 c.b, .int .i64 c.who, .string c.reason, .bool c.dry]

theorem Blk.set9 {w : World} {b : Nat} {cs : Array Value} {t : TypeId} (h : Blk w b cs t) (hs : cs.size = 9) (v0 v1 v2 v3 v4 v5 v6 v7 v8 : Value) :
    Blk (((((((((w.setCell ⟨b, 0, none⟩ v0).setCell ⟨b, 1, none⟩ v1).setCell ⟨b, 2, none⟩ v2).setCell ⟨b, 3, none⟩ v3).setCell ⟨b, 4, none⟩ v4).setCell ⟨b, 5, none⟩ v5).setCell ⟨b, 6, none⟩ v6).setCell ⟨b, 7, none⟩ v7).setCell ⟨b, 8, none⟩ v8) b #[v0, v1, v2, v3, v4, v5, v6, v7, v8] t := by
  obtain ⟨cs⟩ := cs
  match cs, hs with
  | [_, _, _, _, _, _, _, _, _], _ => simpa using ((((((((h.set 0 v0).set 1 v1).set 2 v2).set 3 v3).set 4 v4).set 5 v5).set 6 v6).set 7 v7).set 8 v8
theorem Below.set9 {B : Nat} {w0 w : World} (h : Below B w0 w) {b : Nat} (hb : B ≤ b) (v0 v1 v2 v3 v4 v5 v6 v7 v8 : Value) :
    Below B w0 (((((((((w.setCell ⟨b, 0, none⟩ v0).setCell ⟨b, 1, none⟩ v1).setCell ⟨b, 2, none⟩ v2).setCell ⟨b, 3, none⟩ v3).setCell ⟨b, 4, none⟩ v4).setCell ⟨b, 5, none⟩ v5).setCell ⟨b, 6, none⟩ v6).setCell ⟨b, 7, none⟩ v7).setCell ⟨b, 8, none⟩ v8) :=
  ((((((((h.setCell hb v0).setCell hb v1).setCell hb v2).setCell hb v3).setCell hb v4).setCell hb v5).setCell hb v6).setCell hb v7).setCell hb v8

theorem undrew {w w' : World} {row : Option Nat} (h : w.drew.grownBy w' row) : w.grownBy w' row := ⟨h.os, h.tape, h.output, h.size, h.block⟩

/-- A request that is yet in a block of its own is decided. -/
theorem decide_ask (w0 : Bas) (w : World) (dv : Value) (d : Def) (hd : DefIs w0 dv d) (pb po : Nat) (tw : TypeId) (pcs : Array Value) (W : WorldR) (ia : Option Addr) (n ic : Nat) (ra : Option Addr) (m rc : Nat) (h : PW w0 w pb po tw pcs W ia n ic ra m rc) (hb : WBd W) (rb : Nat) (hrb : w.heap.size ≤ rb) (r : Req) (hr0 : r.bys = []) (h1 : 1 ≤ r.what) (h5 : r.what ≤ 5)
    (U : World) (hU : Quiet w U) (hB : Blk U rb #[.int .i64 r.number, .int .i64 r.inst, .int .i64 r.what, .int .i64 r.target, .int .i64 r.who, .string r.reason, .slice none 0 0, .int .i64 r.upto, .bool r.closed] 83) :
    Calls Tryz.prog 112 #[dv, .pointer (some ⟨pb, po, none⟩), .pointer (some ⟨rb, 0, none⟩)] U fun e w' => ∃ v, e = .returned v ∧ PW w0 w' pb po tw pcs ⟨W.clock, decideI d W r, W.reqs⟩ ia n ic ra m rc ∧ Blk w' rb #[.int .i64 (decideR d r).number, .int .i64 (decideR d r).inst, .int .i64 (decideR d r).what, .int .i64 (decideR d r).target, .int .i64 (decideR d r).who, .string (decideR d r).reason, .slice none 0 0, .int .i64 (decideR d r).upto, .bool (decideR d r).closed] 83 ∧ Frame (worldTypes tw) U w' := by
  have hat : ∀ (V : World) (q : Req), q.bys = [] → Blk V rb #[.int .i64 q.number, .int .i64 q.inst, .int .i64 q.what, .int .i64 q.target, .int .i64 q.who, .string q.reason, .slice none 0 0, .int .i64 q.upto, .bool q.closed] 83 → ReqAt V rb 0 q := by
    intro V q hq hV
    refine ⟨none, 0, 0, fun j v hj => ?_, ⟨none, 0, by rw [hq]; rfl, by rw [hq]; simp, by omega, by rw [hq]; simp, .inl (by rw [hq]; rfl)⟩⟩
    rw [hV.cell, Nat.zero_add, ← hj]
    simp [Req.cells]
  have hUU := h.hush hU
  by_cases hqu : (r.bys.length : Int) < d.quorum
  · refine (decide_few U dv d (hd.quiet hUU.quiet) _ rb 0 r (hat U r hr0 hB) hqu).mono ?_
    rintro e w3 ⟨v, rfl, hq3⟩
    have e1 : decideI d W r = W.insts := by unfold decideI; rw [if_pos hqu]
    have e2 : decideR d r = r := by unfold decideR; rw [if_pos hqu]
    rw [e1, e2]
    exact ⟨v, rfl, hUU.hush hq3, hB.quiet hq3, Frame.quiet _ hq3⟩
  · have e1 : decideI d W r = modI W.insts r.inst (fun x => grantP d W.clock x r.what r.target r.number) := by unfold decideI; rw [if_neg hqu]
    have e2 : decideR d r = { r with closed := true } := by unfold decideR; rw [if_neg hqu]
    have hset : ∀ V, Quiet U V → ∀ q : Req, q = { r with closed := true } → Blk (V.setCell ⟨rb, 0 + 8, none⟩ (.bool true)) rb #[.int .i64 q.number, .int .i64 q.inst, .int .i64 q.what, .int .i64 q.target, .int .i64 q.who, .string q.reason, .slice none 0 0, .int .i64 q.upto, .bool q.closed] 83 := fun V hV q hq => by
      subst hq; simpa using (hB.quiet hV).set 8 (.bool true)
    refine (decide_do w0 U dv d hd pb po tw pcs W ia n ic ra m rc W.reqs hUU.quiet hUU.view hb rb 0 r (hat U r hr0 hB) h1 h5 (by omega) (fun V hV => (hB.quiet hV).frozen _) (fun V hV => ⟨?_, ?_⟩)).mono ?_
    · exact h.hush (Below.setCell (hU.after hV) (p := ⟨rb, 0 + 8, none⟩) hrb _)
    · exact hat _ { r with closed := true } hr0 (hset V hV _ rfl)
    · rintro e w3 ⟨v, rfl, V, hV, hP, hF⟩
      rw [e1, e2]
      refine ⟨v, rfl, hP, hF.blk (hset V hV _ rfl) (by decide), ?_⟩
      exact ((Frame.quiet _ hV).trans (Frame.set (p := ⟨rb, 0 + 8, none⟩) (hB.quiet hV) (by simp [worldTypes]) _)).trans (hF.mono (inst_world tw))

set_option maxRecDepth 100000 in
set_option maxHeartbeats 4000000 in
theorem ask_any (w0 : Bas) (w : World) (dv : Value) (d : Def) (hd : DefIs w0 dv d) (hx0 : 0 ≤ d.expiry) (hx1 : d.expiry ≤ 50) (pb po : Nat) (tw : TypeId) (pcs : Array Value) (W : WorldR) (ia : Option Addr) (n ic : Nat) (ra : Option Addr) (m rc : Nat) (h : PW w0 w pb po tw pcs W ia n ic ra m rc) (hb : WBd W) (c : Cmd) (ha1 : 1 ≤ c.a) (ha5 : c.a ≤ 5) :
    Calls Tryz.prog 92 #[dv, .pointer (some ⟨pb, po, none⟩), c.val] w fun e w' => ∃ v, e = .returned v ∧ ∃ pcs' ra' rc', PW w0 w' pb po tw pcs' ⟨W.clock, decideI d W (newReq d W c), W.reqs ++ [decideR d (newReq d W c)]⟩ ia n ic ra' (m + 1) rc' ∧ Frame (worldTypes tw) w w' := by
  obtain ⟨i0, hi, hz0, hz1, hz2⟩ := info_parts Tryz.info83
  have hq0 : ∀ o, Quiet w (w.alloc o) := fun o => (Below.refl _ _).alloc (Nat.le_refl _) _
  have hd1 := hd.quiet h.quiet
  obtain ⟨da, dn, dcap, rfl, hst⟩ := hd1
  clear hst
  obtain ⟨hc0, hc1⟩ := hb.clock
  have hm : m = W.reqs.length := h.rlen
  have hm1 : m ≤ 1000 := by have := hb.count; omega
  have HM : Hid (m = W.reqs.length) := hm
  clear hm
  have hv := h.view
  unfold Cmd.val
  go_enter Tryz.func92, Tryz.ntmps92
  go_wp2_with fail
  refine wp_gen1 (fun V => Blk V w.heap.size #[.slice da dn dcap, .int .i64 d.quorum, .int .i64 d.expiry] 24 ∧ Blk V (w.heap.size + 1) #[.int .i64 c.kind, .int .i64 c.inst, .int .i64 c.a, .int .i64 c.b, .int .i64 c.who, .string c.reason, .bool c.dry] 43 ∧ Quiet w V) ⟨(Blk.new' rfl).alloc _, Blk.new' (by simp), (hq0 _).alloc (by simp) _⟩ ?_
  rintro V ⟨bd, bc, hqV⟩
  have HN : Hid (∀ U, Quiet V U → Calls Tryz.prog 104 #[.pointer (some ⟨pb, po, none⟩)] U fun e w' => e = .returned (.int .i64 ((m : Int) + 1)) ∧ w' = U) := fun U hU => nextRequest_any U pb po W ia n ic ra m rc ((hv.quiet hqV).quiet hU) (by omega)
  have gc := bc.cell
  have zc := bc.lt
  go_cut [6] (fun s6 wc => ∃ rb, s6 = .pointer (some ⟨rb, 0, none⟩) ∧ Blk wc rb #[.int .i64 ((m : Int) + 1), .int .i64 c.inst, .int .i64 c.a, .int .i64 0, .int .i64 c.who, .string c.reason, .slice none 0 0, .int .i64 0, .bool false] 83 ∧ V.heap.size ≤ rb ∧ Quiet V wc)
  case first =>
    go_region_held3 (fun w' => w'.cell? ⟨w.heap.size + 1, 1, none⟩ = some (.int .i64 c.inst) ∧ w'.cell? ⟨w.heap.size + 1, 2, none⟩ = some (.int .i64 c.a) ∧ w'.cell? ⟨w.heap.size + 1, 4, none⟩ = some (.int .i64 c.who) ∧ w'.cell? ⟨w.heap.size + 1, 5, none⟩ = some (.string c.reason)) (go_keep) (first | (go_at_call 104; refine (HN.out _ ?_).mono ?_; (first | exact Below.refl _ _ | exact Below.drew (Below.refl _ _) | exact (Below.refl _ _).drewN | exact (Below.refl _ _).alloc (Nat.le_refl _) _ | exact Below.drew ((Below.refl _ _).alloc (Nat.le_refl _) _) | exact ((Below.refl _ _).alloc (Nat.le_refl _) _).drewN | exact Below.alloc (Below.drew (Below.refl _ _)) (Nat.le_refl _) _ | exact Below.drew (Below.alloc (Below.drew (Below.refl _ _)) (Nat.le_refl _) _)); rintro e w2 ⟨rfl, rfl⟩))
    all_goals (try go_wp2)
    all_goals
      go_meet
      case rel =>
        exact ⟨_, rfl, Blk.drew (Blk.new' rfl), Nat.le_refl _, Below.drew ((Below.refl _ _).alloc (Nat.le_refl _) _)⟩
  case rest =>
    obtain ⟨rb, rfl, br, hrb, hqc⟩ := hcut
    replace bd := bd.quiet hqc
    replace bc := bc.quiet hqc
    replace hqV : Quiet w wc := hqV.after hqc
    replace hrb : w.heap.size ≤ rb := Nat.le_trans (by omega) hrb
    clear gc zc hqc HN
    have gc := bc.cell
    have gd := bd.cell
    have gr := br.cell
    have fr := br.frozen
    obtain ⟨p0, p1, p2⟩ := (hv.cells.quiet hqV).three
    go_wp2_with fail
    go_cut [] (fun wd => Blk wd rb #[.int .i64 ((m : Int) + 1), .int .i64 c.inst, .int .i64 c.a, .int .i64 0, .int .i64 c.who, .string c.reason, .slice none 0 0, .int .i64 (W.clock + d.expiry), .bool false] 83 ∧ Blk wd w.heap.size #[.slice da dn dcap, .int .i64 d.quorum, .int .i64 d.expiry] 24 ∧ Blk wd (w.heap.size + 1) #[.int .i64 c.kind, .int .i64 c.inst, .int .i64 c.a, .int .i64 c.b, .int .i64 c.who, .string c.reason, .bool c.dry] 43 ∧ Quiet w wd)
    case first =>
      go_region
      all_goals (try go_wp2)
      all_goals
        go_meet
        case rel => exact ⟨Blk.drew (by simpa using br.set 7 (.int .i64 (W.clock + d.expiry))), Blk.drew (bd.other _ (br.ne bd (by decide))), Blk.drew (bc.other _ (br.ne bc (by decide))), Below.drew (Below.setCell hqV (p := ⟨rb, 7, none⟩) hrb _)⟩
    case rest =>
      clear gc gd gr fr p0 p1 p2 br bd bc hqV
      obtain ⟨br, bd, bc, hqV⟩ := hcut
      have gc := bc.cell
      have gd := bd.cell
      have gr := br.cell
      have fr := br.frozen
      obtain ⟨r, HR⟩ : ∃ r : Req, Hid (r = newReq d W c) := ⟨_, rfl⟩
      have HRC : Hid (∀ t, t = (if c.a = 5 then c.b else 0) → #[Value.int .i64 ((m : Int) + 1), .int .i64 c.inst, .int .i64 c.a, .int .i64 t, .int .i64 c.who, .string c.reason, .slice none 0 0, .int .i64 (W.clock + d.expiry), .bool false] = #[.int .i64 r.number, .int .i64 r.inst, .int .i64 r.what, .int .i64 r.target, .int .i64 r.who, .string r.reason, .slice none 0 0, .int .i64 r.upto, .bool r.closed]) := by
        intro t ht; rw [HR.out, ht, HM.out]; rfl
      have HRW : Hid (1 ≤ r.what ∧ r.what ≤ 5) := by show 1 ≤ r.what ∧ _; rw [HR.out]; exact ⟨ha1, ha5⟩
      have HDec : Hid (∀ U, Quiet w U → Blk U rb #[.int .i64 r.number, .int .i64 r.inst, .int .i64 r.what, .int .i64 r.target, .int .i64 r.who, .string r.reason, .slice none 0 0, .int .i64 r.upto, .bool r.closed] 83 → Calls Tryz.prog 112 #[.agg #[.slice da dn dcap, .int .i64 d.quorum, .int .i64 d.expiry], .pointer (some ⟨pb, po, none⟩), .pointer (some ⟨rb, 0, none⟩)] U fun e w' => ∃ v, e = .returned v ∧ PW w0 w' pb po tw pcs ⟨W.clock, decideI d W r, W.reqs⟩ ia n ic ra m rc ∧ Blk w' rb #[.int .i64 (decideR d r).number, .int .i64 (decideR d r).inst, .int .i64 (decideR d r).what, .int .i64 (decideR d r).target, .int .i64 (decideR d r).who, .string (decideR d r).reason, .slice none 0 0, .int .i64 (decideR d r).upto, .bool (decideR d r).closed] 83 ∧ Frame (worldTypes tw) U w') := fun U hU hB =>
        decide_ask w0 w _ d hd pb po tw pcs W ia n ic ra m rc h hb rb hrb r (by rw [HR.out]; rfl) HRW.out.1 HRW.out.2 U hU hB
      cases h5 : c.a == 5
      all_goals
        go_wp2_with fail
        refine calls_gen (fun U => Blk U rb #[.int .i64 r.number, .int .i64 r.inst, .int .i64 r.what, .int .i64 r.target, .int .i64 r.who, .string r.reason, .slice none 0 0, .int .i64 r.upto, .bool r.closed] 83 ∧ Quiet w U) ?_ ?_
        · first
            | exact ⟨by rw [← HRC.out 0 (by simp at h5; rw [if_neg h5])]; exact br, hqV⟩
            | exact ⟨by rw [← HRC.out c.b (by simp at h5; rw [if_pos h5])]; simpa using br.set 3 (.int .i64 c.b), Below.setCell hqV (p := ⟨rb, 3, none⟩) hrb _⟩
        clear gc gd gr fr br bd bc hqV
        rintro U ⟨br, hqU⟩
        refine (HDec.out U hqU br).mono ?_
        rintro e w3 ⟨v, rfl, h3, br3, hF3⟩
        have hF0 : Frame (worldTypes tw) w w3 := (Frame.quiet _ hqU).trans hF3
        clear HDec br hqU hF3
        generalize hq2 : decideR d r = r2 at *
        have HR2 : Hid (decideR d r = r2) := hq2
        clear hq2
        obtain ⟨ins2, HI2⟩ : ∃ ins2, Hid (ins2 = decideI d W r) := ⟨_, rfl⟩
        rw [← HI2.out] at h3
        obtain ⟨ps, e1, e2⟩ := h3.reqs
        have hown := e2.own
        have hsz := h3.high.size
        have zr := br3.lt
        have gr := br3.cell
        have zp := h3.row.1.lt
        have fp := h3.row.1.frozen
        obtain ⟨p0, p1, p2⟩ := h3.row.at.three
        have HNEW : Hid (∀ j u, (r2.cells (.slice none 0 0))[j]? = some u → (w3.alloc (.cells #[.int .i64 r2.number, .int .i64 r2.inst, .int .i64 r2.what, .int .i64 r2.target, .int .i64 r2.who, .string r2.reason, .slice none 0 0, .int .i64 r2.upto, .bool r2.closed] 83)).cell? ((⟨w3.heap.size, 0, none⟩ : Addr).add j) = some u) := by
          show ∀ j u, (r2.cells (.slice none 0 0))[j]? = some u → (w3.alloc (.cells #[.int .i64 r2.number, .int .i64 r2.inst, .int .i64 r2.what, .int .i64 r2.target, .int .i64 r2.who, .string r2.reason, .slice none 0 0, .int .i64 r2.upto, .bool r2.closed] 83)).cell? ((⟨w3.heap.size, 0, none⟩ : Addr).add j) = some u
          have := World.news_of_block (heap_alloc_new w3 (.cells #[.int .i64 r2.number, .int .i64 r2.inst, .int .i64 r2.what, .int .i64 r2.target, .int .i64 r2.who, .string r2.reason, .slice none 0 0, .int .i64 r2.upto, .bool r2.closed] 83))
          simpa [Req.cells] using this
        go_wp2_with fail
        go_region_law (refine step_append_lies _ (by rfl) (.tmp 39) (.tmp 41) 45 (by rfl) w0.heap.size 83 i0 (.agg #[.int .i64 0, .int .i64 0, .int .i64 0, .int .i64 0, .int .i64 0, .string ⟨#[]⟩, .slice none 0 0, .int .i64 0, .bool false]) 9 96 Tryz.underlying45 hi hz0 hz1 hz2 rfl (by decide) (.slice ra m rc) m _ (by simp [Act.eval]) (by exact World.ownsRow.drew (hown.alloc _)) ⟨w3.heap.size, 0, none⟩ 1 1 (r2.cells (.slice none 0 0)) (by simp [Act.eval]) rfl (by exact HNEW.out) (by intro u hu; simp [Req.cells] at hu; rcases hu with rfl | rfl | rfl | rfl | rfl | rfl | rfl | rfl | rfl <;> rfl) (by decide) (by unfold maxLen; omega) (by omega) (by simp; omega) (w3.heap.size + 1) (by simp) ?_; intro g2 cap2 w4 hown2 hgrow0 hat hlt2; have hgrow := undrew hgrow0; have hF4 : Frame [83] w3 w4 := grown_frame (o := .cells #[.int .i64 r2.number, .int .i64 r2.inst, .int .i64 r2.what, .int .i64 r2.target, .int .i64 r2.who, .string r2.reason, .slice none 0 0, .int .i64 r2.upto, .bool r2.closed] 83) hgrow (fun k hk => own_blk hown hk) (by simp); have q : Row w4 pb po tw pcs [.int .i64 W.clock, .slice ia n ic, .slice ra m rc] := ⟨hF4.blk h3.row.1 (by simp [h3.aside.2.2.1]), h3.row.2⟩; have qc := q.at.three; have qf := q.1.frozen)
        all_goals (try go_wp2)
        all_goals
          refine bodyPost_end (v := .tuple #[]) (by simp [results, Tryz.results92, go_sem]) rfl ⟨_, rfl, pcs.setIfInBounds (po + 2) (.slice (some ⟨g2, 0, none⟩) (m + 1) cap2), some ⟨g2, 0, none⟩, cap2, ?_, ?_⟩
          · have hs : ∀ k cs t, Blk w3 k cs t → t ≠ 83 → t ≠ tw → (w4.setCell ⟨pb, po + 2, none⟩ (.slice (some ⟨g2, 0, none⟩) (m + 1) cap2)).heap[k]? = w3.heap[k]? := fun k cs t hb h1 h2 => by
              have e := hF4.2 k cs t hb (by simpa using h1)
              rw [← e]
              exact Below.heap_setCell w4 _ _ k (Blk.ne q.1 (e.trans hb) (Ne.symm h2))
            obtain ⟨a1, a2, a3, a4⟩ := h3.aside
            rw [← HR.out, HR2.out, ← HI2.out]
            have hq4 : Quiet w0 w4 := Below.grown (h3.quiet.alloc h3.quiet.size _) hgrow (by have := w0.le; simp; omega) (fun k hk => Nat.le_trans w0.le (own_ge hown k hk).1)
            refine ⟨q.set 2 _ (by simp), h3.insts.frame (h1 := fun k cs hb => hs k cs _ hb (by decide) (Ne.symm a1)) (h2 := fun k cs hb => hs k cs _ hb (by decide) (Ne.symm a2)), ⟨ps ++ [(r2, .slice none 0 0)], by rw [List.map_append, e1]; rfl, ?_⟩, Below.setCell hq4 (p := ⟨pb, po + 2, none⟩) h3.above _, h3.above, h3.aside, ((h3.high.quiet ((Below.refl _ _).alloc (Nat.le_refl _) _)).grown hgrow (fun k hk => (own_ge hown k hk).1)).set _ _, h3.rest.set 2 (by omega) _⟩
            refine RowsOf.snoc _ _ _ _ _ _ _ e2 r2 (by rw [← HR2.out]; unfold decideR; rw [HR.out]; split <;> rfl) (by rw [← HR2.out]; unfold decideR; rw [HR.out]; split <;> rfl) ?_ (fun k cs hb => hs k cs _ hb (by decide) (Ne.symm a4))
            exact ownsRow_setCell_other hown2 (own_ne hown2 q.1 (Ne.symm a3)) _
          · exact (hF0.trans ⟨hF4.1, fun k cs t hb ht => hF4.2 k cs t hb (by simp [worldTypes] at ht; simp; exact ht.2.2.2.1)⟩).trans (Frame.set (p := ⟨pb, po + 2, none⟩) q.1 (by simp [worldTypes]) _)

end Go.Proofs.YtgcjlgaapiefiabGreat

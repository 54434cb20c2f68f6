import Derived.Test.YtgcjlgaapiefiabGreatQPrwE
import Derived.Test.YtgcjlgaapiefiabGreatQPrwF

/-
  Walks of the program: the open request of a number; WITHDRAW.
-/
namespace Go.Proofs.YtgcjlgaapiefiabGreat
open Go.RowKit Go.Sort

def openI (W : WorldR) (a : Int) : Int := match openP W a with
  | some _ => a - 1
  | none => -1
theorem openI_some {W : WorldR} {a : Int} {r : Req} (h : openP W a = some r) : openI W a = a - 1 := by unfold openI; rw [h]
theorem openI_none {W : WorldR} {a : Int} (h : openP W a = none) : openI W a = -1 := by unfold openI; rw [h]
theorem open_get {W : WorldR} {a : Int} {r : Req} (h : openP W a = some r) : 1 ≤ a ∧ ∃ hk : (a - 1).toNat < W.reqs.length, W.reqs[(a - 1).toNat] = r ∧ r.closed = false ∧ W.clock < r.upto := by
  unfold openP at h
  by_cases h1 : a < 1 ∨ (W.reqs.length : Int) < a
  · rw [if_pos h1] at h; simp at h
  rw [if_neg h1] at h
  have hk : (a - 1).toNat < W.reqs.length := by omega
  rw [List.getElem?_eq_getElem hk] at h
  simp only at h
  by_cases h2 : W.reqs[(a - 1).toNat].closed = true ∨ W.reqs[(a - 1).toNat].upto ≤ W.clock
  · rw [if_pos h2] at h; simp at h
  · rw [if_neg h2] at h
    replace h := Option.some.inj h
    refine ⟨by omega, hk, h, ?_, ?_⟩
    · rw [← h]; cases hc : W.reqs[(a - 1).toNat].closed
      · rfl
      · exact absurd (.inl hc) h2
    · rw [← h]
      by_cases q : W.reqs[(a - 1).toNat].upto ≤ W.clock
      · exact absurd (.inr q) h2
      · omega

set_option maxRecDepth 100000 in
set_option maxHeartbeats 1000000 in
theorem openPlace_any (w : World) (pb po : Nat) (W : WorldR) (ia : Option Addr) (n ic : Nat) (ra : Option Addr) (m rc : Nat) (a : Int) (hv : WView w pb po W ia n ic ra m rc) :
    Calls Tryz.prog 105 #[.pointer (some ⟨pb, po, none⟩), .int .i64 a] w fun e w' => e = .returned (.int .i64 (openI W a)) ∧ Quiet w w' := by
  obtain ⟨p0, p1, p2⟩ := hv.cells.three
  obtain ⟨hm, hmm⟩ := hv.reqs.len
  have HM : Hid (m = W.reqs.length) := hm
  clear hm
  by_cases t1 : a < 1
  · have HT : Hid (openI W a = -1) := openI_none (by unfold openP; rw [if_pos (.inl t1)])
    go_enter Tryz.func105, Tryz.ntmps105
    go_wp2
    go_ret
    exact ⟨ret_int HT.out.symm, Below.refl _ _⟩
  by_cases t2 : (m : Int) < a
  · have HT : Hid (openI W a = -1) := openI_none (by unfold openP; rw [if_pos (.inr (by have := HM.out; omega))])
    go_enter Tryz.func105, Tryz.ntmps105
    go_wp2
    go_ret
    exact ⟨ret_int HT.out.symm, Below.refl _ _⟩
  obtain ⟨k, hka⟩ : ∃ k : Nat, a = (k : Int) + 1 := ⟨(a - 1).toNat, by omega⟩
  subst hka
  have hk : k < W.reqs.length := by have := HM.out; omega
  have hkt : ((k : Int) + 1 - 1).toNat = k := by omega
  have HO : Hid (openP W ((k : Int) + 1) = if W.reqs[k].closed = true ∨ W.reqs[k].upto ≤ W.clock then none else some W.reqs[k]) := by
    show openP W _ = _
    unfold openP
    rw [if_neg (by have := HM.out; omega), hkt, List.getElem?_eq_getElem hk]
  clear hkt
  obtain ⟨b, off, rfl, hb, ba, bn, bc, hx, _⟩ := hv.reqs.get k hk
  generalize W.reqs[k] = r at *
  obtain ⟨c0, c1, c2, c3, c4, c5, c6, c7, c8⟩ := hx.nine9
  have hki : (0 : Int) ≤ (k : Int) := by omega
  have hkm : (k : Int) < (m : Int) := by omega
  cases hcl : r.closed
  · by_cases hup : r.upto ≤ W.clock
    · have HT : Hid (openI W ((k : Int) + 1) = -1) := openI_none (by rw [HO.out, if_pos (.inr hup)])
      go_enter Tryz.func105, Tryz.ntmps105
      go_wp2_with fail
      go_quiet (fail)
      go_wp2
      go_ret
      exact ⟨ret_int HT.out.symm, (Below.refl _ _).drewN⟩
    · have HT : Hid (openI W ((k : Int) + 1) = k) := by
        show openI W _ = _
        rw [openI_some (r := r) (by rw [HO.out, if_neg (fun q => q.elim (by rw [hcl]; simp) hup)])]; omega
      go_enter Tryz.func105, Tryz.ntmps105
      go_wp2_with fail
      go_quiet (fail)
      go_wp2
      go_ret
      exact ⟨ret_int HT.out.symm, (Below.refl _ _).drewN⟩
  · have HT : Hid (openI W ((k : Int) + 1) = -1) := openI_none (by rw [HO.out, if_pos (.inl hcl)])
    go_enter Tryz.func105, Tryz.ntmps105
    go_wp2_with fail
    go_quiet (fail)
    go_wp2
    go_ret
    exact ⟨ret_int HT.out.symm, (Below.refl _ _).drewN⟩

set_option maxRecDepth 100000 in
theorem withdraw_any (w0 : Bas) (w : World) (pb po : Nat) (tw : TypeId) (pcs : Array Value) (W : WorldR) (ia : Option Addr) (n ic : Nat) (ra : Option Addr) (m rc : Nat) (h : PW w0 w pb po tw pcs W ia n ic ra m rc) (a : Int) (r : Req) (ho : openP W a = some r) :
    Calls Tryz.prog 94 #[.pointer (some ⟨pb, po, none⟩), .int .i64 a] w fun e w' => ∃ v, e = .returned v ∧ PW w0 w' pb po tw pcs ⟨W.clock, W.insts, W.reqs.set (a - 1).toNat { r with closed := true }⟩ ia n ic ra m rc ∧ Frame (worldTypes tw) w w' := by
  obtain ⟨ha1, hk, hr, _⟩ := open_get ho
  obtain ⟨k, hka⟩ : ∃ k : Nat, a = (k : Int) + 1 := ⟨(a - 1).toNat, by omega⟩
  subst hka
  have hkt : ((k : Int) + 1 - 1).toNat = k := by omega
  simp only [hkt] at hk hr ⊢
  have HO : Hid (∀ V, Quiet w V → Calls Tryz.prog 105 #[.pointer (some ⟨pb, po, none⟩), .int .i64 ((k : Int) + 1)] V fun e w' => e = .returned (.int .i64 k) ∧ Quiet V w') := fun V hV => by
    have := openPlace_any V pb po W ia n ic ra m rc ((k : Int) + 1) (h.view.quiet hV)
    rw [openI_some ho, show (k : Int) + 1 - 1 = k by omega] at this
    exact this
  have hkm : (k : Int) < (m : Int) := by have := h.rlen; omega
  have hki : (0 : Int) ≤ (k : Int) := by omega
  go_enter Tryz.func94, Tryz.ntmps94
  go_wp2_with fail
  refine (HO.out _ (Below.refl _ _)).mono ?_
  rintro e w1 ⟨rfl, hq1⟩
  have h1 := h.hush hq1
  obtain ⟨g, cs, a', n', cap', rfl, hg, hin, hput⟩ := h1.req k hk
  have HPut : Hid (∀ w' y, MakesR w0.heap.size w1 g (k * 9) (Value.slice a' n' cap').ownBlock y w' → PW w0 w' pb po tw pcs ⟨W.clock, W.insts, W.reqs.set k y⟩ ia n ic (some ⟨g, 0, none⟩) m rc ∧ Frame (worldTypes tw) w1 w') := hput
  clear hput
  rw [hr] at hin
  obtain ⟨p0, p1, p2⟩ := h1.row.at.three
  obtain ⟨c0, c1, c2, c3, c4, c5, c6, c7, c8⟩ := hin.row.at.nine9
  have f := hin.row.1.frozen
  go_wp2
  refine bodyPost_end (v := .tuple #[]) (by simp [results, Tryz.results94, go_sem]) rfl ⟨_, rfl, ?_⟩
  obtain ⟨q1, q2⟩ := HPut.out _ { r with closed := true } ⟨_, a', n', cap', ⟨hin.row.set 8 (.bool true) (by simp [Req.cells]), ownsRow_setCell_other hin.own (own_ne hin.own hin.row.1 (by decide)) _, hin.len⟩, Turned.set _ 8 _ (by omega), .inl rfl⟩
  exact ⟨q1, (Frame.quiet _ hq1).trans q2⟩

end Go.Proofs.YtgcjlgaapiefiabGreat

/-
  Walks of the program: a request is decided.
-/
namespace Go.Proofs.YtgcjlgaapiefiabGreat
open Go.RowKit Go.Sort

def instTypes : List TypeId := [78, 92]
theorem Frame.mono {ts ts' : List TypeId} {w w' : World} (h : Frame ts w w') (hs : ∀ t ∈ ts, t ∈ ts') : Frame ts' w w' := ⟨h.1, fun k cs t hb ht => h.2 k cs t hb (fun q => ht (hs t q))⟩
theorem inst_world (tw : TypeId) : ∀ t ∈ instTypes, t ∈ worldTypes tw := by
  intro t ht; simp [instTypes] at ht; rcases ht with rfl | rfl <;> simp [worldTypes]

theorem PW.instF {w0 : Bas} {w : World} {pb po : Nat} {tw : TypeId} {pcs : Array Value} {W : WorldR} {ia : Option Addr} {n ic : Nat} {ra : Option Addr} {m rc : Nat} (h : PW w0 w pb po tw pcs W ia n ic ra m rc) (k : Nat) (hk : k < W.insts.length) :
    ∃ g cs a' n' cap', ia = some ⟨g, 0, none⟩ ∧ w0.heap.size ≤ g ∧ InstIn w0.heap.size w g (k * 12) cs W.insts[k] a' n' cap' ∧
      ∀ w' y, Makes w0.heap.size w g (k * 12) (Value.slice a' n' cap').ownBlock y w' → PW w0 w' pb po tw pcs ⟨W.clock, W.insts.set k y, W.reqs⟩ ia n ic ra m rc ∧ Frame instTypes w w' := by
  obtain ⟨g, cs, a', n', cap', e1, hg, hI, hput⟩ := h.inst k hk
  refine ⟨g, cs, a', n', cap', e1, hg, hI, fun w' y hM => ⟨(hput w' y hM).1, ?_⟩⟩
  exact hM.turned.frame hI.row.1 (by simp [instTypes]) (fun k hk => own_blk hI.own hk) (by simp [instTypes])

set_option maxRecDepth 100000 in
theorem decide_few (w : World) (dv : Value) (d : Def) (hd : DefIs w dv d) (pv : Value) (rb ro : Nat) (r : Req) (hr : ReqAt w rb ro r) (hq : (r.bys.length : Int) < d.quorum) :
    Calls Tryz.prog 112 #[dv, pv, .pointer (some ⟨rb, ro, none⟩)] w fun e w' => ∃ v, e = .returned v ∧ Quiet w w' := by
  have hq0 : ∀ o, Quiet w (w.alloc o) := fun o => (Below.refl _ _).alloc (Nat.le_refl _) _
  obtain ⟨da, dn, dcap, rfl, hst⟩ := hd
  clear hst
  have hqA := hq0 (.cells #[.slice da dn dcap, .int .i64 d.quorum, .int .i64 d.expiry] 24)
  obtain ⟨ba, bn, bc, hx, hby⟩ := hr.quiet hqA
  obtain ⟨c0, c1, c2, c3, c4, c5, c6, c7, c8⟩ := hx.nine9
  have hbn := (Arr.len hby).1
  simp only [List.length_map] at hbn
  have hlt : (bn : Int) < d.quorum := by omega
  clear hq hbn hby
  go_enter Tryz.func112, Tryz.ntmps112
  go_wp2_with fail
  go_quiet (fail)
  go_wp2
  refine bodyPost_ret (v := .tuple #[]) (by simp [results, Tryz.results112, go_sem]) rfl ⟨_, rfl, ?_⟩
  exact hqA.drewN

set_option maxRecDepth 100000 in
set_option maxHeartbeats 4000000 in
theorem decide_do (w0 : Bas) (w : World) (dv : Value) (d : Def) (hd : DefIs w0 dv d) (pb po : Nat) (tw : TypeId) (pcs : Array Value) (W : WorldR) (ia : Option Addr) (n ic : Nat) (ra : Option Addr) (m rc : Nat) (rs : List Req)
    (hq : Quiet w0 w) (hv : WView w pb po W ia n ic ra m rc) (hb : WBd W) (rb ro : Nat) (r : Req) (hr : ReqAt w rb ro r) (h1 : 1 ≤ r.what) (h5 : r.what ≤ 5) (hqu : d.quorum ≤ (r.bys.length : Int))
    (hfz : ∀ V, Quiet w V → V.frozen? ⟨rb, ro + 8, none⟩ = false)
    (hclose : ∀ V, Quiet w V → PW w0 (V.setCell ⟨rb, ro + 8, none⟩ (.bool true)) pb po tw pcs ⟨W.clock, W.insts, rs⟩ ia n ic ra m rc ∧ ReqAt (V.setCell ⟨rb, ro + 8, none⟩ (.bool true)) rb ro { r with closed := true }) :
    Calls Tryz.prog 112 #[dv, .pointer (some ⟨pb, po, none⟩), .pointer (some ⟨rb, ro, none⟩)] w fun e w' => ∃ v, e = .returned v ∧ ∃ V, Quiet w V ∧ PW w0 w' pb po tw pcs ⟨W.clock, modI W.insts r.inst (fun x => grantP d W.clock x r.what r.target r.number), rs⟩ ia n ic ra m rc ∧ Frame instTypes (V.setCell ⟨rb, ro + 8, none⟩ (.bool true)) w' := by
  have hq0 : ∀ o, Quiet w (w.alloc o) := fun o => (Below.refl _ _).alloc (Nat.le_refl _) _
  have hd1 := hd.quiet hq
  obtain ⟨da, dn, dcap, rfl, hst⟩ := hd1
  clear hst
  have hqA := hq0 (.cells #[.slice da dn dcap, .int .i64 d.quorum, .int .i64 d.expiry] 24)
  have bdA : Blk (w.alloc (.cells #[.slice da dn dcap, .int .i64 d.quorum, .int .i64 d.expiry] 24)) w.heap.size #[.slice da dn dcap, .int .i64 d.quorum, .int .i64 d.expiry] 24 := Blk.new' rfl
  obtain ⟨ba, bn, bc, hx, hby⟩ := hr.quiet hqA
  obtain ⟨c0, c1, c2, c3, c4, c5, c6, c7, c8⟩ := hx.nine9
  have hbn := (Arr.len hby).1
  simp only [List.length_map] at hbn
  have hlt : d.quorum ≤ (bn : Int) := by omega
  clear hqu hbn hby
  have hfz' := fun nq => hfz ((w.alloc (.cells #[.slice da dn dcap, .int .i64 d.quorum, .int .i64 d.expiry] 24)).drewN nq) hqA.drewN
  have hrb : rb < w.heap.size := by obtain ⟨_, _, _, hx0, _⟩ := hr; exact hx0.lt
  go_enter Tryz.func112, Tryz.ntmps112
  go_wp2_with fail
  go_quiet (fail)
  have hfz2 := hfz' nq
  go_wp2_with fail
  have hqn : Quiet w ((w.alloc (.cells #[.slice da dn dcap, .int .i64 d.quorum, .int .i64 d.expiry] 24)).drewN nq) := hqA.drewN
  obtain ⟨hP, hR⟩ := hclose _ hqn
  have bd1 : Blk (((w.alloc (.cells #[.slice da dn dcap, .int .i64 d.quorum, .int .i64 d.expiry] 24)).drewN nq).setCell ⟨rb, ro + 8, none⟩ (.bool true)) w.heap.size #[.slice da dn dcap, .int .i64 d.quorum, .int .i64 d.expiry] 24 := Blk.other (Blk.drewN bdA) _ (by show w.heap.size ≠ rb; omega)
  refine calls_gen (fun V1 => V1 = ((w.alloc (.cells #[.slice da dn dcap, .int .i64 d.quorum, .int .i64 d.expiry] 24)).drewN nq).setCell ⟨rb, ro + 8, none⟩ (.bool true)) rfl ?_
  intro V1 hV1
  rw [← hV1] at hP hR bd1
  have HV1 : Hid (V1 = ((w.alloc (.cells #[.slice da dn dcap, .int .i64 d.quorum, .int .i64 d.expiry] 24)).drewN nq).setCell ⟨rb, ro + 8, none⟩ (.bool true)) := hV1
  clear hV1
  clear c0 c1 c2 c3 c4 c5 c6 c7 c8 hfz2 hfz'
  have HI : Hid (Calls Tryz.prog 100 #[.pointer (some ⟨pb, po, none⟩), .int .i64 r.inst] V1 fun e w' => e = .returned (.int .i64 (placeI W.insts r.inst)) ∧ w' = V1) := place_any V1 pb po ⟨W.clock, W.insts, rs⟩ ia n ic ra m rc r.inst hP.view
  cases hp : placeP W.insts r.inst with
  | none =>
    rw [placeI_minus hp] at HI
    have HM : Hid (modI W.insts r.inst (fun x => grantP d W.clock x r.what r.target r.number) = W.insts) := modI_none hp _
    refine HI.out.mono ?_
    rintro e w1 ⟨rfl, hw⟩
    rw [hw]
    clear hw w1
    go_wp2
    refine bodyPost_ret (v := .tuple #[]) (by simp [results, Tryz.results112, go_sem]) rfl ⟨_, rfl, _, hqn, ?_, ?_⟩
    · rw [HM.out]; exact hP
    · rw [← HV1.out]; exact Frame.refl _ _
  | some k =>
    rw [placeI_some hp] at HI
    obtain ⟨hk, _, _⟩ := place_inst hp
    have HM : Hid (modI W.insts r.inst (fun x => grantP d W.clock x r.what r.target r.number) = W.insts.set k (grantP d W.clock W.insts[k] r.what r.target r.number)) := modI_place hp hk _
    obtain ⟨g, cs, a', n', cap', rfl, hg, hin, hput⟩ := hP.instF k hk
    obtain ⟨s0, s1, k0, k1, t0, t1, hll⟩ := hb.insts W.insts[k] (List.getElem_mem hk)
    have hkn : (k : Int) < (n : Int) := by have e : n = W.insts.length := hP.ilen; omega
    have hki : (0 : Int) ≤ (k : Int) := by omega
    have HPut : Hid (∀ w' y, Makes w0.heap.size V1 g (k * 12) (Value.slice a' n' cap').ownBlock y w' → PW w0 w' pb po tw pcs ⟨W.clock, W.insts.set k y, rs⟩ (some ⟨g, 0, none⟩) n ic ra m rc ∧ Frame instTypes V1 w') := hput
    clear hput
    replace hin : InstIn w0.heap.size V1 g (k * 12) cs W.insts[k] a' n' cap' := hin
    generalize W.insts[k] = x at *
    have HC : Hid (∀ V2, Quiet V1 V2 → Calls Tryz.prog 125 #[.agg #[.slice da dn dcap, .int .i64 d.quorum, .int .i64 d.expiry], .int .i64 W.clock, .pointer (some ⟨g, k * 12, none⟩), .pointer (some ⟨rb, ro, none⟩)] V2 fun e w' => ∃ v, e = .returned v ∧ Makes w0.heap.size V2 g (k * 12) (Value.slice a' n' cap').ownBlock (grantP d W.clock x r.what r.target r.number) w') := fun V2 hV2 =>
      grant_any w0 V2 (hP.quiet.after hV2) (Nat.le_trans hP.high.size hV2.size) _ d hd g (k * 12) cs x a' n' cap' W.clock (hin.quiet hV2) s0 s1 hll rb ro { r with closed := true } (hR.quiet hV2) h1 h5
    obtain ⟨p0, p1, p2⟩ := hP.row.at.three
    have gd := bd1.cell
    refine HI.out.mono ?_
    rintro e w1 ⟨rfl, hw⟩
    rw [hw]
    clear hw w1
    go_wp2_with fail
    go_region_with (first | (go_at_call 125; refine (HC.out _ ?_).mono ?_; exact Below.drew (Below.refl _ _); rintro e w4 ⟨v, rfl, hM⟩))
    all_goals (try go_wp2)
    all_goals
      refine bodyPost_end (v := .tuple #[]) (by simp [results, Tryz.results112, go_sem]) rfl ⟨_, rfl, _, hqn, ?_⟩
      rw [HM.out, ← HV1.out]
      exact HPut.out _ _ (Makes.quiet (Below.drew (Below.refl _ _)) hM)

end Go.Proofs.YtgcjlgaapiefiabGreat

import Derived.Test.YtgcjlgaapiefiabGreatQPrwF

/-
  Walks of the program: REPLY, carried out.
-/
namespace Go.Proofs.YtgcjlgaapiefiabGreat
open Go.RowKit Go.Sort

set_option maxRecDepth 100000 in
set_option maxHeartbeats 4000000 in
theorem reply_any (w0 : Bas) (w : World) (dv : Value) (d : Def) (hd : DefIs w0 dv d) (hdok : ∀ k, (stepP d k).retries ≤ 3) (pb po : Nat) (tw : TypeId) (pcs : Array Value) (W : WorldR) (ia : Option Addr) (n ic : Nat) (ra : Option Addr) (m rc : Nat)
    (h : PW w0 w pb po tw pcs W ia n ic ra m rc) (hb : WBd W) (id : Int) (well : Bool) :
    Calls Tryz.prog 91 #[dv, .pointer (some ⟨pb, po, none⟩), .int .i64 id, .bool well] w fun e w' => ∃ v, e = .returned v ∧ PW w0 w' pb po tw pcs ⟨W.clock, modI W.insts id (fun x => replyP d W.clock x well), W.reqs⟩ ia n ic ra m rc ∧ Frame (worldTypes tw) w w' := by
  have hq0 : ∀ o, Quiet w (w.alloc o) := fun o => (Below.refl _ _).alloc (Nat.le_refl _) _
  have hd1 := hd.quiet h.quiet
  have hd0 := hd1
  obtain ⟨da, dn, dcap, rfl, hst⟩ := hd1
  clear hst
  have hqA := hq0 (.cells #[.slice da dn dcap, .int .i64 d.quorum, .int .i64 d.expiry] 24)
  have HI : Hid (∀ w, WView w pb po W ia n ic ra m rc → Calls Tryz.prog 100 #[.pointer (some ⟨pb, po, none⟩), .int .i64 id] w fun e w' => e = .returned (.int .i64 (placeI W.insts id)) ∧ w' = w) := fun w hv => place_any w pb po W ia n ic ra m rc id hv
  obtain ⟨hc0, hc1⟩ := hb.clock
  cases hp : placeP W.insts id with
  | none =>
    rw [placeI_minus hp] at HI
    have HM : Hid (modI W.insts id (fun x => replyP d W.clock x well) = W.insts) := modI_none hp _
    go_enter Tryz.func91, Tryz.ntmps91
    go_wp2_with (go_at_call 100; refine (HI.out _ (h.view.quiet hqA)).mono ?_; rintro e w1 ⟨rfl, rfl⟩)
    refine bodyPost_ret (v := .tuple #[]) (by simp [results, Tryz.results91, go_sem]) rfl ⟨_, rfl, ?_, Frame.quiet _ hqA⟩
    rw [HM.out]
    exact h.hush hqA
  | some k =>
    rw [placeI_some hp] at HI
    obtain ⟨hk, _, _⟩ := place_inst hp
    have HM : Hid (modI W.insts id (fun x => replyP d W.clock x well) = W.insts.set k (replyP d W.clock W.insts[k] well)) := modI_place hp hk _
    obtain ⟨g, cs, a', n', cap', rfl, hg, hin, hput⟩ := h.inst k hk
    obtain ⟨s0, s1, k0, k1, t0, t1, hll⟩ := hb.insts W.insts[k] (List.getElem_mem hk)
    have hkn : (k : Int) < (n : Int) := by have := h.ilen; omega
    have hki : (0 : Int) ≤ (k : Int) := by omega
    have hv := h.view
    have HPut : Hid (∀ w' y, Makes w0.heap.size w g (k * 12) (Value.slice a' n' cap').ownBlock y w' → PW w0 w' pb po tw pcs ⟨W.clock, W.insts.set k y, W.reqs⟩ (some ⟨g, 0, none⟩) n ic ra m rc ∧ Frame (worldTypes tw) w w') := hput
    clear hput
    generalize W.insts[k] = x at *
    have hA := hin.quiet hqA
    obtain ⟨p0, p1, p2⟩ := (hv.cells.quiet hqA).three
    obtain ⟨c0, c1, c2, c3, c4, c5, c6, c7, c8, c9, c10, c11⟩ := hA.row.at.twelve
    have hzz : w0.heap.size ≤ w.heap.size := h.high.size
    cases well
    · have HR : Hid (replyP d W.clock x false = failP d W.clock x) := rfl
      have HC : Hid (∀ V, Quiet w V → Calls Tryz.prog 109 #[.agg #[.slice da dn dcap, .int .i64 d.quorum, .int .i64 d.expiry], .int .i64 W.clock, .pointer (some ⟨g, k * 12, none⟩)] V fun e w' => ∃ v, e = .returned v ∧ Makes w0.heap.size V g (k * 12) (Value.slice a' n' cap').ownBlock (failP d W.clock x) w') := fun V hV =>
        fail_any w0 V (h.quiet.after hV) _ d hd hdok g (k * 12) cs x a' n' cap' W.clock (hin.quiet hV) hg s0 s1 hc0 (by omega)
      go_enter Tryz.func91, Tryz.ntmps91
      go_wp2_with (go_at_call 100; refine (HI.out _ (hv.quiet hqA)).mono ?_; rintro e w1 ⟨rfl, rfl⟩)
      go_region_with (first | (go_at_call 109; refine (HC.out _ ?_).mono ?_; exact Below.drew hqA; rintro e w4 ⟨v, rfl, hM⟩))
      all_goals (try go_wp2)
      all_goals
        refine bodyPost_ret (v := .tuple #[]) (by simp [results, Tryz.results91, go_sem]) rfl ⟨_, rfl, ?_⟩
        rw [HM.out, HR.out]
        exact HPut.out _ _ (Makes.quiet (Below.drew hqA) hM)
    · cases hm : x.mode == 2
      · have HR : Hid (replyP d W.clock x true = settleP d W.clock x 1 x.key) := by show replyP d W.clock x true = _; simp at hm; unfold replyP; rw [if_neg (by decide), if_neg hm]
        have HC : Hid (∀ V, Quiet w V → Calls Tryz.prog 111 #[.agg #[.slice da dn dcap, .int .i64 d.quorum, .int .i64 d.expiry], .int .i64 W.clock, .pointer (some ⟨g, k * 12, none⟩), .int .i64 1, .int .i64 x.key] V fun e w' => ∃ v, e = .returned v ∧ Makes w0.heap.size V g (k * 12) (Value.slice a' n' cap').ownBlock (settleP d W.clock x 1 x.key) w') := fun V hV =>
          settle_any _ d w0.heap.size V g (k * 12) cs x a' n' cap' W.clock 1 x.key (hd0.quiet hV) (hin.quiet hV) (Nat.le_trans hzz hV.size) s0 s1 hll
        go_enter Tryz.func91, Tryz.ntmps91
        go_wp2_with (go_at_call 100; refine (HI.out _ (hv.quiet hqA)).mono ?_; rintro e w1 ⟨rfl, rfl⟩)
        go_region_with (first | (go_at_call 111; refine (HC.out _ ?_).mono ?_; exact Below.drew hqA; rintro e w4 ⟨v, rfl, hM⟩))
        all_goals (try go_wp2)
        all_goals
          refine bodyPost_end (v := .tuple #[]) (by simp [results, Tryz.results91, go_sem]) rfl ⟨_, rfl, ?_⟩
          rw [HM.out, HR.out]
          exact HPut.out _ _ (Makes.quiet (Below.drew hqA) hM)
      · have HR : Hid (replyP d W.clock x true = takeBackP W.clock x 3 x.key) := by show replyP d W.clock x true = _; simp at hm; unfold replyP; rw [if_neg (by decide), if_pos hm]
        go_enter Tryz.func91, Tryz.ntmps91
        go_wp2_with (go_at_call 100; refine (HI.out _ (hv.quiet hqA)).mono ?_; rintro e w1 ⟨rfl, rfl⟩)
        refine (takeBack_any w0.heap.size _ g (k * 12) cs x a' n' cap' W.clock 3 x.key hA (by simp; omega) s0 s1 hll).mono ?_
        rintro e w4 ⟨v, rfl, hM⟩
        go_wp2
        refine bodyPost_ret (v := .tuple #[]) (by simp [results, Tryz.results91, go_sem]) rfl ⟨_, rfl, ?_⟩
        rw [HM.out, HR.out]
        exact HPut.out _ _ (Makes.quiet hqA hM)

end Go.Proofs.YtgcjlgaapiefiabGreat

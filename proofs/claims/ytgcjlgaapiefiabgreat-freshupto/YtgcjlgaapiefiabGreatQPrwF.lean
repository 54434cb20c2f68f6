import Derived.Test.YtgcjlgaapiefiabGreatQPrwE

/-
  Walks of the program: PICK, carried out.
-/
namespace Go.Proofs.YtgcjlgaapiefiabGreat
open Go.RowKit Go.Sort

theorem modI_place {xs : List Inst} {id : Int} {k : Nat} (h : placeP xs id = some k) (hk : k < xs.length) (f : Inst → Inst) : modI xs id f = xs.set k (f xs[k]) := by
  unfold modI
  rw [h]
  simp only
  apply List.ext_getElem
  · simp
  · intro j h1 h2
    rw [List.getElem_modify, List.getElem_set]
    by_cases e : k = j
    · subst e; simp
    · simp [e]
theorem modI_none {xs : List Inst} {id : Int} (h : placeP xs id = none) (f : Inst → Inst) : modI xs id f = xs := by unfold modI; rw [h]

theorem At.other {w : World} {b o : Nat} {cs : List Value} (h : At w b o cs) {p : Addr} (v : Value) (hb : b ≠ p.block) : At (w.setCell p v) b o cs :=
  fun j u hj => (World.cell?_of_block (Below.heap_setCell w p v b hb)).trans (h j u hj)

set_option maxRecDepth 100000 in
set_option maxHeartbeats 4000000 in
theorem pick_any (w0 : Bas) (w : World) (dv : Value) (d : Def) (hd : DefIs w0 dv d) (hdok : ∀ k, 0 ≤ (stepP d k).timeout ∧ (stepP d k).timeout ≤ 20) (pb po : Nat) (tw : TypeId) (pcs : Array Value) (W : WorldR) (ia : Option Addr) (n ic : Nat) (ra : Option Addr) (m rc : Nat)
    (h : PW w0 w pb po tw pcs W ia n ic ra m rc) (hb : WBd W) (id : Int) :
    Calls Tryz.prog 90 #[dv, .pointer (some ⟨pb, po, none⟩), .int .i64 id] w fun e w' => ∃ v, e = .returned v ∧ PW w0 w' pb po tw pcs ⟨W.clock, modI W.insts id (pickP d W.clock), W.reqs⟩ ia n ic ra m rc ∧ Frame (worldTypes tw) w w' := by
  have hq0 : ∀ o, Quiet w (w.alloc o) := fun o => (Below.refl _ _).alloc (Nat.le_refl _) _
  have hd1 := hd.quiet h.quiet
  have hd0 := hd1
  obtain ⟨da, dn, dcap, rfl, hst⟩ := hd1
  clear hst
  have hqA := hq0 (.cells #[.slice da dn dcap, .int .i64 d.quorum, .int .i64 d.expiry] 24)
  have HI : Hid (∀ w, WView w pb po W ia n ic ra m rc → Calls Tryz.prog 100 #[.pointer (some ⟨pb, po, none⟩), .int .i64 id] w fun e w' => e = .returned (.int .i64 (placeI W.insts id)) ∧ w' = w) := fun w hv => place_any w pb po W ia n ic ra m rc id hv
  obtain ⟨hc0, hc1⟩ := hb.clock
  cases hp : placeP W.insts id with
  | none =>
    rw [placeI_minus hp] at HI
    have HM : Hid (modI W.insts id (pickP d W.clock) = W.insts) := modI_none hp _
    go_enter Tryz.func90, Tryz.ntmps90
    go_wp2_with (go_at_call 100; refine (HI.out _ (h.view.quiet hqA)).mono ?_; rintro e w1 ⟨rfl, rfl⟩)
    refine bodyPost_ret (v := .tuple #[]) (by simp [results, Tryz.results90, go_sem]) rfl ⟨_, rfl, ?_, Frame.quiet _ hqA⟩
    rw [HM.out]
    exact h.hush hqA
  | some k =>
    rw [placeI_some hp] at HI
    obtain ⟨hk, _, _⟩ := place_inst hp
    have HM : Hid (modI W.insts id (pickP d W.clock) = W.insts.set k (pickP d W.clock W.insts[k])) := modI_place hp hk _
    obtain ⟨g, cs, a', n', cap', rfl, hg, hin, hput⟩ := h.inst k hk
    obtain ⟨s0, s1, k0, k1, t0, t1, _⟩ := hb.insts W.insts[k] (List.getElem_mem hk)
    have hkn : (k : Int) < (n : Int) := by have := h.ilen; omega
    have hki : (0 : Int) ≤ (k : Int) := by omega
    have hv := h.view
    have HPut : Hid (∀ w' y, Makes w0.heap.size w g (k * 12) (Value.slice a' n' cap').ownBlock y w' → PW w0 w' pb po tw pcs ⟨W.clock, W.insts.set k y, W.reqs⟩ (some ⟨g, 0, none⟩) n ic ra m rc ∧ Frame (worldTypes tw) w w') := hput
    clear hput
    generalize W.insts[k] = x at *
    have hA := hin.quiet hqA
    obtain ⟨p0, p1, p2⟩ := (hv.cells.quiet hqA).three
    obtain ⟨c0, c1, c2, c3, c4, c5, c6, c7, c8, c9, c10, c11⟩ := hA.row.at.twelve
    have f := hA.row.1.frozen
    have bdA : Blk (w.alloc (.cells #[.slice da dn dcap, .int .i64 d.quorum, .int .i64 d.expiry] 24)) w.heap.size #[.slice da dn dcap, .int .i64 d.quorum, .int .i64 d.expiry] 24 := Blk.new' rfl
    have hgd : w.heap.size ≠ g := hA.row.1.ne bdA (by decide)
    have hgp : pb ≠ g := hin.row.1.ne h.row.1 (Ne.symm h.aside.1)
    obtain ⟨x1, HX1⟩ : ∃ x1 : Inst, Hid (x1 = if x.key = 0 then { x with keys := x.keys + 1, tries := x.tries + 1, key := x.keys + 1 } else x) := ⟨_, rfl⟩
    have HP : Hid (pickP d W.clock x = { x1 with due := W.clock + (stepP d (nextP x)).timeout }) := by
      show pickP d W.clock x = _; rw [HX1.out]; unfold pickP; split <;> rfl
    have hx1s : x1.settled = x.settled := by rw [HX1.out]; split <;> rfl
    have hx1n : nextP x1 = nextP x := by rw [HX1.out]; split <;> rfl
    have HX1S : Hid (x1.settled = x.settled) := hx1s
    have HX1N : Hid (nextP x1 = nextP x) := hx1n
    clear hx1s hx1n
    obtain ⟨hto0, hto1⟩ := hdok (nextP x)
    cases hk0 : x.key == 0
    all_goals
      go_enter Tryz.func90, Tryz.ntmps90
      go_wp2_with (go_at_call 100; refine (HI.out _ (hv.quiet hqA)).mono ?_; rintro e w1 ⟨rfl, rfl⟩)
      refine wp_gen1 (fun V => (∃ cs2, InstIn w0.heap.size V g (k * 12) cs2 x1 a' n' cap') ∧ Blk V w.heap.size #[.slice da dn dcap, .int .i64 d.quorum, .int .i64 d.expiry] 24 ∧ At V pb po [.int .i64 W.clock, .slice (some ⟨g, 0, none⟩) n ic, .slice ra m rc] ∧ Turned w V g (k * 12) 12 (Value.slice a' n' cap').ownBlock) ?_ ?_
      · first
          | exact ⟨⟨cs, by rw [HX1.out, if_neg (by simpa using hk0)]; exact hA⟩, bdA, hv.cells.quiet hqA, Turned.quiet hqA _ _ _ _⟩
          | exact ⟨⟨_, by rw [HX1.out, if_pos (by simpa using hk0)]; exact ((hA.set 6 (.int .i64 (x.keys + 1)) { x with keys := x.keys + 1 } (by omega) rfl rfl).set 9 (.int .i64 (x.tries + 1)) { x with keys := x.keys + 1, tries := x.tries + 1 } (by omega) rfl rfl).set 7 (.int .i64 (x.keys + 1)) { x with keys := x.keys + 1, tries := x.tries + 1, key := x.keys + 1 } (by omega) rfl rfl⟩, ((bdA.other _ hgd).other _ hgd).other _ hgd, (((hv.cells.quiet hqA).other _ hgp).other _ hgp).other _ hgp, (((Turned.quiet hqA _ _ _ _).trans (Turned.set _ 6 _ (by omega)) (.inl rfl)).trans (Turned.set _ 9 _ (by omega)) (.inl rfl)).trans (Turned.set _ 7 _ (by omega)) (.inl rfl)⟩
      clear p0 p1 p2 c0 c1 c2 c3 c4 c5 c6 c7 c8 c9 c10 c11 f bdA
      rintro V ⟨⟨cs2, hI⟩, bd, hrow, hT⟩
      have hd2 := hd.quiet (hT.after h.quiet (Nat.le_trans w0.le hg) (fun k hk => Nat.le_trans w0.le (own_ge hin.own k hk).1))
      have HX : Hid (∀ W, Quiet V W → Calls Tryz.prog 102 #[.pointer (some ⟨g, k * 12, none⟩)] W fun e w' => e = .returned (.int .i64 (nextP x)) ∧ w' = W) := fun W hW => by
        rw [← HX1N.out]; exact nextStep_any g (k * 12) x1 W (hI.at.quiet hW) (by rw [HX1S.out]; omega) (by rw [HX1S.out]; omega)
      have HS : Hid (∀ W, Quiet V W → Calls Tryz.prog 108 #[.agg #[.slice da dn dcap, .int .i64 d.quorum, .int .i64 d.expiry], .int .i64 (nextP x)] W fun e w' => e = .returned (stepP d (nextP x)).val ∧ Quiet W w') := fun W hW => step_any _ d _ W (hd2.quiet hW)
      generalize stepP d (nextP x) = s at *
      have g0 := bd.cell
      have z0 := bd.lt
      go_cut [8] (fun s8 wc => ∃ sb, s8 = .pointer (some ⟨sb, 0, none⟩) ∧ Blk wc sb #[.bool s.undo, .bool s.pivot, .int .i64 s.retries, .int .i64 s.timeout] 41 ∧ Quiet V wc)
      case first =>
        go_region_with (first | (go_at_call 102; refine (HX.out _ ?_).mono ?_; (first | exact Below.drew (Below.refl _ _) | exact Below.drew ((Below.refl _ _).alloc (Nat.le_refl _) _)); rintro e w2 ⟨rfl, rfl⟩) | (go_at_call 108; refine (HS.out _ ?_).mono ?_; (first | exact Below.drew (Below.refl _ _) | exact Below.drew ((Below.refl _ _).alloc (Nat.le_refl _) _)); rintro e w2 ⟨rfl, hq1⟩; have bc1 := (bcell hq1).1; have bf1 := (bcell hq1).2; simp only [Step.val]))
        all_goals (try go_wp2)
        all_goals
          go_meet
          case rel =>
            refine ⟨_, rfl, ?_, ?_⟩
            · first | (with_reducible exact Blk.new' rfl) | exact (Blk.quiet (Blk.drew (Blk.new' rfl)) hq1).four (by simp) _ _ _ _
            · first | (with_reducible exact Below.alloc (Quiet.after (Below.drew (Below.refl _ _)) hq1) (Quiet.after (Below.drew (Below.refl _ _)) hq1).size _) | exact Below.four (Quiet.after (Below.drew ((Below.refl _ _).alloc (Nat.le_refl _) _)) hq1) (Nat.le_refl _) _ _ _ _
      case rest =>
        obtain ⟨sb, rfl, q, hqc⟩ := hcut
        replace hI := hI.quiet hqc
        replace hrow := hrow.quiet hqc
        replace hT : Turned w wc g (k * 12) 12 (Value.slice a' n' cap').ownBlock := hT.trans (Turned.quiet hqc _ _ _ _) (.inl rfl)
        clear g0 z0 hqc HS HX bd
        obtain ⟨p0, p1, p2⟩ := hrow.three
        obtain ⟨c0, c1, c2, c3, c4, c5, c6, c7, c8, c9, c10, c11⟩ := hI.row.at.twelve
        have f := hI.row.1.frozen
        have gq := q.cell
        go_wp2_with fail
        go_region
        all_goals (try go_wp2)
        all_goals
          refine bodyPost_end (v := .tuple #[]) (by simp [results, Tryz.results90, go_sem]) rfl ⟨_, rfl, ?_⟩
          rw [HM.out, HP.out]
          refine HPut.out _ _ ?_
          have hqd : Quiet wc wc.drew := Below.drew (Below.refl _ _)
          exact Makes.of ((hI.quiet hqd).set 8 (.int .i64 (W.clock + s.timeout)) _ (by omega) rfl rfl) ((hT.trans (Turned.quiet hqd _ _ _ _) (.inl rfl)).trans (Turned.set _ 8 _ (by omega)) (.inl rfl)) rfl

end Go.Proofs.YtgcjlgaapiefiabGreat

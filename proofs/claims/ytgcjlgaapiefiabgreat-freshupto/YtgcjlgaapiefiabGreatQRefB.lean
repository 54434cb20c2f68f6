import Derived.Test.YtgcjlgaapiefiabGreatQRefA

/-
  Walks of the document's answer: wrong.
-/
namespace Go.Proofs.YtgcjlgaapiefiabGreat
open Go.RowKit

theorem _root_.Go.RowKit.Below.drewN {B : Nat} {a w : World} (h : Below B a w) {n : Nat} : Below B a (w.drewN n) := by
  induction n with
  | zero => exact h
  | succ n ih => exact ih.drew
theorem Blk.drewN {w : World} {b : Nat} {cs : Array Value} {t : TypeId} (h : Blk w b cs t) {n : Nat} : Blk (w.drewN n) b cs t := h
theorem pauseR_succ (k : Nat) (h : 1 ≤ k) : pauseR ((k : Int) + 1) = 2 * pauseR k := by
  unfold pauseR
  have : ((k : Int) + 1 - 1).toNat = ((k : Int) - 1).toNat + 1 := by omega
  rw [this, Int.pow_succ]; omega
theorem pauseR_bd (k : Int) (h : k ≤ 3) : 1 ≤ pauseR k ∧ pauseR k ≤ 4 := by
  unfold pauseR
  have : (k - 1).toNat = 0 ∨ (k - 1).toNat = 1 ∨ (k - 1).toNat = 2 := by omega
  rcases this with h | h | h <;> rw [h] <;> decide

set_option maxRecDepth 100000 in
set_option maxHeartbeats 2000000 in
theorem wrong_any (dv : Value) (d : Def) (x : Inst) (a : Option Addr) (n cap : Nat) (now : Int) (w : World) (hd : DefIs w dv d) (hE : Ents w (.slice a n cap) x.ledger)
    (hrt : ∀ s ∈ d.steps, s.retries ≤ 3) (hs0 : 0 ≤ atR x) (hs1 : atR x < d.steps.length) (hn0 : 0 ≤ now) (hn1 : now ≤ 10000) :
    Calls Tryz.prog 79 #[dv, x.val (.slice a n cap), .int .i64 now] w fun e w' => e = .returned ((wrongR d x now).val (.slice a n cap)) ∧ Quiet w w' := by
  have hd0 := hd
  obtain ⟨da, dn, dcap, rfl, hst⟩ := hd
  obtain ⟨k, hk⟩ := Int.eq_ofNat_of_zero_le hs0
  have hkl : k < d.steps.length := by omega
  unfold Inst.val
  go_enter Tryz.func79, Tryz.ntmps79
  go_wp2_with fail
  refine calls_gen (fun W => Blk W w.heap.size #[.slice da dn dcap, .int .i64 d.quorum, .int .i64 d.expiry] 24 ∧ Blk W (w.heap.size + 1) #[.int .i64 x.id, .int .i64 x.mode, .bool x.stuck, .int .i64 x.settled, .int .i64 x.target, .bool x.resume, .int .i64 x.keys, .int .i64 0, .int .i64 0, .int .i64 x.tries, .int .i64 x.wake, .slice a n cap] 78 ∧ Blk W (w.heap.size + 1 + 1) #[.int .i64 0, .int .i64 0, .bool false, .int .i64 0, .int .i64 0, .bool false, .int .i64 0, .int .i64 0, .int .i64 0, .int .i64 0, .int .i64 0, .slice none 0 0] 78 ∧ Quiet w W) ⟨?_, ?_, ?_, ?_⟩ ?_
  · repeat (first | (refine Blk.new' ?_; simp; done) | refine Blk.alloc ?_ _)
  · repeat (first | (refine Blk.new' ?_; simp; done) | refine Blk.alloc ?_ _)
  · exact Blk.new' (by simp)
  · exact (((Below.refl _ _).alloc (Nat.le_refl _) _).alloc (by simp) _).alloc (by simp; omega) _
  rintro W ⟨b0, b1, b2, hqW⟩
  refine (at_any { x with key := 0, due := 0 } a n cap _ (hE.quiet hqW)).mono ?_
  rw [show atR { x with key := 0, due := 0 } = (k : Int) from hk]
  rintro e w1 ⟨rfl, hq1⟩
  replace b0 := b0.quiet hq1
  replace b1 := b1.quiet hq1
  replace b2 := b2.quiet hq1
  replace hq1 : Quiet w w1 := hqW.after hq1
  clear hqW W
  have c0 := b0.cell
  have c1 := b1.cell
  go_wp2_with fail
  refine (behind_any _ d _ x.ledger _ (hd0.quiet hq1) (hE.quiet hq1)).mono ?_
  rintro e w2 ⟨rfl, hq2⟩
  replace b0 := b0.quiet hq2
  replace b1 := b1.quiet hq2
  replace b2 := b2.quiet hq2
  replace hq2 : Quiet w w2 := hq1.after hq2
  clear c0 c1 hq1 w1
  have c0 := b0.cell
  have c1 := b1.cell
  have f1 := b1.frozen
  obtain ⟨sb, so, rfl, hsb, s0, s1, s2, s3⟩ := (hst.quiet hq2).step k hkl
  have hdn : k < dn := by have := hst.len.1; simp [stepVals] at this; omega
  have hdm : dn ≤ 9223372036854775807 := hst.len.2
  have hr3 := hrt _ (List.getElem_mem hkl)
  have HR : Hid (stepR d (atR x) = d.steps[k]) := by
    show stepR d (atR x) = _
    rw [hk]; unfold stepR; simp [List.getD, hkl]
  have HW : Hid (wrongR d x now = if x.tries ≤ d.steps[k].retries then { x with key := 0, due := 0, wake := now + pauseR x.tries } else if x.mode = 1 ∧ behindR d x.ledger < 0 then backwardR x 0 false now else { x with key := 0, due := 0, stuck := true }) := by
    show wrongR d x now = _
    unfold wrongR; rw [HR.out]
  clear HR hst hk hs0 hs1 hd0
  revert HW hr3 s0 s1 s2 s3
  generalize d.steps[k] = s
  intro s0 s1 s2 s3 hr3 HW
  by_cases htr : x.tries ≤ s.retries
  · have HW' : Hid (wrongR d x now = { x with key := 0, due := 0, wake := now + pauseR x.tries }) := by have := HW.out; rw [if_pos htr] at this; exact this
    clear HW
    go_wp2_with fail
    go_quiet (fail)
    go_wp2
    go_loopw [9] (fun i wr => ∃ m : Nat, 1 ≤ m ∧ (m : Int) ≤ max 1 x.tries ∧ i = .int .i64 m ∧ Blk wr (w.heap.size + 1) #[.int .i64 x.id, .int .i64 x.mode, .bool x.stuck, .int .i64 x.settled, .int .i64 x.target, .bool x.resume, .int .i64 x.keys, .int .i64 0, .int .i64 0, .int .i64 x.tries, .int .i64 (now + pauseR m), .slice a n cap] 78 ∧
      Blk wr (w.heap.size + 1 + 1) #[.int .i64 0, .int .i64 0, .bool false, .int .i64 0, .int .i64 0, .bool false, .int .i64 0, .int .i64 0, .int .i64 0, .int .i64 0, .int .i64 0, .slice none 0 0] 78 ∧ Quiet w wr) (fun i _ => (x.tries - intOf i).toNat)
    case atStart => exact ⟨1, Nat.le_refl _, by omega, rfl, by simpa [pauseR] using (b1.drewN.set 10 _), b2.drewN.other _ (by simp), Below.setCell hq2.drewN (by show w.heap.size ≤ w.heap.size + 1; omega) _⟩
    case round =>
      obtain ⟨m, hm1, hm2, rfl, g1, g2, hqr⟩ := hrel
      have hpb := pauseR_bd m (by omega)
      have HP : Hid (pauseR ((m : Int) + 1) = 2 * pauseR m) := pauseR_succ m hm1
      clear c0 c1 f1 b0 b1 b2
      have c1 := g1.cell
      have f1 := g1.frozen
      by_cases hlt : (m : Int) < x.tries
      · go_wp2
        go_roundw
        case rel => exact ⟨m + 1, by omega, by omega, by go_num, by have := g1.set 10 (.int .i64 (now + 2 * (now + pauseR m - now))); rw [show ((m + 1 : Nat) : Int) = (m : Int) + 1 by omega, HP.out, show now + 2 * pauseR m = now + 2 * (now + pauseR m - now) by omega]; simpa using this, g2.other _ (by simp), hqr.setCell (by show w.heap.size ≤ w.heap.size + 1; omega) _⟩
        case measure => simp [intOf]; omega
      · have c2 := g2.cell
        have f2 := g2.frozen
        have hmt : pauseR (m : Int) = pauseR x.tries := by
          by_cases e : x.tries ≤ 1
          · have : m = 1 := by omega
            subst this
            unfold pauseR
            rw [show (x.tries - 1).toNat = 0 by omega]; rfl
          · rw [show (m : Int) = x.tries by omega]
        go_wp2
        refine bodyPost_ret (v := Inst.val { x with key := 0, due := 0, wake := now + pauseR x.tries } (.slice a n cap)) (by simp [results, Tryz.results79, go_sem, Inst.val, c2]) rfl ⟨by rw [HW'.out]; rfl, ?_⟩
        exact Below.set12 hqr (by omega) _ _ _ _ _ _ _ _ _ _ _ _
  · have HW' : Hid (wrongR d x now = if x.mode = 1 ∧ behindR d x.ledger < 0 then backwardR x 0 false now else { x with key := 0, due := 0, stuck := true }) := by have := HW.out; rw [if_neg htr] at this; exact this
    clear HW
    go_wp2_with fail
    go_quiet (fail)
    have c2 := b2.cell
    have f2 := b2.frozen
    generalize hbz : behindR d x.ledger = bz at HW'
    have HB : Hid (behindR d x.ledger = bz) := hbz
    cases hm1 : x.mode == 1
    · have HW2 : Hid (wrongR d x now = { x with key := 0, due := 0, stuck := true }) := by
        simp at hm1; have := HW'.out; rw [if_neg (by intro h; exact hm1 h.1)] at this; exact this
      clear HW'
      go_wp2
      refine bodyPost_ret (v := Inst.val { x with key := 0, due := 0, stuck := true } (.slice a n cap)) (by simp [results, Tryz.results79, go_sem, Inst.val, c2]) rfl ⟨by rw [HW2.out]; rfl, ?_⟩
      exact Below.set12 (Below.setCell hq2.drewN (by show w.heap.size ≤ w.heap.size + 1; omega) _) (by omega) _ _ _ _ _ _ _ _ _ _ _ _
    · by_cases hbz : bz < 0
      · have HW2 : Hid (wrongR d x now = backwardR x 0 false now) := by
          simp at hm1; have := HW'.out; rw [if_pos ⟨hm1, hbz⟩] at this; exact this
        clear HW'
        go_wp2_with fail
        refine (backward_any { x with key := 0, due := 0 } a n cap 0 false now _ (hE.quiet hq2.drewN)).mono ?_
        rintro e w3 ⟨rfl, hq3⟩
        replace b1 := b1.drewN.quiet hq3
        replace b2 := b2.drewN.quiet hq3
        replace hq3 : Quiet w w3 := Quiet.after hq2.drewN hq3
        clear c0 c1 f1 c2 f2
        have c1 := b1.cell
        have f1 := b1.frozen
        have c2 := b2.cell
        have f2 := b2.frozen
        rw [show backwardR { x with key := 0, due := 0 } 0 false now = backwardR x 0 false now from rfl]
        generalize hy : backwardR x 0 false now = y
        have HY : Hid (wrongR d x now = y) := HW2.out.trans hy
        clear hy HW2
        simp only [Inst.val]
        go_wp2
        refine bodyPost_ret (v := Inst.val y (.slice a n cap)) (by simp [results, Tryz.results79, go_sem, Inst.val, c2]) rfl ⟨by rw [HY.out]; rfl, ?_⟩
        exact Below.set12 (Below.set12 hq3 (by omega) _ _ _ _ _ _ _ _ _ _ _ _) (by omega) _ _ _ _ _ _ _ _ _ _ _ _
      · have HW2 : Hid (wrongR d x now = { x with key := 0, due := 0, stuck := true }) := by
          have := HW'.out; rw [if_neg (by intro h; exact hbz h.2)] at this; exact this
        clear HW'
        go_wp2
        refine bodyPost_ret (v := Inst.val { x with key := 0, due := 0, stuck := true } (.slice a n cap)) (by simp [results, Tryz.results79, go_sem, Inst.val, c2]) rfl ⟨by rw [HW2.out]; rfl, ?_⟩
        exact Below.set12 (Below.setCell hq2.drewN (by show w.heap.size ≤ w.heap.size + 1; omega) _) (by omega) _ _ _ _ _ _ _ _ _ _ _ _

end Go.Proofs.YtgcjlgaapiefiabGreat

/-
  Walks of the document's answer: done, after.
-/
namespace Go.Proofs.YtgcjlgaapiefiabGreat
open Go.RowKit

def Fact.val (f : Fact) : Value := .agg #[.int .i64 f.kind, .int .i64 f.at_, .int .i64 f.what, .int .i64 f.target, .int .i64 f.ref]

/-- A ledger that the call (which began in w0) owns. -/
structure Led (w0 w : World) (l : List Entry) (a : Option Addr) (n cap : Nat) : Prop where
  own : w.ownsRow w0.heap.size 92 3 (.slice a n cap) n (ents l)
  len : n = l.length
  bound : l.length < 1099511627776

theorem Led.quiet {w0 w w' : World} {l : List Entry} {a : Option Addr} {n cap : Nat} (h : Led w0 w l a n cap) (hq : Quiet w w') : Led w0 w' l a n cap := ⟨own_quiet h.own hq, h.len, h.bound⟩
theorem Led.ents {w0 w : World} {l : List Entry} {a : Option Addr} {n cap : Nat} (h : Led w0 w l a n cap) : Ents w (.slice a n cap) l := own_ents h.own h.len (by have := h.bound; omega)
theorem Led.other {w0 w : World} {l : List Entry} {a : Option Addr} {n cap : Nat} (h : Led w0 w l a n cap) {p : Addr} {cs : Array Value} {t : TypeId} (hb : Blk w p.block cs t) (ht : 92 ≠ t) (v : Value) : Led w0 (w.setCell p v) l a n cap :=
  ⟨ownsRow_setCell_other h.own (own_ne h.own hb ht) v, h.len, h.bound⟩

/-- What a function answers that makes an instance of one: y, its ledger owned; nothing old but the ledger's row has turned. -/
def Gives (w0 w : World) (row : Option Nat) (y : Inst) (e : Ending) (w' : World) : Prop :=
  ∃ a' n' cap', e = .returned (y.val (.slice a' n' cap')) ∧ w'.ownsRow w0.heap.size 92 3 (.slice a' n' cap') n' (ents y.ledger) ∧ n' = y.ledger.length ∧ w.grownBy w' row

theorem own_set12 {w : World} {base : Nat} {e : TypeId} {size : Nat} {v : Value} {n : Nat} {xs : List Value} (h : w.ownsRow base e size v n xs) {b : Nat} {cs : Array Value} {t : TypeId} (hb : Blk w b cs t) (ht : e ≠ t) (v0 v1 v2 v3 v4 v5 v6 v7 v8 v9 v10 v11 : Value) :
    ((((((((((((w.setCell ⟨b, 0, none⟩ v0).setCell ⟨b, 1, none⟩ v1).setCell ⟨b, 2, none⟩ v2).setCell ⟨b, 3, none⟩ v3).setCell ⟨b, 4, none⟩ v4).setCell ⟨b, 5, none⟩ v5).setCell ⟨b, 6, none⟩ v6).setCell ⟨b, 7, none⟩ v7).setCell ⟨b, 8, none⟩ v8).setCell ⟨b, 9, none⟩ v9).setCell ⟨b, 10, none⟩ v10).setCell ⟨b, 11, none⟩ v11).ownsRow base e size v n xs := by
  have hr := own_ne h hb ht
  iterate 12 refine ownsRow_setCell_other ?_ hr _
  exact h

set_option maxRecDepth 100000 in
set_option maxHeartbeats 4000000 in
theorem done_any (w0 w : World) (hq : Quiet w0 w) (dv : Value) (d : Def) (hd : DefIs w0 dv d) (x : Inst) (a : Option Addr) (n cap : Nat) (hl : Led w0 w x.ledger a n cap) (f : Fact) :
    Calls Tryz.prog 80 #[dv, x.val (.slice a n cap), f.val] w fun e w' => Gives w0 w (Value.slice a n cap).ownBlock (doneR d x f) e w' := by
  have hd0 := hd
  obtain ⟨da, dn, dcap, rfl, hst⟩ := hd
  have HR : ∀ y, doneR d x f = y → Hid (doneR d x f = y) := fun _ h => h
  unfold Inst.val Fact.val
  cases h1 : f.what == 1
  · cases h2 : f.what == 2
    · cases h3 : f.what == 3
      · cases h4 : f.what == 4
        · have HY := HR (backwardR x f.target true f.at_) (by simp at h1 h2 h3 h4; unfold doneR; rw [if_neg h1, if_neg h2, if_neg h3, if_neg h4])
          clear HR
          go_enter Tryz.func80, Tryz.ntmps80
          go_wp2_with fail
          refine calls_gen (fun W => Blk W (w.heap.size + 1 + 1 + 1) #[.int .i64 0, .int .i64 0, .bool false, .int .i64 0, .int .i64 0, .bool false, .int .i64 0, .int .i64 0, .int .i64 0, .int .i64 0, .int .i64 0, .slice none 0 0] 78 ∧ Quiet w W) ⟨Blk.new' (by simp), ((((Below.refl _ _).alloc (Nat.le_refl _) _).alloc (by simp) _).alloc (by simp; omega) _).alloc (by simp; omega) _⟩ ?_
          rintro W ⟨b3, hqW⟩
          refine (backward_any x a n cap f.target true f.at_ _ (hl.quiet hqW).ents).mono ?_
          rintro e w3 ⟨rfl, hq3⟩
          replace b3 := b3.quiet hq3
          replace hq3 : Quiet w w3 := hqW.after hq3
          have hl3 := hl.quiet hq3
          clear hqW W
          have c3 := b3.cell
          have f3 := b3.frozen
          have HL : Hid ((backwardR x f.target true f.at_).ledger = x.ledger) := rfl
          generalize backwardR x f.target true f.at_ = y at HY HL
          simp only [Inst.val]
          go_wp2
          refine bodyPost_ret (v := Inst.val y (.slice a n cap)) (by simp [results, Tryz.results80, go_sem, Inst.val, c3]) rfl ⟨a, n, cap, by rw [HY.out], ?_, by rw [HY.out, HL.out]; exact hl.len, ?_⟩
          · rw [HY.out, HL.out]; exact own_set12 hl3.own b3 (by decide) _ _ _ _ _ _ _ _ _ _ _ _
          · exact grown_set12 (grown_of_quiet hq3) (by omega) _ _ _ _ _ _ _ _ _ _ _ _
        · have HY := HR (backwardR x 0 false f.at_) (by simp at h1 h2 h3 h4; unfold doneR; rw [if_neg h1, if_neg h2, if_neg h3, if_pos h4])
          clear HR
          go_enter Tryz.func80, Tryz.ntmps80
          go_wp2_with fail
          refine calls_gen (fun W => Blk W (w.heap.size + 1 + 1 + 1) #[.int .i64 0, .int .i64 0, .bool false, .int .i64 0, .int .i64 0, .bool false, .int .i64 0, .int .i64 0, .int .i64 0, .int .i64 0, .int .i64 0, .slice none 0 0] 78 ∧ Quiet w W) ⟨Blk.new' (by simp), ((((Below.refl _ _).alloc (Nat.le_refl _) _).alloc (by simp) _).alloc (by simp; omega) _).alloc (by simp; omega) _⟩ ?_
          rintro W ⟨b3, hqW⟩
          refine (backward_any x a n cap 0 false f.at_ _ (hl.quiet hqW).ents).mono ?_
          rintro e w3 ⟨rfl, hq3⟩
          replace b3 := b3.quiet hq3
          replace hq3 : Quiet w w3 := hqW.after hq3
          have hl3 := hl.quiet hq3
          clear hqW W
          have c3 := b3.cell
          have f3 := b3.frozen
          have HL : Hid ((backwardR x 0 false f.at_).ledger = x.ledger) := rfl
          generalize backwardR x 0 false f.at_ = y at HY HL
          simp only [Inst.val]
          go_wp2
          refine bodyPost_ret (v := Inst.val y (.slice a n cap)) (by simp [results, Tryz.results80, go_sem, Inst.val, c3]) rfl ⟨a, n, cap, by rw [HY.out], ?_, by rw [HY.out, HL.out]; exact hl.len, ?_⟩
          · rw [HY.out, HL.out]; exact own_set12 hl3.own b3 (by decide) _ _ _ _ _ _ _ _ _ _ _ _
          · exact grown_set12 (grown_of_quiet hq3) (by omega) _ _ _ _ _ _ _ _ _ _ _ _
      · have HY := HR (enteredR d x 4 f.ref f.at_) (by simp at h1 h2 h3; unfold doneR; rw [if_neg h1, if_neg h2, if_pos h3])
        clear HR
        go_enter Tryz.func80, Tryz.ntmps80
        go_wp2_with fail
        refine calls_gen (fun W => Blk W (w.heap.size + 1 + 1 + 1) #[.int .i64 0, .int .i64 0, .bool false, .int .i64 0, .int .i64 0, .bool false, .int .i64 0, .int .i64 0, .int .i64 0, .int .i64 0, .int .i64 0, .slice none 0 0] 78 ∧ Quiet w W) ⟨Blk.new' (by simp), ((((Below.refl _ _).alloc (Nat.le_refl _) _).alloc (by simp) _).alloc (by simp; omega) _).alloc (by simp; omega) _⟩ ?_
        rintro W ⟨b3, hqW⟩
        refine (entered_any w0 _ (hq.after hqW) _ d hd0 x a n cap (own_quiet hl.own hqW) hl.len hl.bound 4 f.ref f.at_).mono ?_
        rintro e w3 ⟨a', n', cap', rfl, hown3, hn3, hg3⟩
        replace b3 := b3.grown hg3 (fun e => by have := (own_ge hl.own _ e.symm).2; omega)
        replace hg3 := grown_trans (grown_of_quiet hqW) hg3
        clear hqW W
        have c3 := b3.cell
        have f3 := b3.frozen
        generalize enteredR d x 4 f.ref f.at_ = y at HY hown3 hn3
        have HN3 : Hid (n' = y.ledger.length) := hn3
        clear hn3
        simp only [Inst.val]
        go_wp2
        refine bodyPost_ret (v := Inst.val y (.slice a' n' cap')) (by simp [results, Tryz.results80, go_sem, Inst.val, c3]) rfl ⟨a', n', cap', by rw [HY.out], ?_, by rw [HY.out]; exact HN3.out, ?_⟩
        · rw [HY.out]; exact own_set12 hown3 b3 (by decide) _ _ _ _ _ _ _ _ _ _ _ _
        · exact grown_set12 hg3 (by omega) _ _ _ _ _ _ _ _ _ _ _ _
    · have HY := HR (enteredR d x 2 f.ref f.at_) (by simp at h1 h2; unfold doneR; rw [if_neg h1, if_pos h2])
      clear HR
      go_enter Tryz.func80, Tryz.ntmps80
      go_wp2_with fail
      refine calls_gen (fun W => Blk W (w.heap.size + 1 + 1 + 1) #[.int .i64 0, .int .i64 0, .bool false, .int .i64 0, .int .i64 0, .bool false, .int .i64 0, .int .i64 0, .int .i64 0, .int .i64 0, .int .i64 0, .slice none 0 0] 78 ∧ Quiet w W) ⟨Blk.new' (by simp), ((((Below.refl _ _).alloc (Nat.le_refl _) _).alloc (by simp) _).alloc (by simp; omega) _).alloc (by simp; omega) _⟩ ?_
      rintro W ⟨b3, hqW⟩
      refine (entered_any w0 _ (hq.after hqW) _ d hd0 x a n cap (own_quiet hl.own hqW) hl.len hl.bound 2 f.ref f.at_).mono ?_
      rintro e w3 ⟨a', n', cap', rfl, hown3, hn3, hg3⟩
      replace b3 := b3.grown hg3 (fun e => by have := (own_ge hl.own _ e.symm).2; omega)
      replace hg3 := grown_trans (grown_of_quiet hqW) hg3
      clear hqW W
      have c3 := b3.cell
      have f3 := b3.frozen
      generalize enteredR d x 2 f.ref f.at_ = y at HY hown3 hn3
      have HN3 : Hid (n' = y.ledger.length) := hn3
      clear hn3
      simp only [Inst.val]
      go_wp2
      refine bodyPost_ret (v := Inst.val y (.slice a' n' cap')) (by simp [results, Tryz.results80, go_sem, Inst.val, c3]) rfl ⟨a', n', cap', by rw [HY.out], ?_, by rw [HY.out]; exact HN3.out, ?_⟩
      · rw [HY.out]; exact own_set12 hown3 b3 (by decide) _ _ _ _ _ _ _ _ _ _ _ _
      · exact grown_set12 hg3 (by omega) _ _ _ _ _ _ _ _ _ _ _ _
  · have HY := HR { x with stuck := false, tries := 0, wake := f.at_ } (by simp at h1; unfold doneR; rw [if_pos h1])
    clear HR
    go_enter Tryz.func80, Tryz.ntmps80
    go_wp2
    refine bodyPost_ret (v := Inst.val { x with stuck := false, tries := 0, wake := f.at_ } (.slice a n cap)) (by simp [results, Tryz.results80, go_sem, Inst.val]) rfl ⟨a, n, cap, by rw [HY.out], ?_, by rw [HY.out]; exact hl.len, ?_⟩
    · rw [HY.out]; exact (((hl.own.alloc _).alloc _).alloc _).alloc _
    · exact grown_of_quiet (((((Below.refl _ _).alloc (Nat.le_refl _) _).alloc (by simp) _).alloc (by simp; omega) _).alloc (by simp; omega) _)

end Go.Proofs.YtgcjlgaapiefiabGreat

/-
  The walk of the document's answer: after.
-/
namespace Go.Proofs.YtgcjlgaapiefiabGreat
open Go.RowKit

theorem grown_drew {w w1 : World} {row : Option Nat} (h : w.grownBy w1 row) : w.grownBy w1.drew row := ⟨h.os, h.tape, h.output, h.size, h.block⟩

/-- What a definition that is one says of its steps. -/
def StepsOk (d : Def) : Prop := ∀ s ∈ d.steps, 0 ≤ s.retries ∧ s.retries ≤ 3 ∧ 1 ≤ s.timeout ∧ s.timeout ≤ 20
theorem stepsOk_of (d : Def) (h : d.ok = true) : StepsOk d := by
  intro s hs
  simp only [Def.ok, stepsOk, Bool.and_eq_true, List.all_eq_true] at h
  have := h.2.2.2.1 s hs
  simp only [Step.ok, within, Bool.and_eq_true, decide_eq_true_eq] at this
  omega

/-- The next step is one of the definition's. -/
def InSteps (d : Def) (x : Inst) : Prop := 0 ≤ atR x ∧ atR x < d.steps.length

theorem stepR_at {d : Def} {x : Inst} (h : InSteps d x) : ∃ k : Nat, ∃ hk : k < d.steps.length, atR x = k ∧ stepR d (atR x) = d.steps[k] := by
  obtain ⟨k, hk⟩ := Int.eq_ofNat_of_zero_le h.1
  have hkl : k < d.steps.length := by have := h.2; omega
  exact ⟨k, hkl, hk, by rw [hk]; unfold stepR; simp [List.getD, hkl]⟩

set_option maxRecDepth 100000 in
set_option maxHeartbeats 1000000 in
theorem after_again (w0 w : World) (hq : Quiet w0 w) (dv : Value) (d : Def) (hd : DefIs w0 dv d) (hok : StepsOk d) (x : Inst) (a : Option Addr) (n cap : Nat) (hl : Led w0 w x.ledger a n cap) (f : Fact)
    (h1 : (f.kind == 1) = true) (hin : InSteps d x) (hf0 : 0 ≤ f.at_) (hf1 : f.at_ ≤ 10000) (hke : (x.key == 0) = false) :
    Calls Tryz.prog 62 #[dv, x.val (.slice a n cap), f.val] w fun e w' => Gives w0 w (Value.slice a n cap).ownBlock (afterR d x f) e w' := by
  obtain ⟨da, dn, dcap, rfl, hst⟩ := hd
  have HY : Hid (afterR d x f = pickedR d x f.at_) := by show afterR d x f = _; simp at h1; unfold afterR; rw [if_pos h1]
  obtain ⟨k, hkl, hk, hsr⟩ := stepR_at hin
  obtain ⟨r0, r1, r2, r3⟩ := hok _ (List.getElem_mem hkl)
  have hdn : k < dn := by have := hst.len.1; simp [stepVals] at this; omega
  have hdm : dn ≤ 9223372036854775807 := hst.len.2
  clear hin
  unfold Inst.val Fact.val
  have HY2 : Hid (afterR d x f = { x with due := f.at_ + d.steps[k].timeout }) := by
    show afterR d x f = _
    rw [HY.out]; simp at hke; unfold pickedR; rw [if_neg hke, hsr]
  clear HY hsr
  go_enter Tryz.func62, Tryz.ntmps62
  go_wp2_with fail
  refine calls_gen (fun W => Blk W w.heap.size #[.slice da dn dcap, .int .i64 d.quorum, .int .i64 d.expiry] 24 ∧ Blk W (w.heap.size + 1) #[.int .i64 x.id, .int .i64 x.mode, .bool x.stuck, .int .i64 x.settled, .int .i64 x.target, .bool x.resume, .int .i64 x.keys, .int .i64 x.key, .int .i64 x.due, .int .i64 x.tries, .int .i64 x.wake, .slice a n cap] 78 ∧ Blk W (w.heap.size + 1 + 1) #[.int .i64 f.kind, .int .i64 f.at_, .int .i64 f.what, .int .i64 f.target, .int .i64 f.ref] 118 ∧ Blk W (w.heap.size + 1 + 1 + 1) #[.int .i64 0, .int .i64 0, .bool false, .int .i64 0, .int .i64 0, .bool false, .int .i64 0, .int .i64 0, .int .i64 0, .int .i64 0, .int .i64 0, .slice none 0 0] 78 ∧ Quiet w W) ⟨?_, ?_, ?_, Blk.new' (by simp), ((((Below.refl _ _).alloc (Nat.le_refl _) _).alloc (by simp) _).alloc (by simp; omega) _).alloc (by simp; omega) _⟩ ?_
  · repeat (first | (refine Blk.new' ?_; simp; done) | refine Blk.alloc ?_ _)
  · repeat (first | (refine Blk.new' ?_; simp; done) | refine Blk.alloc ?_ _)
  · repeat (first | (refine Blk.new' ?_; simp; done) | refine Blk.alloc ?_ _)
  rintro W ⟨b0, b1, b2, b3, hqW⟩
  refine (at_any x a n cap _ (hl.quiet hqW).ents).mono ?_
  rw [hk]
  rintro e w3 ⟨rfl, hq3⟩
  replace b0 := b0.quiet hq3
  replace b1 := b1.quiet hq3
  replace b2 := b2.quiet hq3
  replace b3 := b3.quiet hq3
  replace hq3 : Quiet w w3 := hqW.after hq3
  have hl3 := hl.quiet hq3
  clear hqW W
  have c0 := b0.cell
  have c1 := b1.cell
  have c2 := b2.cell
  have c3 := b3.cell
  have f1 := b1.frozen
  have f3 := b3.frozen
  obtain ⟨sb, so, rfl, hsb, s0, s1, s2, s3⟩ := (hst.quiet (hq.after hq3)).step k hkl
  revert s0 s1 s2 s3 r0 r1 r2 r3 HY2
  generalize d.steps[k] = s
  intro r0 r1 r2 r3 HY2 s0 s1 s2 s3
  go_wp2_with fail
  go_region
  go_wp2
  have hr1 := own_ne hl3.own b1 (by decide)
  refine bodyPost_ret (v := Inst.val { x with due := f.at_ + s.timeout } (.slice a n cap)) (by simp [results, Tryz.results62, go_sem, Inst.val, c3]) rfl ⟨a, n, cap, by rw [HY2.out], ?_, by rw [HY2.out]; exact hl.len, ?_⟩
  · rw [HY2.out]
    exact World.ownsRow.drew (own_set12 (ownsRow_setCell_other hl3.own hr1 _) (b3.other _ (by show w.heap.size + 1 + 1 + 1 ≠ w.heap.size + 1; omega)) (by decide) _ _ _ _ _ _ _ _ _ _ _ _)
  · exact grown_drew (grown_set12 (grown_set (grown_of_quiet hq3) (by show w.heap.size ≤ w.heap.size + 1; omega) _) (by omega) _ _ _ _ _ _ _ _ _ _ _ _)

set_option maxRecDepth 100000 in
set_option maxHeartbeats 1000000 in
theorem after_pick (w0 w : World) (hq : Quiet w0 w) (dv : Value) (d : Def) (hd : DefIs w0 dv d) (hok : StepsOk d) (x : Inst) (a : Option Addr) (n cap : Nat) (hl : Led w0 w x.ledger a n cap) (f : Fact)
    (h1 : (f.kind == 1) = true) (hin : InSteps d x) (hf0 : 0 ≤ f.at_) (hf1 : f.at_ ≤ 10000) (hk0 : 0 ≤ x.keys) (hk1 : x.keys ≤ 2199023255552) (ht0 : 0 ≤ x.tries) (ht1 : x.tries ≤ 2199023255552) (hke : (x.key == 0) = true) :
    Calls Tryz.prog 62 #[dv, x.val (.slice a n cap), f.val] w fun e w' => Gives w0 w (Value.slice a n cap).ownBlock (afterR d x f) e w' := by
  obtain ⟨da, dn, dcap, rfl, hst⟩ := hd
  have HY : Hid (afterR d x f = pickedR d x f.at_) := by show afterR d x f = _; simp at h1; unfold afterR; rw [if_pos h1]
  obtain ⟨k, hkl, hk, hsr⟩ := stepR_at hin
  obtain ⟨r0, r1, r2, r3⟩ := hok _ (List.getElem_mem hkl)
  have hdn : k < dn := by have := hst.len.1; simp [stepVals] at this; omega
  have hdm : dn ≤ 9223372036854775807 := hst.len.2
  clear hin
  unfold Inst.val Fact.val
  have HY2 : Hid (afterR d x f = { x with keys := x.keys + 1, tries := x.tries + 1, key := x.keys + 1, due := f.at_ + d.steps[k].timeout }) := by
    show afterR d x f = _
    rw [HY.out]; simp at hke; unfold pickedR; rw [if_pos hke, hsr]
  clear HY hsr
  go_enter Tryz.func62, Tryz.ntmps62
  go_wp2_with fail
  refine calls_gen (fun W => Blk W w.heap.size #[.slice da dn dcap, .int .i64 d.quorum, .int .i64 d.expiry] 24 ∧ Blk W (w.heap.size + 1) #[.int .i64 x.id, .int .i64 x.mode, .bool x.stuck, .int .i64 x.settled, .int .i64 x.target, .bool x.resume, .int .i64 (x.keys + 1), .int .i64 (x.keys + 1), .int .i64 x.due, .int .i64 (x.tries + 1), .int .i64 x.wake, .slice a n cap] 78 ∧ Blk W (w.heap.size + 1 + 1) #[.int .i64 f.kind, .int .i64 f.at_, .int .i64 f.what, .int .i64 f.target, .int .i64 f.ref] 118 ∧ Blk W (w.heap.size + 1 + 1 + 1) #[.int .i64 0, .int .i64 0, .bool false, .int .i64 0, .int .i64 0, .bool false, .int .i64 0, .int .i64 0, .int .i64 0, .int .i64 0, .int .i64 0, .slice none 0 0] 78 ∧ Quiet w W) ⟨?_, ?_, ?_, Blk.new' (by simp), ((((Below.refl _ _).alloc (Nat.le_refl _) _).alloc (by simp) _).alloc (by simp; omega) _).alloc (by simp; omega) _⟩ ?_
  · repeat (first | (refine Blk.new' ?_; simp; done) | refine Blk.alloc ?_ _)
  · repeat (first | (refine Blk.new' ?_; simp; done) | refine Blk.alloc ?_ _)
  · repeat (first | (refine Blk.new' ?_; simp; done) | refine Blk.alloc ?_ _)
  rintro W ⟨b0, b1, b2, b3, hqW⟩
  refine (at_any { x with keys := x.keys + 1, tries := x.tries + 1, key := x.keys + 1 } a n cap _ (hl.quiet hqW).ents).mono ?_
  rw [show atR { x with keys := x.keys + 1, tries := x.tries + 1, key := x.keys + 1 } = (k : Int) from hk]
  rintro e w3 ⟨rfl, hq3⟩
  replace b0 := b0.quiet hq3
  replace b1 := b1.quiet hq3
  replace b2 := b2.quiet hq3
  replace b3 := b3.quiet hq3
  replace hq3 : Quiet w w3 := hqW.after hq3
  have hl3 := hl.quiet hq3
  clear hqW W
  have c0 := b0.cell
  have c1 := b1.cell
  have c2 := b2.cell
  have c3 := b3.cell
  have f1 := b1.frozen
  have f3 := b3.frozen
  obtain ⟨sb, so, rfl, hsb, s0, s1, s2, s3⟩ := (hst.quiet (hq.after hq3)).step k hkl
  revert s0 s1 s2 s3 r0 r1 r2 r3 HY2
  generalize d.steps[k] = s
  intro r0 r1 r2 r3 HY2 s0 s1 s2 s3
  go_wp2_with fail
  go_region
  go_wp2
  have hr1 := own_ne hl3.own b1 (by decide)
  refine bodyPost_ret (v := Inst.val { x with keys := x.keys + 1, tries := x.tries + 1, key := x.keys + 1, due := f.at_ + s.timeout } (.slice a n cap)) (by simp [results, Tryz.results62, go_sem, Inst.val, c3]) rfl ⟨a, n, cap, by rw [HY2.out], ?_, by rw [HY2.out]; exact hl.len, ?_⟩
  · rw [HY2.out]
    exact World.ownsRow.drew (own_set12 (ownsRow_setCell_other hl3.own hr1 _) (b3.other _ (by show w.heap.size + 1 + 1 + 1 ≠ w.heap.size + 1; omega)) (by decide) _ _ _ _ _ _ _ _ _ _ _ _)
  · exact grown_drew (grown_set12 (grown_set (grown_of_quiet hq3) (by show w.heap.size ≤ w.heap.size + 1; omega) _) (by omega) _ _ _ _ _ _ _ _ _ _ _ _)

set_option maxRecDepth 100000 in
set_option maxHeartbeats 4000000 in
theorem after_any (w0 w : World) (hq : Quiet w0 w) (dv : Value) (d : Def) (hd : DefIs w0 dv d) (hok : StepsOk d) (x : Inst) (a : Option Addr) (n cap : Nat) (hl : Led w0 w x.ledger a n cap) (f : Fact)
    (hin : f.kind = 1 ∨ f.kind = 3 → InSteps d x) (hf0 : 0 ≤ f.at_) (hf1 : f.at_ ≤ 10000) (hk0 : 0 ≤ x.keys) (hk1 : x.keys ≤ 2199023255552) (ht0 : 0 ≤ x.tries) (ht1 : x.tries ≤ 2199023255552) :
    Calls Tryz.prog 62 #[dv, x.val (.slice a n cap), f.val] w fun e w' => Gives w0 w (Value.slice a n cap).ownBlock (afterR d x f) e w' := by
  by_cases h0 : f.kind = 1
  · have h0' : (f.kind == 1) = true := by simpa using h0
    cases hke : x.key == 0
    · exact after_again w0 w hq dv d hd hok x a n cap hl f h0' (hin (.inl h0)) hf0 hf1 hke
    · exact after_pick w0 w hq dv d hd hok x a n cap hl f h0' (hin (.inl h0)) hf0 hf1 hk0 hk1 ht0 ht1 hke
  have hd0 := hd
  obtain ⟨da, dn, dcap, rfl, hst⟩ := hd
  have HR : ∀ y, afterR d x f = y → Hid (afterR d x f = y) := fun _ h => h
  unfold Inst.val
  have h1 : (f.kind == 1) = false := by simpa using h0
  clear h0 hk0 hk1 ht0 ht1
  · cases h2 : f.kind == 2
    · cases h3 : f.kind == 3
      · have HY := HR (doneR d x f) (by simp at h1 h2 h3; unfold afterR; rw [if_neg h1, if_neg h2, if_neg h3])
        clear HR hin
        unfold Fact.val
        go_enter Tryz.func62, Tryz.ntmps62
        go_wp2_with fail
        refine calls_gen (fun W => Blk W (w.heap.size + 1 + 1 + 1) #[.int .i64 0, .int .i64 0, .bool false, .int .i64 0, .int .i64 0, .bool false, .int .i64 0, .int .i64 0, .int .i64 0, .int .i64 0, .int .i64 0, .slice none 0 0] 78 ∧ Quiet w W) ⟨Blk.new' (by simp), ((((Below.refl _ _).alloc (Nat.le_refl _) _).alloc (by simp) _).alloc (by simp; omega) _).alloc (by simp; omega) _⟩ ?_
        rintro W ⟨b3, hqW⟩
        refine (done_any w0 _ (hq.after hqW) _ d hd0 x a n cap (hl.quiet hqW) f).mono ?_
        rintro e w3 ⟨a', n', cap', rfl, hown3, hn3, hg3⟩
        replace b3 := b3.grown hg3 (fun e => by have := (own_ge hl.own _ e.symm).2; omega)
        replace hg3 := grown_trans (grown_of_quiet hqW) hg3
        clear hqW W
        have c3 := b3.cell
        have f3 := b3.frozen
        generalize doneR d x f = y at HY hown3 hn3
        have HN3 : Hid (n' = y.ledger.length) := hn3
        clear hn3
        simp only [Inst.val]
        go_wp2
        refine bodyPost_ret (v := Inst.val y (.slice a' n' cap')) (by simp [results, Tryz.results62, go_sem, Inst.val, c3]) rfl ⟨a', n', cap', by rw [HY.out], ?_, by rw [HY.out]; exact HN3.out, ?_⟩
        · rw [HY.out]; exact own_set12 hown3 b3 (by decide) _ _ _ _ _ _ _ _ _ _ _ _
        · exact grown_set12 hg3 (by omega) _ _ _ _ _ _ _ _ _ _ _ _
      · have HY := HR (wrongR d x f.at_) (by simp at h1 h2 h3; unfold afterR; rw [if_neg h1, if_neg h2, if_pos h3])
        obtain ⟨g1, g2⟩ := hin (.inr (by simpa using h3))
        clear HR hin
        unfold Fact.val
        go_enter Tryz.func62, Tryz.ntmps62
        go_wp2_with fail
        refine calls_gen (fun W => Blk W (w.heap.size + 1 + 1 + 1) #[.int .i64 0, .int .i64 0, .bool false, .int .i64 0, .int .i64 0, .bool false, .int .i64 0, .int .i64 0, .int .i64 0, .int .i64 0, .int .i64 0, .slice none 0 0] 78 ∧ Quiet w W) ⟨Blk.new' (by simp), ((((Below.refl _ _).alloc (Nat.le_refl _) _).alloc (by simp) _).alloc (by simp; omega) _).alloc (by simp; omega) _⟩ ?_
        rintro W ⟨b3, hqW⟩
        refine (wrong_any _ d x a n cap f.at_ _ (hd0.quiet (hq.after hqW)) (hl.quiet hqW).ents (fun s hs => (hok s hs).2.1) g1 g2 hf0 hf1).mono ?_
        rintro e w3 ⟨rfl, hq3⟩
        replace b3 := b3.quiet hq3
        replace hq3 : Quiet w w3 := hqW.after hq3
        have hl3 := hl.quiet hq3
        clear hqW W
        have c3 := b3.cell
        have f3 := b3.frozen
        have hle : (wrongR d x f.at_).ledger = x.ledger := by unfold wrongR; split; rfl; split; exact backwardR_ledger ..; rfl
        have HL : Hid ((wrongR d x f.at_).ledger = x.ledger) := hle
        clear hle
        generalize wrongR d x f.at_ = y at HY HL
        simp only [Inst.val]
        go_wp2
        refine bodyPost_ret (v := Inst.val y (.slice a n cap)) (by simp [results, Tryz.results62, go_sem, Inst.val, c3]) rfl ⟨a, n, cap, by rw [HY.out], ?_, by rw [HY.out, HL.out]; exact hl.len, ?_⟩
        · rw [HY.out, HL.out]; exact own_set12 hl3.own b3 (by decide) _ _ _ _ _ _ _ _ _ _ _ _
        · exact grown_set12 (grown_of_quiet hq3) (by omega) _ _ _ _ _ _ _ _ _ _ _ _
    · cases hm : x.mode == 1
      · have HY := HR (enteredR d x 3 x.key f.at_) (by simp at h1 h2 hm; unfold afterR; rw [if_neg h1, if_pos h2, if_neg hm])
        clear HR hin
        unfold Fact.val
        go_enter Tryz.func62, Tryz.ntmps62
        go_wp2_with fail
        refine calls_gen (fun W => Blk W (w.heap.size + 1 + 1 + 1) #[.int .i64 0, .int .i64 0, .bool false, .int .i64 0, .int .i64 0, .bool false, .int .i64 0, .int .i64 0, .int .i64 0, .int .i64 0, .int .i64 0, .slice none 0 0] 78 ∧ Quiet w W) ⟨Blk.new' (by simp), ((((Below.refl _ _).alloc (Nat.le_refl _) _).alloc (by simp) _).alloc (by simp; omega) _).alloc (by simp; omega) _⟩ ?_
        rintro W ⟨b3, hqW⟩
        refine (entered_any w0 _ (hq.after hqW) _ d hd0 x a n cap (own_quiet hl.own hqW) hl.len hl.bound 3 x.key f.at_).mono ?_
        rintro e w3 ⟨a', n', cap', rfl, hown3, hn3, hg3⟩
        replace b3 := b3.grown hg3 (fun e => by have := (own_ge hl.own _ e.symm).2; omega)
        replace hg3 := grown_trans (grown_of_quiet hqW) hg3
        clear hqW W
        have c3 := b3.cell
        have f3 := b3.frozen
        generalize enteredR d x 3 x.key f.at_ = y at HY hown3 hn3
        have HN3 : Hid (n' = y.ledger.length) := hn3
        clear hn3
        simp only [Inst.val]
        go_wp2
        refine bodyPost_ret (v := Inst.val y (.slice a' n' cap')) (by simp [results, Tryz.results62, go_sem, Inst.val, c3]) rfl ⟨a', n', cap', by rw [HY.out], ?_, by rw [HY.out]; exact HN3.out, ?_⟩
        · rw [HY.out]; exact own_set12 hown3 b3 (by decide) _ _ _ _ _ _ _ _ _ _ _ _
        · exact grown_set12 hg3 (by omega) _ _ _ _ _ _ _ _ _ _ _ _
      · have HY := HR (enteredR d x 1 x.key f.at_) (by simp at h1 h2 hm; unfold afterR; rw [if_neg h1, if_pos h2, if_pos hm])
        clear HR hin
        unfold Fact.val
        go_enter Tryz.func62, Tryz.ntmps62
        go_wp2_with fail
        refine calls_gen (fun W => Blk W (w.heap.size + 1 + 1 + 1) #[.int .i64 0, .int .i64 0, .bool false, .int .i64 0, .int .i64 0, .bool false, .int .i64 0, .int .i64 0, .int .i64 0, .int .i64 0, .int .i64 0, .slice none 0 0] 78 ∧ Quiet w W) ⟨Blk.new' (by simp), ((((Below.refl _ _).alloc (Nat.le_refl _) _).alloc (by simp) _).alloc (by simp; omega) _).alloc (by simp; omega) _⟩ ?_
        rintro W ⟨b3, hqW⟩
        refine (entered_any w0 _ (hq.after hqW) _ d hd0 x a n cap (own_quiet hl.own hqW) hl.len hl.bound 1 x.key f.at_).mono ?_
        rintro e w3 ⟨a', n', cap', rfl, hown3, hn3, hg3⟩
        replace b3 := b3.grown hg3 (fun e => by have := (own_ge hl.own _ e.symm).2; omega)
        replace hg3 := grown_trans (grown_of_quiet hqW) hg3
        clear hqW W
        have c3 := b3.cell
        have f3 := b3.frozen
        generalize enteredR d x 1 x.key f.at_ = y at HY hown3 hn3
        have HN3 : Hid (n' = y.ledger.length) := hn3
        clear hn3
        simp only [Inst.val]
        go_wp2
        refine bodyPost_ret (v := Inst.val y (.slice a' n' cap')) (by simp [results, Tryz.results62, go_sem, Inst.val, c3]) rfl ⟨a', n', cap', by rw [HY.out], ?_, by rw [HY.out]; exact HN3.out, ?_⟩
        · rw [HY.out]; exact own_set12 hown3 b3 (by decide) _ _ _ _ _ _ _ _ _ _ _ _
        · exact grown_set12 hg3 (by omega) _ _ _ _ _ _ _ _ _ _ _ _

end Go.Proofs.YtgcjlgaapiefiabGreat

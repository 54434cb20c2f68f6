import Derived.Test.YtgcjlgaapiefiabGreatQPrwH
import Derived.Test.YtgcjlgaapiefiabGreatQAnsA

/-
  Walks of the program: the codes of APPROVE and WITHDRAW.
-/
namespace Go.Proofs.YtgcjlgaapiefiabGreat
open Go.RowKit Go.Sort

set_option maxRecDepth 100000 in
set_option maxHeartbeats 1000000 in
theorem withdrawCode_any (w : World) (pb po : Nat) (W : WorldR) (ia : Option Addr) (n ic : Nat) (ra : Option Addr) (m rc : Nat) (a who : Int) (hv : WView w pb po W ia n ic ra m rc) :
    Calls Tryz.prog 88 #[.pointer (some ⟨pb, po, none⟩), .int .i64 a, .int .i64 who] w fun e w' => e = .returned (.int .i64 (withdrawCodeP W a who)) ∧ Quiet w w' := by
  cases ho : openP W a with
  | none =>
    have HO : Hid (Calls Tryz.prog 105 #[.pointer (some ⟨pb, po, none⟩), .int .i64 a] w fun e w' => e = .returned (.int .i64 (-1)) ∧ Quiet w w') := by
      have := openPlace_any w pb po W ia n ic ra m rc a hv
      rw [openI_none ho] at this
      exact this
    have HT : Hid (withdrawCodeP W a who = 15) := by show withdrawCodeP W a who = _; unfold withdrawCodeP; rw [ho]
    go_enter Tryz.func88, Tryz.ntmps88
    go_wp2_with (go_at_call 105; refine HO.out.mono ?_; rintro e w1 ⟨rfl, hq1⟩)
    go_ret
    exact ⟨ret_int HT.out.symm, hq1⟩
  | some r =>
    obtain ⟨ha1, hk, hr, _⟩ := open_get ho
    obtain ⟨k, hka⟩ : ∃ k : Nat, a = (k : Int) + 1 := ⟨(a - 1).toNat, by omega⟩
    subst hka
    have hkt : ((k : Int) + 1 - 1).toNat = k := by omega
    simp only [hkt] at hk hr
    have HO : Hid (Calls Tryz.prog 105 #[.pointer (some ⟨pb, po, none⟩), .int .i64 ((k : Int) + 1)] w fun e w' => e = .returned (.int .i64 k) ∧ Quiet w w') := by
      have := openPlace_any w pb po W ia n ic ra m rc ((k : Int) + 1) hv
      rw [openI_some ho, show (k : Int) + 1 - 1 = k by omega] at this
      exact this
    have hkm : (k : Int) < (m : Int) := by have := hv.reqs.len.1; omega
    have hki : (0 : Int) ≤ (k : Int) := by omega
    have HT : Hid (withdrawCodeP W ((k : Int) + 1) who = if who ≠ r.who then 13 else 0) := by show withdrawCodeP W _ who = _; unfold withdrawCodeP; rw [ho]
    cases hw : who != r.who
    · have HT2 : Hid (withdrawCodeP W ((k : Int) + 1) who = 0) := by show withdrawCodeP W _ who = _; simp at hw; rw [HT.out, if_neg (fun q => q hw)]
      go_enter Tryz.func88, Tryz.ntmps88
      go_wp2_with fail
      refine HO.out.mono ?_
      rintro e w1 ⟨rfl, hq1⟩
      obtain ⟨b, off, rfl, hb, ba, bn, bc, hx, _⟩ := (hv.quiet hq1).reqs.get k hk
      rw [hr] at hx
      obtain ⟨c0, c1, c2, c3, c4, c5, c6, c7, c8⟩ := hx.nine9
      obtain ⟨p0, p1, p2⟩ := (hv.quiet hq1).cells.three
      go_wp2
      go_ret
      exact ⟨ret_int HT2.out.symm, hq1⟩
    · have HT2 : Hid (withdrawCodeP W ((k : Int) + 1) who = 13) := by show withdrawCodeP W _ who = _; simp at hw; rw [HT.out, if_pos hw]
      go_enter Tryz.func88, Tryz.ntmps88
      go_wp2_with fail
      refine HO.out.mono ?_
      rintro e w1 ⟨rfl, hq1⟩
      obtain ⟨b, off, rfl, hb, ba, bn, bc, hx, _⟩ := (hv.quiet hq1).reqs.get k hk
      rw [hr] at hx
      obtain ⟨c0, c1, c2, c3, c4, c5, c6, c7, c8⟩ := hx.nine9
      obtain ⟨p0, p1, p2⟩ := (hv.quiet hq1).cells.three
      go_wp2
      go_ret
      exact ⟨ret_int HT2.out.symm, hq1⟩

set_option maxRecDepth 100000 in
set_option maxHeartbeats 2000000 in
theorem canGrant_any (dv : Value) (d : Def) (w : World) (hd : DefIs w dv d) (pb po : Nat) (W : WorldR) (ia : Option Addr) (n ic : Nat) (ra : Option Addr) (m rc : Nat) (rb ro : Nat) (r : Req) (hr : ReqAt w rb ro r) (hv : WView w pb po W ia n ic ra m rc) :
    Calls Tryz.prog 107 #[dv, .pointer (some ⟨pb, po, none⟩), .pointer (some ⟨rb, ro, none⟩)] w fun e w' => e = .returned (.bool (canGrantP d W r)) ∧ Quiet w w' := by
  have hq0 : ∀ o, Quiet w (w.alloc o) := fun o => (Below.refl _ _).alloc (Nat.le_refl _) _
  have hd0 := hd
  obtain ⟨da, dn, dcap, rfl, hst⟩ := hd
  clear hst
  have hqA := hq0 (.cells #[.slice da dn dcap, .int .i64 d.quorum, .int .i64 d.expiry] 24)
  have bdA : Blk (w.alloc (.cells #[.slice da dn dcap, .int .i64 d.quorum, .int .i64 d.expiry] 24)) w.heap.size #[.slice da dn dcap, .int .i64 d.quorum, .int .i64 d.expiry] 24 := Blk.new' rfl
  obtain ⟨ba, bn, bc, hx, _⟩ := hr.quiet hqA
  obtain ⟨r0, r1, r2, r3, r4, r5, r6, r7, r8⟩ := hx.nine9
  have HI : Hid (∀ w, WView w pb po W ia n ic ra m rc → Calls Tryz.prog 100 #[.pointer (some ⟨pb, po, none⟩), .int .i64 r.inst] w fun e w' => e = .returned (.int .i64 (placeI W.insts r.inst)) ∧ w' = w) := fun w hv => place_any w pb po W ia n ic ra m rc r.inst hv
  cases hp : placeP W.insts r.inst with
  | none =>
    rw [placeI_minus hp] at HI
    have HT : Hid (canGrantP d W r = false) := by show canGrantP d W r = _; unfold canGrantP; rw [place_none hp]
    go_enter Tryz.func107, Tryz.ntmps107
    go_wp2_with (go_at_call 100; refine (HI.out _ (hv.quiet hqA)).mono ?_; rintro e w1 ⟨rfl, rfl⟩)
    go_ret
    exact ⟨ret_bool HT.out.symm, hqA⟩
  | some k =>
    rw [placeI_some hp] at HI
    obtain ⟨hk, hin, _⟩ := place_inst hp
    have HT : Hid (canGrantP d W r = canP d W.insts[k] r.what r.target) := by show canGrantP d W r = _; unfold canGrantP; rw [hin]
    have hvA := hv.quiet hqA
    obtain ⟨b, off, rfl, hbz, hxi⟩ := hvA.insts.get k hk
    have hkn : (k : Int) < (n : Int) := by have := hv.insts.len.1; omega
    have hki : (0 : Int) ≤ (k : Int) := by omega
    generalize W.insts[k] = x at *
    obtain ⟨p0, p1, p2⟩ := hvA.cells.three
    have HC : Hid (∀ dd os, Calls Tryz.prog 117 #[.agg #[.slice da dn dcap, .int .i64 d.quorum, .int .i64 d.expiry], .pointer (some ⟨b, off + k * 12, none⟩), .int .i64 r.what, .int .i64 r.target] (grow (redrawn (w.alloc (.cells #[.slice da dn dcap, .int .i64 d.quorum, .int .i64 d.expiry] 24)) dd) os) fun e w'' => e = .returned (.bool (canP d x r.what r.target)) ∧ ∃ p : Regrown, w'' = grow (redrawn (w.alloc (.cells #[.slice da dn dcap, .int .i64 d.quorum, .int .i64 d.expiry] 24)) p.d) p.os) := fun dd os =>
      Calls.regrown_of (canAskFor_any _ d b (off + k * 12) x r.what r.target _ ((hd0.quiet hqA).quiet (below_regrown _ dd os)) (hxi.quiet (below_regrown _ dd os)))
    have x0 := fun dd os => (At.quiet hvA.cells (below_regrown _ dd os)) 0 _ rfl
    have x1 := fun dd os => (At.quiet hvA.cells (below_regrown _ dd os)) 1 _ rfl
    have y2 := fun dd os => (At.quiet hx (below_regrown _ dd os)) 2 _ rfl
    have y3 := fun dd os => (At.quiet hx (below_regrown _ dd os)) 3 _ rfl
    have kd := fun dd os => (bdA.quiet (below_regrown _ dd os)).cell
    go_enter Tryz.func107, Tryz.ntmps107
    go_wp2_with (go_at_call 100; refine (HI.out _ (hv.quiet hqA)).mono ?_; rintro e w1 ⟨rfl, rfl⟩)
    refine wp_region_quiet_below mixedP (by kernel_rfl) ?_
    repeat (quiet_step (exact HC.out _ _))
    refine wpQuiet_nil ?_
    intro _ hw'
    obtain ⟨⟨dq, osq⟩, hw''⟩ := hw'
    subst hw''
    go_wp2
    go_ret
    exact ⟨ret_bool HT.out.symm, hqA.after (below_regrown _ dq osq)⟩

end Go.Proofs.YtgcjlgaapiefiabGreat

/-
  Walks of the program: the codes of APPROVE and ASK.
-/
namespace Go.Proofs.YtgcjlgaapiefiabGreat
open Go.RowKit Go.Sort

set_option maxRecDepth 100000 in
set_option maxHeartbeats 2000000 in
theorem approveCode_any (dv : Value) (d : Def) (w : World) (hd : DefIs w dv d) (pb po : Nat) (W : WorldR) (ia : Option Addr) (n ic : Nat) (ra : Option Addr) (m rc : Nat) (a who : Int) (hv : WView w pb po W ia n ic ra m rc) (hb : ∀ r ∈ W.reqs, r.bys.length ≤ 1000) :
    Calls Tryz.prog 87 #[dv, .pointer (some ⟨pb, po, none⟩), .int .i64 a, .int .i64 who] w fun e w' => e = .returned (.int .i64 (approveCodeP d W a who)) ∧ Quiet w w' := by
  have hq0 : ∀ o, Quiet w (w.alloc o) := fun o => (Below.refl _ _).alloc (Nat.le_refl _) _
  have hd0 := hd
  obtain ⟨da, dn, dcap, rfl, hst⟩ := hd
  clear hst
  have hqA := hq0 (.cells #[.slice da dn dcap, .int .i64 d.quorum, .int .i64 d.expiry] 24)
  have bdA : Blk (w.alloc (.cells #[.slice da dn dcap, .int .i64 d.quorum, .int .i64 d.expiry] 24)) w.heap.size #[.slice da dn dcap, .int .i64 d.quorum, .int .i64 d.expiry] 24 := Blk.new' rfl
  cases ho : openP W a with
  | none =>
    have HO : Hid (Calls Tryz.prog 105 #[.pointer (some ⟨pb, po, none⟩), .int .i64 a] (w.alloc (.cells #[.slice da dn dcap, .int .i64 d.quorum, .int .i64 d.expiry] 24)) fun e w' => e = .returned (.int .i64 (-1)) ∧ Quiet (w.alloc (.cells #[.slice da dn dcap, .int .i64 d.quorum, .int .i64 d.expiry] 24)) w') := by
      have := openPlace_any _ pb po W ia n ic ra m rc a (hv.quiet hqA)
      rw [openI_none ho] at this
      exact this
    have HT : Hid (approveCodeP d W a who = 15) := by show approveCodeP d W a who = _; unfold approveCodeP; rw [ho]
    go_enter Tryz.func87, Tryz.ntmps87
    go_wp2_with (go_at_call 105; refine HO.out.mono ?_; rintro e w1 ⟨rfl, hq1⟩)
    go_ret
    exact ⟨ret_int HT.out.symm, hqA.after hq1⟩
  | some r =>
    obtain ⟨ha1, hk, hr, _⟩ := open_get ho
    obtain ⟨k, hka⟩ : ∃ k : Nat, a = (k : Int) + 1 := ⟨(a - 1).toNat, by omega⟩
    subst hka
    have hkt : ((k : Int) + 1 - 1).toNat = k := by omega
    simp only [hkt] at hk hr
    have HO : Hid (Calls Tryz.prog 105 #[.pointer (some ⟨pb, po, none⟩), .int .i64 ((k : Int) + 1)] (w.alloc (.cells #[.slice da dn dcap, .int .i64 d.quorum, .int .i64 d.expiry] 24)) fun e w' => e = .returned (.int .i64 k) ∧ Quiet (w.alloc (.cells #[.slice da dn dcap, .int .i64 d.quorum, .int .i64 d.expiry] 24)) w') := by
      have := openPlace_any _ pb po W ia n ic ra m rc ((k : Int) + 1) (hv.quiet hqA)
      rw [openI_some ho, show (k : Int) + 1 - 1 = k by omega] at this
      exact this
    have hkm : (k : Int) < (m : Int) := by have := hv.reqs.len.1; omega
    have hki : (0 : Int) ≤ (k : Int) := by omega
    have hbl := hb r (by rw [← hr]; exact List.getElem_mem hk)
    have HT : Hid (approveCodeP d W ((k : Int) + 1) who = if mayP r who = false then 13 else if d.quorum ≤ (r.bys.length : Int) + 1 ∧ canGrantP d W r = false then 14 else 0) := by show approveCodeP d W _ who = _; unfold approveCodeP; rw [ho]
    go_enter Tryz.func87, Tryz.ntmps87
    go_wp2_with fail
    refine HO.out.mono ?_
    rintro e w1 ⟨rfl, hq1⟩
    have bd1 := bdA.quiet hq1
    replace hq1 : Quiet w w1 := hqA.after hq1
    have hv1 := hv.quiet hq1
    obtain ⟨b, off, rfl, hbz, hra⟩ := hv1.reqs.get k hk
    rw [hr] at hra
    have hra0 := hra
    obtain ⟨ba, bn, bc, hx, hby⟩ := hra
    have hbn := (Arr.len hby).1
    simp only [List.length_map] at hbn
    have HBN : Hid (bn = r.bys.length) := hbn
    have hbn1 : bn ≤ 1000 := by omega
    clear hbn hby hbl
    obtain ⟨p0, p1, p2⟩ := hv1.cells.three
    have HMay : Hid (Calls Tryz.prog 106 #[.pointer (some ⟨b, off + k * 9, none⟩), .int .i64 who] w1 fun e w' => e = .returned (.bool (mayP r who)) ∧ w' = w1) := mayApprove_any b (off + k * 9) r who w1 hra0
    cases hmay : mayP r who
    · rw [hmay] at HMay
      have HT2 : Hid (approveCodeP d W ((k : Int) + 1) who = 13) := by show approveCodeP d W _ who = _; rw [HT.out, if_pos hmay]
      go_wp2_with (go_at_call 106; refine HMay.out.mono ?_; rintro e w2 ⟨rfl, hw⟩; rw [hw]; clear hw w2)
      go_ret
      exact ⟨ret_int HT2.out.symm, hq1⟩
    · rw [hmay] at HMay
      have HC : Hid (∀ dd os, Calls Tryz.prog 107 #[.agg #[.slice da dn dcap, .int .i64 d.quorum, .int .i64 d.expiry], .pointer (some ⟨pb, po, none⟩), .pointer (some ⟨b, off + k * 9, none⟩)] (grow (redrawn w1 dd) os) fun e w'' => e = .returned (.bool (canGrantP d W r)) ∧ ∃ p : Regrown, w'' = grow (redrawn w1 p.d) p.os) := fun dd os =>
        Calls.regrown_of (canGrant_any _ d _ ((hd0.quiet hq1).quiet (below_regrown _ dd os)) pb po W ia n ic _ m rc b (off + k * 9) r (hra0.quiet (below_regrown _ dd os)) (hv1.quiet (below_regrown _ dd os)))
      have y6 := fun dd os => (At.quiet hx (below_regrown _ dd os)) 6 _ rfl
      have kd := fun dd os => (bd1.quiet (below_regrown _ dd os)).cell
      have HT1 : Hid (approveCodeP d W ((k : Int) + 1) who = if d.quorum ≤ (bn : Int) + 1 ∧ canGrantP d W r = false then 14 else 0) := by show approveCodeP d W _ who = _; rw [HT.out, if_neg (by rw [hmay]; simp), HBN.out]
      have hwrap : IntKind.i64.wrap ((bn : Int) + 1) = (bn : Int) + 1 := by simp [IntKind.wrap, IntKind.bits, IntKind.signed]; omega
      by_cases hqq : d.quorum ≤ (bn : Int) + 1
      · cases hcg : canGrantP d W r
        · have HT2 : Hid (approveCodeP d W ((k : Int) + 1) who = 14) := by show approveCodeP d W _ who = _; rw [HT1.out, if_pos ⟨hqq, hcg⟩]
          rw [hcg] at HC
          go_wp2_with (go_at_call 106; refine HMay.out.mono ?_; rintro e w2 ⟨rfl, hw⟩; rw [hw]; clear hw w2)
          refine wp_region_quiet_below mixedP (by kernel_rfl) ?_
          repeat (quiet_step (exact HC.out _ _))
          refine wpQuiet_nil ?_
          intro _ hw'
          obtain ⟨⟨dq, osq⟩, hw''⟩ := hw'
          subst hw''
          go_wp2
          go_ret
          exact ⟨ret_int HT2.out.symm, hq1.after (below_regrown _ dq osq)⟩
        · have HT2 : Hid (approveCodeP d W ((k : Int) + 1) who = 0) := by show approveCodeP d W _ who = _; rw [HT1.out, if_neg (fun q => by rw [hcg] at q; simp at q)]
          rw [hcg] at HC
          go_wp2_with (go_at_call 106; refine HMay.out.mono ?_; rintro e w2 ⟨rfl, hw⟩; rw [hw]; clear hw w2)
          refine wp_region_quiet_below mixedP (by kernel_rfl) ?_
          repeat (quiet_step (exact HC.out _ _))
          refine wpQuiet_nil ?_
          intro _ hw'
          obtain ⟨⟨dq, osq⟩, hw''⟩ := hw'
          subst hw''
          go_wp2
          go_ret
          exact ⟨ret_int HT2.out.symm, hq1.after (below_regrown _ dq osq)⟩
      · have HT2 : Hid (approveCodeP d W ((k : Int) + 1) who = 0) := by show approveCodeP d W _ who = _; rw [HT1.out, if_neg (fun q => hqq q.1)]
        have hqd : decide (d.quorum ≤ (bn : Int) + 1) = false := by simpa using hqq
        go_wp2_with (go_at_call 106; refine HMay.out.mono ?_; rintro e w2 ⟨rfl, hw⟩; rw [hw]; clear hw w2)
        refine wp_region_quiet_below mixedP (by kernel_rfl) ?_
        repeat (quiet_step (exact HC.out _ _))
        refine wpQuiet_nil ?_
        intro _ hw'
        obtain ⟨⟨dq, osq⟩, hw''⟩ := hw'
        subst hw''
        go_wp2
        go_ret
        exact ⟨ret_int HT2.out.symm, hq1.after (below_regrown _ dq osq)⟩

end Go.Proofs.YtgcjlgaapiefiabGreat

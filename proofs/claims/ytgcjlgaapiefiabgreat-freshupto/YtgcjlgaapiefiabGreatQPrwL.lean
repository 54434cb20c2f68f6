import Derived.Test.YtgcjlgaapiefiabGreatQPrwK
import Derived.Test.YtgcjlgaapiefiabGreatQAnsA
import Derived.Laws.Closers25
import Derived.Test.YtgcjlgaapiefiabGreatQRefA

/-
  Walks of the program: the answers to ASK and PICK.
-/
namespace Go.Proofs.YtgcjlgaapiefiabGreat
open Go.RowKit Go.Sort

/-- The code of an ASK. -/
def askCodeW (d : Def) (W : WorldR) (c : Cmd) : Int := match instP W.insts c.inst with
  | none => 4
  | some x => askCodeP d W c x
theorem askAns_code (d : Def) (W : WorldR) (c : Cmd) : askAnsP d W c = if askCodeW d W c = 0 then ⟨0, W.reqs.length + 1, 0, 0⟩ else noR (askCodeW d W c) := by
  unfold askAnsP askCodeW
  cases instP W.insts c.inst with
  | none => rfl
  | some x => rfl

theorem size_zero (s : ByteArray) (h : s.size = 0) : s = ByteArray.empty := by
  cases s with | mk d => cases d with | mk l => cases l with
    | nil => rfl
    | cons a l => simp [ByteArray.size] at h

set_option maxRecDepth 100000 in
set_option maxHeartbeats 4000000 in
theorem askCode_any (dv : Value) (d : Def) (w : World) (hd : DefIs w dv d) (pb po : Nat) (W : WorldR) (ia : Option Addr) (n ic : Nat) (ra : Option Addr) (m rc : Nat) (c : Cmd) (hv : WView w pb po W ia n ic ra m rc) (hcr : c.reason.size ≤ 9223372036854775807) :
    Calls Tryz.prog 103 #[dv, .pointer (some ⟨pb, po, none⟩), c.val] w fun e w' => e = .returned (.int .i64 (askCodeW d W c)) ∧ Quiet w w' := by
  have hq0 : ∀ o, Quiet w (w.alloc o) := fun o => (Below.refl _ _).alloc (Nat.le_refl _) _
  have hd0 := hd
  obtain ⟨da, dn, dcap, rfl, hst⟩ := hd
  clear hst
  have hm := hv.reqs.len.1
  have HM : Hid (m = W.reqs.length) := hm
  have hmm := hv.reqs.len.2
  clear hm
  have HI : Hid (∀ w, WView w pb po W ia n ic ra m rc → Calls Tryz.prog 100 #[.pointer (some ⟨pb, po, none⟩), .int .i64 c.inst] w fun e w' => e = .returned (.int .i64 (placeI W.insts c.inst)) ∧ w' = w) := fun w hv => place_any w pb po W ia n ic ra m rc c.inst hv
  unfold Cmd.val
  go_enter Tryz.func103, Tryz.ntmps103
  go_wp2_with fail
  refine calls_gen (fun V => Blk V w.heap.size #[.slice da dn dcap, .int .i64 d.quorum, .int .i64 d.expiry] 24 ∧ Blk V (w.heap.size + 1) #[.int .i64 c.kind, .int .i64 c.inst, .int .i64 c.a, .int .i64 c.b, .int .i64 c.who, .string c.reason, .bool c.dry] 43 ∧ Quiet w V) ⟨(Blk.new' rfl).alloc _, Blk.new' (by simp), (hq0 _).alloc (by simp) _⟩ ?_
  rintro V ⟨bd, bc, hqV⟩
  have hvV := hv.quiet hqV
  have gc := bc.cell
  cases hp : placeP W.insts c.inst with
  | none =>
    rw [placeI_minus hp] at HI
    have HT : Hid (askCodeW d W c = 4) := by show askCodeW d W c = _; unfold askCodeW; rw [place_none hp]
    refine (HI.out _ hvV).mono ?_
    rintro e w1 ⟨rfl, hw⟩
    rw [hw]
    clear hw w1
    go_wp2
    go_ret
    exact ⟨ret_int HT.out.symm, hqV⟩
  | some k =>
    rw [placeI_some hp] at HI
    obtain ⟨hk, hin, _⟩ := place_inst hp
    obtain ⟨b, off, rfl, hbz, hxi⟩ := hvV.insts.get k hk
    have hkn : (k : Int) < (n : Int) := by have := hv.insts.len.1; omega
    have hki : (0 : Int) ≤ (k : Int) := by omega
    have HT : Hid (askCodeW d W c = if c.a < 1 ∨ 5 < c.a then 2 else if isWhoP c.who = false then 13 else if c.reason.size = 0 ∨ 20 < (c.reason.size : Int) then 12 else if canP d W.insts[k] c.a c.b = false then 14 else if 40 ≤ (m : Int) then 5 else 0) := by
      show askCodeW d W c = _; unfold askCodeW; rw [hin, HM.out]; rfl
    generalize W.insts[k] = x at *
    obtain ⟨p0, p1, p2⟩ := hvV.cells.three
    refine (HI.out _ hvV).mono ?_
    rintro e w1 ⟨rfl, hw⟩
    rw [hw]
    clear hw w1
    by_cases t1 : c.a < 1
    · have HT2 : Hid (askCodeW d W c = 2) := by show askCodeW d W c = _; rw [HT.out, if_pos (.inl t1)]
      go_wp2
      go_ret
      exact ⟨ret_int HT2.out.symm, hqV⟩
    by_cases t2 : 5 < c.a
    · have HT2 : Hid (askCodeW d W c = 2) := by show askCodeW d W c = _; rw [HT.out, if_pos (.inr t2)]
      go_wp2
      go_ret
      exact ⟨ret_int HT2.out.symm, hqV⟩
    have HT1 : Hid (askCodeW d W c = if isWhoP c.who = false then 13 else if c.reason.size = 0 ∨ 20 < (c.reason.size : Int) then 12 else if canP d x c.a c.b = false then 14 else if 40 ≤ (m : Int) then 5 else 0) := by
      show askCodeW d W c = _; rw [HT.out, if_neg (by omega)]
    have HWho : Hid (∀ U, Calls Tryz.prog 116 #[.int .i64 c.who] U fun e w' => e = .returned (.bool (isWhoP c.who)) ∧ w' = U) := fun U => isWho_any c.who U
    cases hwho : isWhoP c.who
    · rw [hwho] at HWho
      have HT2 : Hid (askCodeW d W c = 13) := by show askCodeW d W c = _; rw [HT1.out, if_pos hwho]
      go_wp2_with (go_at_call 116; refine (HWho.out _).mono ?_; rintro e w1 ⟨rfl, hw⟩; rw [hw]; clear hw w1)
      go_ret
      exact ⟨ret_int HT2.out.symm, hqV⟩
    rw [hwho] at HWho
    have HT3 : Hid (askCodeW d W c = if c.reason.size = 0 ∨ 20 < (c.reason.size : Int) then 12 else if canP d x c.a c.b = false then 14 else if 40 ≤ (m : Int) then 5 else 0) := by
      show askCodeW d W c = _; rw [HT1.out, if_neg (by rw [hwho]; simp)]
    by_cases t3 : c.reason.size = 0
    · have HT2 : Hid (askCodeW d W c = 12) := by show askCodeW d W c = _; rw [HT3.out, if_pos (.inl t3)]
      have he : c.reason.toList.isEmpty = true := by rw [← decide_eq_emptyBytes]; exact decide_eq_true (size_zero _ t3)
      have he2 : c.reason.toList = [] := List.isEmpty_iff.1 he
      clear t3
      go_wp2_with (go_at_call 116; refine (HWho.out _).mono ?_; rintro e w1 ⟨rfl, hw⟩; rw [hw]; clear hw w1)
      go_ret
      exact ⟨ret_int HT2.out.symm, hqV⟩
    have he : c.reason.toList.isEmpty = false := by rw [← decide_eq_emptyBytes]; exact decide_eq_false (fun e => t3 (by rw [e]; rfl))
    have he2 : ¬ c.reason.toList = [] := fun e => by rw [e] at he; simp at he
    by_cases t4 : 20 < (c.reason.size : Int)
    · have HT2 : Hid (askCodeW d W c = 12) := by show askCodeW d W c = _; rw [HT3.out, if_pos (.inr t4)]
      clear t3
      go_wp2_with (go_at_call 116; refine (HWho.out _).mono ?_; rintro e w1 ⟨rfl, hw⟩; rw [hw]; clear hw w1)
      go_ret
      exact ⟨ret_int HT2.out.symm, hqV⟩
    have HT4 : Hid (askCodeW d W c = if canP d x c.a c.b = false then 14 else if 40 ≤ (m : Int) then 5 else 0) := by
      show askCodeW d W c = _; rw [HT3.out, if_neg (fun q => q.elim t3 t4)]
    clear t3
    have HC : Hid (∀ dd os, Calls Tryz.prog 117 #[.agg #[.slice da dn dcap, .int .i64 d.quorum, .int .i64 d.expiry], .pointer (some ⟨b, off + k * 12, none⟩), .int .i64 c.a, .int .i64 c.b] (grow (redrawn V dd) os) fun e w'' => e = .returned (.bool (canP d x c.a c.b)) ∧ ∃ p : Regrown, w'' = grow (redrawn V p.d) p.os) := fun dd os =>
      Calls.regrown_of (canAskFor_any _ d b (off + k * 12) x c.a c.b _ ((hd0.quiet hqV).quiet (below_regrown _ dd os)) (hxi.quiet (below_regrown _ dd os)))
    have x1 := fun dd os => (At.quiet hvV.cells (below_regrown _ dd os)) 1 _ rfl
    have x2 := fun dd os => (At.quiet hvV.cells (below_regrown _ dd os)) 2 _ rfl
    have kd := fun dd os => (bd.quiet (below_regrown _ dd os)).cell
    have kc := fun dd os => (bc.quiet (below_regrown _ dd os)).cell
    cases hcan : canP d x c.a c.b
    · have HT2 : Hid (askCodeW d W c = 14) := by show askCodeW d W c = _; rw [HT4.out, if_pos hcan]
      rw [hcan] at HC
      go_wp2_with (go_at_call 116; refine (HWho.out _).mono ?_; rintro e w1 ⟨rfl, hw⟩; rw [hw]; clear hw w1)
      refine wp_region_quiet_below mixedP (by kernel_rfl) ?_
      repeat (quiet_step (exact HC.out _ _))
      refine wpQuiet_nil ?_
      intro _ hw'
      obtain ⟨⟨dq, osq⟩, hw''⟩ := hw'
      subst hw''
      go_wp2
      go_ret
      exact ⟨ret_int HT2.out.symm, hqV.after (below_regrown _ dq osq)⟩
    · rw [hcan] at HC
      have HT5 : Hid (askCodeW d W c = if 40 ≤ (m : Int) then 5 else 0) := by show askCodeW d W c = _; rw [HT4.out, if_neg (by rw [hcan]; simp)]
      by_cases t5 : 40 ≤ (m : Int)
      · have HT2 : Hid (askCodeW d W c = 5) := by show askCodeW d W c = _; rw [HT5.out, if_pos t5]
        go_wp2_with (go_at_call 116; refine (HWho.out _).mono ?_; rintro e w1 ⟨rfl, hw⟩; rw [hw]; clear hw w1)
        refine wp_region_quiet_below mixedP (by kernel_rfl) ?_
        repeat (quiet_step (exact HC.out _ _))
        refine wpQuiet_nil ?_
        intro _ hw'
        obtain ⟨⟨dq, osq⟩, hw''⟩ := hw'
        subst hw''
        go_wp2
        go_ret
        exact ⟨ret_int HT2.out.symm, hqV.after (below_regrown _ dq osq)⟩
      · have HT2 : Hid (askCodeW d W c = 0) := by show askCodeW d W c = _; rw [HT5.out, if_neg t5]
        go_wp2_with (go_at_call 116; refine (HWho.out _).mono ?_; rintro e w1 ⟨rfl, hw⟩; rw [hw]; clear hw w1)
        refine wp_region_quiet_below mixedP (by kernel_rfl) ?_
        repeat (quiet_step (exact HC.out _ _))
        refine wpQuiet_nil ?_
        intro _ hw'
        obtain ⟨⟨dq, osq⟩, hw''⟩ := hw'
        subst hw''
        go_wp2
        go_ret
        exact ⟨ret_int HT2.out.symm, hqV.after (below_regrown _ dq osq)⟩

theorem Blk.fours {w : World} {b : Nat} {cs : Array Value} {t : TypeId} (h : Blk w b cs t) (hs : cs.size = 4) (v0 v1 v2 v3 : Value) :
    Blk ((((w.setCell ⟨b, 0, none⟩ v0).setCell ⟨b, 1, none⟩ v1).setCell ⟨b, 2, none⟩ v2).setCell ⟨b, 3, none⟩ v3) b #[v0, v1, v2, v3] t := h.four hs v0 v1 v2 v3

set_option maxRecDepth 100000 in
set_option maxHeartbeats 2000000 in
theorem askAnswer_any (dv : Value) (d : Def) (w : World) (hd : DefIs w dv d) (pb po : Nat) (W : WorldR) (ia : Option Addr) (n ic : Nat) (ra : Option Addr) (m rc : Nat) (c : Cmd) (hv : WView w pb po W ia n ic ra m rc) (hcr : c.reason.size ≤ 9223372036854775807) (hm : m ≤ 1000) :
    Calls Tryz.prog 86 #[dv, .pointer (some ⟨pb, po, none⟩), c.val] w fun e w' => e = .returned (askAnsP d W c).val ∧ Quiet w w' := by
  have hq0 : ∀ o, Quiet w (w.alloc o) := fun o => (Below.refl _ _).alloc (Nat.le_refl _) _
  have hd0 := hd
  obtain ⟨da, dn, dcap, rfl, hst⟩ := hd
  clear hst
  have HM : Hid (m = W.reqs.length) := hv.reqs.len.1
  have HA : Hid (∀ V, Quiet w V → Calls Tryz.prog 103 #[.agg #[.slice da dn dcap, .int .i64 d.quorum, .int .i64 d.expiry], .pointer (some ⟨pb, po, none⟩), c.val] V fun e w' => e = .returned (.int .i64 (askCodeW d W c)) ∧ Quiet V w') := fun V hV => askCode_any _ d V (hd0.quiet hV) pb po W ia n ic ra m rc c (hv.quiet hV) hcr
  have HN : Hid (∀ U, Quiet w U → Calls Tryz.prog 104 #[.pointer (some ⟨pb, po, none⟩)] U fun e w' => e = .returned (.int .i64 ((m : Int) + 1)) ∧ w' = U) := fun U hU => nextRequest_any U pb po W ia n ic ra m rc (hv.quiet hU) (by omega)
  have HR : Hid (askAnsP d W c = if askCodeW d W c = 0 then ⟨0, (m : Int) + 1, 0, 0⟩ else noR (askCodeW d W c)) := by show askAnsP d W c = _; rw [askAns_code, HM.out]
  generalize askCodeW d W c = code at *
  unfold Cmd.val at *
  go_enter Tryz.func86, Tryz.ntmps86
  go_wp2_with fail
  refine calls_gen (fun V => Blk V (w.heap.size + 1 + 1) #[.int .i64 0, .int .i64 0, .int .i64 0, .int .i64 0] 86 ∧ Quiet w V) ⟨Blk.new' (by simp), ((hq0 _).alloc (by simp) _).alloc (by simp; omega) _⟩ ?_
  rintro V ⟨b2, hqV⟩
  refine (HA.out V hqV).mono ?_
  rintro e w1 ⟨rfl, hq1⟩
  replace b2 := b2.quiet hq1
  replace hqV : Quiet w w1 := hqV.after hq1
  clear hq1
  have g2 := b2.cell
  have f2 := b2.frozen
  cases hc : code != 0
  · have hc0 : code = 0 := by simpa using hc
    have HR2 : Hid (askAnsP d W c = ⟨0, (m : Int) + 1, 0, 0⟩) := by show askAnsP d W c = _; rw [HR.out, if_pos hc0]
    clear hc0
    go_wp2_with (go_at_call 104; refine (HN.out _ hqV).mono ?_; rintro e w2 ⟨rfl, hw⟩; rw [hw]; clear hw w2)
    refine bodyPost_ret (v := .agg #[.int .i64 0, .int .i64 ((m : Int) + 1), .int .i64 0, .int .i64 0]) (by simp [results, Tryz.results86, go_sem, g2]) rfl ⟨by rw [HR2.out]; rfl, ?_⟩
    exact Below.four hqV (by omega) _ _ _ _
  · have hc0 : ¬ code = 0 := by simpa using hc
    have HR2 : Hid (askAnsP d W c = noR code) := by show askAnsP d W c = _; rw [HR.out, if_neg hc0]
    clear hc0
    go_wp2
    refine bodyPost_ret (v := .agg #[.int .i64 code, .int .i64 0, .int .i64 0, .int .i64 0]) (by simp [results, Tryz.results86, go_sem, g2]) rfl ⟨by rw [HR2.out]; rfl, ?_⟩
    exact Below.four hqV (by omega) _ _ _ _

end Go.Proofs.YtgcjlgaapiefiabGreat

/-
  Walks of the program: the answer to PICK.
-/
namespace Go.Proofs.YtgcjlgaapiefiabGreat
open Go.RowKit Go.Sort

/-- The answer to a PICK. -/
def pickAnsW (d : Def) (W : WorldR) (id : Int) : Answer := match instP W.insts id with
  | none => noR 4
  | some x => pickAnsP d W.clock x

set_option maxRecDepth 100000 in
set_option maxHeartbeats 4000000 in
theorem pickAnswer_any (dv : Value) (d : Def) (w : World) (hd : DefIs w dv d) (pb po : Nat) (W : WorldR) (ia : Option Addr) (n ic : Nat) (ra : Option Addr) (m rc : Nat) (id : Int) (hv : WView w pb po W ia n ic ra m rc) (hb : WBd W) :
    Calls Tryz.prog 83 #[dv, .pointer (some ⟨pb, po, none⟩), .int .i64 id] w fun e w' => e = .returned (pickAnsW d W id).val ∧ Quiet w w' := by
  have hq0 : ∀ o, Quiet w (w.alloc o) := fun o => (Below.refl _ _).alloc (Nat.le_refl _) _
  have hd0 := hd
  obtain ⟨da, dn, dcap, rfl, hst⟩ := hd
  clear hst
  have HI : Hid (∀ w, WView w pb po W ia n ic ra m rc → Calls Tryz.prog 100 #[.pointer (some ⟨pb, po, none⟩), .int .i64 id] w fun e w' => e = .returned (.int .i64 (placeI W.insts id)) ∧ w' = w) := fun w hv => place_any w pb po W ia n ic ra m rc id hv
  go_enter Tryz.func83, Tryz.ntmps83
  go_wp2_with fail
  refine calls_gen (fun V => Blk V w.heap.size #[.slice da dn dcap, .int .i64 d.quorum, .int .i64 d.expiry] 24 ∧ Blk V (w.heap.size + 1) #[.int .i64 0, .int .i64 0, .int .i64 0, .int .i64 0] 86 ∧ Quiet w V) ⟨(Blk.new' rfl).alloc _, Blk.new' (by simp), (hq0 _).alloc (by simp) _⟩ ?_
  rintro V ⟨bd, b1, hqV⟩
  have hvV := hv.quiet hqV
  have g1 := b1.cell
  have f1 := b1.frozen
  cases hp : placeP W.insts id with
  | none =>
    rw [placeI_minus hp] at HI
    have HT : Hid (pickAnsW d W id = noR 4) := by show pickAnsW d W id = _; unfold pickAnsW; rw [place_none hp]
    refine (HI.out _ hvV).mono ?_
    rintro e w1 ⟨rfl, hw⟩
    rw [hw]
    clear hw w1
    go_wp2
    refine bodyPost_ret (v := .agg #[.int .i64 4, .int .i64 0, .int .i64 0, .int .i64 0]) (by simp [results, Tryz.results83, go_sem, g1]) rfl ⟨by rw [HT.out]; rfl, ?_⟩
    exact Below.four hqV (by omega) _ _ _ _
  | some k =>
    rw [placeI_some hp] at HI
    obtain ⟨hk, hin, _⟩ := place_inst hp
    obtain ⟨b, off, rfl, hbz, hxi⟩ := hvV.insts.get k hk
    obtain ⟨s0, s1, k0, k1, _⟩ := hb.insts W.insts[k] (List.getElem_mem hk)
    have hkn : (k : Int) < (n : Int) := by have := hv.insts.len.1; omega
    have hki : (0 : Int) ≤ (k : Int) := by omega
    have HT : Hid (pickAnsW d W id = pickAnsP d W.clock W.insts[k]) := by show pickAnsW d W id = _; unfold pickAnsW; rw [hin]
    generalize W.insts[k] = x at *
    obtain ⟨p0, p1, p2⟩ := hvV.cells.three
    have HC : Hid (∀ dd os, Calls Tryz.prog 101 #[.agg #[.slice da dn dcap, .int .i64 d.quorum, .int .i64 d.expiry], .int .i64 W.clock, .pointer (some ⟨b, off + k * 12, none⟩)] (grow (redrawn V dd) os) fun e w'' => e = .returned (.int .i64 (pickCodeP d W.clock x)) ∧ ∃ p : Regrown, w'' = grow (redrawn V p.d) p.os) := fun dd os =>
      Calls.regrown_of (pickCode_any _ d W.clock b (off + k * 12) x _ ((hd0.quiet hqV).quiet (below_regrown _ dd os)) (hxi.quiet (below_regrown _ dd os)) (by omega) s1)
    have x0 : ∀ dd os, (grow (redrawn V dd) os).cell? ⟨pb, po, none⟩ = some (.int .i64 W.clock) := fun dd os => (At.quiet hvV.cells (below_regrown _ dd os)) 0 _ rfl
    have kd := fun dd os => (bd.quiet (below_regrown _ dd os)).cell
    have HP : Hid (pickAnsP d W.clock x = if pickCodeP d W.clock x = 0 then ⟨0, if x.key = 0 then x.keys + 1 else x.key, nextP x, if x.mode = 2 then 2 else 1⟩ else noR (pickCodeP d W.clock x)) := rfl
    generalize pickCodeP d W.clock x = code at *
    refine (HI.out _ hvV).mono ?_
    rintro e w1 ⟨rfl, hw⟩
    rw [hw]
    clear hw w1
    go_wp2_with fail
    refine wp_region_quiet_below mixedP (by kernel_rfl) ?_
    repeat (quiet_step (exact HC.out _ _))
    refine wpQuiet_nil ?_
    intro U hw'
    have hqU : Quiet V U := by obtain ⟨⟨dq, osq⟩, hw''⟩ := hw'; rw [hw'']; exact below_regrown _ dq osq
    clear hw'
    replace b1 := b1.quiet hqU
    replace hxi := hxi.quiet hqU
    replace hqV : Quiet w U := hqV.after hqU
    clear g1 f1 x0 kd HC p0 p1 p2 hvV bd
    have g1 := b1.cell
    have f1 := b1.frozen
    have hxi0 := hxi
    obtain ⟨lv, hx⟩ := hxi
    obtain ⟨c0, c1, c2, c3, c4, c5, c6, c7, c8, c9, c10, c11⟩ := hx.twelve
    cases hc : code != 0
    · have hc0 : code = 0 := by simpa using hc
      have HP2 : Hid (pickAnsW d W id = ⟨0, if x.key = 0 then x.keys + 1 else x.key, nextP x, if x.mode = 2 then 2 else 1⟩) := by show pickAnsW d W id = _; rw [HT.out, HP.out, if_pos hc0]
      clear hc0
      have HX : Hid (∀ U', Quiet U U' → Calls Tryz.prog 102 #[.pointer (some ⟨b, off + k * 12, none⟩)] U' fun e w' => e = .returned (.int .i64 (nextP x)) ∧ w' = U') := fun U' hU' => nextStep_any b (off + k * 12) x U' (hxi0.quiet hU') (by omega) s1
      generalize nextP x = nx at *
      go_wp2_with fail
      go_cut [10] (fun s10 wc => ∃ ab, s10 = .pointer (some ⟨ab, 0, none⟩) ∧ Blk wc ab #[.int .i64 0, .int .i64 x.key, .int .i64 nx, .int .i64 1] 86 ∧ U.heap.size ≤ ab ∧ Quiet U wc)
      case first =>
        go_region_held3 (fun w' => w'.cell? ⟨b, off + k * 12 + 7, none⟩ = some (.int .i64 x.key)) (go_keep) (first | (go_at_call 102; refine (HX.out _ ?_).mono ?_; (first | exact Below.refl _ _ | exact Below.drew (Below.refl _ _) | exact (Below.refl _ _).drewN | exact (Below.refl _ _).alloc (Nat.le_refl _) _ | exact Below.drew ((Below.refl _ _).alloc (Nat.le_refl _) _) | exact ((Below.refl _ _).alloc (Nat.le_refl _) _).drewN | exact Below.alloc (Below.drew (Below.refl _ _)) (Nat.le_refl _) _ | exact Below.drew (Below.alloc (Below.drew (Below.refl _ _)) (Nat.le_refl _) _)); rintro e w2 ⟨rfl, rfl⟩))
        all_goals (try go_wp2)
        all_goals
          go_meet
          case rel => exact ⟨_, rfl, Blk.drew (Blk.new' rfl), Nat.le_refl _, Below.drew ((Below.refl _ _).alloc (Nat.le_refl _) _)⟩
      case rest =>
        obtain ⟨ab, rfl, ba, hab, hqc⟩ := hcut
        have hab1 : w.heap.size + 1 ≠ ab := by have := b1.lt; omega
        have hwab : w.heap.size ≤ ab := Nat.le_trans hqV.size hab
        replace b1 := b1.quiet hqc
        clear c0 c1 c2 c3 c4 c5 c6 c7 c8 c9 c10 c11 g1 f1
        obtain ⟨c0, c1, c2, c3, c4, c5, c6, c7, c8, c9, c10, c11⟩ := (hx.quiet hqc).twelve
        have hbz2 := (hx.quiet hqc).lt
        have hba : b ≠ ab := by have := hx.lt; omega
        replace hqV : Quiet w wc := hqV.after hqc
        have g1 := b1.cell
        have f1 := b1.frozen
        have ga := ba.cell
        have fa := ba.frozen
        cases hk0 : x.key == 0
        · cases hm2 : x.mode == 2
          · have HP3 : Hid (pickAnsW d W id = ⟨0, x.key, nx, 1⟩) := by show pickAnsW d W id = _; simp at hk0 hm2; rw [HP2.out, if_neg hk0, if_neg hm2]
            go_wp2
            refine bodyPost_ret (v := .agg #[.int .i64 0, .int .i64 x.key, .int .i64 nx, .int .i64 1]) (by simp [results, Tryz.results83, go_sem, g1]) rfl ⟨by rw [HP3.out]; rfl, ?_⟩
            exact Below.four hqV (by omega) _ _ _ _
          · have HP3 : Hid (pickAnsW d W id = ⟨0, x.key, nx, 2⟩) := by show pickAnsW d W id = _; simp at hk0 hm2; rw [HP2.out, if_neg hk0, if_pos hm2]
            go_wp2
            refine bodyPost_ret (v := .agg #[.int .i64 0, .int .i64 x.key, .int .i64 nx, .int .i64 2]) (by simp [results, Tryz.results83, go_sem, g1]) rfl ⟨by rw [HP3.out]; rfl, ?_⟩
            exact Below.four (Below.setCell hqV (p := ⟨ab, 3, none⟩) hwab _) (by omega) _ _ _ _
        · cases hm2 : x.mode == 2
          · have HP3 : Hid (pickAnsW d W id = ⟨0, x.keys + 1, nx, 1⟩) := by show pickAnsW d W id = _; simp at hk0 hm2; rw [HP2.out, if_pos hk0, if_neg hm2]
            go_wp2
            refine bodyPost_ret (v := .agg #[.int .i64 0, .int .i64 (x.keys + 1), .int .i64 nx, .int .i64 1]) (by simp [results, Tryz.results83, go_sem, g1]) rfl ⟨by rw [HP3.out]; rfl, ?_⟩
            exact Below.four (Below.setCell hqV (p := ⟨ab, 1, none⟩) hwab _) (by omega) _ _ _ _
          · have HP3 : Hid (pickAnsW d W id = ⟨0, x.keys + 1, nx, 2⟩) := by show pickAnsW d W id = _; simp at hk0 hm2; rw [HP2.out, if_pos hk0, if_pos hm2]
            go_wp2
            refine bodyPost_ret (v := .agg #[.int .i64 0, .int .i64 (x.keys + 1), .int .i64 nx, .int .i64 2]) (by simp [results, Tryz.results83, go_sem, g1]) rfl ⟨by rw [HP3.out]; rfl, ?_⟩
            exact Below.four (Below.setCell (Below.setCell hqV (p := ⟨ab, 1, none⟩) hwab _) (p := ⟨ab, 3, none⟩) hwab _) (by omega) _ _ _ _
    · have hc0 : ¬ code = 0 := by simpa using hc
      have HP2 : Hid (pickAnsW d W id = noR code) := by show pickAnsW d W id = _; rw [HT.out, HP.out, if_neg hc0]
      clear hc0
      go_wp2
      refine bodyPost_ret (v := .agg #[.int .i64 code, .int .i64 0, .int .i64 0, .int .i64 0]) (by simp [results, Tryz.results83, go_sem, g1]) rfl ⟨by rw [HP2.out]; rfl, ?_⟩
      exact Below.four hqV (by omega) _ _ _ _

end Go.Proofs.YtgcjlgaapiefiabGreat

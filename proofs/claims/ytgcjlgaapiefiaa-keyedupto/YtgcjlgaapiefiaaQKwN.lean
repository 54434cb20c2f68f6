import Derived.Test.YtgcjlgaapiefiaaQKwM
import Derived.Lib.QuietBelow

/-
  Walks of the statements' own comparisons of requests: as decisions.
-/
namespace Go.Proofs.Ytgcjlgaapiefiaa
open Go.RowKit Go.Sort

set_option maxRecDepth 100000 in
set_option maxHeartbeats 8000000 in
theorem sameReq_any (x y : Req) (a a' : Option Addr) (n n' cap cap' : Nat) (w : World) (ha : Ints w (.slice a n cap) x.bys) (hb : Ints w (.slice a' n' cap') y.bys) :
    Calls Try.prog 46 #[x.val (.slice a n cap), y.val (.slice a' n' cap')] w fun e w' => e = .returned (.bool (eqB (x = y))) ∧ Quiet w w' := by
  have hq0 : ∀ (w : World) o, Quiet w (w.alloc o) := fun w o => (Below.refl _ _).alloc (Nat.le_refl _) _
  unfold Req.val
  obtain ⟨number, inst, what, target, who, reason, bys, upto, closed⟩ := x
  obtain ⟨number2, inst2, what2, target2, who2, reason2, bys2, upto2, closed2⟩ := y
  have hlx : Hid (n = bys.length) := (by show _ = _; have := (Arr.len ha).1; simpa using this)
  have hly : Hid (n' = bys2.length) := (by show _ = _; have := (Arr.len hb).1; simpa using this)
  go_enter Try.func46, Try.ntmps46
  cases t0 : (number != number2)
  rotate_left
  · rw [eqB_false (fun q => bne_ne t0 (by injection q))]
    go_wp2
    go_ret
    exact ⟨rfl, (hq0 _ _).after (hq0 _ _)⟩
  obtain rfl := bne_eq' t0
  cases t1 : (inst != inst2)
  rotate_left
  · rw [eqB_false (fun q => bne_ne t1 (by injection q))]
    go_wp2
    go_ret
    exact ⟨rfl, (hq0 _ _).after (hq0 _ _)⟩
  obtain rfl := bne_eq' t1
  cases t2 : (what != what2)
  rotate_left
  · rw [eqB_false (fun q => bne_ne t2 (by injection q))]
    go_wp2
    go_ret
    exact ⟨rfl, (hq0 _ _).after (hq0 _ _)⟩
  obtain rfl := bne_eq' t2
  cases t3 : (target != target2)
  rotate_left
  · rw [eqB_false (fun q => bne_ne t3 (by injection q))]
    go_wp2
    go_ret
    exact ⟨rfl, (hq0 _ _).after (hq0 _ _)⟩
  obtain rfl := bne_eq' t3
  cases t4 : (who != who2)
  rotate_left
  · rw [eqB_false (fun q => bne_ne t4 (by injection q))]
    go_wp2
    go_ret
    exact ⟨rfl, (hq0 _ _).after (hq0 _ _)⟩
  obtain rfl := bne_eq' t4
  cases t5 : (reason.toList == reason2.toList)
  · rw [eqB_false (fun q => by
      have e : reason = reason2 := by injection q
      rw [e] at t5; simp at t5)]
    go_wp2
    go_ret
    exact ⟨rfl, (hq0 _ _).after (hq0 _ _)⟩
  obtain rfl := reason_eq (eq_of_beq t5)
  cases t6 : (upto != upto2)
  rotate_left
  · rw [eqB_false (fun q => bne_ne t6 (by injection q))]
    go_wp2
    go_ret
    exact ⟨rfl, (hq0 _ _).after (hq0 _ _)⟩
  obtain rfl := bne_eq' t6
  cases t7 : (closed != closed2)
  rotate_left
  · rw [eqB_false (fun q => bne_ne t7 (by injection q))]
    cases closed <;> cases closed2 <;> simp at t7
    · go_wp2
      go_ret
      exact ⟨rfl, (hq0 _ _).after (hq0 _ _)⟩
    · go_wp2
      go_ret
      exact ⟨rfl, (hq0 _ _).after (hq0 _ _)⟩
  obtain rfl := bne_eq' t7
  cases t8 : ((n : Int) != (n' : Int))
  rotate_left
  · rw [eqB_false (fun q => bne_ne t8 (by rw [hlx.out, hly.out]; injection q; congr 2))]
    go_wp2
    go_ret
    exact ⟨rfl, (hq0 _ _).after (hq0 _ _)⟩
  obtain rfl : n = n' := by have := bne_eq' t8; omega
  have hnm := (Arr.len ha).2
  go_wp2
  go_loopw [5] (fun i wr => ∃ k : Nat, k ≤ n ∧ i = .int .i64 k ∧ Hid (bys.take k = bys2.take k) ∧ Blk wr w.heap.size #[.int .i64 number, .int .i64 inst, .int .i64 what, .int .i64 target, .int .i64 who, .string reason, .slice a n cap, .int .i64 upto, .bool closed] 85 ∧ Blk wr (w.heap.size + 1) #[.int .i64 number, .int .i64 inst, .int .i64 what, .int .i64 target, .int .i64 who, .string reason, .slice a' n cap', .int .i64 upto, .bool closed] 85 ∧ Quiet w wr) (fun i _ => n - (intOf i).toNat)
  case atStart => exact ⟨0, Nat.zero_le _, rfl, by show _ = _; rfl, (Blk.new' rfl).alloc _, Blk.new' (by simp), (hq0 _ _).after (hq0 _ _)⟩
  case round =>
    obtain ⟨k, hk, rfl, hsm, b0, b1, hq⟩ := hrel
    have g0 := b0.cell
    have z0 := b0.lt
    have g1 := b1.cell
    have z1 := b1.lt
    by_cases hlt : k < n
    · have hkx : k < bys.length := by have := hlx.out; omega
      have hky : k < bys2.length := by have := hly.out; omega
      obtain ⟨b, o, rfl, hb1, c0⟩ := (Arr.quiet ha hq |> fun h => Ints.cell h k hkx)
      obtain ⟨b', o', rfl, hb2, d0⟩ := (Arr.quiet hb hq |> fun h => Ints.cell h k hky)
      have HT : Hid (bys[k] = bys2[k] → bys.take (k + 1) = bys2.take (k + 1)) := fun q => take_step hkx hky hsm.out q
      have HF : Hid ((⟨number, inst, what, target, who, reason, bys, upto, closed⟩ : Req) = ⟨number, inst, what, target, who, reason, bys2, upto, closed⟩ → bys[k] = bys2[k]) := fun q => getElem_of_eq' hkx hky (by injection q)
      have hki : (0 : Int) ≤ (k : Int) := by omega
      have hkj : (k : Int) < (n : Int) := by omega
      generalize bys[k] = e at *
      generalize bys2[k] = f at *
      cases s0 : (e != f)
      rotate_left
      · have HZ := eqB_false (fun q => bne_ne s0 (by rw [HF.out q]))
        go_wp2_with fail
        go_quiet (fail)
        go_wp2
        go_ret
        exact ⟨ret_bool HZ.symm, hq.drewN⟩
      have hef : Hid (e = f) := bne_eq' s0
      go_wp2_with fail
      go_quiet (fail)
      go_wp2
      go_roundw
      case rel => exact ⟨k + 1, by omega, by go_num, HT.out hef.out, b0.quiet (Below.refl _ _).drewN, b1.quiet (Below.refl _ _).drewN, hq.drewN⟩
      case measure => simp [intOf]; omega
    · have HZ : Hid (eqB ((⟨number, inst, what, target, who, reason, bys, upto, closed⟩ : Req) = ⟨number, inst, what, target, who, reason, bys2, upto, closed⟩) = true) := eqB_true (congrArg (fun z => (⟨number, inst, what, target, who, reason, z, upto, closed⟩ : Req)) (by
        have q := hsm.out
        have h1 := hlx.out
        have h2 := hly.out
        rwa [List.take_of_length_le (by omega), List.take_of_length_le (by omega)] at q))
      go_wp2
      go_ret
      exact ⟨ret_bool HZ.out.symm, hq⟩

end Go.Proofs.Ytgcjlgaapiefiaa

/-
  Walk of the statements' own comparison of worlds: as a decision.
-/
namespace Go.Proofs.Ytgcjlgaapiefiaa
open Go.RowKit Go.Sort

set_option maxRecDepth 100000 in
set_option maxHeartbeats 8000000 in
theorem sameW_any (ck ck2 : Int) (iv jv rv sv : Value) (xs ys : List Inst) (rs ss : List Req) (w : World) (h1 : InstsAt w iv xs) (h2 : InstsAt w jv ys) (h3 : ReqsAt w rv rs) (h4 : ReqsAt w sv ss) :
    Calls Try.prog 31 #[.agg #[.int .i64 ck, iv, rv], .agg #[.int .i64 ck2, jv, sv]] w fun e w' => e = .returned (.bool (eqB ((⟨ck, xs, rs⟩ : WorldR) = ⟨ck2, ys, ss⟩))) ∧ Quiet w w' := by
  have hq0 : ∀ (w : World) o, Quiet w (w.alloc o) := fun w o => (Below.refl _ _).alloc (Nat.le_refl _) _
  obtain ⟨ia, n, ic, rfl⟩ := h1.shape
  obtain ⟨ja, n', jc, rfl⟩ := h2.shape
  obtain ⟨ra, m, rc, rfl⟩ := h3.shape
  obtain ⟨sa, m', sc, rfl⟩ := h4.shape
  obtain ⟨hn, hnm⟩ := h1.len
  obtain ⟨hn', _⟩ := h2.len
  obtain ⟨hm, hmm⟩ := h3.len
  obtain ⟨hm', _⟩ := h4.len
  have HN : Hid (n = xs.length) := hn
  have HN' : Hid (n' = ys.length) := hn'
  have HM : Hid (m = rs.length) := hm
  have HM' : Hid (m' = ss.length) := hm'
  clear hn hm hn' hm'
  go_enter Try.func31, Try.ntmps31
  cases t0 : (ck != ck2)
  rotate_left
  · rw [eqB_false (fun q => bne_ne t0 (by injection q))]
    go_wp2
    go_ret
    exact ⟨rfl, (hq0 _ _).after (hq0 _ _)⟩
  obtain rfl := bne_eq' t0
  cases t1 : ((n : Int) != (n' : Int))
  rotate_left
  · rw [eqB_false (fun q => bne_ne t1 (by rw [HN.out, HN'.out]; injection q; congr 2))]
    go_wp2
    go_ret
    exact ⟨rfl, (hq0 _ _).after (hq0 _ _)⟩
  obtain rfl : n = n' := by have := bne_eq' t1; omega
  cases t2 : ((m : Int) != (m' : Int))
  rotate_left
  · rw [eqB_false (fun q => bne_ne t2 (by rw [HM.out, HM'.out]; injection q; congr 2))]
    go_wp2
    go_ret
    exact ⟨rfl, (hq0 _ _).after (hq0 _ _)⟩
  obtain rfl : m = m' := by have := bne_eq' t2; omega
  go_wp2
  go_loopw [5, 6] (fun i ok wr => ∃ k : Nat, k ≤ n ∧ i = .int .i64 k ∧ Hid (xs.take k = ys.take k) ∧ Blk wr w.heap.size #[.int .i64 ck, .slice ia n ic, .slice ra m rc] 38 ∧ Blk wr (w.heap.size + 1) #[.int .i64 ck, .slice ja n jc, .slice sa m sc] 38 ∧ Quiet w wr) (fun i _ _ => n - (intOf i).toNat)
  case atStart => exact ⟨0, Nat.zero_le _, rfl, by show _ = _; rfl, (Blk.new' rfl).alloc _, Blk.new' (by simp), (hq0 _ _).after (hq0 _ _)⟩
  case round =>
    obtain ⟨k, hk, rfl, hsm, b0, b1, hq⟩ := hrel
    have g0 := b0.cell
    have g1 := b1.cell
    have z0 := b0.lt
    have z1 := b1.lt
    by_cases hlt : k < n
    · have hkl : k < xs.length := by have := HN.out; omega
      have hkl' : k < ys.length := by have := HN'.out; omega
      obtain ⟨b, off, la, ln, lc, rfl, hb, hx, he⟩ := (h1.quiet hq).get k hkl
      obtain ⟨b', off', la', ln', lc', rfl, hb', hx', he'⟩ := (h2.quiet hq).get k hkl'
      have HT : Hid (xs[k] = ys[k] → xs.take (k + 1) = ys.take (k + 1)) := fun q => take_step hkl hkl' hsm.out q
      have HF : Hid ((⟨ck, xs, rs⟩ : WorldR) = ⟨ck, ys, ss⟩ → xs[k] = ys[k]) := fun q => getElem_of_eq' hkl hkl' (by injection q)
      generalize xs[k] = x at *
      generalize ys[k] = y at *
      simp only [Inst.cells] at hx hx'
      have x0 : ∀ d os, (grow (redrawn wr d) os).cell? ⟨b, off + k * 12, none⟩ = some (.int .i64 x.id) := fun d os => (At.quiet hx (below_regrown wr d os)) 0 _ rfl
      have x1 := fun d os => (At.quiet hx (below_regrown wr d os)) 1 _ rfl
      have x2 := fun d os => (At.quiet hx (below_regrown wr d os)) 2 _ rfl
      have x3 := fun d os => (At.quiet hx (below_regrown wr d os)) 3 _ rfl
      have x4 := fun d os => (At.quiet hx (below_regrown wr d os)) 4 _ rfl
      have x5 := fun d os => (At.quiet hx (below_regrown wr d os)) 5 _ rfl
      have x6 := fun d os => (At.quiet hx (below_regrown wr d os)) 6 _ rfl
      have x7 := fun d os => (At.quiet hx (below_regrown wr d os)) 7 _ rfl
      have x8 := fun d os => (At.quiet hx (below_regrown wr d os)) 8 _ rfl
      have x9 := fun d os => (At.quiet hx (below_regrown wr d os)) 9 _ rfl
      have x10 := fun d os => (At.quiet hx (below_regrown wr d os)) 10 _ rfl
      have x11 := fun d os => (At.quiet hx (below_regrown wr d os)) 11 _ rfl
      have y0 : ∀ d os, (grow (redrawn wr d) os).cell? ⟨b', off' + k * 12, none⟩ = some (.int .i64 y.id) := fun d os => (At.quiet hx' (below_regrown wr d os)) 0 _ rfl
      have y1 := fun d os => (At.quiet hx' (below_regrown wr d os)) 1 _ rfl
      have y2 := fun d os => (At.quiet hx' (below_regrown wr d os)) 2 _ rfl
      have y3 := fun d os => (At.quiet hx' (below_regrown wr d os)) 3 _ rfl
      have y4 := fun d os => (At.quiet hx' (below_regrown wr d os)) 4 _ rfl
      have y5 := fun d os => (At.quiet hx' (below_regrown wr d os)) 5 _ rfl
      have y6 := fun d os => (At.quiet hx' (below_regrown wr d os)) 6 _ rfl
      have y7 := fun d os => (At.quiet hx' (below_regrown wr d os)) 7 _ rfl
      have y8 := fun d os => (At.quiet hx' (below_regrown wr d os)) 8 _ rfl
      have y9 := fun d os => (At.quiet hx' (below_regrown wr d os)) 9 _ rfl
      have y10 := fun d os => (At.quiet hx' (below_regrown wr d os)) 10 _ rfl
      have y11 := fun d os => (At.quiet hx' (below_regrown wr d os)) 11 _ rfl
      have k0 := fun d os => (b0.quiet (below_regrown wr d os)).cell
      have k1 := fun d os => (b1.quiet (below_regrown wr d os)).cell
      have HCI : Hid (∀ d os, Calls Try.prog 34 #[x.val (.slice la ln lc), y.val (.slice la' ln' lc')] (grow (redrawn wr d) os) fun e w'' => e = .returned (.bool (eqB (x = y))) ∧ ∃ p : Regrown, w'' = grow (redrawn wr p.d) p.os) := fun d os => Calls.regrown_of (sameInst_any x y la la' ln ln' lc lc' _ (he.quiet (below_regrown wr d os)) (he'.quiet (below_regrown wr d os)))
      have hki : (0 : Int) ≤ (k : Int) := by omega
      have hkj : (k : Int) < (n : Int) := by omega
      go_wp2_with fail
      refine wp_region_quiet_below mixed (by kernel_rfl) ?_
      repeat (quiet_step (exact HCI.out _ _))
      refine wpQuiet_nil ?_
      intro _ hw'
      obtain ⟨⟨dq, osq⟩, hw''⟩ := hw'
      subst hw''
      have hbq := below_regrown wr dq osq
      replace b0 := b0.quiet hbq
      replace b1 := b1.quiet hbq
      replace hq : Quiet w _ := hq.after hbq
      clear HCI k0 k1 g0 g1
      by_cases hxy : x = y
      · have HX : Hid (x = y) := hxy
        have hB : eqB (x = y) = true := eqB_true hxy
        clear hxy
        go_wp2
        go_roundw
        case rel => exact ⟨k + 1, by omega, by go_num, HT.out HX.out, b0, b1, hq⟩
        case measure => simp [intOf]; omega
      · have HZ := eqB_false (fun q => hxy (HF.out q))
        have hB : eqB (x = y) = false := eqB_false hxy
        clear hxy
        go_wp2
        go_ret
        exact ⟨ret_bool HZ.symm, hq⟩
    · have HXS : Hid (xs = ys) := by
        show xs = ys
        have q := hsm.out
        have h1 := HN.out
        have h2 := HN'.out
        rwa [List.take_of_length_le (by omega), List.take_of_length_le (by omega)] at q
      clear hsm t0 t1 t2
      go_wp2
      go_loopw [7, 8] (fun i ok wr => ∃ k : Nat, k ≤ m ∧ i = .int .i64 k ∧ Hid (rs.take k = ss.take k) ∧ Blk wr w.heap.size #[.int .i64 ck, .slice ia n ic, .slice ra m rc] 38 ∧ Blk wr (w.heap.size + 1) #[.int .i64 ck, .slice ja n jc, .slice sa m sc] 38 ∧ Quiet w wr) (fun i _ _ => m - (intOf i).toNat)
      case atStart => exact ⟨0, Nat.zero_le _, rfl, by show _ = _; rfl, b0, b1, hq⟩
      case round =>
        clear b0 b1 hq g0 g1 hk hlt z0 z1
        obtain ⟨k, hk, rfl, hsm, b0, b1, hq⟩ := hrel
        have g0 := b0.cell
        have g1 := b1.cell
        have z0 := b0.lt
        have z1 := b1.lt
        by_cases hlt : k < m
        · have hkl : k < rs.length := by have := HM.out; omega
          have hkl' : k < ss.length := by have := HM'.out; omega
          obtain ⟨b, off, la, ln, lc, rfl, hb, hx, he⟩ := (h3.quiet hq).get k hkl
          obtain ⟨b', off', la', ln', lc', rfl, hb', hx', he'⟩ := (h4.quiet hq).get k hkl'
          have HT : Hid (rs[k] = ss[k] → rs.take (k + 1) = ss.take (k + 1)) := fun q => take_step hkl hkl' hsm.out q
          have HF : Hid ((⟨ck, xs, rs⟩ : WorldR) = ⟨ck, ys, ss⟩ → rs[k] = ss[k]) := fun q => getElem_of_eq' hkl hkl' (by injection q)
          generalize rs[k] = x at *
          generalize ss[k] = y at *
          simp only [Req.cells] at hx hx'
          have x0 : ∀ d os, (grow (redrawn wr d) os).cell? ⟨b, off + k * 9, none⟩ = some (.int .i64 x.number) := fun d os => (At.quiet hx (below_regrown wr d os)) 0 _ rfl
          have x1 := fun d os => (At.quiet hx (below_regrown wr d os)) 1 _ rfl
          have x2 := fun d os => (At.quiet hx (below_regrown wr d os)) 2 _ rfl
          have x3 := fun d os => (At.quiet hx (below_regrown wr d os)) 3 _ rfl
          have x4 := fun d os => (At.quiet hx (below_regrown wr d os)) 4 _ rfl
          have x5 := fun d os => (At.quiet hx (below_regrown wr d os)) 5 _ rfl
          have x6 := fun d os => (At.quiet hx (below_regrown wr d os)) 6 _ rfl
          have x7 := fun d os => (At.quiet hx (below_regrown wr d os)) 7 _ rfl
          have x8 := fun d os => (At.quiet hx (below_regrown wr d os)) 8 _ rfl
          have y0 : ∀ d os, (grow (redrawn wr d) os).cell? ⟨b', off' + k * 9, none⟩ = some (.int .i64 y.number) := fun d os => (At.quiet hx' (below_regrown wr d os)) 0 _ rfl
          have y1 := fun d os => (At.quiet hx' (below_regrown wr d os)) 1 _ rfl
          have y2 := fun d os => (At.quiet hx' (below_regrown wr d os)) 2 _ rfl
          have y3 := fun d os => (At.quiet hx' (below_regrown wr d os)) 3 _ rfl
          have y4 := fun d os => (At.quiet hx' (below_regrown wr d os)) 4 _ rfl
          have y5 := fun d os => (At.quiet hx' (below_regrown wr d os)) 5 _ rfl
          have y6 := fun d os => (At.quiet hx' (below_regrown wr d os)) 6 _ rfl
          have y7 := fun d os => (At.quiet hx' (below_regrown wr d os)) 7 _ rfl
          have y8 := fun d os => (At.quiet hx' (below_regrown wr d os)) 8 _ rfl
          have k0 := fun d os => (b0.quiet (below_regrown wr d os)).cell
          have k1 := fun d os => (b1.quiet (below_regrown wr d os)).cell
          have HCI : Hid (∀ d os, Calls Try.prog 46 #[x.val (.slice la ln lc), y.val (.slice la' ln' lc')] (grow (redrawn wr d) os) fun e w'' => e = .returned (.bool (eqB (x = y))) ∧ ∃ p : Regrown, w'' = grow (redrawn wr p.d) p.os) := fun d os => Calls.regrown_of (sameReq_any x y la la' ln ln' lc lc' _ (he.quiet (below_regrown wr d os)) (he'.quiet (below_regrown wr d os)))
          have hki : (0 : Int) ≤ (k : Int) := by omega
          have hkj : (k : Int) < (m : Int) := by omega
          go_wp2_with fail
          refine wp_region_quiet_below mixed (by kernel_rfl) ?_
          repeat (quiet_step (exact HCI.out _ _))
          refine wpQuiet_nil ?_
          intro _ hw'
          obtain ⟨⟨dq, osq⟩, hw''⟩ := hw'
          subst hw''
          have hbq := below_regrown wr dq osq
          replace b0 := b0.quiet hbq
          replace b1 := b1.quiet hbq
          replace hq : Quiet w _ := hq.after hbq
          clear HCI k0 k1 g0 g1
          by_cases hxy : x = y
          · have HX : Hid (x = y) := hxy
            have hB : eqB (x = y) = true := eqB_true hxy
            clear hxy
            go_wp2
            go_roundw
            case rel => exact ⟨k + 1, by omega, by go_num, HT.out HX.out, b0, b1, hq⟩
            case measure => simp [intOf]; omega
          · have HZ := eqB_false (fun q => hxy (HF.out q))
            have hB : eqB (x = y) = false := eqB_false hxy
            clear hxy
            go_wp2
            go_ret
            exact ⟨ret_bool HZ.symm, hq⟩
        · have HZ : Hid (eqB ((⟨ck, xs, rs⟩ : WorldR) = ⟨ck, ys, ss⟩) = true) := eqB_true (by
            have q := hsm.out
            have h1 := HM.out
            have h2 := HM'.out
            rw [List.take_of_length_le (by omega), List.take_of_length_le (by omega)] at q
            rw [HXS.out, q])
          go_wp2
          go_ret
          exact ⟨ret_bool HZ.out.symm, hq⟩

end Go.Proofs.Ytgcjlgaapiefiaa

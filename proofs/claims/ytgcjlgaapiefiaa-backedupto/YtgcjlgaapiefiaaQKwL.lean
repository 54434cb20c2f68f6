import Derived.Test.YtgcjlgaapiefiaaQKwK
import Derived.Test.YtgcjlgaapiefiaaQKpC

/-
  The statement Backed: walked.
-/
namespace Go.Proofs.Ytgcjlgaapiefiaa
open Go.RowKit Go.Sort

set_option maxRecDepth 100000 in
theorem make_used (m : Nat) (hm : m ≤ 1000) : ∃ cs : Array Value, cs.size = m + 1 ∧ (∀ n, n < m + 1 → cs[n]? = some (.bool false)) ∧ ∀ w : World, (Instr.makeSlice 47 (.int .i64 ((m : Int) + 1)) (.int .i64 ((m : Int) + 1))).run Try.prog w = .ok (.slice (some ⟨w.heap.size, 0, none⟩) (m + 1) (m + 1)) (w.alloc (.cells cs 4)) := by
  obtain ⟨i0, hi, hz0, hz1, hz2⟩ := info_parts (show (Try.prog.info? 4).map (fun i => (i.zero, i.size, i.bytes)) = some (some (.bool false), 1, 1) by kernel_rfl)
  refine ⟨madeCells #[.bool false] (m + 1), by rw [size_madeCells], fun n hn => ?_, fun w => ?_⟩
  · simp only [madeCells]
    rw [Array.getElem?_map, Array.getElem?_range, if_pos hn]
    simp [Nat.mod_one]
  · have h := run_make (P := Try.prog) w 47 4 i0 (.bool false) Try.underlying47 hi hz0 .i64 .i64 ((m : Int) + 1) ((m : Int) + 1) (by omega) (Int.le_refl _) (by rw [hz2]; omega) (by omega)
    rw [hz1] at h
    have e : ((m : Int) + 1).toNat = m + 1 := by omega
    rw [e] at h
    simpa [Value.cells] using h

set_option maxRecDepth 100000 in
set_option maxHeartbeats 8000000 in
theorem backedL_walk (dv sv : Value) (d : Def) (s : List Cmd) (w : World) (hd : DefIs w dv d) (h : Cmds w sv s) (hl : s.length ≤ 1048576) (hcr : ∀ c ∈ s, c.reason.size ≤ 9223372036854775807) :
    Calls Try.prog 7 #[dv, sv] w fun e w' => e = .returned (.bool true) ∧ Quiet w w' := by
  have hq0 : ∀ (w : World) o, Quiet w (w.alloc o) := fun w o => (Below.refl _ _).alloc (Nat.le_refl _) _
  have hd0 := hd
  obtain ⟨da, dn, dcap, rfl, hst⟩ := hd
  clear hst
  go_enter Try.func7, Try.ntmps7
  go_wp2_with fail
  refine calls_gen (fun V => Blk V w.heap.size #[.slice da dn dcap, .int .i64 d.quorum, .int .i64 d.expiry] 24 ∧ Quiet w V) ⟨Blk.new' rfl, hq0 _ _⟩ ?_
  rintro V ⟨bd, hqV⟩
  refine (awake_any V).mono ?_
  rintro e w1 ⟨rfl, hq1⟩
  replace bd := bd.quiet hq1
  replace hqV : Quiet w w1 := hqV.after hq1
  have gd := bd.cell
  have zd := bd.lt
  go_wp2_with fail
  refine (valid_any _ d w1 (hd0.quiet hqV)).mono ?_
  rintro e w2 ⟨rfl, hq2⟩
  replace bd := bd.quiet hq2
  replace hqV : Quiet w w2 := hqV.after hq2
  clear gd zd hq1 V
  have gd := bd.cell
  have zd := bd.lt
  cases hok : d.ok
  · go_wp2_with fail
    refine (refuses_any _ sv d s w2 (hd0.quiet hqV) hok (h.quiet hqV) hl hcr).mono ?_
    rintro e w3 ⟨rfl, hq3⟩
    go_wp2
    go_ret
    exact ⟨rfl, hqV.after hq3⟩
  have hW : BackW d (worldR d (playR d s).log).insts (worldR d (playR d s).log).reqs := worldR_backW hok (play_logOk d s)
  go_wp2_with fail
  refine (stateM_any _ sv d s w2 (hd0.quiet hqV) (h.quiet hqV) hl hcr).mono ?_
  rintro e w3 ⟨hq3, hc⟩
  rcases hc with ⟨q, _⟩ | ⟨_, ia, n, ic, ra, m, rc, rfl, hI, hR⟩
  · rw [hok] at q; simp at q
  replace bd := bd.quiet hq3
  replace hqV : Quiet w w3 := hqV.after hq3
  clear gd zd hq2 hq3
  generalize worldR d (playR d s).log = WW at *
  obtain ⟨ck, xs, rs⟩ := WW
  obtain ⟨hn, hnm⟩ := hI.len
  have HN : Hid (n = xs.length) := hn
  have HM : Hid (m = rs.length) := hR.len.1
  have hm40 : m ≤ 40 := by rw [HM.out]; exact hW.few
  have HW : Hid (BackW d xs rs) := hW
  clear hn hW
  obtain ⟨cs0, hcs0, hcs1, hmk⟩ := make_used m (by omega)
  go_upto_region 10 with (fail)
  refine wp_gen (fun V => Blk V w.heap.size #[.slice da dn dcap, .int .i64 d.quorum, .int .i64 d.expiry] 24 ∧ Blk V w3.heap.size #[.int .i64 ck, .slice ia n ic, .slice ra m rc] 38 ∧ Quiet w3 V) ⟨bd.alloc _, Blk.new' rfl, hq0 _ _⟩ ?_
  rintro V ⟨bd, bw, hqV4⟩
  replace hqV : Quiet w V := hqV.after hqV4
  replace hI := hI.quiet hqV4
  replace hR := hR.quiet hqV4
  have gw := bw.cell
  have zw := bw.lt
  obtain ⟨ub, HUB⟩ : ∃ ub, Hid (ub = V.heap.size) := ⟨_, rfl⟩
  have hub : V.heap.size ≤ ub := by rw [HUB.out]; exact Nat.le_refl _
  go_wp2
  rw [← HUB.out]
  go_loopw [5, 10, 11, 12, 13, 14] (fun ok i xp k lp wh wr => ∃ (q : Nat) (cs : Array Value), q ≤ n ∧ i = .int .i64 q ∧ Blk wr ub cs 4 ∧ UsedOk xs m q 0 cs ∧ Quiet V wr) (fun _ i _ _ _ _ _ => n - (intOf i).toNat)
  case atStart =>
    refine ⟨0, cs0, Nat.zero_le _, rfl, ?_, ⟨hcs0, fun n hn => ⟨false, hcs1 n hn, fun q => by simp at q⟩⟩, hq0 _ _⟩
    rw [HUB.out]; exact Blk.new' rfl
  case round =>
    obtain ⟨k, cs, hk, rfl, bu, hU, hqr⟩ := hrel
    clear gw zw
    by_cases hlt : k < n
    · have hkl : k < xs.length := by have := HN.out; omega
      obtain ⟨b, off, la, ln, lc, hae, hb, hx, he⟩ := hI.get k hkl
      subst hae
      replace hb := Nat.lt_of_lt_of_le hb hqr.size
      replace hx := hx.quiet hqr
      obtain ⟨x, HX⟩ : ∃ x, Hid (xs[k]'hkl = x) := ⟨_, rfl⟩
      rw [HX.out] at hx he
      obtain ⟨hln, hlm⟩ := he.len
      have HLN : Hid (ln = x.ledger.length) := hln
      clear hln
      simp only [Inst.cells] at hx
      have x0 : wr.cell? ⟨b, off + k * 12, none⟩ = some (.int .i64 x.id) := hx 0 _ rfl
      have x1 := hx 1 _ rfl
      have x2 := hx 2 _ rfl
      have x3 := hx 3 _ rfl
      have x4 := hx 4 _ rfl
      have x5 := hx 5 _ rfl
      have x6 := hx 6 _ rfl
      have x7 := hx 7 _ rfl
      have x8 := hx 8 _ rfl
      have x9 := hx 9 _ rfl
      have x10 := hx 10 _ rfl
      have x11 := hx 11 _ rfl
      have bw1 := bw.quiet hqr
      have gw := bw1.cell
      have zw := bw1.lt
      have hki : (0 : Int) ≤ (k : Int) := by omega
      have hkj : (k : Int) < (n : Int) := by omega
      obtain ⟨xb, HXB⟩ : ∃ xb, Hid (xb = wr.heap.size) := ⟨_, rfl⟩
      go_wp2
      rw [← HXB.out]
      go_loopw [5, 12, 13, 14] (fun ok i lp wh wx => ∃ (q : Nat) (cs : Array Value), q ≤ ln ∧ i = .int .i64 q ∧ Blk wx xb #[.int .i64 x.id, .int .i64 x.mode, .bool x.stuck, .int .i64 x.settled, .int .i64 x.target, .bool x.resume, .int .i64 x.keys, .int .i64 x.key, .int .i64 x.due, .int .i64 x.tries, .int .i64 x.wake, .slice la ln lc] 46 ∧ Blk wx ub cs 4 ∧ UsedOk xs m k q cs ∧ Quiet V wx) (fun _ i _ _ _ => ln - (intOf i).toNat)
      case atStart => exact ⟨0, cs, Nat.zero_le _, rfl, Blk.new' HXB.out, bu.alloc _, hU, hqr.after (hq0 _ _)⟩
      case round =>
        clear bu hU cs x0 x1 x2 x3 x4 x5 x6 x7 x8 x9 x10 x11 gw zw hx hb bw1
        obtain ⟨q, cs, hq, rfl, bx, bu, hU, hqx⟩ := hrel
        have gx := bx.cell
        have zx := bx.lt
        have bd1 := bd.quiet hqx
        have bw1 := bw.quiet hqx
        by_cases hlt2 : q < ln
        · have hq2 : q < x.ledger.length := by have := HLN.out; omega
          have hql : q < (xs[k]'hkl).ledger.length := by rw [HX.out]; exact hq2
          have HE0 : Hid ((xs[k]'hkl).ledger[q] = x.ledger[q]) := by show _ = _; have := HX.out; subst this; rfl
          have hkd := HW.out.kinds k hkl q hql
          rw [HE0.out] at hkd
          have he1 := he.quiet hqx
          obtain ⟨b1, off1, rfl, hb1, y0, y1, y2⟩ := he1.cell q hq2
          obtain ⟨en, HE1⟩ : ∃ en : Entry, Hid (x.ledger[q]'hq2 = en) := ⟨x.ledger[q]'hq2, rfl⟩
          have HE : Hid ((xs[k]'hkl).ledger[q] = en) := HE0.out.trans HE1.out
          rw [HE1.out] at y0 y1 y2 hkd
          clear HE0 HE1
          have hqi : (0 : Int) ≤ (q : Int) := by omega
          have hqj : (q : Int) < (ln : Int) := by omega
          obtain hkv | hkv | hkv | hkv : en.kind = 1 ∨ en.kind = 3 ∨ en.kind = 2 ∨ en.kind = 4 := by omega
          · have t4 : ((1 : Int) == 4) = false := by decide
            have t1 : ((1 : Int) == 1) = true := by decide
            have t3 : ((1 : Int) == 3) = false := by decide
            rw [hkv] at y0
            go_wp2
            go_roundw
            case rel => exact ⟨q + 1, cs, by omega, by go_num, bx.alloc _, bu.alloc _, hU.mono (fun k' q' h _ => by omega), hqx.after (hq0 _ _)⟩
            case measure => simp [intOf]; omega
          · have t4 : ((3 : Int) == 4) = false := by decide
            have t1 : ((3 : Int) == 1) = false := by decide
            have t3 : ((3 : Int) == 3) = true := by decide
            rw [hkv] at y0
            go_wp2
            go_roundw
            case rel => exact ⟨q + 1, cs, by omega, by go_num, bx.alloc _, bu.alloc _, hU.mono (fun k' q' h _ => by omega), hqx.after (hq0 _ _)⟩
            case measure => simp [intOf]; omega
          · have t4 : ((2 : Int) == 4) = false := by decide
            have t1 : ((2 : Int) == 1) = false := by decide
            have t3 : ((2 : Int) == 3) = false := by decide
            have HA : Hid (asked (xs[k]'hkl).ledger[q] = true) := by show asked _ = true; rw [HE.out]; simp [asked, hkv]
            obtain ⟨j, hj, r1, f1, f2, f3, f4, f5, f6, f7, f8⟩ := HW.out.each k hkl q hql HA.out
            rw [HE.out] at r1 f2
            rw [HX.out] at f1
            replace f2 : rs[j].what = 2 := by rw [f2, hkv]; simp
            obtain ⟨j1, hj1⟩ : ∃ j1 : Nat, j1 = j + 1 := ⟨_, rfl⟩
            have r2 : en.ref = (j1 : Int) := by omega
            have HR1 : Hid ((xs[k]'hkl).ledger[q].ref = (j1 : Int)) := by show _ = _; rw [HE.out]; exact r2
            have hjm1 : j1 < m + 1 := by have := HM.out; omega
            have hfree := hU.free HW.out hkl hql j1 hjm1 HA.out HR1.out
            have HB : Hid (∀ U, Quiet wr U → Calls Try.prog 26 #[.agg #[.slice da dn dcap, .int .i64 d.quorum, .int .i64 d.expiry], .agg #[.int .i64 ck, .slice (some ⟨b, off, none⟩) n ic, .slice ra m rc], .int .i64 x.id, .int .i64 2, .int .i64 (j1 : Int)] U fun e w' => e = .returned (.bool true) ∧ Quiet U w') := fun U hUq => by
              have hb := backed_any _ d U ((hd0.quiet (hqV.after hqx)).quiet hUq) ck (some ⟨b, off, none⟩) n ic ra m rc rs ((hR.quiet hqx).quiet hUq) j hj (by omega) f3 f4 f5 f6 f7 f8
              rw [f1, f2] at hb
              have e1 : (j1 : Int) = (j : Int) + 1 := by omega
              rw [e1]
              exact hb
            rw [hkv] at y0
            rw [r2] at y2
            generalize en.step = st at y1
            clear hkv f1 f2 f3 f4 f5 f6 f7 f8 r1 r2 hj1
            go_upto_region 23 with (fail)
            refine wp_gen (fun U => Blk U wr.heap.size #[.int .i64 2, .int .i64 st, .int .i64 (j1 : Int)] 49 ∧ Quiet wr U) ⟨Blk.new' rfl, hq0 _ _⟩ ?_
            rintro U ⟨be, hqU⟩
            replace bx := bx.quiet hqU
            replace bu := bu.quiet hqU
            have bd1 := bd1.quiet hqU
            have bw1 := bw1.quiet hqU
            clear gx zx y0 y1 y2 hb1
            have ge := be.cell
            have ze := be.lt
            have gx := bx.cell
            have zx := bx.lt
            have gd := bd1.cell
            have zd := bd1.lt
            have gw := bw1.cell
            have zw := bw1.lt
            go_wp2_with fail
            refine (HB.out U hqU).mono ?_
            rintro e U2 ⟨rfl, hq2⟩
            replace be := be.quiet hq2
            replace bx := bx.quiet hq2
            replace bu := bu.quiet hq2
            clear ge ze gx zx gd zd gw zw
            have ge := be.cell
            have ze := be.lt
            have gu := bu.cell
            have zu := bu.lt
            have fu := bu.frozen
            have hji : (0 : Int) ≤ (j1 : Int) := by omega
            have hjm : (j1 : Int) < (m : Int) + 1 := by omega
            have gu1 : U2.cell? ⟨ub, j1, none⟩ = some (.bool false) := by rw [gu, hfree]
            clear gu
            have hne : xb ≠ ub := Blk.ne bu bx (by decide)
            go_wp2
            go_roundw
            case rel => exact ⟨q + 1, _, by omega, by go_num, bx.other _ hne, bu.set j1 _, hU.mark hkl hql j1 HA.out HR1.out, (hqx.after (hqU.after hq2)).setCell (p := ⟨ub, j1, none⟩) hub _⟩
            case measure => simp [intOf]; omega
          · have t4 : ((4 : Int) == 4) = true := by decide
            have t1 : ((4 : Int) == 1) = false := by decide
            have t3 : ((4 : Int) == 3) = false := by decide
            have HA : Hid (asked (xs[k]'hkl).ledger[q] = true) := by show asked _ = true; rw [HE.out]; simp [asked, hkv]
            obtain ⟨j, hj, r1, f1, f2, f3, f4, f5, f6, f7, f8⟩ := HW.out.each k hkl q hql HA.out
            rw [HE.out] at r1 f2
            rw [HX.out] at f1
            replace f2 : rs[j].what = 3 := by rw [f2, hkv]; simp
            obtain ⟨j1, hj1⟩ : ∃ j1 : Nat, j1 = j + 1 := ⟨_, rfl⟩
            have r2 : en.ref = (j1 : Int) := by omega
            have HR1 : Hid ((xs[k]'hkl).ledger[q].ref = (j1 : Int)) := by show _ = _; rw [HE.out]; exact r2
            have hjm1 : j1 < m + 1 := by have := HM.out; omega
            have hfree := hU.free HW.out hkl hql j1 hjm1 HA.out HR1.out
            have HB : Hid (∀ U, Quiet wr U → Calls Try.prog 26 #[.agg #[.slice da dn dcap, .int .i64 d.quorum, .int .i64 d.expiry], .agg #[.int .i64 ck, .slice (some ⟨b, off, none⟩) n ic, .slice ra m rc], .int .i64 x.id, .int .i64 3, .int .i64 (j1 : Int)] U fun e w' => e = .returned (.bool true) ∧ Quiet U w') := fun U hUq => by
              have hb := backed_any _ d U ((hd0.quiet (hqV.after hqx)).quiet hUq) ck (some ⟨b, off, none⟩) n ic ra m rc rs ((hR.quiet hqx).quiet hUq) j hj (by omega) f3 f4 f5 f6 f7 f8
              rw [f1, f2] at hb
              have e1 : (j1 : Int) = (j : Int) + 1 := by omega
              rw [e1]
              exact hb
            rw [hkv] at y0
            rw [r2] at y2
            generalize en.step = st at y1
            clear hkv f1 f2 f3 f4 f5 f6 f7 f8 r1 r2 hj1
            go_upto_region 23 with (fail)
            refine wp_gen (fun U => Blk U wr.heap.size #[.int .i64 4, .int .i64 st, .int .i64 (j1 : Int)] 49 ∧ Quiet wr U) ⟨Blk.new' rfl, hq0 _ _⟩ ?_
            rintro U ⟨be, hqU⟩
            replace bx := bx.quiet hqU
            replace bu := bu.quiet hqU
            have bd1 := bd1.quiet hqU
            have bw1 := bw1.quiet hqU
            clear gx zx y0 y1 y2 hb1
            have ge := be.cell
            have ze := be.lt
            have gx := bx.cell
            have zx := bx.lt
            have gd := bd1.cell
            have zd := bd1.lt
            have gw := bw1.cell
            have zw := bw1.lt
            go_wp2_with fail
            refine (HB.out U hqU).mono ?_
            rintro e U2 ⟨rfl, hq2⟩
            replace be := be.quiet hq2
            replace bx := bx.quiet hq2
            replace bu := bu.quiet hq2
            clear ge ze gx zx gd zd gw zw
            have ge := be.cell
            have ze := be.lt
            have gu := bu.cell
            have zu := bu.lt
            have fu := bu.frozen
            have hji : (0 : Int) ≤ (j1 : Int) := by omega
            have hjm : (j1 : Int) < (m : Int) + 1 := by omega
            have gu1 : U2.cell? ⟨ub, j1, none⟩ = some (.bool false) := by rw [gu, hfree]
            clear gu
            have hne : xb ≠ ub := Blk.ne bu bx (by decide)
            go_wp2
            go_roundw
            case rel => exact ⟨q + 1, _, by omega, by go_num, bx.other _ hne, bu.set j1 _, hU.mark hkl hql j1 HA.out HR1.out, (hqx.after (hqU.after hq2)).setCell (p := ⟨ub, j1, none⟩) hub _⟩
            case measure => simp [intOf]; omega
        · have bw2 := bw1.cell
          go_wp2
          go_roundw
          case rel => exact ⟨k + 1, cs, by omega, by go_num, bu, hU.mono (fun k' q' h _ => by omega), hqx⟩
          case measure => simp [intOf]; omega
    · have bw1 := bw.quiet hqr
      have gw := bw1.cell
      have zw := bw1.lt
      go_wp2
      go_ret
      exact ⟨rfl, hqV.after hqr⟩

end Go.Proofs.Ytgcjlgaapiefiaa

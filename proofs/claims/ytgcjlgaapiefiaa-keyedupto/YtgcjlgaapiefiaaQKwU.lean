import Derived.Test.YtgcjlgaapiefiaaQKwT
import Derived.Test.YtgcjlgaapiefiaaQKwA
import Derived.Test.YtgcjlgaapiefiaaQKwP

/-
  The statement Keyed: walked (made by mkkw21.py).
-/
namespace Go.Proofs.Ytgcjlgaapiefiaa
open Go.RowKit Go.Sort

set_option maxRecDepth 100000 in
set_option maxHeartbeats 8000000 in
theorem keyed_walk (dv sv : Value) (d : Def) (s : List Cmd) (w : World) (hd : DefIs w dv d) (h : Cmds w sv s) (hl : s.length ≤ 1048576) (hcr : ∀ c ∈ s, c.reason.size ≤ 9223372036854775807) :
    Calls Try.prog 8 #[dv, sv] w fun e w' => e = .returned (.bool true) ∧ Quiet w w' := by
  have hq0 : ∀ (w : World) o, Quiet w (w.alloc o) := fun w o => (Below.refl _ _).alloc (Nat.le_refl _) _
  obtain ⟨sa, sn, scap, rfl⟩ := h.1.shape
  have hd0 := hd
  obtain ⟨da, dn, dcap, rfl, hst⟩ := hd
  clear hst
  go_enter Try.func8, Try.ntmps8
  go_wp2_with fail
  refine calls_gen (fun V => Blk V w.heap.size #[.slice da dn dcap, .int .i64 d.quorum, .int .i64 d.expiry] 24 ∧ Quiet w V) ⟨Blk.new' rfl, hq0 _ _⟩ ?_
  rintro V ⟨bd, hqV⟩
  refine (awake_any V).mono ?_
  rintro e w1 ⟨rfl, hq1⟩
  replace bd := bd.quiet hq1
  replace hqV : Quiet w w1 := hqV.after hq1
  have gd := bd.cell
  have zd := bd.lt
  go_wp2_with fail
  refine (valid_any _ d w1 (hd0.quiet hqV)).mono ?_
  rintro e w2 ⟨rfl, hq2⟩
  replace bd := bd.quiet hq2
  replace hqV : Quiet w w2 := hqV.after hq2
  clear gd zd hq1 V
  have gd := bd.cell
  have zd := bd.lt
  cases hok : d.ok
  · go_wp2_with fail
    refine (refuses_any _ _ d s w2 (hd0.quiet hqV) hok (h.quiet hqV) hl hcr).mono ?_
    rintro e w3 ⟨rfl, hq3⟩
    go_wp2
    go_ret
    exact ⟨rfl, hqV.after hq3⟩
  have hal : (playR d s).answers.length = s.length := (tape_key d s).len
  obtain ⟨W0, HW0⟩ : ∃ W0, Hid (worldR d (playR d s).log = W0) := ⟨_, rfl⟩
  have HW : Hid (KeyedW s (playR d s).answers W0.insts) := by show KeyedW _ _ _; rw [← HW0.out]; exact keyedW hok s
  have HIO : Hid (InstsOk d W0.insts) := by show InstsOk d W0.insts; rw [← HW0.out]; exact worldR_instsOk hok (play_logOk d s)
  have HN : Hid (sn = s.length) := h.len.1
  have hsm : sn ≤ 1048576 := by have := HN.out; omega
  go_wp2_with fail
  refine (runM_any _ _ d s w2 (hd0.quiet hqV) (h.quiet hqV) hl hcr).mono ?_
  rintro e w3 ⟨hq3, hc⟩
  rcases hc with ⟨q, _⟩ | ⟨_, aa, ac, rfl, hown⟩
  · rw [hok] at q; simp at q
  have hA := own_answers hown hal.symm
  replace bd := bd.quiet hq3
  replace hqV : Quiet w w3 := hqV.after hq3
  clear gd zd hq2 hq3 hown
  obtain ⟨an, HAN⟩ : ∃ an, Hid (an = s.length) := ⟨_, rfl⟩
  have HAL : Hid ((playR d s).answers.length = s.length) := hal
  clear hal
  rw [← HAN.out] at hA ⊢
  obtain rfl : an = sn := by rw [HAN.out, HN.out]
  have t0 : ((an : Int) != (an : Int)) = false := by simp
  have HS0 := stateT_any (.agg #[.slice da dn dcap, .int .i64 d.quorum, .int .i64 d.expiry]) (.slice sa an scap) d hok s w3 (hd0.quiet hqV) (h.quiet hqV) hl hcr
  rw [HW0.out] at HS0
  have gd := bd.cell
  have zd := bd.lt
  go_wp2_with fail
  refine HS0.mono ?_
  rintro e w4 ⟨hq4, ia, n, ic, ra, m, rc, rfl, hWM⟩
  replace bd := bd.quiet hq4
  replace hqV : Quiet w w4 := hqV.after hq4
  replace h := h.quiet hqV
  replace hA := Arr.quiet hA hq4
  clear gd zd hq4 HS0
  have HNI : Hid (n = W0.insts.length) := hWM.insts.len.1
  go_upto_region 11 with (fail)
  refine wp_gen (fun V => Blk V w4.heap.size #[.int .i64 W0.clock, .slice ia n ic, .slice ra m rc] 38 ∧ Quiet w4 V) ⟨Blk.new' rfl, hq0 _ _⟩ ?_
  rintro V ⟨bw, hqV4⟩
  replace hqV : Quiet w V := hqV.after hqV4
  replace h := h.quiet hqV4
  replace hA := Arr.quiet hA hqV4
  have hI := hWM.insts.quiet hqV4
  clear hWM hqV4
  have hnm := hI.len.2
  go_wp2
  go_loopw [5, 11, 12, 13, 14, 15, 16] (fun ok i xp lv kv lp wh wr => ∃ k : Nat, k ≤ n ∧ i = .int .i64 k ∧ Quiet V wr) (fun _ i _ _ _ _ _ _ => n - (intOf i).toNat)
  case atStart => exact ⟨0, Nat.zero_le _, rfl, Below.refl _ _⟩
  case round =>
    obtain ⟨k, hk, rfl, hqr⟩ := hrel
    have bw1 := bw.quiet hqr
    have gw := bw1.cell
    have zw := bw1.lt
    by_cases hlt : k < n
    · have hkl : k < W0.insts.length := by have := HNI.out; omega
      obtain ⟨b, off, la, ln, lc, rfl, hb, hx, he⟩ := (hI.quiet hqr).get k hkl
      obtain ⟨x, HX⟩ : ∃ x, Hid (W0.insts[k]'hkl = x) := ⟨_, rfl⟩
      have hled := (HIO.out.each k hkl).1.led
      rw [HX.out] at hx he hled
      have HLD : Hid (LedOk d x.ledger) := hled
      obtain ⟨hln, hlm⟩ := he.len
      have HLN : Hid (ln = x.ledger.length) := hln
      clear hln hled
      simp only [Inst.cells] at hx
      have x0 : wr.cell? ⟨b, off + k * 12, none⟩ = some (.int .i64 x.id) := hx 0 _ rfl
      have x1 := hx 1 _ rfl
      have x2 := hx 2 _ rfl
      have x3 := hx 3 _ rfl
      have x4 := hx 4 _ rfl
      have x5 := hx 5 _ rfl
      have x6 := hx 6 _ rfl
      have x7 := hx 7 _ rfl
      have x8 := hx 8 _ rfl
      have x9 := hx 9 _ rfl
      have x10 := hx 10 _ rfl
      have x11 := hx 11 _ rfl
      have hki : (0 : Int) ≤ (k : Int) := by omega
      have hkj : (k : Int) < (n : Int) := by omega
      go_upto_region 15 with (fail)
      refine wp_gen (fun U => Blk U wr.heap.size #[.int .i64 x.id, .int .i64 x.mode, .bool x.stuck, .int .i64 x.settled, .int .i64 x.target, .bool x.resume, .int .i64 x.keys, .int .i64 x.key, .int .i64 x.due, .int .i64 x.tries, .int .i64 x.wake, .slice la ln lc] 46 ∧ Quiet wr U) ⟨Blk.new' rfl, hq0 _ _⟩ ?_
      rintro V2 ⟨bx, hqU2⟩
      have hq2V : Quiet V V2 := hqr.after hqU2
      replace he := he.quiet hqU2
      clear x0 x1 x2 x3 x4 x5 x6 x7 x8 x9 x10 x11 hx hb gw zw bw1 hqU2 hqr
      go_wp2
      go_loopw [5, 13, 14, 15, 16] (fun ok lv i lp wh wx => ∃ (q : Nat) (la' : Int), q ≤ ln ∧ i = .int .i64 q ∧ lv = .int .i64 la' ∧ (la' = 0 ∨ ∃ (q' : Nat) (hq' : q' < x.ledger.length), q' < q ∧ done13 x.ledger[q'] = true ∧ x.ledger[q'].ref = la') ∧ Quiet V2 wx) (fun _ _ i _ _ _ => ln - (intOf i).toNat)
      case atStart => exact ⟨0, 0, Nat.zero_le _, rfl, rfl, .inl rfl, Below.refl _ _⟩
      case round =>
        obtain ⟨q, la', hq, rfl, rfl, hla, hqx⟩ := hrel
        have HLA : Hid (la' = 0 ∨ ∃ (q' : Nat) (hq' : q' < x.ledger.length), q' < q ∧ done13 x.ledger[q'] = true ∧ x.ledger[q'].ref = la') := hla
        clear hla
        replace bx := bx.quiet hqx
        have gx := bx.cell
        have zx := bx.lt
        by_cases hlt2 : q < ln
        · have hq2l : q < x.ledger.length := by have := HLN.out; omega
          have hql : q < (W0.insts[k]'hkl).ledger.length := by rw [HX.out]; exact hq2l
          have HE0 : Hid ((W0.insts[k]'hkl).ledger[q] = x.ledger[q]) := by show _ = _; have := HX.out; subst this; rfl
          have hkd : 1 ≤ (x.ledger[q]'hq2l).kind ∧ (x.ledger[q]'hq2l).kind ≤ 4 := by have := HLD.out q hq2l; unfold EntOk at this; omega
          have he1 := he.quiet hqx
          obtain ⟨b1, off1, rfl, hb1, y0, y1, y2⟩ := he1.cell q hq2l
          obtain ⟨en, HE1⟩ : ∃ en : Entry, Hid (x.ledger[q]'hq2l = en) := ⟨x.ledger[q]'hq2l, rfl⟩
          have HE : Hid ((W0.insts[k]'hkl).ledger[q] = en) := HE0.out.trans HE1.out
          rw [HE1.out] at y0 y1 y2 hkd
          clear HE0
          have hqi : (0 : Int) ≤ (q : Int) := by omega
          have hqj : (q : Int) < (ln : Int) := by omega
          obtain hkv | hkv | hkv | hkv : en.kind = 2 ∨ en.kind = 4 ∨ en.kind = 1 ∨ en.kind = 3 := by omega
          · have t3 : ((2 : Int) == 3) = false := by decide
            have t2 : ((2 : Int) == 2) = true := by decide
            have t4 : ((2 : Int) == 4) = false := by decide
            rw [hkv] at y0
            go_wp2
            go_roundw
            case rel => exact ⟨q + 1, la', by omega, by go_num, rfl, HLA.out.elim .inl (fun ⟨q', h1, h2, h3, h4⟩ => .inr ⟨q', h1, by omega, h3, h4⟩), hqx.after (hq0 _ _)⟩
            case measure => simp [intOf]; omega
          · have t3 : ((4 : Int) == 3) = false := by decide
            have t2 : ((4 : Int) == 2) = false := by decide
            have t4 : ((4 : Int) == 4) = true := by decide
            rw [hkv] at y0
            go_wp2
            go_roundw
            case rel => exact ⟨q + 1, la', by omega, by go_num, rfl, HLA.out.elim .inl (fun ⟨q', h1, h2, h3, h4⟩ => .inr ⟨q', h1, by omega, h3, h4⟩), hqx.after (hq0 _ _)⟩
            case measure => simp [intOf]; omega
          · have t3 : ((1 : Int) == 3) = false := by decide
            have t2 : ((1 : Int) == 2) = false := by decide
            have t4 : ((1 : Int) == 4) = false := by decide
            have HD : Hid (done13 en = true) := by show done13 en = true; simp [done13, hkv]
            have HDx : Hid (done13 (W0.insts[k]'hkl).ledger[q] = true) := by show done13 _ = true; rw [HE.out]; exact HD.out
            obtain ⟨j, hpj⟩ := HW.out.gave k hkl q hql HDx.out
            obtain ⟨m1, m2⟩ := HW.out.most k hkl q hql HDx.out
            rw [HE.out, HX.out, hkv] at hpj
            rw [HE.out] at m1
            rw [HE.out, HX.out] at m2
            have hgv : PickAt s (playR d s).answers x.id j ⟨0, en.ref, en.step, 1⟩ := by simpa using hpj
            have hrise : la' < en.ref := by
              rcases HLA.out with q0 | ⟨q', hq'l, hlt, hdq, hrq⟩
              · omega
              · have hq'x : q' < (W0.insts[k]'hkl).ledger.length := by rw [HX.out]; exact hq'l
                have e1 : (W0.insts[k]'hkl).ledger[q'] = x.ledger[q'] := by have := HX.out; subst this; rfl
                have := HW.out.rise k hkl q q' hql hq'x hlt (by rw [e1]; exact hdq) HDx.out
                rw [HE.out, e1] at this
                omega
            have HG : Hid (∀ U, Quiet wr U → Calls Try.prog 27 #[.slice sa an scap, .slice aa an ac, .int .i64 x.id, .int .i64 en.ref, .int .i64 en.step, .int .i64 1] U fun e w' => e = .returned (.bool true) ∧ Quiet U w') := fun U hU =>
              gave_any _ aa an ac s (playR d s).answers HAL.out hl x.id en.ref en.step 1 j hgv U (((h.quiet hq2V).quiet hqx).quiet hU) (Arr.quiet (Arr.quiet (Arr.quiet hA hq2V) hqx) hU)
            have HEK : Hid (en.kind = 1) := hkv
            rw [hkv] at y0
            clear hkv hpj hgv
            have r1 : ¬ (en.ref ≤ la') := by omega
            have r2 : ¬ (x.keys < en.ref) := by omega
            go_upto_region 24 with (fail)
            refine wp_gen (fun U => Blk U wr.heap.size #[.int .i64 1, .int .i64 en.step, .int .i64 en.ref] 49 ∧ Quiet wr U) ⟨Blk.new' rfl, hq0 _ _⟩ ?_
            rintro U ⟨be, hqU⟩
            replace bx := bx.quiet hqU
            clear gx zx y0 y1 y2 hb1
            have ge := be.cell
            have ze := be.lt
            have gx := bx.cell
            have zx := bx.lt
            go_wp2_with fail
            refine (HG.out U hqU).mono ?_
            rintro e U2 ⟨rfl, hq2⟩
            replace be := be.quiet hq2
            replace bx := bx.quiet hq2
            clear ge ze gx zx
            have ge := be.cell
            have ze := be.lt
            have gx := bx.cell
            have zx := bx.lt
            go_wp2
            go_roundw
            case rel => exact ⟨q + 1, en.ref, by omega, by go_num, rfl, .inr ⟨q, hq2l, by omega, by rw [HE1.out]; exact HD.out, by rw [HE1.out]⟩, hqx.after (hqU.after hq2)⟩
            case measure => simp [intOf]; omega
          · have t3 : ((3 : Int) == 3) = true := by decide
            have t2 : ((3 : Int) == 2) = false := by decide
            have t4 : ((3 : Int) == 4) = false := by decide
            have HD : Hid (done13 en = true) := by show done13 en = true; simp [done13, hkv]
            have HDx : Hid (done13 (W0.insts[k]'hkl).ledger[q] = true) := by show done13 _ = true; rw [HE.out]; exact HD.out
            obtain ⟨j, hpj⟩ := HW.out.gave k hkl q hql HDx.out
            obtain ⟨m1, m2⟩ := HW.out.most k hkl q hql HDx.out
            rw [HE.out, HX.out, hkv] at hpj
            rw [HE.out] at m1
            rw [HE.out, HX.out] at m2
            have hgv : PickAt s (playR d s).answers x.id j ⟨0, en.ref, en.step, 2⟩ := by simpa using hpj
            have hrise : la' < en.ref := by
              rcases HLA.out with q0 | ⟨q', hq'l, hlt, hdq, hrq⟩
              · omega
              · have hq'x : q' < (W0.insts[k]'hkl).ledger.length := by rw [HX.out]; exact hq'l
                have e1 : (W0.insts[k]'hkl).ledger[q'] = x.ledger[q'] := by have := HX.out; subst this; rfl
                have := HW.out.rise k hkl q q' hql hq'x hlt (by rw [e1]; exact hdq) HDx.out
                rw [HE.out, e1] at this
                omega
            have HG : Hid (∀ U, Quiet wr U → Calls Try.prog 27 #[.slice sa an scap, .slice aa an ac, .int .i64 x.id, .int .i64 en.ref, .int .i64 en.step, .int .i64 2] U fun e w' => e = .returned (.bool true) ∧ Quiet U w') := fun U hU =>
              gave_any _ aa an ac s (playR d s).answers HAL.out hl x.id en.ref en.step 2 j hgv U (((h.quiet hq2V).quiet hqx).quiet hU) (Arr.quiet (Arr.quiet (Arr.quiet hA hq2V) hqx) hU)
            have HEK : Hid (en.kind = 3) := hkv
            rw [hkv] at y0
            clear hkv hpj hgv
            have r1 : ¬ (en.ref ≤ la') := by omega
            have r2 : ¬ (x.keys < en.ref) := by omega
            go_upto_region 24 with (fail)
            refine wp_gen (fun U => Blk U wr.heap.size #[.int .i64 3, .int .i64 en.step, .int .i64 en.ref] 49 ∧ Quiet wr U) ⟨Blk.new' rfl, hq0 _ _⟩ ?_
            rintro U ⟨be, hqU⟩
            replace bx := bx.quiet hqU
            clear gx zx y0 y1 y2 hb1
            have ge := be.cell
            have ze := be.lt
            have gx := bx.cell
            have zx := bx.lt
            go_wp2_with fail
            refine (HG.out U hqU).mono ?_
            rintro e U2 ⟨rfl, hq2⟩
            replace be := be.quiet hq2
            replace bx := bx.quiet hq2
            clear ge ze gx zx
            have ge := be.cell
            have ze := be.lt
            have gx := bx.cell
            have zx := bx.lt
            go_wp2
            go_roundw
            case rel => exact ⟨q + 1, en.ref, by omega, by go_num, rfl, .inr ⟨q, hq2l, by omega, by rw [HE1.out]; exact HD.out, by rw [HE1.out]⟩, hqx.after (hqU.after hq2)⟩
            case measure => simp [intOf]; omega
        · go_wp2
          go_roundw
          case rel => exact ⟨k + 1, by omega, by go_num, hq2V.after hqx⟩
          case measure => simp [intOf]; omega
    · go_wp2_with fail
      refine (once_any _ aa an ac s (playR d s).answers HAL.out hl HW.out.one wr (h.quiet hqr) (Arr.quiet hA hqr)).mono ?_
      rintro e w9 ⟨rfl, hq9⟩
      go_wp2
      go_ret
      exact ⟨rfl, (hqV.after hqr).after hq9⟩

end Go.Proofs.Ytgcjlgaapiefiaa

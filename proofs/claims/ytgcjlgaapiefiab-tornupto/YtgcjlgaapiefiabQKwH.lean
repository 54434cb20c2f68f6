import Derived.Test.YtgcjlgaapiefiabQJx
import Derived.Test.YtgcjlgaapiefiabQKwG
import Derived.Lib.QuietBelow

/-
  The statement Torn: walked.
-/
namespace Go.Proofs.Ytgcjlgaapiefiab
open Go.RowKit Go.Sort

set_option maxRecDepth 100000 in
set_option maxHeartbeats 1600000 in
theorem torn_walk (dv sv : Value) (d : Def) (s : List Cmd) (kk : Int) (hkk : -9223372036854775808 ≤ kk ∧ kk ≤ 9223372036854775807) (w : World) (hd : DefIs w dv d) (_hv : SlOk sv) (h : Cmds w sv s) (hl : s.length + 1 ≤ 1048576) (hcr : ∀ c ∈ s, c.reason.size ≤ 9223372036854775807) :
    Calls Try.prog 4 #[dv, sv, .int .i64 kk] w fun e w' => e = .returned (.bool true) ∧ Quiet w w' := by
  have hq0 : ∀ (w : World) o, Quiet w (w.alloc o) := fun w o => (Below.refl _ _).alloc (Nat.le_refl _) _
  have hd0 := hd
  obtain ⟨da, dn, dcap, rfl, hst⟩ := hd
  clear hst
  go_enter Try.func4, Try.ntmps4
  go_wp2_with fail
  refine calls_gen (fun V => Blk V w.heap.size #[.slice da dn dcap, .int .i64 d.quorum, .int .i64 d.expiry] 24 ∧ Quiet w V) ⟨Blk.new' rfl, hq0 _ _⟩ ?_
  rintro V ⟨bd, hqV⟩
  refine (awake_any V).mono ?_
  rintro e w0 ⟨rfl, hq0'⟩
  go_wp2_with fail
  refine (written_any w0).mono ?_
  rintro e w1 ⟨rfl, hq1⟩
  replace bd := (bd.quiet hq0').quiet hq1
  replace hqV : Quiet w w1 := (hqV.after hq0').after hq1
  have gd := bd.cell
  have zd := bd.lt
  go_wp2_with fail
  refine (valid_any _ d w1 (hd0.quiet hqV)).mono ?_
  rintro e w2 ⟨rfl, hq2⟩
  replace bd := bd.quiet hq2
  replace hqV : Quiet w w2 := hqV.after hq2
  clear gd zd hq1 hq0' V
  have gd := bd.cell
  have zd := bd.lt
  cases hok : d.ok
  · go_wp2_with fail
    refine (refuses_any _ sv d s w2 (hd0.quiet hqV) hok (h.quiet hqV) (by omega) hcr).mono ?_
    rintro e w3 ⟨rfl, hq3⟩
    go_wp2
    go_ret
    exact ⟨rfl, hqV.after hq3⟩
  go_wp2_with fail
  refine (calm_any sv s w2 (h.quiet hqV) (by omega)).mono ?_
  rintro e w3 ⟨sa, sn, scap, rfl, _, hS, hq3⟩
  have hcl := calmR_len s
  have hcm := calmR_mem s
  generalize calmR s = S at *
  have hScr : ∀ c ∈ S, c.reason.size ≤ 9223372036854775807 := fun c hc => hcr c (hcm c hc).1
  have hS9 : ∀ c ∈ S, c.kind ≠ 9 := fun c hc => (hcm c hc).2
  have hSl : S.length ≤ 1048576 := by omega
  have htape := (playFold d S S.length (Nat.le_refl _)).1
  have hLl := (playFold d S S.length (Nat.le_refl _)).2.1
  rw [List.take_length] at htape hLl
  have hL := htape.log
  have hwet : ∀ c ∈ (playR d S).log, c.dry = false := fun c hc => (log_wet d S c hc).1
  have hLcr : ∀ c ∈ (playR d S).log, c.reason.size ≤ 9223372036854775807 := fun c hc => hScr c (log_wet d S c hc).2
  replace bd := bd.quiet hq3
  replace hqV : Quiet w w3 := hqV.after hq3
  clear gd zd hq2 hq3 hcm hcr htape
  have gd := bd.cell
  have zd := bd.lt
  go_wp2_with fail
  refine (journalM_any _ _ d S w3 (hd0.quiet hqV) hS hSl hScr).mono ?_
  rintro e w4 ⟨hq4, ⟨q, _⟩ | ⟨_, rfl⟩⟩
  · rw [hok] at q; simp at q
  replace bd := bd.quiet hq4
  replace hqV : Quiet w w4 := hqV.after hq4
  replace hS := hS.quiet hq4
  clear gd zd hq4
  have gd := bd.cell
  have zd := bd.lt
  generalize (playR d S).safe = sf at *
  go_wp2_with fail
  refine (accepted_any _ _ d hok S w4 (hd0.quiet hqV) hS hSl hScr hS9).mono ?_
  rintro e w5 ⟨la, ln, lc, rfl, _, hC, hq5⟩
  replace bd := bd.quiet hq5
  replace hqV : Quiet w w5 := hqV.after hq5
  clear gd zd hq5 hS hScr hS9
  have hlnL := hC.len.1
  subst hlnL
  generalize (playR d S).log = L at *
  have hLm : L.length ≤ 1048576 := by omega
  have hJ28 := bytesN_most hL L.length (Nat.le_refl _)
  rw [List.take_length] at hJ28
  have hJs : (bytesR L).size = bytesN L := rfl
  obtain ⟨J, HJ⟩ : ∃ J, Hid (J = bytesR L) := ⟨_, rfl⟩
  rw [← HJ.out] at hJs ⊢
  have HJs : Hid (J.size = bytesN L) := hJs
  have HP := pickK_any kk (J.size + 1) w5 hkk (by omega) (by omega)
  rw [show ((J.size + 1 : Nat) : Int) = (J.size : Int) + 1 by omega] at HP
  have gd := bd.cell
  have zd := bd.lt
  have hJm : (J.size : Int) ≤ 29360128 := by omega
  clear hJs hJ28
  go_wp2_with fail
  refine HP.mono ?_
  rintro e w6 ⟨⟨n, rfl, hn⟩, rfl⟩
  obtain ⟨j, hj, hj1, hj2, hrec⟩ := recover_tornO (.agg #[.slice da dn dcap, .int .i64 d.quorum, .int .i64 d.expiry]) d hok L hL hLm n (by have := HJs.out; omega)
  rw [← HJ.out] at hrec
  have HREC : Hid (∀ U, Quiet w U → Calls Try.prog 16 #[.agg #[.slice da dn dcap, .int .i64 d.quorum, .int .i64 d.expiry], .string (J.extract 0 n)] U fun e w' => Quiet U w' ∧ ∃ ia n ic ra m rc, e = .returned (.tuple #[.agg #[.int .i64 (worldR d (L.take j)).clock, .slice ia n ic, .slice ra m rc], .int .i64 (bytesN (L.take j)), .int .i64 0]) ∧ WMem w' ia n ic ra m rc (worldR d (L.take j))) := fun U hU => hrec U (hd0.quiet hU)
  have hfit := fits_iff hj hj1 hj2
  have hJx : J.extract 0 (bytesN (L.take j)) = bytesR (L.take j) := by rw [HJ.out]; exact bytes_begin L j
  have hslJ := fun U => slice_str U J n (by omega)
  clear hrec hj2 HP
  obtain ⟨N, HN⟩ : ∃ N, Hid (N = bytesN (L.take j)) := ⟨_, rfl⟩
  obtain ⟨WW, HWW⟩ : ∃ WW, Hid (WW = worldR d (L.take j)) := ⟨_, rfl⟩
  rw [← HN.out] at HREC hj1 hJx
  rw [← HWW.out] at HREC
  have gdq := fun U (hU : Quiet w6 U) => (bd.quiet hU).cell
  go_wp2_with fail
  go_cut [17, 18, 19] (fun p u e wc => ∃ wb, p = .pointer (some ⟨wb, 0, none⟩) ∧ u = .int .i64 N ∧ e = .int .i64 0 ∧ w6.heap.size ≤ wb ∧ Quiet w6 wc ∧ WAt wc wb WW)
  case first =>
    go_region_with (go_at_call 16; refine (HREC.out _ ?_).mono ?_; (first | exact Below.drew hqV | exact hqV | exact hqV.drewN | exact Below.alloc (Below.drew hqV) (by have := hqV.size; simp; omega) _ | exact Below.drew (hqV.after (hq0 _ _)) | exact hqV.after (hq0 _ _) | exact (hqV.after (hq0 _ _)).drewN); rintro e w2 ⟨hqR, ia, n1, ic, ra, m1, rc, rfl, hWM⟩; (first | (have bz := (Blk.drew (Blk.new' (w := w6) (b := w6.heap.size) rfl)).quiet hqR; have bzc := bz.cell; have bzf := bz.frozen) | (have bz := (Blk.new' (w := w6.drew) (b := w6.heap.size) rfl).quiet hqR; have bzc := bz.cell; have bzf := bz.frozen) | (have bz := (Blk.new' (w := w6) (b := w6.heap.size) rfl).quiet hqR; have bzc := bz.cell; have bzf := bz.frozen) | (have bz := True.intro)))
    all_goals (try go_wp2)
    all_goals
      go_meet
      case rel =>
        have hqU : Quiet w6 w2 := by first | exact Quiet.after (Below.drew (Below.refl _ _)) hqR | exact Quiet.after (Below.drew (hq0 _ _)) hqR | exact Quiet.after (hq0 _ _) hqR | exact hqR
        refine ⟨_, rfl, rfl, rfl, ?_, ?_, ?_⟩
        · first | exact Nat.le_refl _ | exact hqU.size
        · first | (with_reducible exact hqU.after (hq0 _ _)) | exact Below.set3w hqU (Nat.le_refl _) _ _ _
        · first | (with_reducible exact WAt.new hWM) | exact WAt.set hWM bz rfl
  case rest =>
    obtain ⟨wb, rfl, rfl, rfl, hwb, hqc, hWA⟩ := hcut
    replace bd := bd.quiet hqc
    replace hqV : Quiet w wc := hqV.after hqc
    replace hC := hC.quiet hqc
    clear gd zd gdq HREC hslJ HJs hqc hwb
    have hcap : ∀ k, k ≤ L.length → k ≤ lc := fun k hk => (hC.takes k hk).2
    have hNn : (N : Int) ≤ (n : Int) := by omega
    have hNd : decide (n < N) = false := by simp; omega
    have hNJ : (N : Int) ≤ (J.size : Int) := by omega
    have hLi : (L.length : Int) ≤ 1048576 := by omega
    clear hj1 hn hJm
    go_wp2
    go_loopw [20, 21, 22, 23, 24] (fun m i t u g wr => ∃ k : Nat, k ≤ L.length + 1 ∧ i = .int .i64 k ∧ m = .int .i64 (mOf j k) ∧ Quiet wc wr) (fun _ i _ _ _ _ => L.length + 1 - (intOf i).toNat)
    case atStart => exact ⟨0, Nat.zero_le _, rfl, by rw [mOf_zero]; rfl, Below.refl _ _⟩
    case round =>
      obtain ⟨k, hk, rfl, rfl, hqr⟩ := hrel
      replace bd := bd.quiet hqr
      replace hWA := hWA.quiet hqr
      replace hqV : Quiet w wr := hqV.after hqr
      replace hC := hC.quiet hqr
      have gd := bd.cell
      have zd := bd.lt
      by_cases hlt : k ≤ L.length
      · obtain ⟨S, HS0⟩ := journal_take (.agg #[.slice da dn dcap, .int .i64 d.quorum, .int .i64 d.expiry]) d hok L hL hwet hLcr hLm la L.length lc k hlt
        obtain ⟨T, HT⟩ : ∃ T, Hid (T = bytesR (L.take k)) := ⟨_, rfl⟩
        rw [← HT.out] at HS0
        have hfk : T.size ≤ n ↔ k ≤ j := by rw [HT.out]; exact hfit k hlt
        have k0 := fun d os => (bd.quiet (below_regrown wr d os)).cell
        have hsl := fun U => slice_cmds U la L.length lc k (hcap k hlt)
        have HCI : Hid (∀ dd os, Calls Try.prog 14 #[.agg #[.slice da dn dcap, .int .i64 d.quorum, .int .i64 d.expiry], .slice la k lc] (grow (redrawn wr dd) os) fun e w'' => e = .returned (.tuple #[.string T, .int .i64 S, .int .i64 0]) ∧ ∃ p : Regrown, w'' = grow (redrawn wr p.d) p.os) := fun dd os =>
          Calls.regrown_of (HS0 _ ((hd0.quiet hqV).quiet (below_regrown wr dd os)) (hC.quiet (below_regrown wr dd os)))
        clear HS0
        have hki : (0 : Int) ≤ (k : Int) := by omega
        have hkj : (k : Int) ≤ (L.length : Int) := by omega
        go_wp2_with fail
        refine wp_region_quiet_below mixed (by kernel_rfl) ?_
        repeat (quiet_step (exact HCI.out _ _))
        refine wpQuiet_nil ?_
        intro _ hw'
        obtain ⟨⟨dq, osq⟩, hw''⟩ := hw'
        subst hw''
        have hbq := below_regrown wr dq osq
        replace hqr : Quiet wc _ := hqr.after hbq
        clear k0 gd zd HCI hsl bd hWA hqV hC hbq
        generalize grow (redrawn wr dq) osq = wr at *
        by_cases hkj2 : k ≤ j
        · have hTn : (T.size : Int) ≤ (n : Int) := by have := hfk.2 hkj2; omega
          clear hfk
          go_wp2
          go_roundw
          case rel => exact ⟨k + 1, by omega, by go_num, by rw [mOf_fit hkj2], hqr⟩
          case measure => simp [intOf]; omega
        · have hTn : ¬ (T.size : Int) ≤ (n : Int) := by intro q; exact hkj2 (hfk.1 (by omega))
          clear hfk
          go_wp2
          go_roundw
          case rel => exact ⟨k + 1, by omega, by go_num, by rw [mOf_not (by omega)], hqr⟩
          case measure => simp [intOf]; omega
      · obtain rfl : k = L.length + 1 := by omega
        rw [mOf_end hj]
        obtain ⟨S, HS0⟩ := journal_take (.agg #[.slice da dn dcap, .int .i64 d.quorum, .int .i64 d.expiry]) d hok L hL hwet hLcr hLm la L.length lc j hj
        obtain ⟨T, HT⟩ : ∃ T, Hid (T = bytesR (L.take j)) := ⟨_, rfl⟩
        rw [← HT.out] at HS0 hJx
        have hTs : T.size = N := by rw [HT.out, HN.out]; rfl
        have hsl := fun U => slice_cmds U la L.length lc j (hcap j hj)
        have k0 := fun d os => (bd.quiet (below_regrown wr d os)).cell
        have HCI : Hid (∀ dd os, Calls Try.prog 14 #[.agg #[.slice da dn dcap, .int .i64 d.quorum, .int .i64 d.expiry], .slice la j lc] (grow (redrawn wr dd) os) fun e w'' => e = .returned (.tuple #[.string T, .int .i64 S, .int .i64 0]) ∧ ∃ p : Regrown, w'' = grow (redrawn wr p.d) p.os) := fun dd os =>
          Calls.regrown_of (HS0 _ ((hd0.quiet hqV).quiet (below_regrown wr dd os)) (hC.quiet (below_regrown wr dd os)))
        clear HS0
        have hki : (0 : Int) ≤ (j : Int) := by omega
        have hkj : (j : Int) ≤ (L.length : Int) := by omega
        go_wp2_with fail
        refine wp_region_quiet_below mixed (by kernel_rfl) ?_
        repeat (quiet_step (exact HCI.out _ _))
        refine wpQuiet_nil ?_
        intro _ hw'
        obtain ⟨⟨dq, osq⟩, hw''⟩ := hw'
        subst hw''
        have hbq := below_regrown wr dq osq
        replace bd := bd.quiet hbq
        replace hWA := hWA.quiet hbq
        replace hqV : Quiet w _ := hqV.after hbq
        replace hC := hC.quiet hbq
        clear k0 gd zd HCI hqr hbq
        generalize grow (redrawn wr dq) osq = wr at *
        have gd := bd.cell
        have zd := bd.lt
        have HST : Hid (∀ U, Quiet wr U → Calls Try.prog 17 #[.agg #[.slice da dn dcap, .int .i64 d.quorum, .int .i64 d.expiry], .slice la j lc] U fun e w' => Quiet U w' ∧ ∃ ia n ic ra m rc, e = .returned (.tuple #[.agg #[.int .i64 WW.clock, .slice ia n ic, .slice ra m rc], .int .i64 0]) ∧ WMem w' ia n ic ra m rc WW) := fun U hU => by
          rw [HWW.out]
          exact state_take _ d hok L hL hwet hLcr hLm la L.length lc j hj U ((hd0.quiet hqV).quiet hU) (hC.quiet hU)
        go_wp2_with fail
        go_cut [28, 29] (fun p e wx => ∃ xb, p = .pointer (some ⟨xb, 0, none⟩) ∧ e = .int .i64 0 ∧ Quiet wr wx ∧ WAt wx xb WW)
        case first =>
          go_region_with (go_at_call 17; refine (HST.out _ ?_).mono ?_; (first | exact Below.drew (Below.refl _ _) | exact Below.drew (hq0 _ _) | exact hq0 _ _ | exact Below.refl _ _ | exact (Below.refl _ _).drewN | exact Below.alloc (Below.drew (Below.refl _ _)) (by simp) _); rintro e wy ⟨hqR, ia, n1, ic, ra, m1, rc, rfl, hWM⟩; (first | (have bz := (Blk.drew (Blk.new' (w := wr) (b := wr.heap.size) rfl)).quiet hqR; have bzc := bz.cell; have bzf := bz.frozen) | (have bz := (Blk.new' (w := wr.drew) (b := wr.heap.size) rfl).quiet hqR; have bzc := bz.cell; have bzf := bz.frozen) | (have bz := (Blk.new' (w := wr) (b := wr.heap.size) rfl).quiet hqR; have bzc := bz.cell; have bzf := bz.frozen) | (have bz := True.intro)))
          all_goals (try go_wp2)
          all_goals
            go_meet
            case rel =>
              have hqU : Quiet wr wy := by first | exact Quiet.after (Below.drew (Below.refl _ _)) hqR | exact Quiet.after (Below.drew (hq0 _ _)) hqR | exact Quiet.after (hq0 _ _) hqR | exact hqR
              refine ⟨_, rfl, rfl, ?_, ?_⟩
              · first | (with_reducible exact hqU.after (hq0 _ _)) | exact Below.set3w hqU (Nat.le_refl _) _ _ _
              · first | (with_reducible exact WAt.new hWM) | exact WAt.set hWM bz rfl
        case rest =>
          rename_i wx _
          obtain ⟨xb, rfl, rfl, hqx, hWX⟩ := hcut
          replace hWA := hWA.quiet hqx
          obtain ⟨ia, n1, ic, ra, m1, rc, b1, M1⟩ := hWA
          obtain ⟨ia2, n2, ic2, ra2, m2, rc2, b2, M2⟩ := hWX
          have g1 := b1.cell
          have z1 := b1.lt
          have g2 := b2.cell
          have z2 := b2.lt
          clear gd zd bd HST hC
          go_wp2_with fail
          refine (sameW_any WW.clock WW.clock _ _ _ _ WW.insts WW.insts WW.reqs WW.reqs _ M1.insts M2.insts M1.reqs M2.reqs).mono ?_
          rintro e wy ⟨rfl, hqy⟩
          rw [eqB_true rfl]
          have hNT : ((N : Int) == (T.size : Int)) = true := by rw [hTs]; simp
          have hNJ' : N ≤ J.size := by omega
          have hslJ := fun U => slice_str U J N hNJ'
          rw [hJx] at hslJ
          have hTT : (T.toList == T.toList) = true := by simp
          clear hTs
          go_wp2
          go_ret
          exact ⟨rfl, (hqV.after hqx).after hqy⟩

end Go.Proofs.Ytgcjlgaapiefiab

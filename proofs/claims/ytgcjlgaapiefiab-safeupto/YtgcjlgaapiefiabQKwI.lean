import Derived.Test.YtgcjlgaapiefiabQJx
import Derived.Test.YtgcjlgaapiefiabQKpB
import Derived.Test.YtgcjlgaapiefiabQKwG
import Derived.Lib.QuietBelow

/-
  The statement Safe: walked.
-/
namespace Go.Proofs.Ytgcjlgaapiefiab
open Go.RowKit Go.Sort

theorem toList_size {a b : ByteArray} (h : a.toList = b.toList) : a.size = b.size := by
  rw [ByteArray.toList_eq, ByteArray.toList_eq] at h
  have := congrArg List.length h
  simpa using this
theorem Quiet.rf {w : World} : Quiet w w := Below.refl _ _
theorem Quiet.dr {w u : World} (h : Quiet w u) : Quiet w u.drew := Below.drew h
theorem Quiet.al {w u : World} {o : Obj} (h : Quiet w u) : Quiet w (u.alloc o) := h.after ((Below.refl _ _).alloc (Nat.le_refl _) _)

set_option maxRecDepth 100000 in
set_option maxHeartbeats 1600000 in
theorem safe_walk (dv sv : Value) (d : Def) (s : List Cmd) (kk : Int) (hkk : -9223372036854775808 ≤ kk ∧ kk ≤ 9223372036854775807) (w : World) (hd : DefIs w dv d) (_hv : SlOk sv) (h : Cmds w sv s) (hl : s.length + 2 ≤ 1048576) (hcr : ∀ c ∈ s, c.reason.size ≤ 9223372036854775807) :
    Calls Try.prog 5 #[dv, sv, .int .i64 kk] w fun e w' => e = .returned (.bool true) ∧ Quiet w w' := by
  have hq0 : ∀ (w : World) o, Quiet w (w.alloc o) := fun w o => (Below.refl _ _).alloc (Nat.le_refl _) _
  have hd0 := hd
  obtain ⟨da, dn, dcap, rfl, hst⟩ := hd
  clear hst
  go_enter Try.func5, Try.ntmps5
  go_wp2_with fail
  refine calls_gen (fun V => Blk V w.heap.size #[.slice da dn dcap, .int .i64 d.quorum, .int .i64 d.expiry] 24 ∧ Quiet w V) ⟨Blk.new' rfl, hq0 _ _⟩ ?_
  rintro V ⟨bd, hqV⟩
  refine (awake_any V).mono ?_
  rintro e w0 ⟨rfl, hq0'⟩
  go_wp2_with fail
  refine (written_any w0).mono ?_
  rintro e w1 ⟨rfl, hq1⟩
  replace bd := (bd.quiet hq0').quiet hq1
  replace hqV : Quiet w w1 := (hqV.after hq0').after hq1
  have gd := bd.cell
  have zd := bd.lt
  go_wp2_with fail
  refine (valid_any _ d w1 (hd0.quiet hqV)).mono ?_
  rintro e w2 ⟨rfl, hq2⟩
  replace bd := bd.quiet hq2
  replace hqV : Quiet w w2 := hqV.after hq2
  clear gd zd hq1 hq0' V
  have gd := bd.cell
  have zd := bd.lt
  cases hok : d.ok
  · go_wp2_with fail
    refine (refuses_any _ sv d s w2 (hd0.quiet hqV) hok (h.quiet hqV) (by omega) hcr).mono ?_
    rintro e w3 ⟨rfl, hq3⟩
    go_wp2
    go_ret
    exact ⟨rfl, hqV.after hq3⟩
  go_wp2_with fail
  refine (calm_any sv s w2 (h.quiet hqV) (by omega)).mono ?_
  rintro e w3 ⟨sa, sn, scap, rfl, hSl0, hS, hq3⟩
  have hcl := calmR_len s
  have hcm := calmR_mem s
  generalize calmR s = S at *
  have hScr : ∀ c ∈ S, c.reason.size ≤ 9223372036854775807 := fun c hc => hcr c (hcm c hc).1
  have hS9 : ∀ c ∈ S, c.kind ≠ 9 := fun c hc => (hcm c hc).2
  have hSl : S.length ≤ 1048576 := by omega
  have htape := (playFold d S S.length (Nat.le_refl _)).1
  have hLl := (playFold d S S.length (Nat.le_refl _)).2.1
  rw [List.take_length] at htape hLl
  have hL := htape.log
  have hwet : ∀ c ∈ (playR d S).log, c.dry = false := fun c hc => (log_wet d S c hc).1
  have hLcr : ∀ c ∈ (playR d S).log, c.reason.size ≤ 9223372036854775807 := fun c hc => hScr c (log_wet d S c hc).2
  replace bd := bd.quiet hq3
  replace hqV : Quiet w w3 := hqV.after hq3
  clear gd zd hq2 hq3 hcm hcr htape
  have gd := bd.cell
  have zd := bd.lt
  go_wp2_with fail
  refine (journalM_any _ _ d S w3 (hd0.quiet hqV) hS hSl hScr).mono ?_
  rintro e w4 ⟨hq4, ⟨q, _⟩ | ⟨_, rfl⟩⟩
  · rw [hok] at q; simp at q
  replace bd := bd.quiet hq4
  replace hqV : Quiet w w4 := hqV.after hq4
  replace hS := hS.quiet hq4
  clear gd zd hq4
  have gd := bd.cell
  have zd := bd.lt
  go_wp2_with fail
  refine (pickK_any kk 300 w4 hkk (by omega) (by omega)).mono ?_
  rintro e w5 ⟨⟨r, rfl, hr⟩, rfl⟩
  go_wp2_with fail
  refine (with_any (.slice sa sn scap) S ⟨9, 0, r, 0, 0, ⟨#[]⟩, false⟩ w5 hSl0 hS (by omega)).mono ?_
  rintro e w6 ⟨xa, xn, xcap, rfl, hX, hq6⟩
  replace bd := bd.quiet hq6
  replace hqV : Quiet w w6 := hqV.after hq6
  replace hS := hS.quiet hq6
  clear gd zd hq6 hSl0
  have gd := bd.cell
  have zd := bd.lt
  obtain ⟨p, hp, hlog, hsafe, hs1, hs2, hs3, hs4, hlog2⟩ := safe_plain d S r
  have hXcr : ∀ c ∈ S ++ [crashC r], c.reason.size ≤ 9223372036854775807 := by
    intro c hc
    rcases List.mem_append.1 hc with hc | hc
    · exact hScr c hc
    · simp at hc; subst hc; exact Nat.zero_le _
  have hXcr2 : ∀ c ∈ S ++ [crashC r] ++ [crashC 0], c.reason.size ≤ 9223372036854775807 := by
    intro c hc
    rcases List.mem_append.1 hc with hc | hc
    · exact hXcr c hc
    · simp at hc; subst hc; exact Nat.zero_le _
  have hX0 : Cmds w6 (.slice (some xa) xn xcap) (S ++ [crashC r]) := hX
  go_wp2_with fail
  refine (journalM_any _ _ d (S ++ [crashC r]) w6 (hd0.quiet hqV) hX (by simp; omega) hXcr).mono ?_
  rintro e w7 ⟨hq7, ⟨q, _⟩ | ⟨_, rfl⟩⟩
  · rw [hok] at q; simp at q
  rw [hlog, hsafe]
  replace bd := bd.quiet hq7
  replace hqV : Quiet w w7 := hqV.after hq7
  replace hS := hS.quiet hq7
  replace hX0 := hX0.quiet hq7
  clear gd zd hq7 hX hsafe
  have gd := bd.cell
  have zd := bd.lt
  go_wp2_with fail
  refine (accepted_any _ _ d hok S w7 (hd0.quiet hqV) hS hSl hScr hS9).mono ?_
  rintro e w8 ⟨la, ln, lc, rfl, _, hC, hq8⟩
  replace bd := bd.quiet hq8
  replace hqV : Quiet w w8 := hqV.after hq8
  replace hX0 := hX0.quiet hq8
  clear gd zd hq8 hS hScr hS9
  have hlnL := hC.len.1
  subst hlnL
  have hsf0 : 0 ≤ (playR d S).safe := by obtain ⟨q, _, e⟩ := safe_at d S; omega
  have HW1 : Hid (∀ U, Quiet w8 U → Calls Try.prog 17 #[.agg #[.slice da dn dcap, .int .i64 d.quorum, .int .i64 d.expiry], .slice (some xa) xn xcap] U fun e w' => Quiet U w' ∧ ∃ ia n ic ra m rc, e = .returned (.tuple #[.agg #[.int .i64 (worldR d ((playR d S).log.take p)).clock, .slice ia n ic, .slice ra m rc], .int .i64 0]) ∧ WMem w' ia n ic ra m rc (worldR d ((playR d S).log.take p))) := fun U hU => by
    have := stateT_any (.agg #[.slice da dn dcap, .int .i64 d.quorum, .int .i64 d.expiry]) (.slice (some xa) xn xcap) d hok (S ++ [crashC r]) U ((hd0.quiet hqV).quiet hU) (hX0.quiet hU) (by simp; omega) hXcr
    rw [hlog] at this
    exact this
  have HW2 : Hid (∀ U v, Quiet w8 U → Cmds U v (S ++ [crashC r] ++ [crashC 0]) → Calls Try.prog 17 #[.agg #[.slice da dn dcap, .int .i64 d.quorum, .int .i64 d.expiry], v] U fun e w' => Quiet U w' ∧ ∃ ia n ic ra m rc, e = .returned (.tuple #[.agg #[.int .i64 (worldR d ((playR d S).log.take p)).clock, .slice ia n ic, .slice ra m rc], .int .i64 0]) ∧ WMem w' ia n ic ra m rc (worldR d ((playR d S).log.take p))) := fun U v hU hc => by
    have := stateT_any (.agg #[.slice da dn dcap, .int .i64 d.quorum, .int .i64 d.expiry]) v d hok (S ++ [crashC r] ++ [crashC 0]) U ((hd0.quiet hqV).quiet hU) hc (by simp; omega) hXcr2
    rw [hlog2] at this
    exact this
  have HWI : Hid (∀ U, Quiet w8 U → Calls Try.prog 10 #[.slice (some xa) xn xcap, (crashC 0).val] U fun e w' => ∃ ad n cap, e = .returned (.slice (some ad) n cap) ∧ Cmds w' (.slice (some ad) n cap) (S ++ [crashC r] ++ [crashC 0]) ∧ Quiet U w') := fun U hU =>
    with_any _ _ (crashC 0) U (.inr ⟨_, _, _, rfl⟩) (hX0.quiet hU) (by simp; omega)
  clear hlog hlog2 hXcr hXcr2 hX0
  generalize (playR d S).log = L at *
  generalize (playR d S).safe = sf at *
  have hLm : L.length ≤ 1048576 := by omega
  have hJ28 := bytesN_most hL L.length (Nat.le_refl _)
  rw [List.take_length] at hJ28
  have hJs : (bytesR L).size = bytesN L := rfl
  have hTs : (bytesR (L.take p)).size = bytesN (L.take p) := rfl
  obtain ⟨J, HJ⟩ : ∃ J, Hid (J = bytesR L) := ⟨_, rfl⟩
  obtain ⟨T, HT⟩ : ∃ T, Hid (T = bytesR (L.take p)) := ⟨_, rfl⟩
  obtain ⟨WW, HWW⟩ : ∃ WW, Hid (WW = worldR d (L.take p)) := ⟨_, rfl⟩
  have hJx : J.extract 0 (bytesN (L.take p)) = T := by rw [HJ.out, HT.out]; exact bytes_begin L p
  have hinj : ∀ i, i ≤ L.length → ((bytesR (L.take i)).toList == T.toList) = decide (i = p) := by
    intro i hi
    by_cases e : i = p
    · subst e; rw [HT.out]; simp
    · rw [decide_eq_false e, beq_eq_false_iff_ne]
      intro q
      refine e (bytes_inj L i p hi hp ?_)
      rw [HT.out] at q
      exact toList_size q
  rw [← HJ.out] at hJs ⊢
  rw [← HT.out] at hTs ⊢
  rw [← HWW.out] at HW1 HW2
  obtain ⟨N, HN⟩ : ∃ N, Hid (N = bytesN (L.take p)) := ⟨_, rfl⟩
  rw [← HN.out] at hTs hJx hs1 hs2 hs3 hs4 ⊢
  rw [← hJs] at hs2 hs4
  have hJm : (J.size : Int) ≤ 29360128 := by omega
  have hNJ : N ≤ J.size := hs2
  have hslJ := fun U => slice_str U J N hNJ
  rw [hJx] at hslJ
  have v1 : ((N : Int) != (T.size : Int)) = false := by rw [hTs]; simp
  have v2 : ¬ ((N : Int) < sf) := by omega
  have v3 : ¬ ((J.size : Int) < (N : Int)) := by omega
  have v3' : decide (J.size < N) = false := by simp; omega
  have v4 : ¬ (sf + (r : Int) < (N : Int)) := by omega
  have v5 : (T.toList != T.toList) = false := by simp
  have v6 : sf ≤ 29360128 := by omega
  have v7 : (r : Int) < 300 := by omega
  have gd := bd.cell
  have zd := bd.lt
  go_upto_region 16 with (fail)
  go_cut [128] (fun b wc => b = .bool false ∧ wc = w8)
  case first =>
    by_cases hge : (J.size : Int) ≤ sf + (r : Int)
    · have v8 : ((N : Int) != (J.size : Int)) = false := by rw [hs4 hge]; simp
      go_wp2
      go_meet
      case rel => exact ⟨rfl, rfl⟩
    · go_wp2
      go_meet
      case rel => exact ⟨rfl, rfl⟩
  case rest =>
    obtain ⟨rfl, rfl⟩ := hcut
    go_wp2_with fail
    refine (HW1.out wc Quiet.rf).mono ?_
    rintro e w9 ⟨hq9, ia, n1, ic, ra, m1, rc, rfl, hWM⟩
    have hWA : WAt (w9.alloc (.cells #[.int .i64 WW.clock, .slice ia n1 ic, .slice ra m1 rc] 43)) w9.heap.size WW := WAt.new hWM
    obtain ⟨B9, HB9⟩ : ∃ B9, Hid (B9 = w9.heap.size) := ⟨_, rfl⟩
    clear hWM hs1 hs2 hs3 hs4 v1 v2 v3 v3' v4 hslJ hJx hJs hTs
    go_wp2
    go_loopw [23, 24, 25, 26, 27, 28, 29] (fun f i a b c x y wr => ∃ k : Nat, k ≤ L.length + 1 ∧ i = .int .i64 k ∧ f = .bool (decide (p < k)) ∧ Quiet wc wr ∧ WAt wr w9.heap.size WW) (fun _ i _ _ _ _ _ _ => L.length + 1 - (intOf i).toNat)
    case atStart => exact ⟨0, Nat.zero_le _, rfl, by simp, hq9.al, hWA⟩
    case round =>
      clear hWA hq9
      obtain ⟨k, hk, rfl, rfl, hqr, hWA⟩ := hrel
      replace bd := bd.quiet hqr
      have hqW : Quiet w wr := hqV.after hqr
      replace hC := hC.quiet hqr
      have gd := bd.cell
      have zd := bd.lt
      by_cases hlt : k ≤ L.length
      · obtain ⟨S1, HS0⟩ := journal_take (.agg #[.slice da dn dcap, .int .i64 d.quorum, .int .i64 d.expiry]) d hok L hL hwet hLcr hLm la L.length lc k hlt
        obtain ⟨T1, HT1⟩ : ∃ T1, Hid (T1 = bytesR (L.take k)) := ⟨_, rfl⟩
        have hik := hinj k hlt
        rw [← HT1.out] at HS0 hik
        have k0 := fun d os => (bd.quiet (below_regrown wr d os)).cell
        have hsl := fun U => slice_cmds U la L.length lc k (hC.takes k hlt).2
        have HCI : Hid (∀ dd os, Calls Try.prog 14 #[.agg #[.slice da dn dcap, .int .i64 d.quorum, .int .i64 d.expiry], .slice la k lc] (grow (redrawn wr dd) os) fun e w'' => e = .returned (.tuple #[.string T1, .int .i64 S1, .int .i64 0]) ∧ ∃ p : Regrown, w'' = grow (redrawn wr p.d) p.os) := fun dd os =>
          Calls.regrown_of (HS0 _ ((hd0.quiet hqW).quiet (below_regrown wr dd os)) (hC.quiet (below_regrown wr dd os)))
        clear HS0
        have hki : (0 : Int) ≤ (k : Int) := by omega
        have hkj : (k : Int) ≤ (L.length : Int) := by omega
        go_wp2_with fail
        refine wp_region_quiet_below mixed (by kernel_rfl) ?_
        repeat (quiet_step (exact HCI.out _ _))
        refine wpQuiet_nil ?_
        intro _ hw'
        obtain ⟨⟨dq, osq⟩, hw''⟩ := hw'
        subst hw''
        have hbq := below_regrown wr dq osq
        replace hqr : Quiet wc _ := hqr.after hbq
        replace hWA := hWA.quiet hbq
        replace bd := bd.quiet hbq
        replace hqW : Quiet w _ := hqW.after hbq
        replace hC := hC.quiet hbq
        clear k0 gd zd HCI hbq
        generalize grow (redrawn wr dq) osq = wr at *
        have gd := bd.cell
        have zd := bd.lt
        by_cases hkp : k = p
        · rw [decide_eq_true hkp] at hik
          have HKP : Hid (k = p) := hkp
          clear hkp
          have HST : Hid (∀ U, Quiet wr U → Calls Try.prog 17 #[.agg #[.slice da dn dcap, .int .i64 d.quorum, .int .i64 d.expiry], .slice la k lc] U fun e w' => Quiet U w' ∧ ∃ ia n ic ra m rc, e = .returned (.tuple #[.agg #[.int .i64 WW.clock, .slice ia n ic, .slice ra m rc], .int .i64 0]) ∧ WMem w' ia n ic ra m rc WW) := fun U hU => by
            rw [HWW.out, ← HKP.out]
            exact state_take _ d hok L hL hwet hLcr hLm la L.length lc k hlt U ((hd0.quiet hqW).quiet hU) (hC.quiet hU)
          go_upto_region 25 with (fail)
          go_cut [28, 29] (fun v e wx => ∃ xb, v = .pointer (some ⟨xb, 0, none⟩) ∧ e = .int .i64 0 ∧ Quiet wr wx ∧ WAt wx xb WW)
          case first =>
            go_region_with (go_at_call 17; refine (HST.out _ ?_).mono ?_; (first | exact Below.drew (Below.refl _ _) | exact Below.drew (hq0 _ _) | exact hq0 _ _ | exact Below.refl _ _ | exact (Below.refl _ _).drewN | exact Below.alloc (Below.drew (Below.refl _ _)) (by simp) _); rintro e wy ⟨hqR, ia, n1, ic, ra, m1, rc, rfl, hWM⟩; (first | (have bz := (Blk.drew (Blk.new' (w := wr) (b := wr.heap.size) rfl)).quiet hqR; have bzc := bz.cell; have bzf := bz.frozen) | (have bz := (Blk.new' (w := wr.drew) (b := wr.heap.size) rfl).quiet hqR; have bzc := bz.cell; have bzf := bz.frozen) | (have bz := (Blk.new' (w := wr) (b := wr.heap.size) rfl).quiet hqR; have bzc := bz.cell; have bzf := bz.frozen) | (have bz := True.intro)))
            all_goals (try go_wp2)
            all_goals
              go_meet
              case rel =>
                have hqU : Quiet wr wy := by first | exact Quiet.after (Below.drew (Below.refl _ _)) hqR | exact Quiet.after (Below.drew (hq0 _ _)) hqR | exact Quiet.after (hq0 _ _) hqR | exact hqR
                refine ⟨_, rfl, rfl, ?_, ?_⟩
                · first | (with_reducible exact hqU.after (hq0 _ _)) | exact Below.set3w hqU (Nat.le_refl _) _ _ _
                · first | (with_reducible exact WAt.new hWM) | exact WAt.set hWM bz rfl
          case rest =>
            rename_i wx _
            obtain ⟨xb, rfl, rfl, hqx, hWX⟩ := hcut
            replace hWA := hWA.quiet hqx
            have hWA' := hWA
            obtain ⟨ia, n1, ic, ra, m1, rc, b1, M1⟩ := hWA'
            obtain ⟨ia2, n2, ic2, ra2, m2, rc2, b2, M2⟩ := hWX
            have g1 := b1.cell
            have z1 := b1.lt
            have g2 := b2.cell
            have z2 := b2.lt
            clear gd zd bd HST hC
            go_wp2_with fail
            refine (sameW_any WW.clock WW.clock _ _ _ _ WW.insts WW.insts WW.reqs WW.reqs _ M1.insts M2.insts M1.reqs M2.reqs).mono ?_
            rintro e wy ⟨rfl, hqy⟩
            rw [eqB_true rfl]
            clear g1 g2 z1 z2
            go_wp2
            go_roundw
            case rel => exact ⟨k + 1, by omega, by go_num, by rw [decide_eq_true (by have := HKP.out; omega)], (hqr.after hqx).after hqy, hWA.quiet hqy⟩
            case measure => simp [intOf]; omega
        · rw [decide_eq_false hkp] at hik
          go_wp2
          go_roundw
          case rel => exact ⟨k + 1, by omega, by go_num, by congr 1; simp; omega, hqr, hWA⟩
          case measure => simp [intOf]; omega
      · obtain rfl : k = L.length + 1 := by omega
        rw [decide_eq_true (show p < L.length + 1 by omega)]
        have hcv : Value.agg #[.int .i64 9, .int .i64 0, .int .i64 0, .int .i64 0, .int .i64 0, .string ⟨#[]⟩, .bool false] = (crashC 0).val := rfl
        have HWI2 : Hid (∀ U, Quiet wr U → Calls Try.prog 10 #[.slice (some xa) xn xcap, .agg #[.int .i64 9, .int .i64 0, .int .i64 0, .int .i64 0, .int .i64 0, .string ⟨#[]⟩, .bool false]] U fun e w' => ∃ ad n cap, e = .returned (.slice (some ad) n cap) ∧ Cmds w' (.slice (some ad) n cap) (S ++ [crashC r] ++ [crashC 0]) ∧ Quiet U w') := fun U hU => by
          rw [hcv]; exact HWI.out U (hqr.after hU)
        have HW3 : Hid (∀ U v, Quiet wr U → Cmds U v (S ++ [crashC r] ++ [crashC 0]) → Calls Try.prog 17 #[.agg #[.slice da dn dcap, .int .i64 d.quorum, .int .i64 d.expiry], v] U fun e w' => Quiet U w' ∧ ∃ ia n ic ra m rc, e = .returned (.tuple #[.agg #[.int .i64 WW.clock, .slice ia n ic, .slice ra m rc], .int .i64 0]) ∧ WMem w' ia n ic ra m rc WW) := fun U v hU => HW2.out U v (hqr.after hU)
        clear HW1 HW2 HWI hcv
        have gdq := fun U (hU : Quiet wr U) => (bd.quiet hU).cell
        go_wp2_with fail
        go_cut [30, 31] (fun v e wx => ∃ xb, v = .pointer (some ⟨xb, 0, none⟩) ∧ e = .int .i64 0 ∧ Quiet wr wx ∧ WAt wx xb WW)
        case first =>
          go_region_with (first | (go_at_call 10; refine (HWI2.out _ ?_).mono ?_; (repeat (first | with_reducible exact Quiet.rf | with_reducible refine Quiet.dr ?_ | with_reducible refine Quiet.al ?_)); rintro e wv ⟨ad, nv, capv, rfl, hCv, hqv⟩; have hqv' : Quiet wr wv := Quiet.after (by (repeat (first | with_reducible exact Quiet.rf | with_reducible refine Quiet.dr ?_ | with_reducible refine Quiet.al ?_))) hqv; have gd2 := gdq _ hqv'; have zd2 := (bd.quiet hqv').lt; (first | (have bz0 := (Blk.drew (Blk.new' (w := wr) (b := wr.heap.size) rfl)).quiet hqv) | (have bz0 := (Blk.new' (w := wr.drew) (b := wr.heap.size) rfl).quiet hqv) | (have bz0 := (Blk.new' (w := wr) (b := wr.heap.size) rfl).quiet hqv) | (have bn := True.intro))) | (go_at_call 17; refine (HW3.out _ _ ?_ ?_).mono ?_; (repeat (first | with_reducible exact hqv' | with_reducible refine Quiet.dr ?_ | with_reducible refine Quiet.al ?_)); exact hCv.quiet (by (repeat (first | with_reducible exact Quiet.rf | with_reducible refine Quiet.dr ?_ | with_reducible refine Quiet.al ?_))); rintro e wy ⟨hqR, ia, n1, ic, ra, m1, rc, rfl, hWM⟩; (first | (have bz := (bz0.quiet (by (repeat (first | with_reducible exact Quiet.rf | with_reducible refine Quiet.dr ?_ | with_reducible refine Quiet.al ?_)))).quiet hqR; have bzc := bz.cell; have bzf := bz.frozen) | (have bz := (Blk.drew (Blk.new' (w := wv) (b := wv.heap.size) rfl)).quiet hqR; have bzc := bz.cell; have bzf := bz.frozen) | (have bz := (Blk.new' (w := wv.drew) (b := wv.heap.size) rfl).quiet hqR; have bzc := bz.cell; have bzf := bz.frozen) | (have bz := (Blk.new' (w := wv) (b := wv.heap.size) rfl).quiet hqR; have bzc := bz.cell; have bzf := bz.frozen) | (have bz := True.intro))))
          all_goals (try go_wp2)
          all_goals
            go_meet
            case rel =>
              have hqU : Quiet wr wy := hqv'.after (Quiet.after (by (repeat (first | with_reducible exact Quiet.rf | with_reducible refine Quiet.dr ?_ | with_reducible refine Quiet.al ?_))) hqR)
              refine ⟨_, rfl, rfl, ?_, ?_⟩
              · first | (with_reducible exact hqU.al) | exact Below.set3w hqU (Nat.le_refl _) _ _ _ | exact Below.set3w hqU hqv'.size _ _ _
              · first | (with_reducible exact WAt.new hWM) | exact WAt.set hWM bz rfl
        case rest =>
          rename_i wx _
          obtain ⟨xb, rfl, rfl, hqx, hWX⟩ := hcut
          replace hWA := hWA.quiet hqx
          obtain ⟨ia, n1, ic, ra, m1, rc, b1, M1⟩ := hWA
          obtain ⟨ia2, n2, ic2, ra2, m2, rc2, b2, M2⟩ := hWX
          have g1 := b1.cell
          have z1 := b1.lt
          have g2 := b2.cell
          have z2 := b2.lt
          clear gd zd bd HWI2 HW3 hC gdq
          go_wp2_with fail
          refine (sameW_any WW.clock WW.clock _ _ _ _ WW.insts WW.insts WW.reqs WW.reqs _ M2.insts M1.insts M2.reqs M1.reqs).mono ?_
          rintro e wy ⟨rfl, hqy⟩
          rw [eqB_true rfl]
          go_wp2
          go_ret
          exact ⟨rfl, (hqW.after hqx).after hqy⟩

end Go.Proofs.Ytgcjlgaapiefiab

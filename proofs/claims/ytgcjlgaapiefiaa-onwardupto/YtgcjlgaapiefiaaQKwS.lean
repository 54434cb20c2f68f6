import Derived.Test.YtgcjlgaapiefiaaQKwR
import Derived.Test.YtgcjlgaapiefiaaQKwA
import Derived.Lib.QuietBelow

/-
  The statement Onward: walked.
-/
namespace Go.Proofs.Ytgcjlgaapiefiaa
open Go.RowKit Go.Sort

set_option maxRecDepth 100000 in
set_option maxHeartbeats 8000000 in
theorem onward_walk (dv sv : Value) (d : Def) (s : List Cmd) (kk : Int) (hkk : -9223372036854775808 ≤ kk ∧ kk ≤ 9223372036854775807) (w : World) (hd : DefIs w dv d) (hv : SlOk sv) (h : Cmds w sv s) (hl : s.length + d.steps.length + 6 ≤ 1048576) (hcr : ∀ c ∈ s, c.reason.size ≤ 9223372036854775807) :
    Calls Try.prog 10 #[dv, sv, .int .i64 kk] w fun e w' => e = .returned (.bool true) ∧ Quiet w w' := by
  have hq0 : ∀ (w : World) o, Quiet w (w.alloc o) := fun w o => (Below.refl _ _).alloc (Nat.le_refl _) _
  obtain ⟨sa, sn, scap, rfl⟩ := h.1.shape
  have hd0 := hd
  obtain ⟨da, dn, dcap, rfl, hst⟩ := hd
  have HDN : Hid (dn = d.steps.length) := by obtain ⟨_, _, h1, _⟩ := hst; simp [stepVals] at h1; exact h1.2.1
  clear hst
  go_enter Try.func10, Try.ntmps10
  go_wp2_with fail
  refine calls_gen (fun V => Blk V w.heap.size #[.slice da dn dcap, .int .i64 d.quorum, .int .i64 d.expiry] 24 ∧ Quiet w V) ⟨Blk.new' rfl, hq0 _ _⟩ ?_
  rintro V ⟨bd, hqV⟩
  refine (awake_any V).mono ?_
  rintro e w1 ⟨rfl, hq1⟩
  replace bd := bd.quiet hq1
  replace hqV : Quiet w w1 := hqV.after hq1
  have gd := bd.cell
  have zd := bd.lt
  go_wp2_with fail
  refine (valid_any _ d w1 (hd0.quiet hqV)).mono ?_
  rintro e w2 ⟨rfl, hq2⟩
  replace bd := bd.quiet hq2
  replace hqV : Quiet w w2 := hqV.after hq2
  clear gd zd hq1 V
  have gd := bd.cell
  have zd := bd.lt
  cases hok : d.ok
  · go_wp2_with fail
    refine (refuses_any _ _ d s w2 (hd0.quiet hqV) hok (h.quiet hqV) (by omega) hcr).mono ?_
    rintro e w3 ⟨rfl, hq3⟩
    go_wp2
    go_ret
    exact ⟨rfl, hqV.after hq3⟩
  obtain ⟨_, _, _, _, hn1, hn6⟩ := quorum_ok hok
  have hdn6 : (dn : Int) ≤ 6 := by have := HDN.out; omega
  obtain ⟨W0, HW0⟩ : ∃ W0, Hid (worldR d (playR d s).log = W0) := ⟨_, rfl⟩
  have HIO : Hid (InstsOk d W0.insts) := by show InstsOk d W0.insts; rw [← HW0.out]; exact worldR_instsOk hok (play_logOk d s)
  have HS0 := stateT_any (.agg #[.slice da dn dcap, .int .i64 d.quorum, .int .i64 d.expiry]) (.slice sa sn scap) d hok s w2 (hd0.quiet hqV) (h.quiet hqV) (by omega) hcr
  rw [HW0.out] at HS0
  go_wp2_with fail
  refine HS0.mono ?_
  rintro e w3 ⟨hq3, ia, n, ic, ra, m, rc, rfl, hWM⟩
  replace bd := bd.quiet hq3
  replace hqV : Quiet w w3 := hqV.after hq3
  replace h := h.quiet hqV
  clear gd zd hq2 hq3 HS0
  have HN : Hid (n = W0.insts.length) := hWM.insts.len.1
  have hnm : n ≤ 9223372036854775807 := hWM.insts.len.2
  go_upto_region 10 with (fail)
  refine wp_gen (fun V => Blk V w.heap.size #[.slice da dn dcap, .int .i64 d.quorum, .int .i64 d.expiry] 24 ∧ Blk V w3.heap.size #[.int .i64 W0.clock, .slice ia n ic, .slice ra m rc] 38 ∧ Quiet w3 V) ⟨bd.alloc _, Blk.new' rfl, hq0 _ _⟩ ?_
  rintro V ⟨bd, bw, hqV4⟩
  replace hqV : Quiet w V := hqV.after hqV4
  replace h := h.quiet hqV4
  have hI := hWM.insts.quiet hqV4
  clear hWM hqV4
  have gw := bw.cell
  have zw := bw.lt
  cases t0 : ((n : Int) == 0)
  · have hn0 : 0 < n := by simp at t0; omega
    go_wp2_with fail
    refine (pickK_any kk n V hkk hn0 (by omega)).mono ?_
    rintro e w5 ⟨⟨i, rfl, hin⟩, rfl⟩
    have hil : i < W0.insts.length := by have := HN.out; omega
    obtain ⟨b, off, la, ln, lc, rfl, hb, hx, he⟩ := hI.get i hil
    obtain ⟨f1, f2, f3⟩ := HIO.out.each i hil
    obtain ⟨x, HX⟩ : ∃ x, Hid (W0.insts[i]'hil = x) := ⟨_, rfl⟩
    rw [HX.out] at hx he f2 f3
    have hk0 := f2.keys
    have hs0 : 0 ≤ x.settled ∧ x.settled ≤ d.steps.length := by rw [f3]; rcases f2.modes with q | q | q | q <;> omega
    have HLN : Hid (ln = x.ledger.length) := he.len.1
    have hlnm : ln ≤ 2199023255552 := he.len.2
    clear f1 f2 f3
    have hii : (0 : Int) ≤ (i : Int) := by omega
    have hij : (i : Int) < (n : Int) := by omega
    simp only [Inst.cells] at hx
    have x0 : w5.cell? ⟨b, off + i * 12, none⟩ = some (.int .i64 x.id) := hx 0 _ rfl
    have x1 := hx 1 _ rfl
    have x2 := hx 2 _ rfl
    have x3 := hx 3 _ rfl
    have x4 := hx 4 _ rfl
    have x5 := hx 5 _ rfl
    have x6 := hx 6 _ rfl
    have x7 := hx 7 _ rfl
    have x8 := hx 8 _ rfl
    have x9 := hx 9 _ rfl
    have x10 := hx 10 _ rfl
    have x11 := hx 11 _ rfl
    go_upto_region 14 with (fail)
    refine wp_gen (fun U => Blk U w5.heap.size #[.int .i64 x.id, .int .i64 x.mode, .bool x.stuck, .int .i64 x.settled, .int .i64 x.target, .bool x.resume, .int .i64 x.keys, .int .i64 x.key, .int .i64 x.due, .int .i64 x.tries, .int .i64 x.wake, .slice la ln lc] 46 ∧ Quiet w5 U) ⟨Blk.new' rfl, hq0 _ _⟩ ?_
    rintro V2 ⟨bx, hq5⟩
    clear x0 x1 x2 x3 x4 x5 x6 x7 x8 x9 x10 x11 hx hb gw zw
    replace bd := bd.quiet hq5
    replace bw := bw.quiet hq5
    replace hI := hI.quiet hq5
    replace he := he.quiet hq5
    replace h := h.quiet hq5
    replace hqV : Quiet w V2 := hqV.after hq5
    have gd := bd.cell
    have zd := bd.lt
    have gw := bw.cell
    have zw := bw.lt
    have gx := bx.cell
    have zx := bx.lt
    go_wp2_with fail
    refine (ready_any _ d V2 (hd0.quiet hqV) x la ln lc W0.clock hn6 ⟨hk0.1, hk0.2⟩ ⟨hs0.1, by omega⟩).mono ?_
    rintro e V3 ⟨rfl, hq6⟩
    replace bd := bd.quiet hq6
    replace bw := bw.quiet hq6
    replace bx := bx.quiet hq6
    replace hI := hI.quiet hq6
    replace he := he.quiet hq6
    replace h := h.quiet hq6
    replace hqV : Quiet w V3 := hqV.after hq6
    clear gd zd gw zw gx zx hq5 hq6
    by_cases hr : ReadyP d x W0.clock
    · rw [eqB_true hr]
      obtain ⟨k, hk⟩ : ∃ k : Nat, x.settled + k = d.steps.length := ⟨(d.steps.length - x.settled).toNat, by omega⟩
      obtain ⟨W1, HW1, hl1, hsame, y, HY, hy1, hy2, hy3⟩ := onward_world' hok s HW0.out i hil HX.out hr k hk
      have HK : Hid (x.settled + k = d.steps.length) := hk
      have HKD : Hid (x.settled + (k : Int) = (dn : Int)) := by show _ = _; have := HDN.out; omega
      have hk6 : (k : Int) ≤ 6 := by omega
      have hst6 : x.settled ≤ 6 := by omega
      obtain ⟨hke0, hke1⟩ := hk0
      obtain ⟨hs00, hs01⟩ := hs0
      have gd := bd.cell
      have zd := bd.lt
      have gx := bx.cell
      have zx := bx.lt
      clear hk hr
      go_wp2
      go_loopw [14, 15] (fun v q wr => ∃ (j : Nat) (a : Option Addr) (nn cap : Nat), j ≤ k ∧ v = .slice a nn cap ∧ q = .int .i64 (x.settled + j) ∧ SlOk (.slice a nn cap) ∧ Cmds wr (.slice a nn cap) (s ++ ons x.id x.keys j) ∧ Quiet V3 wr) (fun _ q _ => (dn - intOf q).toNat)
      case atStart => exact ⟨0, sa, sn, scap, Nat.zero_le _, rfl, by simp, hv, by simpa [ons] using h, Below.refl _ _⟩
      case round =>
        obtain ⟨j, a, nn, cap, hj, rfl, rfl, hsl, hC, hqr⟩ := hrel
        replace bd := bd.quiet hqr
        replace bw := bw.quiet hqr
        replace bx := bx.quiet hqr
        replace hI := hI.quiet hqr
        replace he := he.quiet hqr
        replace hqV : Quiet w wr := hqV.after hqr
        clear gd zd gx zx
        have gd := bd.cell
        have zd := bd.lt
        have gx := bx.cell
        have zx := bx.lt
        have hle := ons_len x.id x.keys j
        by_cases hlt : j < k
        · have hlt2 : x.settled + (j : Int) < (dn : Int) := by have := HKD.out; omega
          have hj6 : (j : Int) ≤ 6 := by omega
          have hj0 : (0 : Int) ≤ (j : Int) := by omega
          go_wp2_with fail
          refine (with_any _ _ ⟨2, x.id, 0, 0, 0, ⟨#[]⟩, false⟩ wr hsl hC (by simp; omega)).mono ?_
          rintro e w7 ⟨a7, n7, cap7, rfl, hC7, hq7⟩
          replace bx := bx.quiet hq7
          clear gd zd gx zx
          have gx := bx.cell
          have zx := bx.lt
          go_wp2_with fail
          refine (with_any _ _ ⟨3, x.id, x.keys + 1 + (x.settled + (j : Int)) - x.settled, 1, 0, ⟨#[]⟩, false⟩ w7 (.inr ⟨_, _, _, rfl⟩) hC7 (by simp; omega)).mono ?_
          rintro e w8 ⟨a8, n8, cap8, rfl, hC8, hq8⟩
          have hC9 : Cmds w8 (.slice (some a8) n8 cap8) (s ++ ons x.id x.keys (j + 1)) := by
            have e1 : x.keys + 1 + (x.settled + (j : Int)) - x.settled = x.keys + 1 + j := by omega
            rw [e1] at hC8
            simpa [ons, pickC, replyC, List.append_assoc] using hC8
          go_wp2
          go_roundw
          case rel => exact ⟨j + 1, some a8, n8, cap8, by omega, rfl, by congr 1; push_cast; omega, .inr ⟨_, _, _, rfl⟩, hC9, hqr.after (hq7.after hq8)⟩
          case measure => simp [intOf]; omega
        · obtain rfl : j = k := by omega
          have hlt2 : ¬ (x.settled + (j : Int) < (dn : Int)) := by have := HKD.out; omega
          have HS1 := stateT_any (.agg #[.slice da dn dcap, .int .i64 d.quorum, .int .i64 d.expiry]) (.slice a nn cap) d hok (s ++ ons x.id x.keys j) wr (hd0.quiet hqV) hC (by have := HK.out; rw [List.length_append, hle]; omega) (by
            intro c hc
            rcases List.mem_append.1 hc with hc | hc
            · exact hcr c hc
            · exact ons_reason _ _ _ c hc)
          rw [HW1] at HS1
          clear HW1 hle
          go_wp2_with fail
          refine HS1.mono ?_
          rintro e w9 ⟨hq9, ja, n', jc, ra', m', rc', rfl, hWM1⟩
          obtain rfl : n = n' := by have := hWM1.insts.len.1; have := HN.out; omega
          have t9 : ((n : Int) != (n : Int)) = false := by simp
          replace bd := bd.quiet hq9
          replace bw := bw.quiet hq9
          replace bx := bx.quiet hq9
          replace hI := hI.quiet hq9
          replace he := he.quiet hq9
          replace hqV : Quiet w w9 := hqV.after hq9
          clear gd zd gx zx HS1 hC hsl hcr h
          have gw := bw.cell
          have zw := bw.lt
          go_upto_region 26 with (fail)
          refine wp_gen (fun V => Blk V w9.heap.size #[.int .i64 W1.clock, .slice ja n jc, .slice ra' m' rc'] 38 ∧ Quiet w9 V) ⟨Blk.new' rfl, hq0 _ _⟩ ?_
          rintro V9 ⟨b9, hqV9⟩
          have hJ := hWM1.insts.quiet hqV9
          replace bd := bd.quiet hqV9
          replace bw := bw.quiet hqV9
          replace bx := bx.quiet hqV9
          replace hI := hI.quiet hqV9
          replace he := he.quiet hqV9
          replace hqV : Quiet w V9 := hqV.after hqV9
          clear gw zw hWM1
          have HL1 : Hid (W1.insts.length = W0.insts.length) := hl1
          go_wp2
          go_loopw [18, 19] (fun q b wr => ∃ m : Nat, m ≤ n ∧ q = .int .i64 m ∧ Quiet V9 wr) (fun q _ _ => n - (intOf q).toNat)
          case atStart => exact ⟨0, Nat.zero_le _, rfl, Below.refl _ _⟩
          case round =>
            clear hqr
            obtain ⟨m1, hm1, rfl, hqr⟩ := hrel
            replace bd := bd.quiet hqr
            replace bw := bw.quiet hqr
            replace bx := bx.quiet hqr
            replace b9 := b9.quiet hqr
            replace hI := hI.quiet hqr
            replace hJ := hJ.quiet hqr
            replace he := he.quiet hqr
            have hqW : Quiet w wr := hqV.after hqr
            have g9 := b9.cell
            have z9 := b9.lt
            by_cases hlt3 : m1 < n
            · have hml : m1 < W0.insts.length := by have := HN.out; omega
              have hml1 : m1 < W1.insts.length := by have := HL1.out; omega
              obtain ⟨jb, joff, la1, ln1, lc1, hja, hjb, hu, hue⟩ := hJ.get m1 hml1
              subst hja
              obtain ⟨b', off', la2, ln2, lc2, hbe, hb2, hv2, hve⟩ := hI.get m1 hml
              obtain ⟨rfl, rfl⟩ : b = b' ∧ off = off' := by simpa using hbe
              have hsm : m1 ≠ i → W1.insts[m1]'hml1 = W0.insts[m1]'hml := fun q => hsame m1 hml q
              generalize W1.insts[m1]'hml1 = u at *
              generalize W0.insts[m1]'hml = z at *
              simp only [Inst.cells] at hu hv2
              have u0 : ∀ d os, (grow (redrawn wr d) os).cell? ⟨jb, joff + m1 * 12, none⟩ = some (.int .i64 u.id) := fun d os => (At.quiet hu (below_regrown wr d os)) 0 _ rfl
              have u1 := fun d os => (At.quiet hu (below_regrown wr d os)) 1 _ rfl
              have u2 := fun d os => (At.quiet hu (below_regrown wr d os)) 2 _ rfl
              have u3 := fun d os => (At.quiet hu (below_regrown wr d os)) 3 _ rfl
              have u4 := fun d os => (At.quiet hu (below_regrown wr d os)) 4 _ rfl
              have u5 := fun d os => (At.quiet hu (below_regrown wr d os)) 5 _ rfl
              have u6 := fun d os => (At.quiet hu (below_regrown wr d os)) 6 _ rfl
              have u7 := fun d os => (At.quiet hu (below_regrown wr d os)) 7 _ rfl
              have u8 := fun d os => (At.quiet hu (below_regrown wr d os)) 8 _ rfl
              have u9 := fun d os => (At.quiet hu (below_regrown wr d os)) 9 _ rfl
              have u10 := fun d os => (At.quiet hu (below_regrown wr d os)) 10 _ rfl
              have u11 := fun d os => (At.quiet hu (below_regrown wr d os)) 11 _ rfl
              have v0 : ∀ d os, (grow (redrawn wr d) os).cell? ⟨b, off + m1 * 12, none⟩ = some (.int .i64 z.id) := fun d os => (At.quiet hv2 (below_regrown wr d os)) 0 _ rfl
              have v1 := fun d os => (At.quiet hv2 (below_regrown wr d os)) 1 _ rfl
              have v2 := fun d os => (At.quiet hv2 (below_regrown wr d os)) 2 _ rfl
              have v3 := fun d os => (At.quiet hv2 (below_regrown wr d os)) 3 _ rfl
              have v4 := fun d os => (At.quiet hv2 (below_regrown wr d os)) 4 _ rfl
              have v5 := fun d os => (At.quiet hv2 (below_regrown wr d os)) 5 _ rfl
              have v6 := fun d os => (At.quiet hv2 (below_regrown wr d os)) 6 _ rfl
              have v7 := fun d os => (At.quiet hv2 (below_regrown wr d os)) 7 _ rfl
              have v8 := fun d os => (At.quiet hv2 (below_regrown wr d os)) 8 _ rfl
              have v9 := fun d os => (At.quiet hv2 (below_regrown wr d os)) 9 _ rfl
              have v10 := fun d os => (At.quiet hv2 (below_regrown wr d os)) 10 _ rfl
              have v11 := fun d os => (At.quiet hv2 (below_regrown wr d os)) 11 _ rfl
              have k0 := fun d os => (bw.quiet (below_regrown wr d os)).cell
              have k1 := fun d os => (b9.quiet (below_regrown wr d os)).cell
              have HCI : Hid (∀ dd os, Calls Try.prog 34 #[.agg #[.int .i64 u.id, .int .i64 u.mode, .bool u.stuck, .int .i64 u.settled, .int .i64 u.target, .bool u.resume, .int .i64 u.keys, .int .i64 u.key, .int .i64 u.due, .int .i64 u.tries, .int .i64 u.wake, .slice la1 ln1 lc1], .agg #[.int .i64 z.id, .int .i64 z.mode, .bool z.stuck, .int .i64 z.settled, .int .i64 z.target, .bool z.resume, .int .i64 z.keys, .int .i64 z.key, .int .i64 z.due, .int .i64 z.tries, .int .i64 z.wake, .slice la2 ln2 lc2]] (grow (redrawn wr dd) os) fun e w'' => e = .returned (.bool (eqB (u = z))) ∧ ∃ p : Regrown, w'' = grow (redrawn wr p.d) p.os) := fun dd os =>
                Calls.regrown_of (sameInst_any u z la1 la2 ln1 ln2 lc1 lc2 _ (hue.quiet (below_regrown wr dd os)) (hve.quiet (below_regrown wr dd os)))
              obtain ⟨B, HB⟩ : ∃ B, Hid (eqB (u = z) = B) := ⟨_, rfl⟩
              rw [HB.out] at HCI
              have hmi : (0 : Int) ≤ (m1 : Int) := by omega
              have hmj : (m1 : Int) < (n : Int) := by omega
              go_wp2_with fail
              refine wp_region_quiet_below mixed (by kernel_rfl) ?_
              repeat (quiet_step (exact HCI.out _ _))
              refine wpQuiet_nil ?_
              intro _ hw'
              obtain ⟨⟨dq, osq⟩, hw''⟩ := hw'
              subst hw''
              have hbq := below_regrown wr dq osq
              replace hqr : Quiet V9 _ := hqr.after hbq
              clear u0 u1 u2 u3 u4 u5 u6 u7 u8 u9 u10 u11 v0 v1 v2 v3 v4 v5 v6 v7 v8 v9 v10 v11 k0 k1 HCI g9 z9 bd bw bx b9 hI hJ he hqW hu hv2 hue hve hbq hjb hb2
              generalize grow (redrawn wr dq) osq = wr at *
              by_cases hmi2 : m1 = i
              · have tmi : ((m1 : Int) != (i : Int)) = false := by rw [hmi2]; simp
                clear hmi2
                go_wp2
                go_roundw
                case rel => exact ⟨m1 + 1, by omega, by go_num, hqr⟩
                case measure => simp [intOf]; omega
              · have tmi : ((m1 : Int) != (i : Int)) = true := by simp; omega
                have hB : B = true := by rw [← HB.out]; exact eqB_true (hsm hmi2)
                subst hB
                clear hmi2
                go_wp2
                go_roundw
                case rel => exact ⟨m1 + 1, by omega, by go_num, hqr⟩
                case measure => simp [intOf]; omega
            · obtain ⟨jb, joff, la1, ln1, lc1, hja, hjb, hp, hpe⟩ := hJ.get i (by have := HL1.out; omega)
              subst hja
              rw [HY] at hp hpe
              simp only [Inst.cells] at hp
              have HLN1 : Hid (ln1 = y.ledger.length) := hpe.len.1
              have hln1m : ln1 ≤ 2199023255552 := hpe.len.2
              have HKL : Hid (ln1 = ln + j) := by show ln1 = ln + j; have h1 := HLN1.out; have h2 := HLN.out; rw [hy3, List.length_append, onsE_len] at h1; omega
              have HLED : Hid (y.ledger = x.ledger ++ onsE x.settled x.keys j) := hy3
              have p0 : wr.cell? ⟨jb, joff + i * 12, none⟩ = some (.int .i64 y.id) := hp 0 _ rfl
              have p1 := hp 1 _ rfl
              have p2 := hp 2 _ rfl
              have p3 := hp 3 _ rfl
              have p4 := hp 4 _ rfl
              have p5 := hp 5 _ rfl
              have p6 := hp 6 _ rfl
              have p7 := hp 7 _ rfl
              have p8 := hp 8 _ rfl
              have p9 := hp 9 _ rfl
              have p10 := hp 10 _ rfl
              have p11 := hp 11 _ rfl
              have ty1 : (y.mode != 3) = false := by rw [hy1]; rfl
              have ty2 : (y.settled != (dn : Int)) = false := by rw [hy2, HDN.out]; simp
              have ty3 : ((ln1 : Int) != (ln : Int) + (dn : Int) - x.settled) = false := by have h1 := HKL.out; have h2 := HKD.out; simp; omega
              clear hy1 hy2 hy3 HY
              have gx := bx.cell
              have zx := bx.lt
              have gd := bd.cell
              have zd := bd.lt
              go_upto_region 35 with (fail)
              refine wp_gen (fun V => Blk V wr.heap.size #[.int .i64 y.id, .int .i64 y.mode, .bool y.stuck, .int .i64 y.settled, .int .i64 y.target, .bool y.resume, .int .i64 y.keys, .int .i64 y.key, .int .i64 y.due, .int .i64 y.tries, .int .i64 y.wake, .slice la1 ln1 lc1] 46 ∧ Quiet wr V) ⟨Blk.new' rfl, hq0 _ _⟩ ?_
              rintro V10 ⟨by1, hq10⟩
              replace bx := bx.quiet hq10
              replace he := he.quiet hq10
              replace hpe := hpe.quiet hq10
              have hqW2 : Quiet w V10 := hqW.after hq10
              clear p0 p1 p2 p3 p4 p5 p6 p7 p8 p9 p10 p11 hp hjb gx zx gd zd g9 z9 bd bw b9 hI hJ hqr
              go_wp2
              go_loopw [21, 22] (fun q lp wx => ∃ m : Nat, m ≤ ln1 ∧ q = .int .i64 m ∧ Quiet V10 wx) (fun q _ _ => ln1 - (intOf q).toNat)
              case atStart => exact ⟨0, Nat.zero_le _, rfl, Below.refl _ _⟩
              case round =>
                obtain ⟨m2, hm2, rfl, hqx⟩ := hrel
                replace bx := bx.quiet hqx
                replace by1 := by1.quiet hqx
                replace he := he.quiet hqx
                replace hpe := hpe.quiet hqx
                have gy := by1.cell
                have zy := by1.lt
                by_cases hlt4 : m2 < ln1
                · have hm2l : m2 < y.ledger.length := by have := HLN1.out; omega
                  obtain ⟨eb, eoff, rfl, heb, y0, y1, y2⟩ := hpe.cell m2 hm2l
                  have HEN : Hid (y.ledger[m2]'hm2l = (x.ledger ++ onsE x.settled x.keys j)[m2]'(by rw [← HLED.out]; exact hm2l)) := by show _ = _; simp only [HLED.out]
                  obtain ⟨en, HE⟩ : ∃ en : Entry, Hid (y.ledger[m2]'hm2l = en) := ⟨y.ledger[m2]'hm2l, rfl⟩
                  rw [HE.out] at y0 y1 y2 HEN
                  have hmi : (0 : Int) ≤ (m2 : Int) := by omega
                  have hmj : (m2 : Int) < (ln1 : Int) := by omega
                  go_upto_region 39 with (fail)
                  refine wp_gen (fun U => Blk U wr.heap.size #[.int .i64 en.kind, .int .i64 en.step, .int .i64 en.ref] 49 ∧ Quiet wr U) ⟨Blk.new' rfl, hq0 _ _⟩ ?_
                  rintro U ⟨be, hqU⟩
                  replace hqx : Quiet V10 U := hqx.after hqU
                  replace bx := bx.quiet hqU
                  replace he := he.quiet hqU
                  clear gy zy y0 y1 y2 heb
                  have ge := be.cell
                  have ze := be.lt
                  have gx := bx.cell
                  have zx := bx.lt
                  by_cases hmx : m2 < ln
                  · have hmx2 : m2 < x.ledger.length := by have := HLN.out; omega
                    obtain ⟨xb, xoff, rfl, hxb, z0, z1, z2⟩ := he.cell m2 hmx2
                    have HEX : Hid (x.ledger[m2]'hmx2 = en) := by show _ = _; rw [HEN.out, List.getElem_append_left hmx2]
                    rw [HEX.out] at z0 z1 z2
                    have hmxi : (m2 : Int) < (ln : Int) := by omega
                    have r1 : (en.kind != en.kind) = false := by simp
                    have r2 : (en.step != en.step) = false := by simp
                    have r3 : (en.ref != en.ref) = false := by simp
                    have hmxj : ¬ (ln : Int) ≤ (m2 : Int) := by omega
                    go_wp2_with fail
                    go_quiet (fail)
                    go_wp2
                    go_roundw
                    case rel => exact ⟨m2 + 1, by omega, by go_num, hqx.after (Below.refl _ _).drewN⟩
                    case measure => simp [intOf]; omega
                  · have hqe := HEN.out
                    have hln2 := HLN.out
                    rw [List.getElem_append_right (by omega), onsE_get _ _ _ _ (by rw [onsE_len]; have := HKL.out; omega)] at hqe
                    have hsub : ((m2 - x.ledger.length : Nat) : Int) = (m2 : Int) - (ln : Int) := by omega
                    rw [hsub] at hqe
                    have r1 : (en.kind != 1) = false := by rw [hqe]; rfl
                    have r2 : (en.step != x.settled + (m2 : Int) - (ln : Int)) = false := by rw [hqe]; simp; omega
                    have r3 : (en.ref != x.keys + 1 + (m2 : Int) - (ln : Int)) = false := by rw [hqe]; simp; omega
                    clear hqe hln2 hsub
                    have hmxi : ¬ (m2 : Int) < (ln : Int) := by omega
                    have hmxj : (ln : Int) ≤ (m2 : Int) := by omega
                    go_wp2_with fail
                    go_quiet (fail)
                    go_wp2
                    go_roundw
                    case rel => exact ⟨m2 + 1, by omega, by go_num, hqx.after (Below.refl _ _).drewN⟩
                    case measure => simp [intOf]; omega
                · go_wp2
                  go_ret
                  exact ⟨rfl, hqW2.after hqx⟩
    · rw [eqB_false hr]
      go_wp2
      go_ret
      exact ⟨rfl, hqV⟩
  · go_wp2
    go_ret
    exact ⟨rfl, hqV⟩

end Go.Proofs.Ytgcjlgaapiefiaa

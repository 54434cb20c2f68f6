import Derived.Test.YtgcjlgaapiefiabQKwE
import Derived.Test.YtgcjlgaapiefiabQKwD
import Derived.Test.YtgcjlgaapiefiabQKwA
import Derived.Test.YtgcjlgaapiefiabQKpA
import Derived.Test.YtgcjlgaapiefiabQJwI

/-
  Walks of the statements on the journal: written, restored, Restored.
-/
namespace Go.Proofs.Ytgcjlgaapiefiab
open Go.RowKit Go.Sort

/-- The beginning of a journal, read by the program. -/
theorem recover_torn (dv : Value) (d : Def) (hok : d.ok = true) (l : List Cmd) (h : LogOk d l) (hl : l.length ≤ 1048576) (n : Nat) (hn : n ≤ bytesN l) :
    ∃ j, j ≤ l.length ∧ bytesN (l.take j) ≤ n ∧ (j = l.length ∨ n < bytesN (l.take (j + 1))) ∧ ∀ (w : World), DefIs w dv d → Calls Try.prog 16 #[dv, .string ((bytesR l).extract 0 n)] w fun e w' => Quiet w w' ∧ ∃ ia n ic ra m rc, e = .returned (.tuple #[.agg #[.int .i64 (worldR d (l.take j)).clock, .slice ia n ic, .slice ra m rc], .int .i64 (bytesN (l.take j)), .int .i64 0]) ∧ InstsAt w' (.slice ia n ic) (worldR d (l.take j)).insts ∧ ReqsAt w' (.slice ra m rc) (worldR d (l.take j)).reqs := by
  obtain ⟨j, l', h1, h2, _, h4, h5, h6⟩ := torn_read hok h n hn
  refine ⟨j, h1, h5, h6, fun w hd => ?_⟩
  have hb := bytesN_most h l.length (Nat.le_refl _)
  rw [List.take_length] at hb
  have hsz : ((bytesR l).extract 0 n).size ≤ 33554432 := by
    rw [ByteArray.size_extract]; omega
  refine (recoverM_any dv d _ w hd hsz).mono ?_
  rintro e w' ⟨hq, hc⟩
  rcases hc with ⟨q, _⟩ | ⟨_, ia, n1, ic, ra, m, rc, rfl, _, ⟨B, hI⟩, ⟨B', hR⟩⟩
  · rw [hok] at q; simp at q
  · have hI1 := insMem_at hI (worldR_bound d _ (by have := readR_lenK d ((bytesR l).extract 0 n); omega))
    have hR1 := reqMem_at hR
    rw [h2] at hI1 hR1 ⊢
    simp only [h4] at hI1 hR1 ⊢
    exact ⟨hq, ia, _, ic, ra, m, rc, rfl, hI1, hR1⟩
theorem recover_whole (dv : Value) (d : Def) (hok : d.ok = true) (l : List Cmd) (h : LogOk d l) (hl : l.length ≤ 1048576) (w : World) (hd : DefIs w dv d) :
    Calls Try.prog 16 #[dv, .string (bytesR l)] w fun e w' => Quiet w w' ∧ ∃ ia n ic ra m rc, e = .returned (.tuple #[.agg #[.int .i64 (worldR d l).clock, .slice ia n ic, .slice ra m rc], .int .i64 (bytesN l), .int .i64 0]) ∧ InstsAt w' (.slice ia n ic) (worldR d l).insts ∧ ReqsAt w' (.slice ra m rc) (worldR d l).reqs := by
  obtain ⟨j, h1, h2, h3, h4⟩ := recover_torn dv d hok l h hl (bytesN l) (Nat.le_refl _)
  replace h4 := h4 w hd
  have hj' : j = l.length := by
    rcases h3 with h3 | h3
    · exact h3
    · by_cases hlt : j < l.length
      · have := bytesN_mono l (j + 1) l.length (by omega) (Nat.le_refl _)
        rw [List.take_length] at this
        omega
      · omega
  subst hj'
  rw [List.take_length, ext_all (bytesR l) (bytesN l) (Nat.le_refl _)] at h4
  exact h4

theorem awake_bytes : bytesN sAwake = 24 := by rfl
theorem awake_safe : (playR dAwake sAwake).safe = 16 := by rfl

set_option maxRecDepth 100000 in
set_option maxHeartbeats 4000000 in
theorem written_any (w : World) : Calls Try.prog 7 #[] w fun e w' => e = .returned (.bool true) ∧ Quiet w w' := by
  have hq0 : ∀ (w : World) o, Quiet w (w.alloc o) := fun w o => (Below.refl _ _).alloc (Nat.le_refl _) _
  obtain ⟨J, HJ⟩ : ∃ J, Hid (J = bytesR sAwake) := ⟨_, rfl⟩
  have hJ : (J.size : Int) = 24 := by rw [HJ.out]; exact congrArg _ awake_bytes
  have HRun : Hid (∀ V a b, DefIs V (.agg #[.slice a 1 1, .int .i64 0, .int .i64 1]) dAwake → Cmds V (.slice b 3 3) sAwake → Calls Try.prog 14 #[.agg #[.slice a 1 1, .int .i64 0, .int .i64 1], .slice b 3 3] V fun e w' => Quiet V w' ∧ e = .returned (.tuple #[.string J, .int .i64 16, .int .i64 0])) := fun V a b h1 h2 =>
    (journalM_any _ _ dAwake sAwake V h1 h2 (by decide) (by intro c hc; simp [sAwake] at hc; rcases hc with rfl | rfl | rfl <;> decide)).mono (by
      rintro e w' ⟨hq, hc⟩
      rcases hc with ⟨q, _⟩ | ⟨_, rfl⟩
      · rw [awake_ok] at q; simp at q
      · rw [awake_log, awake_safe, ← HJ.out]
        exact ⟨hq, rfl⟩)
  have HSt : Hid (∀ V a, DefIs V (.agg #[.slice a 1 1, .int .i64 0, .int .i64 1]) dAwake → Calls Try.prog 16 #[.agg #[.slice a 1 1, .int .i64 0, .int .i64 1], .string J] V fun e w' => Quiet V w' ∧ ∃ ia ic ra m rc, e = .returned (.tuple #[.agg #[.int .i64 0, .slice ia 1 ic, .slice ra m rc], .int .i64 24, .int .i64 0]) ∧ InstsAt w' (.slice ia 1 ic) [⟨7, 3, false, 1, 0, false, 1, 0, 0, 0, 0, [⟨1, 0, 1⟩]⟩]) := fun V a h1 =>
    by
      have hlog : LogOk dAwake sAwake := by have := play_logOk dAwake sAwake; rw [awake_log] at this; exact this
      have := recover_whole _ dAwake awake_ok sAwake hlog (by decide) V h1
      rw [← HJ.out, awake_world, awake_bytes] at this
      refine this.mono ?_
      rintro e w' ⟨hq, ia, n, ic, ra, m, rc, rfl, hI, _⟩
      obtain ⟨hn, _⟩ := hI.len
      obtain rfl : n = 1 := hn
      exact ⟨hq, ia, ic, ra, m, rc, rfl, hI⟩
  go_enter Try.func7, Try.ntmps7
  go_wp2_with fail
  refine calls_gen (fun V => DefIs V (.agg #[.slice (some ⟨w.heap.size, 0, none⟩) 1 1, .int .i64 0, .int .i64 1]) dAwake ∧ Cmds V (.slice (some ⟨w.heap.size + 1 + 1, 0, none⟩) 3 3) sAwake ∧ Blk V (w.heap.size + 1) #[.slice (some ⟨w.heap.size, 0, none⟩) 1 1, .int .i64 0, .int .i64 1] 24 ∧ Quiet w V) ?_ ?_
  · refine ⟨⟨_, _, _, rfl, ?_⟩, ?_, (Blk.new' (by simp)).alloc _, ((hq0 _ _).after (hq0 _ _)).after (hq0 _ _)⟩
    · refine own_arr (base := w.heap.size) (e := 50) (n := 1) (xs := stepVals dAwake.steps) ?_ rfl (by intro x hx; simp [stepVals, dAwake] at hx; subst hx; rfl)
      exact ⟨rfl, .inr ⟨w.heap.size, 1, _, rfl, Nat.le_refl _, ((Blk.new' rfl).alloc _).alloc _, Nat.le_refl _, by unfold maxLen; omega, rfl, rfl⟩⟩
    · refine own_cmds (base := w.heap.size) (n := 3) ?_ rfl (by decide)
      exact ⟨rfl, .inr ⟨w.heap.size + 1 + 1, 3, _, rfl, by omega, Blk.new' (by simp), Nat.le_refl _, by unfold maxLen; omega, rfl, rfl⟩⟩
  rintro V ⟨hd, hc, bd, hqV⟩
  refine (HRun.out V _ _ hd hc).mono ?_
  rintro e w1 ⟨hq1, rfl⟩
  replace bd := bd.quiet hq1
  have gd := bd.cell
  have zd := bd.lt
  go_wp2_with fail
  refine (HSt.out w1 _ (hd.quiet hq1)).mono ?_
  rintro e w2 ⟨hq2, ia, ic, ra, m, rc, rfl, hI⟩
  obtain ⟨g, o, la, ln, lc, rfl, hg, hx, hE⟩ := hI.get 0 (by decide)
  obtain ⟨c0, c1, c2, c3, c4, c5, c6, c7, c8, c9, c10, c11⟩ := hx.twelve
  simp at c0 c1 c2 c3 c4 c5 c6 c7 c8 c9 c10 c11
  clear gd zd
  go_upto_region 5 with (fail)
  refine wp_gen (fun U => Blk U w2.heap.size #[.int .i64 0, .slice (some ⟨g, o, none⟩) 1 ic, .slice ra m rc] 43 ∧ Quiet w2 U) ⟨Blk.new' rfl, hq0 _ _⟩ ?_
  rintro U ⟨bw, hqU⟩
  have gw := bw.cell
  have zw := bw.lt
  have x1 := ((bcell hqU).1 _ _ hg).trans c1
  have zg : g < U.heap.size := Nat.lt_of_lt_of_le hg hqU.size
  have hqF : Quiet w U := ((hqV.after hq1).after hq2).after hqU
  have t1 : ((J.size : Int) == 24) = true := by simp [hJ]
  clear hJ c0 c1 c2 c3 c4 c5 c6 c7 c8 c9 c10 c11
  go_wp2
  go_ret
  exact ⟨rfl, hqF⟩

set_option maxRecDepth 100000 in
set_option maxHeartbeats 4000000 in
theorem restored_any (dv sv : Value) (d : Def) (s : List Cmd) (w : World) (hd : DefIs w dv d) (hok : d.ok = true) (h : Cmds w sv s) (hl : s.length ≤ 1048576) (hcr : ∀ c ∈ s, c.reason.size ≤ 9223372036854775807) :
    Calls Try.prog 12 #[dv, sv] w fun e w' => e = .returned (.bool true) ∧ Quiet w w' := by
  have hq0 : ∀ (w : World) o, Quiet w (w.alloc o) := fun w o => (Below.refl _ _).alloc (Nat.le_refl _) _
  have hlen := (playFold d s s.length (Nat.le_refl _)).2.1
  have htape := (playFold d s s.length (Nat.le_refl _)).1
  rw [List.take_length] at hlen htape
  have hd0 := hd
  obtain ⟨da, dn, dcap, rfl, hst⟩ := hd
  clear hst
  go_enter Try.func12, Try.ntmps12
  go_wp2_with fail
  refine calls_gen (fun V => Blk V w.heap.size #[.slice da dn dcap, .int .i64 d.quorum, .int .i64 d.expiry] 24 ∧ Quiet w V) ⟨Blk.new' rfl, hq0 _ _⟩ ?_
  rintro V ⟨bd, hqV⟩
  refine (stateM_any _ sv d s V (hd0.quiet hqV) (h.quiet hqV) hl hcr).mono ?_
  rintro e w1 ⟨hq1, hc1⟩
  rcases hc1 with ⟨q, _⟩ | ⟨_, ia, n, ic, ra, m, rc, rfl, hI, hR⟩
  · rw [hok] at q; simp at q
  replace bd := bd.quiet hq1
  have hqV1 : Quiet w w1 := hqV.after hq1
  have gd := bd.cell
  have zd := bd.lt
  clear hqV hq1
  have HJ := fun U hU => journalM_any _ sv d s U (hd0.quiet hU) (h.quiet hU) hl hcr
  have HR := fun U hU => recover_whole _ d hok (playR d s).log htape.log (by omega) U (hd0.quiet (w' := U) hU)
  have hsf := htape.safe
  have hbn : (bytesR (playR d s).log).size = bytesN (playR d s).log := rfl
  generalize (playR d s).safe = S at *
  generalize bytesR (playR d s).log = J at *
  generalize bytesN (playR d s).log = N at *
  subst hbn
  generalize worldR d (playR d s).log = WW at *
  obtain ⟨ck, xs, rs⟩ := WW
  have HJ' : Hid (∀ U, Quiet w U → Calls Try.prog 14 #[.agg #[.slice da dn dcap, .int .i64 d.quorum, .int .i64 d.expiry], sv] U fun e w' => Quiet U w' ∧ e = .returned (.tuple #[.string J, .int .i64 S, .int .i64 0])) := fun U hU => (HJ U hU).mono (by
    rintro e w' ⟨q1, ⟨q2, _⟩ | ⟨_, q3⟩⟩
    · rw [hok] at q2; simp at q2
    · exact ⟨q1, q3⟩)
  have HR' : Hid (∀ U, Quiet w U → Calls Try.prog 16 #[.agg #[.slice da dn dcap, .int .i64 d.quorum, .int .i64 d.expiry], .string J] U fun e w' => Quiet U w' ∧ ∃ ia n ic ra m rc, e = .returned (.tuple #[.agg #[.int .i64 ck, .slice ia n ic, .slice ra m rc], .int .i64 J.size, .int .i64 0]) ∧ InstsAt w' (.slice ia n ic) xs ∧ ReqsAt w' (.slice ra m rc) rs) := HR
  clear HJ HR
  go_wp2_with fail
  refine calls_gen (fun U => Blk U w.heap.size #[.slice da dn dcap, .int .i64 d.quorum, .int .i64 d.expiry] 24 ∧ Blk U w1.heap.size #[.int .i64 ck, .slice ia n ic, .slice ra m rc] 43 ∧ Quiet w1 U) ⟨bd.alloc _, Blk.new' rfl, hq0 _ _⟩ ?_
  rintro U ⟨bd, bw, hqU⟩
  refine (HJ'.out U (hqV1.after hqU)).mono ?_
  rintro e w2 ⟨hq2, rfl⟩
  replace bd := bd.quiet hq2
  replace bw := bw.quiet hq2
  replace hqU : Quiet w1 w2 := hqU.after hq2
  clear gd zd hq2
  have gd := bd.cell
  have zd := bd.lt
  go_wp2_with fail
  refine (HR'.out w2 (hqV1.after hqU)).mono ?_
  rintro e w3 ⟨hq3, ia2, n2, ic2, ra2, m2, rc2, rfl, hI2, hR2⟩
  replace bw := bw.quiet hq3
  replace hqU : Quiet w1 w3 := hqU.after hq3
  clear gd zd bd hq3
  have gw := bw.cell
  have zw := bw.lt
  go_wp2_with fail
  refine calls_gen (fun U3 => Quiet w3 U3) (hq0 _ _) ?_
  intro U3 hq4
  refine (sameW_any ck ck _ _ _ _ xs xs rs rs U3 ((hI.quiet hqU).quiet hq4) (hI2.quiet hq4) ((hR.quiet hqU).quiet hq4) (hR2.quiet hq4)).mono ?_
  rintro e w4 ⟨rfl, hq5⟩
  rw [eqB_true rfl]
  have t1 : ((J.size : Int) == (J.size : Int)) = true := by simp
  have t2 := hsf.1
  have t3 := hsf.2
  clear hsf
  go_wp2
  go_ret
  exact ⟨ret_bool (by simp), ((hqV1.after hqU).after hq4).after hq5⟩

set_option maxRecDepth 100000 in
set_option maxHeartbeats 4000000 in
theorem restored_walk (dv sv : Value) (d : Def) (s : List Cmd) (k : Int) (hk : -9223372036854775808 ≤ k ∧ k ≤ 9223372036854775807) (w : World) (hd : DefIs w dv d) (hv : SlOk sv) (h : Cmds w sv s) (hl : s.length + 1 ≤ 1048576) (hcr : ∀ c ∈ s, c.reason.size ≤ 9223372036854775807) :
    Calls Try.prog 3 #[dv, sv, .int .i64 k] w fun e w' => e = .returned (.bool true) ∧ Quiet w w' := by
  have hq0 : ∀ (w : World) o, Quiet w (w.alloc o) := fun w o => (Below.refl _ _).alloc (Nat.le_refl _) _
  have hd0 := hd
  obtain ⟨da, dn, dcap, rfl, hst⟩ := hd
  clear hst
  go_enter Try.func3, Try.ntmps3
  go_wp2_with fail
  refine calls_gen (fun V => Blk V w.heap.size #[.slice da dn dcap, .int .i64 d.quorum, .int .i64 d.expiry] 24 ∧ Quiet w V) ⟨Blk.new' rfl, hq0 _ _⟩ ?_
  rintro V ⟨bd, hqV⟩
  refine (awake_any V).mono ?_
  rintro e w0 ⟨rfl, hq0'⟩
  go_wp2_with fail
  refine (written_any w0).mono ?_
  rintro e w1 ⟨rfl, hq1⟩
  replace bd := (bd.quiet hq0').quiet hq1
  replace hqV : Quiet w w1 := (hqV.after hq0').after hq1
  have gd := bd.cell
  have zd := bd.lt
  go_wp2_with fail
  refine (valid_any _ d w1 (hd0.quiet hqV)).mono ?_
  rintro e w2 ⟨rfl, hq2⟩
  replace bd := bd.quiet hq2
  replace hqV : Quiet w w2 := hqV.after hq2
  clear gd zd hq1 hq0' V
  have gd := bd.cell
  have zd := bd.lt
  cases hok : d.ok
  · go_wp2_with fail
    refine (refuses_any _ sv d s w2 (hd0.quiet hqV) hok (h.quiet hqV) (by omega) hcr).mono ?_
    rintro e w3 ⟨rfl, hq3⟩
    go_wp2
    go_ret
    exact ⟨rfl, hqV.after hq3⟩
  go_wp2_with fail
  refine (pickK_any k 200 w2 hk (by omega) (by omega)).mono ?_
  rintro e w3 ⟨⟨r, rfl, hr⟩, rfl⟩
  go_wp2_with fail
  refine (with_any sv s ⟨9, 0, r, 0, 0, ⟨#[]⟩, false⟩ w3 hv (h.quiet hqV) (by omega)).mono ?_
  rintro e w4 ⟨ad, n, cap, rfl, hC, hq4⟩
  replace bd := bd.quiet hq4
  replace hqV : Quiet w w4 := hqV.after hq4
  clear gd zd hq2 hq4
  have gd := bd.cell
  have zd := bd.lt
  go_wp2_with fail
  refine (restored_any _ sv d s w4 (hd0.quiet hqV) hok (h.quiet hqV) (by omega) hcr).mono ?_
  rintro e w5 ⟨rfl, hq5⟩
  replace bd := bd.quiet hq5
  replace hqV : Quiet w w5 := hqV.after hq5
  clear gd zd
  have gd := bd.cell
  have zd := bd.lt
  go_wp2_with fail
  refine (restored_any _ _ d (s ++ [⟨9, 0, r, 0, 0, ⟨#[]⟩, false⟩]) w5 (hd0.quiet hqV) hok (hC.quiet hq5) (by simp; omega) (by
    intro c hc
    rcases List.mem_append.1 hc with hc | hc
    · exact hcr c hc
    · simp at hc; subst hc; exact Nat.zero_le _)).mono ?_
  rintro e w6 ⟨rfl, hq6⟩
  go_wp2
  go_ret
  exact ⟨rfl, hqV.after hq6⟩

end Go.Proofs.Ytgcjlgaapiefiab

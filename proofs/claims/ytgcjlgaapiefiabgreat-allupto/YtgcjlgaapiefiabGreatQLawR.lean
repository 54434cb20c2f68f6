import Derived.Test.YtgcjlgaapiefiabGreatQJwI
import Derived.Test.YtgcjlgaapiefiabGreatQRefRc

/-
  The statement Recovers: walked.
-/
namespace Go.Proofs.YtgcjlgaapiefiabGreat
open Go.RowKit Go.Sort

set_option maxRecDepth 100000 in
set_option maxHeartbeats 2000000 in
theorem recoversM_walk (dv : Value) (d : Def) (s : ByteArray) (w : World) (hd : DefIs w dv d) (hl : s.size ≤ 33554432) :
    Calls Tryz.prog 26 #[dv, .string s] w fun e w' => e = .returned (.bool true) ∧ Quiet w w' := by
  have hq0 : ∀ (w : World) o, Quiet w (w.alloc o) := fun w o => (Below.refl _ _).alloc (Nat.le_refl _) _
  have hd0 := hd
  obtain ⟨da, dn, dcap, rfl, hst⟩ := hd
  clear hst
  go_enter Tryz.func26, Tryz.ntmps26
  go_wp2_with fail
  refine calls_gen (fun V => Blk V w.heap.size #[.slice da dn dcap, .int .i64 d.quorum, .int .i64 d.expiry] 24 ∧ Quiet w V) ⟨Blk.new' rfl, hq0 _ _⟩ ?_
  rintro V ⟨bd, hqV⟩
  refine (recoverM_any _ d s V (hd0.quiet hqV) hl).mono ?_
  rintro e w1 ⟨hq1, hc1⟩
  replace bd := bd.quiet hq1
  have hqV1 : Quiet w w1 := hqV.after hq1
  have gd := bd.cell
  have zd := bd.lt
  have nilI : ∀ w : World, InstsAt w (.slice none 0 0) [] := fun w => ⟨[], rfl, ⟨none, 0, rfl, Nat.le_refl _, Nat.zero_le _, by simp [instVals], .inl rfl⟩, by simp⟩
  have nilR : ∀ w : World, ReqsAt w (.slice none 0 0) [] := fun w => ⟨[], rfl, ⟨none, 0, rfl, Nat.le_refl _, Nat.zero_le _, by simp [reqVals], .inl rfl⟩, by simp⟩
  rcases hc1 with ⟨hok, rfl⟩ | ⟨hok, ia, n, ic, ra, m, rc, rfl, hlo, ⟨B1, hI⟩, ⟨B2, hR⟩⟩
  · go_wp2_with fail
    refine calls_gen (fun U => Blk U w1.heap.size #[.int .i64 0, .slice none 0 0, .slice none 0 0] 47 ∧ Quiet w1 U) ⟨Blk.new' rfl, hq0 _ _⟩ ?_
    rintro U ⟨bw, hqU⟩
    refine (refRecover_any _ d s U (hd0.quiet (hqV1.after hqU)) hl).mono ?_
    rintro e w2 ⟨hq2, hc2⟩
    replace bw := bw.quiet hq2
    have gw := bw.cell
    have zw := bw.lt
    rcases hc2 with ⟨_, rfl⟩ | ⟨hok2, _⟩
    · go_wp2_with fail
      refine calls_gen (fun U3 => Quiet w2 U3) (hq0 _ _) ?_
      intro U3 hq3
      refine (sameWorlds_eq 0 _ _ _ _ [] [] U3 (nilI _) (nilI _) (nilR _) (nilR _)).mono ?_
      rintro e w3 ⟨rfl, hq4⟩
      go_wp2_with (go_at_call 13; refine (num_any _ _).mono ?_; rintro e w4 ⟨rfl, hw⟩; rw [hw]; clear hw w4)
      go_ret
      exact ⟨ret_bool (by simp), (((hqV1.after hqU).after hq2).after hq3).after hq4⟩
    · rw [hok] at hok2; simp at hok2
  · have hI1 := insMem_at hI (worldR_bound d _ (by have := readR_len d s; omega))
    have hR1 := reqMem_at hR
    have HCK : Hid ((worldR d (readR d [] s).1).clock = clockR (readR d [] s).1) := rfl
    obtain ⟨u, HU⟩ : ∃ u, Hid ((readR d [] s).2 = u) := ⟨_, rfl⟩
    have HRR : Hid (∀ U, Quiet w U → Calls Tryz.prog 41 #[.agg #[.slice da dn dcap, .int .i64 d.quorum, .int .i64 d.expiry], .string s] U fun e w' => Quiet U w' ∧ ∃ ia n ic ra m rc, e = .returned (.tuple #[.agg #[.int .i64 (clockR (readR d [] s).1), .slice ia n ic, .slice ra m rc], .int .i64 (readR d [] s).2, .int .i64 0]) ∧ InstsAt w' (.slice ia n ic) (worldR d (readR d [] s).1).insts ∧ ReqsAt w' (.slice ra m rc) (worldR d (readR d [] s).1).reqs) := fun U hU =>
      (refRecover_any _ d s U (hd0.quiet hU) hl).mono (by
        rintro e w2 ⟨hq2, hc2⟩
        rcases hc2 with ⟨hok2, _⟩ | ⟨_, hc⟩
        · rw [hok] at hok2; simp at hok2
        · exact ⟨hq2, hc⟩)
    rw [HU.out] at HRR
    rw [HU.out, HCK.out]
    clear hlo hI hR
    generalize clockR (readR d [] s).1 = ck at *
    generalize (worldR d (readR d [] s).1).insts = xs at *
    generalize (worldR d (readR d [] s).1).reqs = rs at *
    go_wp2_with fail
    refine calls_gen (fun U => Blk U w1.heap.size #[.int .i64 ck, .slice ia n ic, .slice ra m rc] 47 ∧ Quiet w1 U) ⟨Blk.new' rfl, hq0 _ _⟩ ?_
    rintro U ⟨bw, hqU⟩
    refine (HRR.out U (hqV1.after hqU)).mono ?_
    rintro e w2 ⟨hq2, ia2, n2, ic2, ra2, m2, rc2, rfl, hI2, hR2⟩
    replace bw := bw.quiet hq2
    have gw := bw.cell
    have zw := bw.lt
    replace hI1 := (hI1.quiet hqU).quiet hq2
    replace hR1 := (hR1.quiet hqU).quiet hq2
    go_wp2_with fail
    refine calls_gen (fun U3 => Quiet w2 U3) (hq0 _ _) ?_
    intro U3 hq3
    refine (sameWorlds_eq ck _ _ _ _ xs rs U3 (hI1.quiet hq3) (hI2.quiet hq3) (hR1.quiet hq3) (hR2.quiet hq3)).mono ?_
    rintro e w3 ⟨rfl, hq4⟩
    go_wp2_with (go_at_call 13; refine (num_any _ _).mono ?_; rintro e w4 ⟨rfl, hw⟩; rw [hw]; clear hw w4)
    go_ret
    exact ⟨ret_bool (by simp), (((hqV1.after hqU).after hq2).after hq3).after hq4⟩

end Go.Proofs.YtgcjlgaapiefiabGreat

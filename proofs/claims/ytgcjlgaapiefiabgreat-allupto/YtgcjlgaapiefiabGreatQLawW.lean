import Derived.Test.YtgcjlgaapiefiabGreatQLawA

/-
  The statement Worlds: walked.
-/
namespace Go.Proofs.YtgcjlgaapiefiabGreat
open Go.RowKit Go.Sort

set_option maxRecDepth 100000 in
set_option maxHeartbeats 2000000 in
theorem worldsM_walk (dv sv : Value) (d : Def) (s : List Cmd) (hpl : PlayedIs s) (w : World) (hd : DefIs w dv d) (h : Cmds w sv s) (hl : s.length ≤ 1048576) (hcr : ∀ c ∈ s, c.reason.size ≤ 9223372036854775807) :
    Calls Tryz.prog 24 #[dv, sv] w fun e w' => e = .returned (.bool true) ∧ Quiet w w' := by
  have hq0 : ∀ (w : World) o, Quiet w (w.alloc o) := fun w o => (Below.refl _ _).alloc (Nat.le_refl _) _
  have hd0 := hd
  obtain ⟨da, dn, dcap, rfl, hst⟩ := hd
  clear hst
  go_enter Tryz.func24, Tryz.ntmps24
  go_wp2_with fail
  refine calls_gen (fun V => Blk V w.heap.size #[.slice da dn dcap, .int .i64 d.quorum, .int .i64 d.expiry] 24 ∧ Quiet w V) ⟨Blk.new' rfl, hq0 _ _⟩ ?_
  rintro V ⟨bd, hqV⟩
  refine (stateM_any _ sv d s V (hd0.quiet hqV) (h.quiet hqV) hl hcr).mono ?_
  rintro e w1 ⟨hq1, hc1⟩
  replace bd := bd.quiet hq1
  have hqV1 : Quiet w w1 := hqV.after hq1
  have gd := bd.cell
  have zd := bd.lt
  rcases hc1 with ⟨hok, rfl⟩ | ⟨hok, ia, n, ic, ra, m, rc, rfl, hI, hR⟩
  · go_wp2_with fail
    refine calls_gen (fun U => Blk U w1.heap.size #[.int .i64 0, .slice none 0 0, .slice none 0 0] 47 ∧ Quiet w1 U) ⟨Blk.new' rfl, hq0 _ _⟩ ?_
    rintro U ⟨bw, hqU⟩
    refine (refState_any _ sv d s hpl U (hd0.quiet (hqV1.after hqU)) (h.quiet (hqV1.after hqU)) (by omega) hcr).mono ?_
    rintro e w2 ⟨hq2, hc2⟩
    replace bw := bw.quiet hq2
    have gw := bw.cell
    have zw := bw.lt
    rcases hc2 with ⟨_, rfl⟩ | ⟨hok2, _⟩
    · go_wp2_with fail
      refine calls_gen (fun U3 => Quiet w2 U3) (hq0 _ _) ?_
      intro U3 hq3
      refine (sameWorlds_eq 0 _ _ _ _ [] [] U3 (nil_insts _) (nil_insts _) (nil_reqs _) (nil_reqs _)).mono ?_
      rintro e w3 ⟨rfl, hq4⟩
      go_wp2_with (go_at_call 13; refine (num_any _ _).mono ?_; rintro e w4 ⟨rfl, hw⟩; rw [hw]; clear hw w4)
      go_ret
      exact ⟨ret_bool (by simp), (((hqV1.after hqU).after hq2).after hq3).after hq4⟩
    · rw [hok] at hok2; simp at hok2
  · go_wp2_with fail
    refine calls_gen (fun U => Blk U w1.heap.size #[.int .i64 (worldR d (playR d s).log).clock, .slice ia n ic, .slice ra m rc] 47 ∧ Quiet w1 U) ⟨Blk.new' rfl, hq0 _ _⟩ ?_
    rintro U ⟨bw, hqU⟩
    refine (refState_any _ sv d s hpl U (hd0.quiet (hqV1.after hqU)) (h.quiet (hqV1.after hqU)) (by omega) hcr).mono ?_
    rintro e w2 ⟨hq2, hc2⟩
    replace bw := bw.quiet hq2
    have gw := bw.cell
    have zw := bw.lt
    rcases hc2 with ⟨hok2, _⟩ | ⟨_, ia2, n2, ic2, ra2, m2, rc2, rfl, hI2, hR2⟩
    · rw [hok] at hok2; simp at hok2
    · replace hI := (hI.quiet hqU).quiet hq2
      replace hR := (hR.quiet hqU).quiet hq2
      generalize worldR d (playR d s).log = WW at *
      obtain ⟨ck, xs, rs⟩ := WW
      go_wp2_with fail
      refine calls_gen (fun U3 => Quiet w2 U3) (hq0 _ _) ?_
      intro U3 hq3
      refine (sameWorlds_eq ck _ _ _ _ xs rs U3 (hI.quiet hq3) (hI2.quiet hq3) (hR.quiet hq3) (hR2.quiet hq3)).mono ?_
      rintro e w3 ⟨rfl, hq4⟩
      go_wp2_with (go_at_call 13; refine (num_any _ _).mono ?_; rintro e w4 ⟨rfl, hw⟩; rw [hw]; clear hw w4)
      go_ret
      exact ⟨ret_bool (by simp), (((hqV1.after hqU).after hq2).after hq3).after hq4⟩

end Go.Proofs.YtgcjlgaapiefiabGreat

import Derived.Test.YtgcjlgaapiefiabGreatQLawA
import Derived.Test.YtgcjlgaapiefiabGreatQJwI
import Derived.Test.YtgcjlgaapiefiabGreatQRefJr

/-
  The statement Journals: walked.
-/
namespace Go.Proofs.YtgcjlgaapiefiabGreat
open Go.RowKit Go.Sort

set_option maxRecDepth 100000 in
set_option maxHeartbeats 2000000 in
theorem journalsM_walk (dv sv : Value) (d : Def) (s : List Cmd) (hpl : PlayedIs s) (w : World) (hd : DefIs w dv d) (h : Cmds w sv s) (hl : s.length ≤ 1048576) (hcr : ∀ c ∈ s, c.reason.size ≤ 9223372036854775807) :
    Calls Tryz.prog 25 #[dv, sv] w fun e w' => e = .returned (.bool true) ∧ Quiet w w' := by
  have hq0 : ∀ (w : World) o, Quiet w (w.alloc o) := fun w o => (Below.refl _ _).alloc (Nat.le_refl _) _
  have hd0 := hd
  obtain ⟨da, dn, dcap, rfl, hst⟩ := hd
  clear hst
  go_enter Tryz.func25, Tryz.ntmps25
  go_wp2_with fail
  refine calls_gen (fun V => Blk V w.heap.size #[.slice da dn dcap, .int .i64 d.quorum, .int .i64 d.expiry] 24 ∧ Quiet w V) ⟨Blk.new' rfl, hq0 _ _⟩ ?_
  rintro V ⟨bd, hqV⟩
  refine (journalM_any _ sv d s V (hd0.quiet hqV) (h.quiet hqV) hl hcr).mono ?_
  rintro e w1 ⟨hq1, hc1⟩
  replace bd := bd.quiet hq1
  have hqV1 : Quiet w w1 := hqV.after hq1
  have gd := bd.cell
  have zd := bd.lt
  have HRR := refJournal_any _ sv d s hpl w1 (hd0.quiet hqV1) (h.quiet hqV1) (by omega) hcr
  rcases hc1 with ⟨hok, rfl⟩ | ⟨hok, rfl⟩
  · go_wp2_with fail
    refine HRR.mono ?_
    rintro e w2 ⟨hq2, hc2⟩
    rcases hc2 with ⟨_, rfl⟩ | ⟨hok2, _⟩
    · go_wp2_with (go_at_call 13; refine (num_any _ _).mono ?_; rintro e w4 ⟨rfl, hw⟩; rw [hw]; clear hw w4)
      go_ret
      exact ⟨ret_bool (by simp), hqV1.after hq2⟩
    · rw [hok] at hok2; simp at hok2
  · have HR2 : Hid (Calls Tryz.prog 19 #[.agg #[.slice da dn dcap, .int .i64 d.quorum, .int .i64 d.expiry], sv] w1 fun e w' => Quiet w1 w' ∧ e = .returned (.tuple #[.string (bytesR (playR d s).log), .int .i64 (playR d s).safe, .int .i64 0])) := HRR.mono (by
      rintro e w2 ⟨hq2, hc2⟩
      rcases hc2 with ⟨hok2, _⟩ | ⟨_, rfl⟩
      · rw [hok] at hok2; simp at hok2
      · exact ⟨hq2, rfl⟩)
    clear HRR hcr
    generalize bytesR (playR d s).log = J at *
    generalize (playR d s).safe = sf at *
    have hJJ : (J.toList == J.toList) = true := by simp
    go_wp2_with fail
    refine HR2.out.mono ?_
    rintro e w2 ⟨hq2, rfl⟩
    go_wp2_with (go_at_call 13; refine (num_any _ _).mono ?_; rintro e w4 ⟨rfl, hw⟩; rw [hw]; clear hw w4)
    go_ret
    exact ⟨ret_bool (by simp), hqV1.after hq2⟩

end Go.Proofs.YtgcjlgaapiefiabGreat

import Derived.Test.YtgcjlgaapiefiabGreatQRun
import Derived.BigRegion
import Derived.Test.YtgcjlgaapiefiabGreatQPly

/-
  Walks of the document's answer: Journal.
-/
namespace Go.Proofs.YtgcjlgaapiefiabGreat
open Go.RowKit

set_option maxRecDepth 100000 in
set_option maxHeartbeats 2000000 in
theorem refJournal_any (dv sv : Value) (d : Def) (s : List Cmd) (hpl : PlayedIs s) (w : World) (hd : DefIs w dv d) (h : Cmds w sv s) (hl : s.length ≤ 4194304) (hcr : ∀ c ∈ s, c.reason.size ≤ 9223372036854775807) :
    Calls Tryz.prog 19 #[dv, sv] w fun e w' => Quiet w w' ∧ ((d.ok = false ∧ e = .returned (.tuple #[.string ⟨#[]⟩, .int .i64 0, .int .i64 1])) ∨
      (d.ok = true ∧ e = .returned (.tuple #[.string (bytesR (playR d s).log), .int .i64 (playR d s).safe, .int .i64 0]))) := by
  have hq0 : ∀ (w : World) o, Quiet w (w.alloc o) := fun w o => (Below.refl _ _).alloc (Nat.le_refl _) _
  have hd0 := hd
  obtain ⟨da, dn, dcap, rfl, hst⟩ := hd
  clear hst
  go_enter Tryz.func19, Tryz.ntmps19
  go_wp2_with fail
  refine calls_gen (fun V => Blk V w.heap.size #[.slice da dn dcap, .int .i64 d.quorum, .int .i64 d.expiry] 24 ∧ Quiet w V) ⟨Blk.new' rfl, hq0 _ _⟩ ?_
  rintro V ⟨bd, hqV⟩
  refine (refCheck_any _ d V (hd0.quiet hqV)).mono ?_
  rintro e w1 ⟨rfl, hq1⟩
  replace bd := bd.quiet hq1
  replace hqV : Quiet w w1 := hqV.after hq1
  clear hq1
  have gd := bd.cell
  cases hok : d.ok
  · have hck : (chk false != 0) = true := by decide
    go_wp2
    refine bodyPost_ret (v := .tuple #[.string ⟨#[]⟩, .int .i64 0, .int .i64 1]) (by simp [results, Tryz.results19, go_sem, chk]) rfl ⟨hqV, .inl ⟨hok, rfl⟩⟩
  · have hck : (chk true != 0) = false := by decide
    have HOK : Hid (d.ok = true) := hok
    have HPl : Hid (Calls Tryz.prog 28 #[.agg #[.slice da dn dcap, .int .i64 d.quorum, .int .i64 d.expiry], sv] w1 fun e w' => ∃ la L lc aa k ac dcs, e = .returned (.pointer (some ⟨w1.heap.size + 1, 0, none⟩)) ∧ PlayAt w1 w' (playR d s) la L lc aa k ac dcs) := hpl _ sv d w1 (hd0.quiet hqV) hok (h.quiet hqV) hl hcr
    obtain ⟨hTok, hTl, _⟩ := playFold d s s.length (Nat.le_refl _)
    rw [List.take_length] at hTok hTl
    clear hok
    go_wp2_with fail
    refine HPl.out.mono ?_
    rintro e w2 ⟨la, L, lc, aa, k, ac, dcs, rfl, hP⟩
    have gt := hP.tape.cell
    have zt := hP.tape.lt
    have HB : Hid (Calls Tryz.prog 37 #[.slice la L lc] w2 fun e w' => e = .returned (.string (bytesR (playR d s).log)) ∧ Quiet w2 w') := bytes_any _ (playR d s).log w2 (own_cmds hP.log hP.len (by omega)) hTok.log.recs
    obtain ⟨J, HJ⟩ : ∃ J, Hid (bytesR (playR d s).log = J) := ⟨_, rfl⟩
    obtain ⟨sf, HSF⟩ : ∃ sf, Hid ((playR d s).safe = sf) := ⟨_, rfl⟩
    rw [HJ.out] at HB
    rw [HSF.out] at gt
    go_wp2_with fail
    refine HB.out.mono ?_
    rintro e w3 ⟨rfl, hq3⟩
    have gt3 := (hP.tape.quiet hq3).cell
    have zt3 := (hP.tape.quiet hq3).lt
    rw [HSF.out] at gt3
    clear gt zt
    have hqF : Quiet w w3 := (hqV.after hP.quiet).after hq3
    go_wp2_with fail
    go_region
    go_wp2
    refine bodyPost_ret (v := .tuple #[.string J, .int .i64 sf, .int .i64 0]) (by simp [results, Tryz.results19, go_sem]) rfl ⟨?_, .inr ⟨HOK.out, by rw [HJ.out, HSF.out]⟩⟩
    exact Below.drew hqF

end Go.Proofs.YtgcjlgaapiefiabGreat

/-
  What is known of 'played', of every script.
-/
namespace Go.Proofs.YtgcjlgaapiefiabGreat

theorem played_all : ∀ s, PlayedIs s := fun s dv sv d w hd hok h hl hcr => played_any dv sv d s w hd hok h hl hcr

end Go.Proofs.YtgcjlgaapiefiabGreat

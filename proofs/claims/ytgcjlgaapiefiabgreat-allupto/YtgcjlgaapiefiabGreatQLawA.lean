import Derived.Test.YtgcjlgaapiefiabGreatQRun
import Derived.Test.YtgcjlgaapiefiabGreatQJwH

/-
  The statement Answers: walked.
-/
namespace Go.Proofs.YtgcjlgaapiefiabGreat
open Go.RowKit Go.Sort

theorem nil_answers (w : World) : Answers w (.slice none 0 0) [] := ⟨none, 0, rfl, Nat.le_refl _, Nat.zero_le _, by simp, .inl rfl⟩
theorem nil_insts (w : World) : InstsAt w (.slice none 0 0) [] := ⟨[], rfl, ⟨none, 0, rfl, Nat.le_refl _, Nat.zero_le _, by simp [instVals], .inl rfl⟩, by simp⟩
theorem nil_reqs (w : World) : ReqsAt w (.slice none 0 0) [] := ⟨[], rfl, ⟨none, 0, rfl, Nat.le_refl _, Nat.zero_le _, by simp [reqVals], .inl rfl⟩, by simp⟩

set_option maxRecDepth 100000 in
set_option maxHeartbeats 2000000 in
theorem answersM_walk (dv sv : Value) (d : Def) (s : List Cmd) (hpl : PlayedIs s) (w : World) (hd : DefIs w dv d) (h : Cmds w sv s) (hl : s.length ≤ 1048576) (hcr : ∀ c ∈ s, c.reason.size ≤ 9223372036854775807) :
    Calls Tryz.prog 23 #[dv, sv] w fun e w' => e = .returned (.bool true) ∧ Quiet w w' := by
  have hq0 : ∀ (w : World) o, Quiet w (w.alloc o) := fun w o => (Below.refl _ _).alloc (Nat.le_refl _) _
  have hd0 := hd
  obtain ⟨da, dn, dcap, rfl, hst⟩ := hd
  clear hst
  go_enter Tryz.func23, Tryz.ntmps23
  go_wp2_with fail
  refine calls_gen (fun V => Blk V w.heap.size #[.slice da dn dcap, .int .i64 d.quorum, .int .i64 d.expiry] 24 ∧ Quiet w V) ⟨Blk.new' rfl, hq0 _ _⟩ ?_
  rintro V ⟨bd, hqV⟩
  refine (runM_any _ sv d s V (hd0.quiet hqV) (h.quiet hqV) hl hcr).mono ?_
  rintro e w1 ⟨hq1, hc1⟩
  replace bd := bd.quiet hq1
  replace hqV1 : Quiet w w1 := hqV.after hq1
  have gd := bd.cell
  obtain ⟨_, _, hpn⟩ := playFold d s s.length (Nat.le_refl _)
  rw [List.take_length] at hpn
  rcases hc1 with ⟨hok, rfl⟩ | ⟨hok, aa, ac, rfl, hown⟩
  · go_wp2_with fail
    refine (refRun_any _ sv d s hpl w1 (hd0.quiet hqV1) (h.quiet hqV1) (by omega) hcr).mono ?_
    rintro e w2 ⟨hq2, hc2⟩
    rcases hc2 with ⟨_, rfl⟩ | ⟨hok2, _⟩
    · go_wp2_with fail
      refine (sameAnswers_eq _ _ [] w2 (nil_answers _) (nil_answers _)).mono ?_
      rintro e w3 ⟨rfl, hq3⟩
      go_wp2_with (go_at_call 13; refine (num_any _ _).mono ?_; rintro e w4 ⟨rfl, hw⟩; rw [hw]; clear hw w4)
      go_ret
      exact ⟨ret_bool (by simp), (hqV1.after hq2).after hq3⟩
    · rw [hok] at hok2; simp at hok2
  · have HRR : Hid (∀ U, Quiet w U → Calls Tryz.prog 16 #[.agg #[.slice da dn dcap, .int .i64 d.quorum, .int .i64 d.expiry], sv] U fun e w' => Quiet U w' ∧ ∃ aa k ac, e = .returned (.tuple #[.slice aa k ac, .int .i64 0]) ∧ Answers w' (.slice aa k ac) (playR d s).answers) := fun U hU =>
      (refRun_any _ sv d s hpl U (hd0.quiet hU) (h.quiet hU) (by omega) hcr).mono (by
        rintro e w2 ⟨hq2, hc2⟩
        rcases hc2 with ⟨hok2, _⟩ | ⟨_, aa2, k2, ac2, rfl, hown2, hk2⟩
        · rw [hok] at hok2; simp at hok2
        · exact ⟨hq2, aa2, k2, ac2, rfl, own_answers hown2 hk2⟩)
    have hA0 : Answers w1 (.slice aa s.length ac) (playR d s).answers := own_answers hown hpn.symm
    clear hown hpn hcr
    generalize s.length = n0 at *
    generalize (playR d s).answers = an at *
    go_wp2_with fail
    refine (HRR.out w1 hqV1).mono ?_
    rintro e w2 ⟨hq2, aa2, k2, ac2, rfl, hA2⟩
    · have hA1 : Answers w2 (.slice aa n0 ac) an := Arr.quiet hA0 hq2
      clear hA0
      go_wp2_with fail
      refine (sameAnswers_eq _ _ an w2 hA1 hA2).mono ?_
      rintro e w3 ⟨rfl, hq3⟩
      go_wp2_with (go_at_call 13; refine (num_any _ _).mono ?_; rintro e w4 ⟨rfl, hw⟩; rw [hw]; clear hw w4)
      go_ret
      exact ⟨ret_bool (by simp), (hqV1.after hq2).after hq3⟩

end Go.Proofs.YtgcjlgaapiefiabGreat

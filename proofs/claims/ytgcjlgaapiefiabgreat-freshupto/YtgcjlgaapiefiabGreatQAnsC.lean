import Derived.Test.YtgcjlgaapiefiabGreatQAnsB

/-
  Walks of the document's answer: answer.
-/
namespace Go.Proofs.YtgcjlgaapiefiabGreat
open Go.RowKit

theorem inst_keys (d : Def) (l : List Cmd) (id : Int) (hl : l.length ≤ 549755813888) : 0 ≤ (instanceR d l id).keys ∧ (instanceR d l id).keys ≤ 2199023255552 ∧ (instanceR d l id).ledger.length ≤ 549755813888 := by
  have h1 := instFold_bd d id (factsR d l id) (factsR d l id).length (Nat.le_refl _)
  rw [List.take_length] at h1
  have h2 := factsTo_len d l id l.length
  change (factsR d l id).length ≤ _ at h2
  change 0 ≤ (instFold d id (factsR d l id)).keys ∧ (instFold d id (factsR d l id)).keys ≤ _ ∧ (instFold d id (factsR d l id)).ledger.length ≤ _
  omega

set_option maxRecDepth 100000 in
set_option maxHeartbeats 4000000 in
theorem answer_any (dv v : Value) (d : Def) (l : List Cmd) (c : Cmd) (w : World) (hd : DefIs w dv d) (hok : StepsOk d) (h : Cmds w v l) (ht : TicksOk l) (hl : l.length ≤ 549755813888) (he0 : 0 ≤ d.expiry) (he1 : d.expiry ≤ 50) (hap : ApprovesOk d l)
    (hfo : ∀ id, FactsOk d id (factsR d l id)) (hin : ∀ id, (instanceR d l id).mode = 2 → InSteps d (instanceR d l id)) (hcr : c.reason.size ≤ 9223372036854775807) :
    Calls Tryz.prog 43 #[dv, v, c.val] w fun e w' => e = .returned (answerR d l c).val ∧ Quiet w w' := by
  have hd0 := hd
  obtain ⟨da, dn, dcap, rfl, hst⟩ := hd
  clear hst
  have HR : Hid (answerR d l c = if c.kind = 1 then (if c.inst < 0 ∨ 255 < c.inst then noR 3 else if (startedR l).any (· == c.inst) = true then noR 4 else if (startedR l).length = 4 then noR 5 else noR 0)
      else if c.kind = 4 then (if c.a < 1 ∨ 100 < c.a then noR 3 else if 10000 < clockR l + c.a then noR 16 else noR 0)
      else if c.kind = 6 ∨ c.kind = 7 then noR (decidedR d l c (clockR l))
      else if c.kind = 2 ∨ c.kind = 3 ∨ c.kind = 5 then (if (startedR l).any (· == c.inst) = true then answeredR d l c (instanceR d l c.inst) (clockR l) else noR 4) else noR 2) := rfl
  have hcl := ht.bd
  have hsl := startedR_len l
  have hdec : ∀ (W : World), Quiet w W → Calls Tryz.prog 58 #[.agg #[.slice da dn dcap, .int .i64 d.quorum, .int .i64 d.expiry], v, c.val, .int .i64 (clockR l)] W fun e w' => e = .returned (.int .i64 (decidedR d l c (clockR l))) ∧ Quiet W w' := fun W hW =>
    decided_any _ _ d l c (clockR l) W (hd0.quiet hW) hok (h.quiet hW) ht hl he0 he1 hap hfo
  have HDEC := hdec
  clear hdec
  have HDEC : Hid (∀ (W : World), Quiet w W → Calls Tryz.prog 58 #[.agg #[.slice da dn dcap, .int .i64 d.quorum, .int .i64 d.expiry], v, c.val, .int .i64 (clockR l)] W fun e w' => e = .returned (.int .i64 (decidedR d l c (clockR l))) ∧ Quiet W w') := HDEC
  unfold Cmd.val Answer.val
  go_enter Tryz.func43, Tryz.ntmps43
  go_wp2_with fail
  refine calls_gen (fun W => Blk W w.heap.size #[.slice da dn dcap, .int .i64 d.quorum, .int .i64 d.expiry] 24 ∧ Blk W (w.heap.size + 1) #[.int .i64 c.kind, .int .i64 c.inst, .int .i64 c.a, .int .i64 c.b, .int .i64 c.who, .string c.reason, .bool c.dry] 43 ∧ Blk W (w.heap.size + 1 + 1) #[.int .i64 0, .int .i64 0, .int .i64 0, .int .i64 0] 86 ∧ Quiet w W) ⟨?_, ?_, Blk.new' (by simp), (((Below.refl _ _).alloc (Nat.le_refl _) _).alloc (by simp) _).alloc (by simp; omega) _⟩ ?_
  · repeat (first | (refine Blk.new' ?_; simp; done) | refine Blk.alloc ?_ _)
  · repeat (first | (refine Blk.new' ?_; simp; done) | refine Blk.alloc ?_ _)
  rintro W ⟨b0, b1, b2, hqW⟩
  refine (started_any _ l _ (h.quiet hqW)).mono ?_
  rintro e w1 ⟨v', rfl, hown, hq1⟩
  obtain ⟨a1, cap1, rfl⟩ := own_shape hown
  have hints := own_ints hown
  replace b0 := b0.quiet hq1
  replace b1 := b1.quiet hq1
  replace b2 := b2.quiet hq1
  replace hq1 : Quiet w w1 := hqW.after hq1
  clear hqW hown W
  have g0 := b0.cell
  have g1 := b1.cell
  have g2 := b2.cell
  have f2 := b2.frozen
  go_wp2_with fail
  refine (has_any _ (startedR l) c.inst _ hints).mono ?_
  rintro e w2 ⟨rfl, rfl⟩
  go_wp2_with fail
  refine (clock_any _ l _ (h.quiet hq1) ht).mono ?_
  rintro e w3 ⟨rfl, rfl⟩
  clear hints
  change Hid (answerR d l c = if c.kind = 1 then (if c.inst < 0 ∨ 255 < c.inst then noR 3 else if hasR (startedR l) c.inst = true then noR 4 else if (startedR l).length = 4 then noR 5 else noR 0)
      else if c.kind = 4 then (if c.a < 1 ∨ 100 < c.a then noR 3 else if 10000 < clockR l + c.a then noR 16 else noR 0)
      else if c.kind = 6 ∨ c.kind = 7 then noR (decidedR d l c (clockR l))
      else if c.kind = 2 ∨ c.kind = 3 ∨ c.kind = 5 then (if hasR (startedR l) c.inst = true then answeredR d l c (instanceR d l c.inst) (clockR l) else noR 4) else noR 2) at HR
  generalize hasR (startedR l) c.inst = kn at *
  generalize hns : (startedR l).length = ns at *
  clear hns
  cases k1 : c.kind == 1
  · have k1' : ¬ c.kind = 1 := by simpa using k1
    replace HR : Hid (answerR d l c = if c.kind = 4 then (if c.a < 1 ∨ 100 < c.a then noR 3 else if 10000 < clockR l + c.a then noR 16 else noR 0) else if c.kind = 6 ∨ c.kind = 7 then noR (decidedR d l c (clockR l)) else if c.kind = 2 ∨ c.kind = 3 ∨ c.kind = 5 then (if kn = true then answeredR d l c (instanceR d l c.inst) (clockR l) else noR 4) else noR 2) := by have := HR.out; rw [if_neg k1'] at this; exact this
    cases k4 : c.kind == 4
    · have k4' : ¬ c.kind = 4 := by simpa using k4
      replace HR : Hid (answerR d l c = if c.kind = 6 ∨ c.kind = 7 then noR (decidedR d l c (clockR l)) else if c.kind = 2 ∨ c.kind = 3 ∨ c.kind = 5 then (if kn = true then answeredR d l c (instanceR d l c.inst) (clockR l) else noR 4) else noR 2) := by have := HR.out; rw [if_neg k4'] at this; exact this
      cases k6 : c.kind == 6
      · cases k7 : c.kind == 7
        · have k67 : ¬ (c.kind = 6 ∨ c.kind = 7) := by simp at k6 k7; rintro (h | h); exact k6 h; exact k7 h
          replace HR : Hid (answerR d l c = if c.kind = 2 ∨ c.kind = 3 ∨ c.kind = 5 then (if kn = true then answeredR d l c (instanceR d l c.inst) (clockR l) else noR 4) else noR 2) := by have := HR.out; rw [if_neg k67] at this; exact this
          cases k2 : c.kind == 2
          · cases k3 : c.kind == 3
            · cases k5 : c.kind == 5
              · have kk : ¬ (c.kind = 2 ∨ c.kind = 3 ∨ c.kind = 5) := by simp at k2 k3 k5; rintro (h | h | h); exact k2 h; exact k3 h; exact k5 h
                replace HR : Hid (answerR d l c = noR 2) := by have := HR.out; rw [if_neg kk] at this; exact this
                clear HDEC k1' k4' k67 kk
                go_wp2_with (go_at_call 57; refine (no_any 2 _).mono ?_; rintro e w4 ⟨rfl, hq4⟩; have e3 := b2.quiet hq4; have h3' := e3.cell; have k3' := e3.frozen; simp only [Answer.val])
                refine bodyPost_ret (v := Answer.val ⟨2, 0, 0, 0⟩) (by simp [results, Tryz.results43, go_sem, Answer.val, h3']) rfl ⟨by rw [HR.out]; rfl, ?_⟩
                exact Below.set4 (hq1.after hq4) (by omega) _ _ _ _
              · have kk : c.kind = 2 ∨ c.kind = 3 ∨ c.kind = 5 := by simp at k5; exact .inr (.inr k5)
                replace HR : Hid (answerR d l c = if kn = true then answeredR d l c (instanceR d l c.inst) (clockR l) else noR 4) := by have := HR.out; rw [if_pos kk] at this; exact this
                clear HDEC k1' k4' k67 kk
                cases u3 : kn
                · replace HR : Hid (answerR d l c = noR 4) := by have := HR.out; rw [if_neg (by simp [u3])] at this; exact this
                  go_wp2_with (go_at_call 57; refine (no_any 4 _).mono ?_; rintro e w4 ⟨rfl, hq4⟩; have e3 := b2.quiet hq4; have h3' := e3.cell; have k3' := e3.frozen; simp only [Answer.val])
                  refine bodyPost_ret (v := Answer.val ⟨4, 0, 0, 0⟩) (by simp [results, Tryz.results43, go_sem, Answer.val, h3']) rfl ⟨by rw [HR.out]; rfl, ?_⟩
                  exact Below.set4 (hq1.after hq4) (by omega) _ _ _ _
                · replace HR : Hid (answerR d l c = answeredR d l c (instanceR d l c.inst) (clockR l)) := by have := HR.out; rw [if_pos u3] at this; exact this
                  go_wp2_with fail
                  refine (instance_any _ _ d l c.inst _ (hd0.quiet hq1) hok (h.quiet hq1) ht hl he0 he1 hap (hfo c.inst)).mono ?_
                  rintro e w4 ⟨a3, n3, cap3, rfl, hown3, hn3, hq4⟩
                  obtain ⟨y0, y1, y2⟩ := inst_keys d l c.inst hl
                  have hE3 : Ents w4 (.slice a3 n3 cap3) (instanceR d l c.inst).ledger := own_ents hown3 hn3 (by omega)
                  have hin1 := hin c.inst
                  replace b0 := b0.quiet hq4
                  replace b1 := b1.quiet hq4
                  replace b2 := b2.quiet hq4
                  replace hq4 := hq1.after hq4
                  clear g0 g1 g2 f2 hn3 hown3
                  generalize instanceR d l c.inst = x at *
                  have g0 := b0.cell
                  have g1 := b1.cell
                  have z0 := b0.lt
                  have z1 := b1.lt
                  simp only [Inst.val]
                  go_wp2_with fail
                  refine calls_gen (fun W => Blk W (w.heap.size + 1 + 1) #[.int .i64 0, .int .i64 0, .int .i64 0, .int .i64 0] 86 ∧ Quiet w4 W) ⟨b2.alloc _, (Below.refl _ _).alloc (Nat.le_refl _) _⟩ ?_
                  rintro W ⟨i2, hqW⟩
                  refine (answered_any _ _ d l c x a3 n3 cap3 (clockR l) _ (hd0.quiet (hq4.after hqW)) (h.quiet (hq4.after hqW)) ht (by omega) he0 he1 (hE3.quiet hqW) hin1 y0 y1 hcr).mono ?_
                  rintro e w5 ⟨rfl, hq5⟩
                  replace i2 := i2.quiet hq5
                  replace hq5 := (hq4.after hqW).after hq5
                  have g2 := i2.cell
                  have f2 := i2.frozen
                  generalize answeredR d l c x (clockR l) = r at *
                  simp only [Answer.val]
                  go_wp2
                  refine bodyPost_ret (v := Answer.val r) (by simp [results, Tryz.results43, go_sem, Answer.val, g2]) rfl ⟨by rw [HR.out]; rfl, ?_⟩
                  exact Below.set4 hq5 (by omega) _ _ _ _
            · have kk : c.kind = 2 ∨ c.kind = 3 ∨ c.kind = 5 := by simp at k3; exact .inr (.inl k3)
              replace HR : Hid (answerR d l c = if kn = true then answeredR d l c (instanceR d l c.inst) (clockR l) else noR 4) := by have := HR.out; rw [if_pos kk] at this; exact this
              clear HDEC k1' k4' k67 kk
              cases u3 : kn
              · replace HR : Hid (answerR d l c = noR 4) := by have := HR.out; rw [if_neg (by simp [u3])] at this; exact this
                go_wp2_with (go_at_call 57; refine (no_any 4 _).mono ?_; rintro e w4 ⟨rfl, hq4⟩; have e3 := b2.quiet hq4; have h3' := e3.cell; have k3' := e3.frozen; simp only [Answer.val])
                refine bodyPost_ret (v := Answer.val ⟨4, 0, 0, 0⟩) (by simp [results, Tryz.results43, go_sem, Answer.val, h3']) rfl ⟨by rw [HR.out]; rfl, ?_⟩
                exact Below.set4 (hq1.after hq4) (by omega) _ _ _ _
              · replace HR : Hid (answerR d l c = answeredR d l c (instanceR d l c.inst) (clockR l)) := by have := HR.out; rw [if_pos u3] at this; exact this
                go_wp2_with fail
                refine (instance_any _ _ d l c.inst _ (hd0.quiet hq1) hok (h.quiet hq1) ht hl he0 he1 hap (hfo c.inst)).mono ?_
                rintro e w4 ⟨a3, n3, cap3, rfl, hown3, hn3, hq4⟩
                obtain ⟨y0, y1, y2⟩ := inst_keys d l c.inst hl
                have hE3 : Ents w4 (.slice a3 n3 cap3) (instanceR d l c.inst).ledger := own_ents hown3 hn3 (by omega)
                have hin1 := hin c.inst
                replace b0 := b0.quiet hq4
                replace b1 := b1.quiet hq4
                replace b2 := b2.quiet hq4
                replace hq4 := hq1.after hq4
                clear g0 g1 g2 f2 hn3 hown3
                generalize instanceR d l c.inst = x at *
                have g0 := b0.cell
                have g1 := b1.cell
                have z0 := b0.lt
                have z1 := b1.lt
                simp only [Inst.val]
                go_wp2_with fail
                refine calls_gen (fun W => Blk W (w.heap.size + 1 + 1) #[.int .i64 0, .int .i64 0, .int .i64 0, .int .i64 0] 86 ∧ Quiet w4 W) ⟨b2.alloc _, (Below.refl _ _).alloc (Nat.le_refl _) _⟩ ?_
                rintro W ⟨i2, hqW⟩
                refine (answered_any _ _ d l c x a3 n3 cap3 (clockR l) _ (hd0.quiet (hq4.after hqW)) (h.quiet (hq4.after hqW)) ht (by omega) he0 he1 (hE3.quiet hqW) hin1 y0 y1 hcr).mono ?_
                rintro e w5 ⟨rfl, hq5⟩
                replace i2 := i2.quiet hq5
                replace hq5 := (hq4.after hqW).after hq5
                have g2 := i2.cell
                have f2 := i2.frozen
                generalize answeredR d l c x (clockR l) = r at *
                simp only [Answer.val]
                go_wp2
                refine bodyPost_ret (v := Answer.val r) (by simp [results, Tryz.results43, go_sem, Answer.val, g2]) rfl ⟨by rw [HR.out]; rfl, ?_⟩
                exact Below.set4 hq5 (by omega) _ _ _ _
          · have kk : c.kind = 2 ∨ c.kind = 3 ∨ c.kind = 5 := by simp at k2; exact .inl k2
            replace HR : Hid (answerR d l c = if kn = true then answeredR d l c (instanceR d l c.inst) (clockR l) else noR 4) := by have := HR.out; rw [if_pos kk] at this; exact this
            clear HDEC k1' k4' k67 kk
            cases u3 : kn
            · replace HR : Hid (answerR d l c = noR 4) := by have := HR.out; rw [if_neg (by simp [u3])] at this; exact this
              go_wp2_with (go_at_call 57; refine (no_any 4 _).mono ?_; rintro e w4 ⟨rfl, hq4⟩; have e3 := b2.quiet hq4; have h3' := e3.cell; have k3' := e3.frozen; simp only [Answer.val])
              refine bodyPost_ret (v := Answer.val ⟨4, 0, 0, 0⟩) (by simp [results, Tryz.results43, go_sem, Answer.val, h3']) rfl ⟨by rw [HR.out]; rfl, ?_⟩
              exact Below.set4 (hq1.after hq4) (by omega) _ _ _ _
            · replace HR : Hid (answerR d l c = answeredR d l c (instanceR d l c.inst) (clockR l)) := by have := HR.out; rw [if_pos u3] at this; exact this
              go_wp2_with fail
              refine (instance_any _ _ d l c.inst _ (hd0.quiet hq1) hok (h.quiet hq1) ht hl he0 he1 hap (hfo c.inst)).mono ?_
              rintro e w4 ⟨a3, n3, cap3, rfl, hown3, hn3, hq4⟩
              obtain ⟨y0, y1, y2⟩ := inst_keys d l c.inst hl
              have hE3 : Ents w4 (.slice a3 n3 cap3) (instanceR d l c.inst).ledger := own_ents hown3 hn3 (by omega)
              have hin1 := hin c.inst
              replace b0 := b0.quiet hq4
              replace b1 := b1.quiet hq4
              replace b2 := b2.quiet hq4
              replace hq4 := hq1.after hq4
              clear g0 g1 g2 f2 hn3 hown3
              generalize instanceR d l c.inst = x at *
              have g0 := b0.cell
              have g1 := b1.cell
              have z0 := b0.lt
              have z1 := b1.lt
              simp only [Inst.val]
              go_wp2_with fail
              refine calls_gen (fun W => Blk W (w.heap.size + 1 + 1) #[.int .i64 0, .int .i64 0, .int .i64 0, .int .i64 0] 86 ∧ Quiet w4 W) ⟨b2.alloc _, (Below.refl _ _).alloc (Nat.le_refl _) _⟩ ?_
              rintro W ⟨i2, hqW⟩
              refine (answered_any _ _ d l c x a3 n3 cap3 (clockR l) _ (hd0.quiet (hq4.after hqW)) (h.quiet (hq4.after hqW)) ht (by omega) he0 he1 (hE3.quiet hqW) hin1 y0 y1 hcr).mono ?_
              rintro e w5 ⟨rfl, hq5⟩
              replace i2 := i2.quiet hq5
              replace hq5 := (hq4.after hqW).after hq5
              have g2 := i2.cell
              have f2 := i2.frozen
              generalize answeredR d l c x (clockR l) = r at *
              simp only [Answer.val]
              go_wp2
              refine bodyPost_ret (v := Answer.val r) (by simp [results, Tryz.results43, go_sem, Answer.val, g2]) rfl ⟨by rw [HR.out]; rfl, ?_⟩
              exact Below.set4 hq5 (by omega) _ _ _ _
        · replace HR : Hid (answerR d l c = noR (decidedR d l c (clockR l))) := by have := HR.out; rw [if_pos (by simp at k7; exact .inr k7)] at this; exact this
          clear k1' k4'
          go_wp2_with fail
          refine (HDEC.out _ hq1).mono ?_
          rintro e w4 ⟨rfl, hq4⟩
          replace b2 := b2.quiet hq4
          replace hq1 := hq1.after hq4
          clear g0 g1 g2 f2 HDEC
          have g2 := b2.cell
          have f2 := b2.frozen
          generalize decidedR d l c (clockR l) = dc at *
          go_wp2_with (go_at_call 57; refine (no_any dc _).mono ?_; rintro e w5 ⟨rfl, hq5⟩; have e3 := b2.quiet hq5; have h3' := e3.cell; have k3' := e3.frozen; simp only [Answer.val])
          refine bodyPost_ret (v := Answer.val ⟨dc, 0, 0, 0⟩) (by simp [results, Tryz.results43, go_sem, Answer.val, h3']) rfl ⟨by rw [HR.out]; rfl, ?_⟩
          exact Below.set4 (hq1.after hq5) (by omega) _ _ _ _
      · replace HR : Hid (answerR d l c = noR (decidedR d l c (clockR l))) := by have := HR.out; rw [if_pos (by simp at k6; exact .inl k6)] at this; exact this
        clear k1' k4'
        go_wp2_with fail
        refine (HDEC.out _ hq1).mono ?_
        rintro e w4 ⟨rfl, hq4⟩
        replace b2 := b2.quiet hq4
        replace hq1 := hq1.after hq4
        clear g0 g1 g2 f2 HDEC
        have g2 := b2.cell
        have f2 := b2.frozen
        generalize decidedR d l c (clockR l) = dc at *
        go_wp2_with (go_at_call 57; refine (no_any dc _).mono ?_; rintro e w5 ⟨rfl, hq5⟩; have e3 := b2.quiet hq5; have h3' := e3.cell; have k3' := e3.frozen; simp only [Answer.val])
        refine bodyPost_ret (v := Answer.val ⟨dc, 0, 0, 0⟩) (by simp [results, Tryz.results43, go_sem, Answer.val, h3']) rfl ⟨by rw [HR.out]; rfl, ?_⟩
        exact Below.set4 (hq1.after hq5) (by omega) _ _ _ _
    · replace HR : Hid (answerR d l c = if c.a < 1 ∨ 100 < c.a then noR 3 else if 10000 < clockR l + c.a then noR 16 else noR 0) := by have := HR.out; rw [if_pos (by simpa using k4)] at this; exact this
      clear HDEC k1'
      by_cases u1 : c.a < 1
      · replace HR : Hid (answerR d l c = noR 3) := by have := HR.out; rw [if_pos (.inl u1)] at this; exact this
        go_wp2_with (go_at_call 57; refine (no_any 3 _).mono ?_; rintro e w4 ⟨rfl, hq4⟩; have e3 := b2.quiet hq4; have h3' := e3.cell; have k3' := e3.frozen; simp only [Answer.val])
        refine bodyPost_ret (v := Answer.val ⟨3, 0, 0, 0⟩) (by simp [results, Tryz.results43, go_sem, Answer.val, h3']) rfl ⟨by rw [HR.out]; rfl, ?_⟩
        exact Below.set4 (hq1.after hq4) (by omega) _ _ _ _
      by_cases u2 : 100 < c.a
      · replace HR : Hid (answerR d l c = noR 3) := by have := HR.out; rw [if_pos (.inr u2)] at this; exact this
        go_wp2_with (go_at_call 57; refine (no_any 3 _).mono ?_; rintro e w4 ⟨rfl, hq4⟩; have e3 := b2.quiet hq4; have h3' := e3.cell; have k3' := e3.frozen; simp only [Answer.val])
        refine bodyPost_ret (v := Answer.val ⟨3, 0, 0, 0⟩) (by simp [results, Tryz.results43, go_sem, Answer.val, h3']) rfl ⟨by rw [HR.out]; rfl, ?_⟩
        exact Below.set4 (hq1.after hq4) (by omega) _ _ _ _
      replace HR : Hid (answerR d l c = if 10000 < clockR l + c.a then noR 16 else noR 0) := by have := HR.out; rw [if_neg (by omega)] at this; exact this
      obtain ⟨hc0, hc1⟩ := hcl
      by_cases u3 : 10000 < clockR l + c.a
      · replace HR : Hid (answerR d l c = noR 16) := by have := HR.out; rw [if_pos u3] at this; exact this
        go_wp2_with (go_at_call 57; refine (no_any 16 _).mono ?_; rintro e w4 ⟨rfl, hq4⟩; have e3 := b2.quiet hq4; have h3' := e3.cell; have k3' := e3.frozen; simp only [Answer.val])
        refine bodyPost_ret (v := Answer.val ⟨16, 0, 0, 0⟩) (by simp [results, Tryz.results43, go_sem, Answer.val, h3']) rfl ⟨by rw [HR.out]; rfl, ?_⟩
        exact Below.set4 (hq1.after hq4) (by omega) _ _ _ _
      · replace HR : Hid (answerR d l c = noR 0) := by have := HR.out; rw [if_neg u3] at this; exact this
        go_wp2_with (go_at_call 57; refine (no_any 0 _).mono ?_; rintro e w4 ⟨rfl, hq4⟩; have e3 := b2.quiet hq4; have h3' := e3.cell; have k3' := e3.frozen; simp only [Answer.val])
        refine bodyPost_ret (v := Answer.val ⟨0, 0, 0, 0⟩) (by simp [results, Tryz.results43, go_sem, Answer.val, h3']) rfl ⟨by rw [HR.out]; rfl, ?_⟩
        exact Below.set4 (hq1.after hq4) (by omega) _ _ _ _
  · replace HR : Hid (answerR d l c = if c.inst < 0 ∨ 255 < c.inst then noR 3 else if kn = true then noR 4 else if ns = 4 then noR 5 else noR 0) := by have := HR.out; rw [if_pos (by simpa using k1)] at this; exact this
    clear HDEC
    by_cases u1 : c.inst < 0
    · replace HR : Hid (answerR d l c = noR 3) := by have := HR.out; rw [if_pos (.inl u1)] at this; exact this
      go_wp2_with (go_at_call 57; refine (no_any 3 _).mono ?_; rintro e w4 ⟨rfl, hq4⟩; have e3 := b2.quiet hq4; have h3' := e3.cell; have k3' := e3.frozen; simp only [Answer.val])
      refine bodyPost_ret (v := Answer.val ⟨3, 0, 0, 0⟩) (by simp [results, Tryz.results43, go_sem, Answer.val, h3']) rfl ⟨by rw [HR.out]; rfl, ?_⟩
      exact Below.set4 (hq1.after hq4) (by omega) _ _ _ _
    by_cases u2 : 255 < c.inst
    · replace HR : Hid (answerR d l c = noR 3) := by have := HR.out; rw [if_pos (.inr u2)] at this; exact this
      go_wp2_with (go_at_call 57; refine (no_any 3 _).mono ?_; rintro e w4 ⟨rfl, hq4⟩; have e3 := b2.quiet hq4; have h3' := e3.cell; have k3' := e3.frozen; simp only [Answer.val])
      refine bodyPost_ret (v := Answer.val ⟨3, 0, 0, 0⟩) (by simp [results, Tryz.results43, go_sem, Answer.val, h3']) rfl ⟨by rw [HR.out]; rfl, ?_⟩
      exact Below.set4 (hq1.after hq4) (by omega) _ _ _ _
    replace HR : Hid (answerR d l c = if kn = true then noR 4 else if ns = 4 then noR 5 else noR 0) := by have := HR.out; rw [if_neg (by omega)] at this; exact this
    cases u3 : kn
    · replace HR : Hid (answerR d l c = if ns = 4 then noR 5 else noR 0) := by have := HR.out; rw [if_neg (by simp [u3])] at this; exact this
      cases u4 : (ns : Int) == 4
      · replace HR : Hid (answerR d l c = noR 0) := by simp at u4; have := HR.out; rw [if_neg (by omega)] at this; exact this
        go_wp2_with (go_at_call 57; refine (no_any 0 _).mono ?_; rintro e w4 ⟨rfl, hq4⟩; have e3 := b2.quiet hq4; have h3' := e3.cell; have k3' := e3.frozen; simp only [Answer.val])
        refine bodyPost_ret (v := Answer.val ⟨0, 0, 0, 0⟩) (by simp [results, Tryz.results43, go_sem, Answer.val, h3']) rfl ⟨by rw [HR.out]; rfl, ?_⟩
        exact Below.set4 (hq1.after hq4) (by omega) _ _ _ _
      · replace HR : Hid (answerR d l c = noR 5) := by simp at u4; have := HR.out; rw [if_pos (by omega)] at this; exact this
        go_wp2_with (go_at_call 57; refine (no_any 5 _).mono ?_; rintro e w4 ⟨rfl, hq4⟩; have e3 := b2.quiet hq4; have h3' := e3.cell; have k3' := e3.frozen; simp only [Answer.val])
        refine bodyPost_ret (v := Answer.val ⟨5, 0, 0, 0⟩) (by simp [results, Tryz.results43, go_sem, Answer.val, h3']) rfl ⟨by rw [HR.out]; rfl, ?_⟩
        exact Below.set4 (hq1.after hq4) (by omega) _ _ _ _
    · replace HR : Hid (answerR d l c = noR 4) := by have := HR.out; rw [if_pos u3] at this; exact this
      go_wp2_with (go_at_call 57; refine (no_any 4 _).mono ?_; rintro e w4 ⟨rfl, hq4⟩; have e3 := b2.quiet hq4; have h3' := e3.cell; have k3' := e3.frozen; simp only [Answer.val])
      refine bodyPost_ret (v := Answer.val ⟨4, 0, 0, 0⟩) (by simp [results, Tryz.results43, go_sem, Answer.val, h3']) rfl ⟨by rw [HR.out]; rfl, ?_⟩
      exact Below.set4 (hq1.after hq4) (by omega) _ _ _ _

end Go.Proofs.YtgcjlgaapiefiabGreat

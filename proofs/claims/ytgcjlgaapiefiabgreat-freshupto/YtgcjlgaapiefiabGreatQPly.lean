import Derived.Test.YtgcjlgaapiefiabGreatQPlyR

/-
  Walks of the document's answer: a script played, walked.
-/
namespace Go.Proofs.YtgcjlgaapiefiabGreat
open Go.RowKit

set_option maxRecDepth 100000 in
set_option maxHeartbeats 8000000 in
theorem played_any (dv sv : Value) (d : Def) (s : List Cmd) (w : World) (hd : DefIs w dv d) (hok : d.ok = true) (h : Cmds w sv s) (hl : s.length ≤ 4194304) (hcr : ∀ c ∈ s, c.reason.size ≤ 9223372036854775807) :
    Calls Tryz.prog 28 #[dv, sv] w fun e w' => ∃ la L lc aa k ac dcs, e = .returned (.pointer (some ⟨w.heap.size + 1, 0, none⟩)) ∧ PlayAt w w' (playR d s) la L lc aa k ac dcs := by
  obtain ⟨i0, hi, hz0, hz1, hz2⟩ := info_parts Tryz.info86
  obtain ⟨j0, hj, hy0, hy1, hy2⟩ := info_parts Tryz.info43
  have hq0 : ∀ (w : World) o, Quiet w (w.alloc o) := fun w o => (Below.refl _ _).alloc (Nat.le_refl _) _
  obtain ⟨a, n, cap, rfl⟩ := h.1.shape
  obtain ⟨hn, hm⟩ := h.len
  have HN : Hid (n = s.length) := hn
  have hnl : n ≤ 4194304 := by omega
  clear hn
  have hd0 := hd
  obtain ⟨da, dn, dcap, rfl, hst⟩ := hd
  clear hst
  go_enter Tryz.func28, Tryz.ntmps28
  go_wp2
  go_loopw [6] (fun i wr => ∃ (k : Nat) (la : Option Addr) (L lc : Nat) (aa : Option Addr) (ac : Nat), k ≤ n ∧ i = .int .i64 k ∧ PlayAt w wr (playR d (s.take k)) la L lc aa k ac #[.slice da dn dcap, .int .i64 d.quorum, .int .i64 d.expiry]) (fun i _ => n - (intOf i).toNat)
  case atStart => exact ⟨0, none, 0, 0, none, 0, Nat.zero_le _, rfl, ⟨Blk.new' (by simp), (Blk.new' rfl).alloc _, World.ownsRow_nil _ _ _ _, rfl, World.ownsRow_nil _ _ _ _, rfl, (hq0 _ _).alloc (by simp) _⟩⟩
  case round =>
    obtain ⟨k, la, L, lc, aa, ac, hk, rfl, hP⟩ := hrel
    by_cases hlt : k < n
    · have hkl : k < s.length := by have := HN.out; omega
      obtain ⟨b, off, rfl, hb, c0, c1, c2, c3, c4, c5, c6⟩ := (h.quiet hP.quiet).cell k hkl
      obtain ⟨hTok, hTl, hTa⟩ := playFold d s k (by omega)
      have HS : Hid (playR d (s.take (k + 1)) = playStep d (playR d (s.take k)) s[k]) := foldl_take_succ _ _ _ _ hkl
      have hcr' := hcr s[k] (List.getElem_mem hkl)
      generalize playR d (s.take k) = T at *
      generalize s[k] = c at *
      have hLL : L ≤ 4194304 := by have := hP.len; omega
      have HLT : Hid (T.log.length ≤ 4194304) := by show T.log.length ≤ _; omega
      have hsz : bytesN T.log ≤ 1082130432 := by
        have := bytesN_le T.log hTok.log.recs T.log.length (Nat.le_refl _)
        rw [List.take_length] at this
        omega
      have hsz' : (bytesR T.log).size ≤ 1082130432 := hsz
      have HSZ : Hid (((bytesR T.log).size : Int) = bytesN T.log) := rfl
      obtain ⟨hsf0, hsf1⟩ := hTok.safe
      have hsf2 : T.safe ≤ 1082130432 := by omega
      have HSF : Hid (T.safe ≤ (bytesN T.log : Int)) := hsf1
      clear hsz hsf1 hTl hTa
      have gP := hP.tape.cell
      have zP := hP.tape.lt
      have zP2 : w.heap.size < wr.heap.size := by omega
      have hki : (0 : Int) ≤ (k : Int) := by omega
      go_wp2_with fail
      refine calls_gen (fun V => PlayAt w V T la L lc aa k ac #[.slice da dn dcap, .int .i64 d.quorum, .int .i64 d.expiry] ∧ Blk V wr.heap.size #[.int .i64 c.kind, .int .i64 c.inst, .int .i64 c.a, .int .i64 c.b, .int .i64 c.who, .string c.reason, .bool c.dry] 43 ∧ Blk V (wr.heap.size + 1) #[.int .i64 0, .int .i64 0, .int .i64 0, .int .i64 0] 86 ∧ Quiet wr V) ⟨hP.hush ((hq0 _ _).alloc (by simp) _), (Blk.new' rfl).alloc _, Blk.new' (by simp), (hq0 _ _).alloc (by simp) _⟩ ?_
      rintro V ⟨hV, bC, bA, hqV⟩
      have HLog : Hid (∀ U, Quiet V U → Cmds U (.slice la L lc) T.log) := fun U hU => own_cmds (own_quiet hV.log hU) hV.len (by have := HLT.out; omega)
      refine (bytes_any _ T.log V (HLog.out V (Below.refl _ _)) hTok.log.recs).mono ?_
      rintro e w1 ⟨rfl, hq1⟩
      have HLog1 : Hid (∀ U, Quiet w1 U → Cmds U (.slice la L lc) T.log) := fun U hU => HLog.out U (hq1.after hU)
      have hownb : ∀ bb, wr.heap.size ≤ bb → (Value.slice la L lc).ownBlock ≠ some bb ∧ (Value.slice aa k ac).ownBlock ≠ some bb := fun bb hbb => ⟨fun e => by have := (own_ge hP.log bb e).2; omega, fun e => by have := (own_ge hP.ans bb e).2; omega⟩
      have HOwnb : Hid (∀ bb, wr.heap.size ≤ bb → (Value.slice la L lc).ownBlock ≠ some bb ∧ (Value.slice aa k ac).ownBlock ≠ some bb) := hownb
      clear hownb
      have hdV := hd0.quiet (hV.quiet.after hq1)
      replace hV := hV.hush hq1
      replace bC := bC.quiet hq1
      replace bA := bA.quiet hq1
      clear HLog hq1 gP hP c0 c1 c2 c3 c4 c5 c6 hqV
      have gt1 := hV.tape.cell
      have ft1 := hV.tape.frozen
      have gC := bC.cell
      have gA := bA.cell
      have fA := bA.frozen
      have zz : w.heap.size + 1 < wr.heap.size := zP
      have z1 := bC.lt
      have z2 := bA.lt
      rcases Bool.eq_false_or_eq_true (c.kind == 8) with q8 | q8
      · have HT : Hid (playStep d T c = ⟨T.log, bytesN T.log, T.answers ++ [noR 0]⟩) := by show playStep d T c = _; simp at q8; unfold playStep; rw [if_pos q8]
        go_wp2_with fail
        refine wp_gen (fun V => PlayAt w V ⟨T.log, bytesN T.log, T.answers⟩ la L lc aa k ac #[.slice da dn dcap, .int .i64 d.quorum, .int .i64 d.expiry] ∧ Blk V (wr.heap.size + 1) #[.int .i64 0, .int .i64 0, .int .i64 0, .int .i64 0] 86) ⟨hV.safeSet _, bA.other _ (by show wr.heap.size + 1 ≠ w.heap.size + 1; omega)⟩ ?_
        clear gt1 ft1 gC gA fA
        rintro U ⟨hU, bU⟩
        have gt := hU.tape.cell
        have ft := hU.tape.frozen
        have zt := hU.tape.lt
        have gU := bU.cell
        have zU := bU.lt
        have HNEW : Hid (∀ j u, [.int .i64 0, .int .i64 0, .int .i64 0, .int .i64 0][j]? = some u → (U.alloc (.cells #[.int .i64 0, .int .i64 0, .int .i64 0, .int .i64 0] 86)).cell? ((⟨U.heap.size, 0, none⟩ : Addr).add j) = some u) := answer_new U _ _ _ _
        go_region_law (refine step_append_lies _ (by rfl) (.tmp 127) (.tmp 129) 53 (by rfl) w.heap.size 86 i0 (.agg #[.int .i64 0, .int .i64 0, .int .i64 0, .int .i64 0]) 4 32 Tryz.underlying53 hi hz0 hz1 hz2 rfl (by decide) (.slice aa k ac) k (ansVals T.answers) (by simp [Act.eval]) (by exact World.ownsRow.drew (hU.ans.alloc _)) ⟨U.heap.size, 0, none⟩ 1 1 [.int .i64 0, .int .i64 0, .int .i64 0, .int .i64 0] (by simp [Act.eval]) rfl (by exact HNEW.out) (by intro u hu; simp at hu; rcases hu with rfl | rfl | rfl | rfl <;> rfl) (by decide) (by unfold maxLen; omega) (by omega) (by have := hU.quiet.size; simp; omega) (U.heap.size + 1) (by simp) ?_; intro g2 cap2 w4 hown2 hgrow0 hat hlt2; have hgrow := undrewR hgrow0; have q := (hU.tape.alloc (.cells #[.int .i64 0, .int .i64 0, .int .i64 0, .int .i64 0] 86)).grown hgrow (fun e => own_ne hU.ans hU.tape (by decide) e.symm); have qc := q.cell; have qf := q.frozen)
        all_goals (try go_wp2)
        all_goals
          go_roundw
          case rel =>
            refine ⟨k + 1, la, L, lc, some ⟨g2, 0, none⟩, cap2, by omega, by go_num, ?_⟩
            rw [HS.out, HT.out]
            exact play_snoc (A := noR 0) hU hown2 hgrow
          case measure => simp [intOf]; omega
      rcases Bool.eq_false_or_eq_true (c.kind == 9) with q9 | q9
      · by_cases ha0 : c.a < 0
        · have HT : Hid (playStep d T c = ⟨T.log, T.safe, T.answers ++ [noR 3]⟩) := by show playStep d T c = _; simp at q8 q9; unfold playStep; rw [if_neg q8, if_pos ⟨q9, ha0⟩]
          go_wp2_with fail
          refine wp_gen (fun V => PlayAt w V ⟨T.log, T.safe, T.answers⟩ la L lc aa k ac #[.slice da dn dcap, .int .i64 d.quorum, .int .i64 d.expiry] ∧ Blk V (wr.heap.size + 1) #[.int .i64 3, .int .i64 0, .int .i64 0, .int .i64 0] 86) ⟨hV.beside (by omega) (HOwnb.out _ (by omega)).1 (HOwnb.out _ (by omega)).2 0 _, by simpa using bA.set 0 (.int .i64 3)⟩ ?_
          clear gt1 ft1 gC gA fA
          rintro U ⟨hU, bU⟩
          have gt := hU.tape.cell
          have ft := hU.tape.frozen
          have zt := hU.tape.lt
          have gU := bU.cell
          have zU := bU.lt
          have HNEW : Hid (∀ j u, [.int .i64 3, .int .i64 0, .int .i64 0, .int .i64 0][j]? = some u → (U.alloc (.cells #[.int .i64 3, .int .i64 0, .int .i64 0, .int .i64 0] 86)).cell? ((⟨U.heap.size, 0, none⟩ : Addr).add j) = some u) := answer_new U _ _ _ _
          go_region_law (refine step_append_lies _ (by rfl) (.tmp 127) (.tmp 129) 53 (by rfl) w.heap.size 86 i0 (.agg #[.int .i64 0, .int .i64 0, .int .i64 0, .int .i64 0]) 4 32 Tryz.underlying53 hi hz0 hz1 hz2 rfl (by decide) (.slice aa k ac) k (ansVals T.answers) (by simp [Act.eval]) (by exact World.ownsRow.drew (hU.ans.alloc _)) ⟨U.heap.size, 0, none⟩ 1 1 [.int .i64 3, .int .i64 0, .int .i64 0, .int .i64 0] (by simp [Act.eval]) rfl (by exact HNEW.out) (by intro u hu; simp at hu; rcases hu with rfl | rfl | rfl | rfl <;> rfl) (by decide) (by unfold maxLen; omega) (by omega) (by have := hU.quiet.size; simp; omega) (U.heap.size + 1) (by simp) ?_; intro g2 cap2 w4 hown2 hgrow0 hat hlt2; have hgrow := undrewR hgrow0; have q := (hU.tape.alloc (.cells #[.int .i64 3, .int .i64 0, .int .i64 0, .int .i64 0] 86)).grown hgrow (fun e => own_ne hU.ans hU.tape (by decide) e.symm); have qc := q.cell; have qf := q.frozen)
          all_goals (try go_wp2)
          all_goals
            go_roundw
            case rel =>
              refine ⟨k + 1, la, L, lc, some ⟨g2, 0, none⟩, cap2, by omega, by go_num, ?_⟩
              rw [HS.out, HT.out]
              exact play_snoc (A := noR 3) hU hown2 hgrow
            case measure => simp [intOf]; omega
        · have hcc0 : 0 ≤ c.a := by omega
          by_cases hct : c.a < ((bytesR T.log).size : Int) - T.safe
          · obtain ⟨lg2, HLG⟩ : ∃ lg2, Hid (lg2 = cutR T.log (T.safe + c.a)) := ⟨_, rfl⟩
            have HT : Hid (playStep d T c = ⟨lg2, bytesN lg2, T.answers ++ [noR 0]⟩) := by
              show playStep d T c = _; simp at q8 q9; unfold playStep; rw [if_neg q8, if_neg (fun q => ha0 q.2), if_pos q9, if_pos (by have := HSZ.out; omega), ← HLG.out]
            have HL2 : Hid (lg2.length ≤ 4194304 ∧ RecsOk lg2) := by
              have e : lg2 = T.log.take (cutN T.log (T.safe + c.a) T.log.length) := HLG.out
              refine ⟨?_, ?_⟩
              · rw [e]; have := HLT.out; simp; omega
              · rw [e]; exact (hTok.log.take _).recs
            have HCut : Hid (∀ U, Quiet w1 U → Calls Tryz.prog 42 #[.slice la L lc, .int .i64 (T.safe + c.a)] U fun e w' => ∃ la2 L2 lc2, e = .returned (.slice la2 L2 lc2) ∧ w'.ownsRow w.heap.size 43 7 (.slice la2 L2 lc2) L2 (cmdVals lg2) ∧ L2 = lg2.length ∧ Quiet w1 w' ∧ Blk w' (w.heap.size + 1) #[.slice la L lc, .int .i64 T.safe, .slice aa k ac] 70) := fun U hU =>
              (cut_any _ T.log (T.safe + c.a) U (HLog1.out U hU) hTok.log.recs (by omega) (by omega) (by have := HLT.out; omega)).mono (by
                rintro e w' ⟨v, rfl, hown, hqx⟩
                obtain ⟨la2, lc2, rfl⟩ := own_shape hown
                refine ⟨la2, _, lc2, rfl, ?_, by rw [HLG.out], hU.after hqx, (hV.tape.quiet hU).quiet hqx⟩
                rw [HLG.out]
                exact own_base hown (Nat.le_trans hV.quiet.size hU.size))
            go_wp2_with fail
            go_quiet (fail)
            go_wp2_with fail
            refine wp_gen (fun U => PlayAt w U T la L lc aa k ac #[.slice da dn dcap, .int .i64 d.quorum, .int .i64 d.expiry] ∧ Blk U wr.heap.size #[.int .i64 c.kind, .int .i64 c.inst, .int .i64 c.a, .int .i64 c.b, .int .i64 c.who, .string c.reason, .bool c.dry] 43 ∧ Quiet w1 U) ⟨hV.hush (Below.refl _ _).drewN, bC.drewN, (Below.refl _ _).drewN⟩ ?_
            clear gt1 ft1 gC gA fA z1 z2
            rintro U1 ⟨hU1, bC1, hqU1⟩
            have gt1 := hU1.tape.cell
            have ft1 := hU1.tape.frozen
            have gC := bC1.cell
            have hn2 : wr.heap.size ≠ w.heap.size + 1 := by omega
            have hn3 : w.heap.size + 1 ≠ wr.heap.size := by omega
            go_cut [] (fun wc => ∃ (la2 : Option Addr) (L2 lc2 : Nat), PlayAt w wc ⟨lg2, T.safe, T.answers⟩ la2 L2 lc2 aa k ac #[.slice da dn dcap, .int .i64 d.quorum, .int .i64 d.expiry] ∧ Blk wc (wr.heap.size + 1) #[.int .i64 0, .int .i64 0, .int .i64 0, .int .i64 0] 86)
            case first =>
              refine cut_region _ _ U1 (w.heap.size + 1) wr.heap.size la L lc T.safe c.a (fun d hd => by simp; omega) (by simp) (by simp) (gt1 0) (gt1 1) (gC 2) (by omega) (by omega) (by omega) (fun c a d v w h => by cases d <;> exact h) ?_
              refine (HCut.out _ (Below.drew hqU1)).mono ?_
              rintro e w2 ⟨la2, L2, lc2, rfl, hown, hl2, hqx, bt⟩
              refine ⟨la2, L2, lc2, rfl, ⟨_, bt.cell 0⟩, bt.frozen 0, ?_⟩
              simp only [Act.put, List.setIfInBounds_toArray, List.set_cons_succ, List.set_cons_zero]
              try go_wp2
              go_meet
              case rel => exact ⟨la2, L2, lc2, play_cut (hV.hush hqx) hown hl2, (bA.quiet hqx).other _ (by show wr.heap.size + 1 ≠ w.heap.size + 1; omega)⟩
            case rest =>
              obtain ⟨la2, L2, lc2, hU2, bA2⟩ := hcut
              clear gt1 ft1 gC HCut hU1 bC1 hqU1
              have gt2 := hU2.tape.cell
              go_wp2_with fail
              refine (bytes_any _ lg2 wc (own_cmds hU2.log hU2.len (by have := HL2.out.1; omega)) HL2.out.2).mono ?_
              rintro e w3 ⟨rfl, hq3⟩
              have HSZ2 : Hid (((bytesR lg2).size : Int) = bytesN lg2) := rfl
              replace hU2 := hU2.hush hq3
              replace bA2 := bA2.quiet hq3
              clear gt2
              have gt2 := hU2.tape.cell
              have ft2 := hU2.tape.frozen
              go_wp2_with fail
              refine wp_gen (fun V => PlayAt w V ⟨lg2, bytesN lg2, T.answers⟩ la2 L2 lc2 aa k ac #[.slice da dn dcap, .int .i64 d.quorum, .int .i64 d.expiry] ∧ Blk V (wr.heap.size + 1) #[.int .i64 0, .int .i64 0, .int .i64 0, .int .i64 0] 86) ⟨hU2.safeSet _, bA2.other _ (by show wr.heap.size + 1 ≠ w.heap.size + 1; omega)⟩ ?_
              clear gt2 ft2
              rintro U ⟨hU, bU⟩
              have gt := hU.tape.cell
              have ft := hU.tape.frozen
              have zt := hU.tape.lt
              have gU := bU.cell
              have zU := bU.lt
              have HNEW : Hid (∀ j u, [.int .i64 0, .int .i64 0, .int .i64 0, .int .i64 0][j]? = some u → (U.alloc (.cells #[.int .i64 0, .int .i64 0, .int .i64 0, .int .i64 0] 86)).cell? ((⟨U.heap.size, 0, none⟩ : Addr).add j) = some u) := answer_new U _ _ _ _
              go_region_law (refine step_append_lies _ (by rfl) (.tmp 127) (.tmp 129) 53 (by rfl) w.heap.size 86 i0 (.agg #[.int .i64 0, .int .i64 0, .int .i64 0, .int .i64 0]) 4 32 Tryz.underlying53 hi hz0 hz1 hz2 rfl (by decide) (.slice aa k ac) k (ansVals T.answers) (by simp [Act.eval]) (by exact World.ownsRow.drew (hU.ans.alloc _)) ⟨U.heap.size, 0, none⟩ 1 1 [.int .i64 0, .int .i64 0, .int .i64 0, .int .i64 0] (by simp [Act.eval]) rfl (by exact HNEW.out) (by intro u hu; simp at hu; rcases hu with rfl | rfl | rfl | rfl <;> rfl) (by decide) (by unfold maxLen; omega) (by omega) (by have := hU.quiet.size; simp; omega) (U.heap.size + 1) (by simp) ?_; intro g2 cap2 w4 hown2 hgrow0 hat hlt2; have hgrow := undrewR hgrow0; have q := (hU.tape.alloc (.cells #[.int .i64 0, .int .i64 0, .int .i64 0, .int .i64 0] 86)).grown hgrow (fun e => own_ne hU.ans hU.tape (by decide) e.symm); have qc := q.cell; have qf := q.frozen)
              all_goals (try go_wp2)
              all_goals
                go_roundw
                case rel =>
                  refine ⟨k + 1, la2, L2, lc2, some ⟨g2, 0, none⟩, cap2, by omega, by go_num, ?_⟩
                  rw [HS.out, HT.out]
                  exact play_snoc (A := noR 0) hU hown2 hgrow
                case measure => simp [intOf]; omega
          · have HT : Hid (playStep d T c = ⟨T.log, bytesN T.log, T.answers ++ [noR 0]⟩) := by
              show playStep d T c = _; simp at q8 q9; unfold playStep; rw [if_neg q8, if_neg (fun q => ha0 q.2), if_pos q9, if_neg (by have := HSZ.out; omega)]
            go_wp2_with fail
            go_quiet (fail)
            go_wp2_with fail
            refine calls_gen (fun U => PlayAt w U T la L lc aa k ac #[.slice da dn dcap, .int .i64 d.quorum, .int .i64 d.expiry] ∧ Blk U (wr.heap.size + 1) #[.int .i64 0, .int .i64 0, .int .i64 0, .int .i64 0] 86 ∧ Quiet w1 U) ⟨hV.hush (Below.refl _ _).drewN, bA.drewN, (Below.refl _ _).drewN⟩ ?_
            clear gt1 ft1 gC gA fA z1 z2
            rintro U1 ⟨hU1, bA1, hqU1⟩
            refine (bytes_any _ T.log U1 (HLog1.out U1 hqU1) hTok.log.recs).mono ?_
            rintro e w3 ⟨rfl, hq3⟩
            replace hU1 := hU1.hush hq3
            replace bA1 := bA1.quiet hq3
            have gt2 := hU1.tape.cell
            have ft2 := hU1.tape.frozen
            go_wp2_with fail
            refine wp_gen (fun V => PlayAt w V ⟨T.log, bytesN T.log, T.answers⟩ la L lc aa k ac #[.slice da dn dcap, .int .i64 d.quorum, .int .i64 d.expiry] ∧ Blk V (wr.heap.size + 1) #[.int .i64 0, .int .i64 0, .int .i64 0, .int .i64 0] 86) ⟨hU1.safeSet _, bA1.other _ (by show wr.heap.size + 1 ≠ w.heap.size + 1; omega)⟩ ?_
            clear gt2 ft2
            rintro U ⟨hU, bU⟩
            have gt := hU.tape.cell
            have ft := hU.tape.frozen
            have zt := hU.tape.lt
            have gU := bU.cell
            have zU := bU.lt
            have HNEW : Hid (∀ j u, [.int .i64 0, .int .i64 0, .int .i64 0, .int .i64 0][j]? = some u → (U.alloc (.cells #[.int .i64 0, .int .i64 0, .int .i64 0, .int .i64 0] 86)).cell? ((⟨U.heap.size, 0, none⟩ : Addr).add j) = some u) := answer_new U _ _ _ _
            go_region_law (refine step_append_lies _ (by rfl) (.tmp 127) (.tmp 129) 53 (by rfl) w.heap.size 86 i0 (.agg #[.int .i64 0, .int .i64 0, .int .i64 0, .int .i64 0]) 4 32 Tryz.underlying53 hi hz0 hz1 hz2 rfl (by decide) (.slice aa k ac) k (ansVals T.answers) (by simp [Act.eval]) (by exact World.ownsRow.drew (hU.ans.alloc _)) ⟨U.heap.size, 0, none⟩ 1 1 [.int .i64 0, .int .i64 0, .int .i64 0, .int .i64 0] (by simp [Act.eval]) rfl (by exact HNEW.out) (by intro u hu; simp at hu; rcases hu with rfl | rfl | rfl | rfl <;> rfl) (by decide) (by unfold maxLen; omega) (by omega) (by have := hU.quiet.size; simp; omega) (U.heap.size + 1) (by simp) ?_; intro g2 cap2 w4 hown2 hgrow0 hat hlt2; have hgrow := undrewR hgrow0; have q := (hU.tape.alloc (.cells #[.int .i64 0, .int .i64 0, .int .i64 0, .int .i64 0] 86)).grown hgrow (fun e => own_ne hU.ans hU.tape (by decide) e.symm); have qc := q.cell; have qf := q.frozen)
            all_goals (try go_wp2)
            all_goals
              go_roundw
              case rel =>
                refine ⟨k + 1, la, L, lc, some ⟨g2, 0, none⟩, cap2, by omega, by go_num, ?_⟩
                rw [HS.out, HT.out]
                exact play_snoc (A := noR 0) hU hown2 hgrow
              case measure => simp [intOf]; omega
      · have HDef : Hid (playStep d T c = if (answerR d T.log c).code = 0 ∧ c.dry = false then ⟨T.log ++ [c], if c.kind = 2 then (bytesN T.log : Int) + (recordR c).size else T.safe, T.answers ++ [answerR d T.log c]⟩ else ⟨T.log, T.safe, T.answers ++ [answerR d T.log c]⟩) := by
          show playStep d T c = _; simp at q8 q9; unfold playStep; rw [if_neg q8, if_neg (fun q => q9 q.1), if_neg q9]
        have HAns : Hid (∀ U, Quiet w1 U → Calls Tryz.prog 43 #[.agg #[.slice da dn dcap, .int .i64 d.quorum, .int .i64 d.expiry], .slice la L lc, .agg #[.int .i64 c.kind, .int .i64 c.inst, .int .i64 c.a, .int .i64 c.b, .int .i64 c.who, .string c.reason, .bool c.dry]] U fun e w' => e = .returned (answerR d T.log c).val ∧ Quiet w1 w' ∧ Blk w' (wr.heap.size + 1) #[.int .i64 0, .int .i64 0, .int .i64 0, .int .i64 0] 86) := fun U hU =>
          (answer_log _ _ d T.log c U (hdV.quiet hU) hok (HLog1.out U hU) hTok.log (by have := HLT.out; omega) hcr').mono (by
            rintro e w' ⟨rfl, hqx⟩
            exact ⟨rfl, hU.after hqx, (bA.quiet hU).quiet hqx⟩)
        have HRec : Hid ((answerR d T.log c).code = 0 → c.kind = 5 → c.reason.size ≤ 250) := fun h0 h5 => by have := ask_room h0 h5; omega
        generalize answerR d T.log c = A at *
        have gd1 := hV.defn.cell
        have hn1 : w.heap.size ≠ wr.heap.size + 1 := by omega
        have hn2 : w.heap.size + 1 ≠ wr.heap.size + 1 := by omega
        have hn3 : wr.heap.size ≠ wr.heap.size + 1 := by omega
        have hn4 : wr.heap.size + 1 ≠ w.heap.size := by omega
        have hn5 : wr.heap.size + 1 ≠ w.heap.size + 1 := by omega
        have hn6 : w.heap.size ≠ wr.heap.size := by omega
        have hn7 : wr.heap.size ≠ w.heap.size := by omega
        go_wp2_with fail
        go_cut [] (fun wc => PlayAt w wc T la L lc aa k ac #[.slice da dn dcap, .int .i64 d.quorum, .int .i64 d.expiry] ∧ Blk wc wr.heap.size #[.int .i64 c.kind, .int .i64 c.inst, .int .i64 c.a, .int .i64 c.b, .int .i64 c.who, .string c.reason, .bool c.dry] 43 ∧ Blk wc (wr.heap.size + 1) #[.int .i64 A.code, .int .i64 A.number, .int .i64 A.step, .int .i64 A.what] 86)
        case first =>
          go_region_held3 (fun w' => (w'.cell? ⟨w.heap.size, 0, none⟩ = some (.slice da dn dcap) ∧ w'.cell? ⟨w.heap.size, 1, none⟩ = some (.int .i64 d.quorum) ∧ w'.cell? ⟨w.heap.size, 2, none⟩ = some (.int .i64 d.expiry)) ∧ w'.cell? ⟨w.heap.size + 1, 0, none⟩ = some (.slice la L lc) ∧ w'.cell? ⟨wr.heap.size, 0, none⟩ = some (.int .i64 c.kind) ∧ w'.cell? ⟨wr.heap.size, 1, none⟩ = some (.int .i64 c.inst) ∧ w'.cell? ⟨wr.heap.size, 2, none⟩ = some (.int .i64 c.a) ∧ w'.cell? ⟨wr.heap.size, 3, none⟩ = some (.int .i64 c.b) ∧ w'.cell? ⟨wr.heap.size, 4, none⟩ = some (.int .i64 c.who) ∧ w'.cell? ⟨wr.heap.size, 5, none⟩ = some (.string c.reason) ∧ w'.cell? ⟨wr.heap.size, 6, none⟩ = some (.bool c.dry)) (go_keep) (first | (go_at_call 43; refine (HAns.out _ ?_).mono ?_; (first | exact Below.refl _ _ | exact Below.drew (Below.refl _ _) | exact (Below.refl _ _).drewN | exact Below.drew (Below.refl _ _).drewN); rintro e w2 ⟨rfl, hqx, bx⟩; have bxc := bx.cell; have bxf := bx.frozen; have kd := (hV.defn.quiet hqx).cell; have kt := (hV.tape.quiet hqx).cell; have kc := (bC.quiet hqx).cell; simp only [Answer.val]))
          all_goals (try go_wp2)
          all_goals
            go_meet
            case rel =>
              have hx := hV.hush hqx
              have hl := (HOwnb.out (wr.heap.size + 1) (by omega)).1
              have ha := (HOwnb.out (wr.heap.size + 1) (by omega)).2
              have hne : wr.heap.size ≠ wr.heap.size + 1 := by omega
              exact ⟨(((hx.beside (by omega) hl ha 0 _).beside (by omega) hl ha 1 _).beside (by omega) hl ha 2 _).beside (by omega) hl ha 3 _, ((((bC.quiet hqx).other _ hne).other _ hne).other _ hne).other _ hne, bx.set4 (by simp) _ _ _ _⟩
        case rest =>
          obtain ⟨hU, bC2, bA2⟩ := hcut
          clear gt1 ft1 gC gA fA z1 z2 gd1 HAns
          have gt1 := hU.tape.cell
          have ft1 := hU.tape.frozen
          have gC := bC2.cell
          have gA := bA2.cell
          cases hA : A.code == 0
          · have HT : Hid (playStep d T c = ⟨T.log, T.safe, T.answers ++ [A]⟩) := by show playStep d T c = _; simp at hA; rw [HDef.out, if_neg (fun q => hA q.1)]
            go_wp2_with fail
            refine wp_gen (fun V => PlayAt w V ⟨T.log, T.safe, T.answers⟩ la L lc aa k ac #[.slice da dn dcap, .int .i64 d.quorum, .int .i64 d.expiry] ∧ Blk V (wr.heap.size + 1) #[.int .i64 A.code, .int .i64 A.number, .int .i64 A.step, .int .i64 A.what] 86) ⟨hU, bA2⟩ ?_
            clear gt1 ft1 gC gA hU
            rintro U ⟨hU, bU⟩
            have gt := hU.tape.cell
            have ft := hU.tape.frozen
            have zt := hU.tape.lt
            have gU := bU.cell
            have zU := bU.lt
            have HNEW : Hid (∀ j u, [.int .i64 A.code, .int .i64 A.number, .int .i64 A.step, .int .i64 A.what][j]? = some u → (U.alloc (.cells #[.int .i64 A.code, .int .i64 A.number, .int .i64 A.step, .int .i64 A.what] 86)).cell? ((⟨U.heap.size, 0, none⟩ : Addr).add j) = some u) := answer_new U _ _ _ _
            go_region_law (refine step_append_lies _ (by rfl) (.tmp 127) (.tmp 129) 53 (by rfl) w.heap.size 86 i0 (.agg #[.int .i64 0, .int .i64 0, .int .i64 0, .int .i64 0]) 4 32 Tryz.underlying53 hi hz0 hz1 hz2 rfl (by decide) (.slice aa k ac) k (ansVals T.answers) (by simp [Act.eval]) (by exact World.ownsRow.drew (hU.ans.alloc _)) ⟨U.heap.size, 0, none⟩ 1 1 [.int .i64 A.code, .int .i64 A.number, .int .i64 A.step, .int .i64 A.what] (by simp [Act.eval]) rfl (by exact HNEW.out) (by intro u hu; simp at hu; rcases hu with rfl | rfl | rfl | rfl <;> rfl) (by decide) (by unfold maxLen; omega) (by omega) (by have := hU.quiet.size; simp; omega) (U.heap.size + 1) (by simp) ?_; intro g2 cap2 w4 hown2 hgrow0 hat hlt2; have hgrow := undrewR hgrow0; have q := (hU.tape.alloc (.cells #[.int .i64 A.code, .int .i64 A.number, .int .i64 A.step, .int .i64 A.what] 86)).grown hgrow (fun e => own_ne hU.ans hU.tape (by decide) e.symm); have qc := q.cell; have qf := q.frozen)
            all_goals (try go_wp2)
            all_goals
              go_roundw
              case rel =>
                refine ⟨k + 1, la, L, lc, some ⟨g2, 0, none⟩, cap2, by omega, by go_num, ?_⟩
                rw [HS.out, HT.out]
                exact play_snoc (A := A) hU hown2 hgrow
              case measure => simp [intOf]; omega
          cases hdry : c.dry
          · have HT0 : Hid (playStep d T c = ⟨T.log ++ [c], if c.kind = 2 then (bytesN T.log : Int) + (recordR c).size else T.safe, T.answers ++ [A]⟩) := by show playStep d T c = _; simp at hA; rw [HDef.out, if_pos ⟨hA, hdry⟩]
            have HR5 : Hid (c.kind = 5 → c.reason.size ≤ 250) := HRec.out (by simpa using hA)
            go_wp2_with fail
            clear hdry
            have zt := hU.tape.lt
            have zC := bC2.lt
            have HNEWC : Hid (∀ j u, c.cells[j]? = some u → (wc.alloc (.cells #[.int .i64 c.kind, .int .i64 c.inst, .int .i64 c.a, .int .i64 c.b, .int .i64 c.who, .string c.reason, .bool c.dry] 43)).cell? ((⟨wc.heap.size, 0, none⟩ : Addr).add j) = some u) := by
              show ∀ j u, c.cells[j]? = some u → (wc.alloc (.cells #[.int .i64 c.kind, .int .i64 c.inst, .int .i64 c.a, .int .i64 c.b, .int .i64 c.who, .string c.reason, .bool c.dry] 43)).cell? ((⟨wc.heap.size, 0, none⟩ : Addr).add j) = some u
              have := World.news_of_block (heap_alloc_new wc (.cells #[.int .i64 c.kind, .int .i64 c.inst, .int .i64 c.a, .int .i64 c.b, .int .i64 c.who, .string c.reason, .bool c.dry] 43))
              simpa [Cmd.cells] using this
            go_cut [] (fun wd => ∃ (g2 cap2 : Nat), PlayAt w wd ⟨T.log ++ [c], T.safe, T.answers⟩ (some ⟨g2, 0, none⟩) (L + 1) cap2 aa k ac #[.slice da dn dcap, .int .i64 d.quorum, .int .i64 d.expiry] ∧ Blk wd wr.heap.size #[.int .i64 c.kind, .int .i64 c.inst, .int .i64 c.a, .int .i64 c.b, .int .i64 c.who, .string c.reason, .bool c.dry] 43 ∧ Blk wd (wr.heap.size + 1) #[.int .i64 A.code, .int .i64 A.number, .int .i64 A.step, .int .i64 A.what] 86)
            case first =>
              go_region_law (refine step_append_lies _ (by rfl) (.tmp 47) (.tmp 49) 25 (by rfl) w.heap.size 43 j0 (.agg #[.int .i64 0, .int .i64 0, .int .i64 0, .int .i64 0, .int .i64 0, .string ⟨#[]⟩, .bool false]) 7 64 Tryz.underlying25 hj hy0 hy1 hy2 rfl (by decide) (.slice la L lc) L (cmdVals T.log) (by simp [Act.eval]) (by exact World.ownsRow.drew (hU.log.alloc _)) ⟨wc.heap.size, 0, none⟩ 1 1 c.cells (by simp [Act.eval]) rfl (by exact HNEWC.out) (by intro u hu; simp [Cmd.cells] at hu; rcases hu with rfl | rfl | rfl | rfl | rfl | rfl | rfl <;> rfl) (by decide) (by unfold maxLen; omega) (by omega) (by have := hU.quiet.size; simp; omega) (wc.heap.size + 1) (by simp) ?_; intro g2 cap2 w4 hown2 hgrow0 hat hlt2; have hgrow := undrewR hgrow0; have q := (hU.tape.alloc (.cells #[.int .i64 c.kind, .int .i64 c.inst, .int .i64 c.a, .int .i64 c.b, .int .i64 c.who, .string c.reason, .bool c.dry] 43)).grown hgrow (fun e => own_ne hU.log hU.tape (by decide) e.symm); have qc := q.cell; have qf := q.frozen)
              all_goals (try go_wp2)
              all_goals
                go_meet
                case rel =>
                  refine ⟨g2, cap2, play_log hU hown2 hgrow, ?_, ?_⟩
                  · exact ((bC2.alloc _).grown hgrow (fun e => (HOwnb.out wr.heap.size (Nat.le_refl _)).1 e.symm)).other _ (by show wr.heap.size ≠ w.heap.size + 1; omega)
                  · exact ((bA2.alloc _).grown hgrow (fun e => (HOwnb.out (wr.heap.size + 1) (by omega)).1 e.symm)).other _ (by show wr.heap.size + 1 ≠ w.heap.size + 1; omega)
            case rest =>
              obtain ⟨g3, cap3, hU3, bC3, bA3⟩ := hcut
              clear gt1 ft1 gC gA hU bC2 bA2 HNEWC zt zC
              have gt1 := hU3.tape.cell
              have ft1 := hU3.tape.frozen
              have gC := bC3.cell
              cases hk2 : c.kind == 2
              · have HT : Hid (playStep d T c = ⟨T.log ++ [c], T.safe, T.answers ++ [A]⟩) := by show playStep d T c = _; simp at hk2; rw [HT0.out, if_neg hk2]
                go_wp2_with fail
                refine wp_gen (fun V => PlayAt w V ⟨T.log ++ [c], T.safe, T.answers⟩ (some ⟨g3, 0, none⟩) (L + 1) cap3 aa k ac #[.slice da dn dcap, .int .i64 d.quorum, .int .i64 d.expiry] ∧ Blk V (wr.heap.size + 1) #[.int .i64 A.code, .int .i64 A.number, .int .i64 A.step, .int .i64 A.what] 86) ⟨hU3, bA3⟩ ?_
                clear gt1 ft1 gC hU3 bA3
                rintro U ⟨hU, bU⟩
                have gt := hU.tape.cell
                have ft := hU.tape.frozen
                have zt := hU.tape.lt
                have gU := bU.cell
                have zU := bU.lt
                have HNEW : Hid (∀ j u, [.int .i64 A.code, .int .i64 A.number, .int .i64 A.step, .int .i64 A.what][j]? = some u → (U.alloc (.cells #[.int .i64 A.code, .int .i64 A.number, .int .i64 A.step, .int .i64 A.what] 86)).cell? ((⟨U.heap.size, 0, none⟩ : Addr).add j) = some u) := answer_new U _ _ _ _
                go_region_law (refine step_append_lies _ (by rfl) (.tmp 127) (.tmp 129) 53 (by rfl) w.heap.size 86 i0 (.agg #[.int .i64 0, .int .i64 0, .int .i64 0, .int .i64 0]) 4 32 Tryz.underlying53 hi hz0 hz1 hz2 rfl (by decide) (.slice aa k ac) k (ansVals T.answers) (by simp [Act.eval]) (by exact World.ownsRow.drew (hU.ans.alloc _)) ⟨U.heap.size, 0, none⟩ 1 1 [.int .i64 A.code, .int .i64 A.number, .int .i64 A.step, .int .i64 A.what] (by simp [Act.eval]) rfl (by exact HNEW.out) (by intro u hu; simp at hu; rcases hu with rfl | rfl | rfl | rfl <;> rfl) (by decide) (by unfold maxLen; omega) (by omega) (by have := hU.quiet.size; simp; omega) (U.heap.size + 1) (by simp) ?_; intro g2 cap2 w4 hown2 hgrow0 hat hlt2; have hgrow := undrewR hgrow0; have q := (hU.tape.alloc (.cells #[.int .i64 A.code, .int .i64 A.number, .int .i64 A.step, .int .i64 A.what] 86)).grown hgrow (fun e => own_ne hU.ans hU.tape (by decide) e.symm); have qc := q.cell; have qf := q.frozen)
                all_goals (try go_wp2)
                all_goals
                  go_roundw
                  case rel =>
                    refine ⟨k + 1, some ⟨g3, 0, none⟩, L + 1, cap3, some ⟨g2, 0, none⟩, cap2, by omega, by go_num, ?_⟩
                    rw [HS.out, HT.out]
                    exact play_snoc (A := A) hU hown2 hgrow
                  case measure => simp [intOf]; omega
              · have HT : Hid (playStep d T c = ⟨T.log ++ [c], (bytesN T.log : Int) + (recordR c).size, T.answers ++ [A]⟩) := by show playStep d T c = _; simp at hk2; rw [HT0.out, if_pos hk2]
                have hrl := (recordR_le c HR5.out).2
                go_wp2_with fail
                refine (record_any c _ HR5.out).mono ?_
                rintro e w5 ⟨rfl, hq5⟩
                replace hU3 := hU3.hush hq5
                replace bA3 := bA3.quiet hq5
                clear gt1 ft1 gC
                have gt1 := hU3.tape.cell
                have ft1 := hU3.tape.frozen
                generalize recordR c = rr at *
                go_wp2_with fail
                refine wp_gen (fun V => PlayAt w V ⟨T.log ++ [c], (bytesN T.log : Int) + rr.size, T.answers⟩ (some ⟨g3, 0, none⟩) (L + 1) cap3 aa k ac #[.slice da dn dcap, .int .i64 d.quorum, .int .i64 d.expiry] ∧ Blk V (wr.heap.size + 1) #[.int .i64 A.code, .int .i64 A.number, .int .i64 A.step, .int .i64 A.what] 86) ⟨hU3.safeSet _, bA3.other _ (by show wr.heap.size + 1 ≠ w.heap.size + 1; omega)⟩ ?_
                clear gt1 ft1 hU3 bA3
                rintro U ⟨hU, bU⟩
                have gt := hU.tape.cell
                have ft := hU.tape.frozen
                have zt := hU.tape.lt
                have gU := bU.cell
                have zU := bU.lt
                have HNEW : Hid (∀ j u, [.int .i64 A.code, .int .i64 A.number, .int .i64 A.step, .int .i64 A.what][j]? = some u → (U.alloc (.cells #[.int .i64 A.code, .int .i64 A.number, .int .i64 A.step, .int .i64 A.what] 86)).cell? ((⟨U.heap.size, 0, none⟩ : Addr).add j) = some u) := answer_new U _ _ _ _
                go_region_law (refine step_append_lies _ (by rfl) (.tmp 127) (.tmp 129) 53 (by rfl) w.heap.size 86 i0 (.agg #[.int .i64 0, .int .i64 0, .int .i64 0, .int .i64 0]) 4 32 Tryz.underlying53 hi hz0 hz1 hz2 rfl (by decide) (.slice aa k ac) k (ansVals T.answers) (by simp [Act.eval]) (by exact World.ownsRow.drew (hU.ans.alloc _)) ⟨U.heap.size, 0, none⟩ 1 1 [.int .i64 A.code, .int .i64 A.number, .int .i64 A.step, .int .i64 A.what] (by simp [Act.eval]) rfl (by exact HNEW.out) (by intro u hu; simp at hu; rcases hu with rfl | rfl | rfl | rfl <;> rfl) (by decide) (by unfold maxLen; omega) (by omega) (by have := hU.quiet.size; simp; omega) (U.heap.size + 1) (by simp) ?_; intro g2 cap2 w4 hown2 hgrow0 hat hlt2; have hgrow := undrewR hgrow0; have q := (hU.tape.alloc (.cells #[.int .i64 A.code, .int .i64 A.number, .int .i64 A.step, .int .i64 A.what] 86)).grown hgrow (fun e => own_ne hU.ans hU.tape (by decide) e.symm); have qc := q.cell; have qf := q.frozen)
                all_goals (try go_wp2)
                all_goals
                  go_roundw
                  case rel =>
                    refine ⟨k + 1, some ⟨g3, 0, none⟩, L + 1, cap3, some ⟨g2, 0, none⟩, cap2, by omega, by go_num, ?_⟩
                    rw [HS.out, HT.out]
                    exact play_snoc (A := A) hU hown2 hgrow
                  case measure => simp [intOf]; omega
          · have HT : Hid (playStep d T c = ⟨T.log, T.safe, T.answers ++ [A]⟩) := by show playStep d T c = _; rw [HDef.out, if_neg (fun q => by rw [hdry] at q; simp at q)]
            go_wp2_with fail
            refine wp_gen (fun V => PlayAt w V ⟨T.log, T.safe, T.answers⟩ la L lc aa k ac #[.slice da dn dcap, .int .i64 d.quorum, .int .i64 d.expiry] ∧ Blk V (wr.heap.size + 1) #[.int .i64 A.code, .int .i64 A.number, .int .i64 A.step, .int .i64 A.what] 86) ⟨hU, bA2⟩ ?_
            clear gt1 ft1 gC gA hU
            rintro U ⟨hU, bU⟩
            have gt := hU.tape.cell
            have ft := hU.tape.frozen
            have zt := hU.tape.lt
            have gU := bU.cell
            have zU := bU.lt
            have HNEW : Hid (∀ j u, [.int .i64 A.code, .int .i64 A.number, .int .i64 A.step, .int .i64 A.what][j]? = some u → (U.alloc (.cells #[.int .i64 A.code, .int .i64 A.number, .int .i64 A.step, .int .i64 A.what] 86)).cell? ((⟨U.heap.size, 0, none⟩ : Addr).add j) = some u) := answer_new U _ _ _ _
            go_region_law (refine step_append_lies _ (by rfl) (.tmp 127) (.tmp 129) 53 (by rfl) w.heap.size 86 i0 (.agg #[.int .i64 0, .int .i64 0, .int .i64 0, .int .i64 0]) 4 32 Tryz.underlying53 hi hz0 hz1 hz2 rfl (by decide) (.slice aa k ac) k (ansVals T.answers) (by simp [Act.eval]) (by exact World.ownsRow.drew (hU.ans.alloc _)) ⟨U.heap.size, 0, none⟩ 1 1 [.int .i64 A.code, .int .i64 A.number, .int .i64 A.step, .int .i64 A.what] (by simp [Act.eval]) rfl (by exact HNEW.out) (by intro u hu; simp at hu; rcases hu with rfl | rfl | rfl | rfl <;> rfl) (by decide) (by unfold maxLen; omega) (by omega) (by have := hU.quiet.size; simp; omega) (U.heap.size + 1) (by simp) ?_; intro g2 cap2 w4 hown2 hgrow0 hat hlt2; have hgrow := undrewR hgrow0; have q := (hU.tape.alloc (.cells #[.int .i64 A.code, .int .i64 A.number, .int .i64 A.step, .int .i64 A.what] 86)).grown hgrow (fun e => own_ne hU.ans hU.tape (by decide) e.symm); have qc := q.cell; have qf := q.frozen)
            all_goals (try go_wp2)
            all_goals
              go_roundw
              case rel =>
                refine ⟨k + 1, la, L, lc, some ⟨g2, 0, none⟩, cap2, by omega, by go_num, ?_⟩
                rw [HS.out, HT.out]
                exact play_snoc (A := A) hU hown2 hgrow
              case measure => simp [intOf]; omega
    · have hkn : s.take k = s := by have := HN.out; rw [List.take_of_length_le (by omega)]
      rw [hkn] at hP
      go_wp2
      go_ret
      exact ⟨la, L, lc, aa, k, ac, _, rfl, hP⟩

end Go.Proofs.YtgcjlgaapiefiabGreat

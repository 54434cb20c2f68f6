import Derived.Test.YtgcjlgaapiefiabGreatQRun
import Derived.Test.YtgcjlgaapiefiabGreatQJwC
import Derived.Test.YtgcjlgaapiefiabGreatQLog

/-
  Walks of the document's answer: Recover.
-/
namespace Go.Proofs.YtgcjlgaapiefiabGreat
open Go.RowKit Go.Lib

theorem readF_len (d : Def) (s : ByteArray) : ∀ (f : Nat) (l : List Cmd) (i : Nat), i ≤ s.size → 8 * l.length ≤ i → 8 * (readF d s f l i).1.length ≤ s.size := by
  intro f
  induction f with
  | zero => intro l i hi hl; show 8 * l.length ≤ s.size; omega
  | succ f ih =>
    intro l i hi hl
    unfold readF
    split
    · rename_i q
      have h3 := q.1.2.2.1
      have h5 := q.1.2.1
      have hb := byteAt_bd (restOf s i) 0
      have e : (restOf s i).size = s.size - i := by unfold restOf; rw [ByteArray.size_extract]; omega
      rw [e] at h3
      exact ih _ _ (by omega) (by simp; omega)
    · show 8 * l.length ≤ s.size; omega
theorem readR_len (d : Def) (s : ByteArray) : 8 * (readR d [] s).1.length ≤ s.size := readF_len d s s.size [] 0 (Nat.zero_le _) (by simp)

set_option maxRecDepth 100000 in
set_option maxHeartbeats 8000000 in
theorem refRecover_any (dv : Value) (d : Def) (s : ByteArray) (w : World) (hd : DefIs w dv d) (hl : s.size ≤ 33554432) :
    Calls Tryz.prog 41 #[dv, .string s] w fun e w' => Quiet w w' ∧ ((d.ok = false ∧ e = .returned (.tuple #[.agg #[.int .i64 0, .slice none 0 0, .slice none 0 0], .int .i64 0, .int .i64 1])) ∨
      (d.ok = true ∧ ∃ ia n ic ra m rc, e = .returned (.tuple #[.agg #[.int .i64 (clockR (readR d [] s).1), .slice ia n ic, .slice ra m rc], .int .i64 (readR d [] s).2, .int .i64 0]) ∧ InstsAt w' (.slice ia n ic) (worldR d (readR d [] s).1).insts ∧ ReqsAt w' (.slice ra m rc) (worldR d (readR d [] s).1).reqs)) := by
  obtain ⟨i0, hi, hz0, hz1, hz2⟩ := info_parts Tryz.info43
  have hq0 : ∀ (w : World) o, Quiet w (w.alloc o) := fun w o => (Below.refl _ _).alloc (Nat.le_refl _) _
  have hd0 := hd
  obtain ⟨da, dn, dcap, rfl, hst⟩ := hd
  clear hst
  go_enter Tryz.func41, Tryz.ntmps41
  go_wp2_with fail
  refine calls_gen (fun V => Blk V w.heap.size #[.slice da dn dcap, .int .i64 d.quorum, .int .i64 d.expiry] 24 ∧ Blk V (w.heap.size + 1) #[.int .i64 0, .slice none 0 0, .slice none 0 0] 47 ∧ Quiet w V) ⟨(Blk.new' rfl).alloc _, Blk.new' (by simp), (hq0 _ _).after (hq0 _ _)⟩ ?_
  rintro V ⟨bd, br, hqV⟩
  refine (refCheck_any _ d V (hd0.quiet hqV)).mono ?_
  rintro e w1 ⟨rfl, hq1⟩
  replace bd := bd.quiet hq1
  replace br := br.quiet hq1
  have hqw1 : Quiet w w1 := hqV.after hq1
  clear hq1 hqV
  cases hok : d.ok
  · have hck : (chk false != 0) = true := by decide
    have gr := br.cell
    have fr := br.frozen
    go_wp2
    refine bodyPost_ret (v := .tuple #[.agg #[.int .i64 0, .slice none 0 0, .slice none 0 0], .int .i64 0, .int .i64 1]) (by simp [results, Tryz.results41, go_sem, chk, gr]) rfl ⟨?_, .inl ⟨hok, rfl⟩⟩
    exact Below.set3 hqw1 (Nat.le_succ _) _ _ _
  · have hck : (chk true != 0) = false := by decide
    have HOK : Hid (d.ok = true) := hok
    clear hok
    have hd1 := hd0.quiet hqw1
    have HD1 : Hid (DefIs w1 (.agg #[.slice da dn dcap, .int .i64 d.quorum, .int .i64 d.expiry]) d) := hd1
    clear hd1
    go_wp2
    go_loopw [8, 9] (fun av i wr => ∃ (k : Nat) (l : List Cmd) (f n0 : Nat), k ≤ s.size ∧ i = .int .i64 k ∧ n0 = l.length ∧ wr.ownsRow w1.heap.size 43 7 av n0 (cmdVals l) ∧ LogOk d l ∧ 8 * n0 ≤ k ∧ s.size ≤ k + f ∧ readF d s f l k = readR d [] s ∧ Quiet w1 wr) (fun _ i _ => s.size - (intOf i).toNat)
    case atStart => exact ⟨0, [], s.size, 0, Nat.zero_le _, rfl, rfl, World.ownsRow_nil _ _ _ _, LogOk.nil d, by simp, by omega, rfl, Below.refl _ _⟩
    case round =>
      obtain ⟨k, l, f, n0, hk, rfl, hn0, hown, hlo, hll, hf, HR, hq⟩ := hrel
      have HN0 : Hid (n0 = l.length) := hn0
      have hl0 : l.length ≤ 33554432 := by omega
      clear hn0
      replace HR : Hid (readF d s f l k = readR d [] s) := HR
      obtain ⟨la, lc, rfl⟩ := own_shape hown
      have hcm : Cmds wr (.slice la n0 lc) l := own_cmds hown HN0.out (by omega)
      have bdr := bd.quiet hq
      have HWl : Hid (∀ U, Quiet wr U → Calls Tryz.prog 29 #[.agg #[.slice da dn dcap, .int .i64 d.quorum, .int .i64 d.expiry], .slice la n0 lc] U fun e w' => ∃ (ia : Option Addr) (n ic : Nat) (ra : Option Addr) (rn rc : Nat), e = .returned (.agg #[.int .i64 (clockR l), .slice ia n ic, .slice ra rn rc]) ∧ InstsOwn U.heap.size w' (.slice ia n ic) (worldR d l).insts ∧ ReqsOwn U.heap.size w' (.slice ra rn rc) (worldR d l).reqs ∧ Quiet U w') := fun U hU =>
        (world_log _ _ d l U ((HD1.out.quiet hq).quiet hU) HOK.out (hcm.quiet hU) hlo (by omega)).mono (by
          rintro e w' ⟨ia, ic, ra, rn, rc, rfl, h1, h2, _, h3⟩
          exact ⟨ia, _, ic, ra, rn, rc, rfl, h1, h2, h3⟩)
      have HBd : Hid (∀ x ∈ (worldR d l).insts, x.ledger.length ≤ 2199023255552) := worldR_bound d l (by omega)
      obtain ⟨ck, HCK⟩ : ∃ ck, Hid (clockR l = ck) := ⟨_, rfl⟩
      rw [HCK.out] at HWl
      have gd := bdr.cell
      have zd := bdr.lt
      by_cases hlt : k < s.size
      · obtain ⟨r, hr⟩ : ∃ r, r = restOf s k := ⟨_, rfl⟩
        have hs : ∀ U, (Instr.slice 9 (.string s) (some (.int .i64 k)) none none).run Tryz.prog U = .ok (.string r) U := fun U => by
          rw [run_slice_string_from_if U 9 s .i64 k Tryz.underlying9, if_pos ⟨by omega, by omega⟩, hr]; rfl
        have hki : (0 : Int) ≤ (k : Int) := by omega
        have hkj : (k : Int) < (s.size : Int) := by omega
        have hrs : r.size = s.size - k := by rw [hr]; unfold restOf; rw [ByteArray.size_extract]; omega
        have hrpos : 0 < r.size := by omega
        have h0 : ((r[0]'hrpos).toNat : Int) = byteAt r 0 := (byteAt_get r 0 hrpos).symm
        have hx := byteAt_bd r 0
        have HRr : Hid (r = restOf s k) := hr
        clear hr
        by_cases hbig : byteAt r 0 < 5 ∨ (r.size : Int) < byteAt r 0 + 3
        · have HEnd : Hid (readR d [] s = (l, k)) := by
            show readR d [] s = _
            rw [← HR.out, readF_stop (fun z => by rw [← HRr.out] at z; have := z.1.2.1; have := z.1.2.2.1; omega)]
          generalize byteAt r 0 = x at *
          obtain ⟨hx0, hx1⟩ := hx
          rcases Decidable.em (x < 5) with h5 | h5
          · go_wp2_with fail
            refine (HWl.out _ (by first | exact Below.refl _ _ | exact hq0 _ _)).mono ?_
            rintro e w4 ⟨ia, n, ic, ra, rn, rc, rfl, hI, hR, hq4⟩
            have hqW : Quiet w w4 := (hqw1.after hq).after ((by first | exact Below.refl _ _ | exact hq0 _ _ : Quiet wr _).after hq4)
            have br4 : Blk w4 (w.heap.size + 1) #[.int .i64 0, .slice none 0 0, .slice none 0 0] 47 := br.quiet (hq.after ((by first | exact Below.refl _ _ | exact hq0 _ _ : Quiet wr _).after hq4))
            go_upto_region 17 with (fail)
            refine wp_gen (fun U => Blk U w4.heap.size #[.int .i64 ck, .slice ia n ic, .slice ra rn rc] 47 ∧ Quiet w4 U) ⟨Blk.new' rfl, hq0 _ _⟩ ?_
            rintro U ⟨bw, hqU⟩
            have gw := bw.cell
            have zw := bw.lt
            have br5 := br4.quiet hqU
            have gr := br5.cell
            have fr := br5.frozen
            have zr := br5.lt
            have hIU := InstsOwn.quiet hI hqU
            have hRU := ReqsOwn.quiet hR hqU
            go_wp2
            refine bodyPost_ret (v := .tuple #[.agg #[.int .i64 ck, .slice ia n ic, .slice ra rn rc], .int .i64 k, .int .i64 0]) (by simp [results, Tryz.results41, go_sem, gr]) rfl ⟨?_, .inr ⟨HOK.out, ia, n, ic, ra, rn, rc, by rw [HEnd.out, HCK.out], ?_, ?_⟩⟩
            · exact Below.set3 (hqW.after hqU) (Nat.le_succ _) _ _ _
            · rw [HEnd.out]; exact InstsOwn.at (own3I hIU br5 _ _ _) HBd.out
            · rw [HEnd.out]; exact ReqsOwn.at (own3R hRU br5 _ _ _)
          · have h3 : (r.size : Int) < x + 3 := by omega
            go_wp2_with fail
            refine (HWl.out _ (by first | exact Below.refl _ _ | exact hq0 _ _)).mono ?_
            rintro e w4 ⟨ia, n, ic, ra, rn, rc, rfl, hI, hR, hq4⟩
            have hqW : Quiet w w4 := (hqw1.after hq).after ((by first | exact Below.refl _ _ | exact hq0 _ _ : Quiet wr _).after hq4)
            have br4 : Blk w4 (w.heap.size + 1) #[.int .i64 0, .slice none 0 0, .slice none 0 0] 47 := br.quiet (hq.after ((by first | exact Below.refl _ _ | exact hq0 _ _ : Quiet wr _).after hq4))
            go_upto_region 17 with (fail)
            refine wp_gen (fun U => Blk U w4.heap.size #[.int .i64 ck, .slice ia n ic, .slice ra rn rc] 47 ∧ Quiet w4 U) ⟨Blk.new' rfl, hq0 _ _⟩ ?_
            rintro U ⟨bw, hqU⟩
            have gw := bw.cell
            have zw := bw.lt
            have br5 := br4.quiet hqU
            have gr := br5.cell
            have fr := br5.frozen
            have zr := br5.lt
            have hIU := InstsOwn.quiet hI hqU
            have hRU := ReqsOwn.quiet hR hqU
            go_wp2
            refine bodyPost_ret (v := .tuple #[.agg #[.int .i64 ck, .slice ia n ic, .slice ra rn rc], .int .i64 k, .int .i64 0]) (by simp [results, Tryz.results41, go_sem, gr]) rfl ⟨?_, .inr ⟨HOK.out, ia, n, ic, ra, rn, rc, by rw [HEnd.out, HCK.out], ?_, ?_⟩⟩
            · exact Below.set3 (hqW.after hqU) (Nat.le_succ _) _ _ _
            · rw [HEnd.out]; exact InstsOwn.at (own3I hIU br5 _ _ _) HBd.out
            · rw [HEnd.out]; exact ReqsOwn.at (own3R hRU br5 _ _ _)
        · have hx5 : 5 ≤ byteAt r 0 := by omega
          have hx3 : byteAt r 0 + 3 ≤ r.size := by omega
          clear hbig
          have hr8 : 8 ≤ r.size := by omega
          have hl1 : 1 < r.size := Nat.lt_of_lt_of_le (by decide) hr8
          have hl2 : 2 < r.size := Nat.lt_of_lt_of_le (by decide) hr8
          have hl3 : 3 < r.size := Nat.lt_of_lt_of_le (by decide) hr8
          have hl4 : 4 < r.size := Nat.lt_of_lt_of_le (by decide) hr8
          have hl5 : 5 < r.size := Nat.lt_of_lt_of_le (by decide) hr8
          have h1 : ((r[1]'hl1).toNat : Int) = (cmdOf r).kind := (byteAt_get r 1 hl1).symm
          have h2 : ((r[2]'hl2).toNat : Int) = (cmdOf r).inst := (byteAt_get r 2 hl2).symm
          have h3 : ((r[3]'hl3).toNat : Int) = (cmdOf r).a := (byteAt_get r 3 hl3).symm
          have h4 : ((r[4]'hl4).toNat : Int) = (cmdOf r).b := (byteAt_get r 4 hl4).symm
          have h5 : ((r[5]'hl5).toNat : Int) = (cmdOf r).who := (byteAt_get r 5 hl5).symm
          obtain ⟨hb1a, hb1b⟩ : 0 ≤ (cmdOf r).kind ∧ (cmdOf r).kind ≤ 255 := byteAt_bd r 1
          obtain ⟨hb2a, hb2b⟩ : 0 ≤ (cmdOf r).inst ∧ (cmdOf r).inst ≤ 255 := byteAt_bd r 2
          obtain ⟨hb3a, hb3b⟩ : 0 ≤ (cmdOf r).a ∧ (cmdOf r).a ≤ 255 := byteAt_bd r 3
          obtain ⟨hb4a, hb4b⟩ : 0 ≤ (cmdOf r).b ∧ (cmdOf r).b ≤ 255 := byteAt_bd r 4
          obtain ⟨hb5a, hb5b⟩ : 0 ≤ (cmdOf r).who ∧ (cmdOf r).who ≤ 255 := byteAt_bd r 5
          have hrsn : (cmdOf r).reason.size ≤ 250 := by
            show (r.extract 6 ((byteAt r 0).toNat + 1)).size ≤ 250
            rw [ByteArray.size_extract]; omega
          have h6 : ∀ U, (Instr.slice 9 (.string r) (some (.int .i64 6)) (some (.int .i64 (byteAt r 0 + 1))) none).run Tryz.prog U = .ok (.string (cmdOf r).reason) U := fun U => by
            rw [run_slice_string U 9 r .i64 .i64 6 (byteAt r 0 + 1) Tryz.underlying9 (by omega) (by omega) (by omega)]
            show Result.ok (Value.string (r.extract 6 (byteAt r 0 + 1).toNat)) U = .ok (.string (r.extract 6 ((byteAt r 0).toNat + 1))) U
            rw [show (byteAt r 0 + 1).toNat = (byteAt r 0).toNat + 1 by omega]
          have h7 : ∀ U, (Instr.slice 9 (.string r) none (some (.int .i64 (byteAt r 0 + 3))) none).run Tryz.prog U = .ok (.string (r.extract 0 ((byteAt r 0).toNat + 3))) U := fun U => by
            rw [run_slice_string_to_if U 9 r .i64 (byteAt r 0 + 3) Tryz.underlying9, if_pos ⟨by omega, by omega⟩, show (byteAt r 0 + 3).toNat = (byteAt r 0).toNat + 3 by omega]
          have HRec : Hid (∀ U, Calls Tryz.prog 44 #[.agg #[.int .i64 (cmdOf r).kind, .int .i64 (cmdOf r).inst, .int .i64 (cmdOf r).a, .int .i64 (cmdOf r).b, .int .i64 (cmdOf r).who, .string (cmdOf r).reason, .bool false]] U fun e w' => e = .returned (.string (recordR (cmdOf r))) ∧ Quiet U w') := fun U => record_any (cmdOf r) U (fun _ => hrsn)
          have HAns : Hid (∀ U, Quiet wr U → Calls Tryz.prog 43 #[.agg #[.slice da dn dcap, .int .i64 d.quorum, .int .i64 d.expiry], .slice la n0 lc, .agg #[.int .i64 (cmdOf r).kind, .int .i64 (cmdOf r).inst, .int .i64 (cmdOf r).a, .int .i64 (cmdOf r).b, .int .i64 (cmdOf r).who, .string (cmdOf r).reason, .bool false]] U fun e w' => e = .returned (answerR d l (cmdOf r)).val ∧ Quiet U w') := fun U hU => answer_log _ _ d l (cmdOf r) U ((HD1.out.quiet hq).quiet hU) HOK.out (hcm.quiet hU) hlo (by omega) (by omega)
          have HStop : Hid (¬ (recordR (cmdOf r) = r.extract 0 ((byteAt r 0).toNat + 3) ∧ (answerR d l (cmdOf r)).code = 0) → readR d [] s = (l, k)) := fun q => by
            rw [← HR.out, readF_stop (fun z => q (by rw [HRr.out]; exact ⟨z.1.2.2.2, z.2⟩))]
          have HGo : Hid (recordR (cmdOf r) = r.extract 0 ((byteAt r 0).toNat + 3) → (answerR d l (cmdOf r)).code = 0 → LogOk d (l ++ [cmdOf r]) ∧ ∃ f', s.size ≤ (k + (byteAt r 0).toNat + 3) + f' ∧ readF d s f' (l ++ [cmdOf r]) (k + (byteAt r 0).toNat + 3) = readR d [] s) := fun q1 q2 => by
            refine ⟨hlo.snoc q2, ?_⟩
            have hre := HRr.out
            obtain ⟨f', z1, z2⟩ := readF_go (d := d) (f := f) (l := l) hf (by rw [← hre]; exact ⟨hrpos, hx5, hx3, q1⟩) (by rw [← hre]; exact q2)
            rw [← hre] at z1 z2
            exact ⟨f', z1, by rw [← z2]; exact HR.out⟩
          have HDry : Hid ((cmdOf r).dry = false) := rfl
          generalize recordR (cmdOf r) = s1 at *
          generalize r.extract 0 ((byteAt r 0).toNat + 3) = s2 at *
          generalize answerR d l (cmdOf r) = A at *
          generalize cmdOf r = c at *
          generalize byteAt r 0 = x at *
          obtain ⟨hx0, hx1⟩ := hx
          have hxr : ¬ x < 5 := by omega
          have hxr2 : ¬ (r.size : Int) < x + 3 := by omega
          clear HRr
          go_wp2_with fail
          go_region
          go_wp2_with fail
          refine calls_gen (fun U => Blk U wr.heap.size #[.int .i64 c.kind, .int .i64 c.inst, .int .i64 c.a, .int .i64 c.b, .int .i64 c.who, .string c.reason, .bool false] 43 ∧ Quiet wr U) ⟨(Blk.new' rfl).drew, Below.drew (hq0 _ _)⟩ ?_
          rintro U ⟨bc, hqU⟩
          refine (HRec.out U).mono ?_
          rintro e w2 ⟨rfl, hq2⟩
          replace bc := bc.quiet hq2
          replace hqU : Quiet wr w2 := hqU.after hq2
          have bd2 := bdr.quiet hqU
          clear gd zd hq2 h1 h2 h3 h4 h5 h6 h0 hs HRec
          have gd := bd2.cell
          have zd := bd2.lt
          have gc := bc.cell
          have zc := bc.lt
          go_wp2_with fail
          refine (HAns.out w2 hqU).mono ?_
          rintro e w3 ⟨rfl, hq3⟩
          simp only [Answer.val]
          replace bc := bc.quiet hq3
          replace hqU : Quiet wr w3 := hqU.after hq3
          clear gd zd gc zc HAns hq3
          go_upto_region 13 with (fail)
          refine wp_gen (fun V => Blk V w3.heap.size #[.int .i64 A.code, .int .i64 A.number, .int .i64 A.step, .int .i64 A.what] 86 ∧ Quiet w3 V) ⟨Blk.new' rfl, hq0 _ _⟩ ?_
          rintro V ⟨ba, hqV⟩
          have hqV2 : Quiet wr V := hqU.after hqV
          replace bc := bc.quiet hqV
          have bdV := bdr.quiet hqV2
          have gd := bdV.cell
          have zd := bdV.lt
          have ga := ba.cell
          have za := ba.lt
          have gc := bc.cell
          have zc := bc.lt
          clear hqV hqU
          by_cases heq : s1 = s2
          · have ht : (s1.toList == s2.toList) = true := by rw [toList_beq]; exact decide_eq_true heq
            cases hA : A.code == 0
            · have HEnd : Hid (readR d [] s = (l, k)) := HStop.out (fun q => by simp [q.2] at hA)
              clear HStop HGo heq
              go_wp2_with fail
              refine (HWl.out _ (by exact hqV2)).mono ?_
              rintro e w4 ⟨ia, n, ic, ra, rn, rc, rfl, hI, hR, hq4⟩
              have hqW : Quiet w w4 := (hqw1.after hq).after ((by exact hqV2 : Quiet wr _).after hq4)
              have br4 : Blk w4 (w.heap.size + 1) #[.int .i64 0, .slice none 0 0, .slice none 0 0] 47 := br.quiet (hq.after ((by exact hqV2 : Quiet wr _).after hq4))
              go_upto_region 17 with (fail)
              refine wp_gen (fun U => Blk U w4.heap.size #[.int .i64 ck, .slice ia n ic, .slice ra rn rc] 47 ∧ Quiet w4 U) ⟨Blk.new' rfl, hq0 _ _⟩ ?_
              rintro U ⟨bw, hqU⟩
              have gw := bw.cell
              have zw := bw.lt
              have br5 := br4.quiet hqU
              have gr := br5.cell
              have fr := br5.frozen
              have zr := br5.lt
              have hIU := InstsOwn.quiet hI hqU
              have hRU := ReqsOwn.quiet hR hqU
              go_wp2
              refine bodyPost_ret (v := .tuple #[.agg #[.int .i64 ck, .slice ia n ic, .slice ra rn rc], .int .i64 k, .int .i64 0]) (by simp [results, Tryz.results41, go_sem, gr]) rfl ⟨?_, .inr ⟨HOK.out, ia, n, ic, ra, rn, rc, by rw [HEnd.out, HCK.out], ?_, ?_⟩⟩
              · exact Below.set3 (hqW.after hqU) (Nat.le_succ _) _ _ _
              · rw [HEnd.out]; exact InstsOwn.at (own3I hIU br5 _ _ _) HBd.out
              · rw [HEnd.out]; exact ReqsOwn.at (own3R hRU br5 _ _ _)
            · obtain ⟨hlo2, f', z1, z2⟩ := HGo.out heq (by simpa using hA)
              have HZ2 : Hid (readF d s f' (l ++ [c]) (k + x.toNat + 3) = readR d [] s) := z2
              have HCV : Hid (cmdVals (l ++ [c]) = cmdVals l ++ [.int .i64 c.kind, .int .i64 c.inst, .int .i64 c.a, .int .i64 c.b, .int .i64 c.who, .string c.reason, .bool false]) := by
                show cmdVals (l ++ [c]) = _
                unfold cmdVals
                rw [List.map_append, List.flatten_append]
                simp [Cmd.cells, HDry.out]
              clear HStop HGo heq z2
              have hownV := own_quiet hown hqV2
              have hsV := (hq.after hqV2).size
              go_wp2_with (at_builtin; refine wpList_append_own _ rfl _ _ 25 rfl w1.heap.size 43 i0 (.agg #[.int .i64 0, .int .i64 0, .int .i64 0, .int .i64 0, .int .i64 0, .string ⟨#[]⟩, .bool false]) 7 64 Tryz.underlying25 hi hz0 hz1 hz2 rfl (by decide) _ _ _ rfl (hownV.alloc _) ⟨V.heap.size, 0, none⟩ 1 1 [.int .i64 c.kind, .int .i64 c.inst, .int .i64 c.a, .int .i64 c.b, .int .i64 c.who, .string c.reason, .bool false] rfl rfl ?c1 ?c2 ?c3 ?c4 ?c5 ?_)
              case c1 =>
                have := World.news_of_block (heap_alloc_new V (.cells #[.int .i64 c.kind, .int .i64 c.inst, .int .i64 c.a, .int .i64 c.b, .int .i64 c.who, .string c.reason, .bool false] 43))
                simpa using this
              case c2 => intro u hu; simp at hu; rcases hu with rfl | rfl | rfl | rfl | rfl | rfl | rfl <;> rfl
              case c3 => unfold maxLen; omega
              case c4 => omega
              case c5 => simp; omega
              intro v5 w5 hown5 hgrow5 _
              have hq5 : Quiet w1 w5 := Below.grown ((hq.after hqV2).after (hq0 _ _)) hgrow5 (by simp; omega) (fun z hz => (own_ge hownV z hz).1)
              clear hgrow5 hownV
              go_wp2
              go_roundw
              case rel =>
                refine ⟨k + x.toNat + 3, l ++ [c], f', n0 + 1, by omega, ?_, by have := HN0.out; simp; omega, by rw [HCV.out]; exact hown5, hlo2, by omega, z1, HZ2.out, hq5⟩
                congr 1; omega
              case measure => simp [intOf]; omega
          · have ht : (s1.toList == s2.toList) = false := by rw [toList_beq]; exact decide_eq_false heq
            have HEnd : Hid (readR d [] s = (l, k)) := HStop.out (fun q => heq q.1)
            clear HStop HGo heq
            go_wp2_with fail
            refine (HWl.out _ (by exact hqV2)).mono ?_
            rintro e w4 ⟨ia, n, ic, ra, rn, rc, rfl, hI, hR, hq4⟩
            have hqW : Quiet w w4 := (hqw1.after hq).after ((by exact hqV2 : Quiet wr _).after hq4)
            have br4 : Blk w4 (w.heap.size + 1) #[.int .i64 0, .slice none 0 0, .slice none 0 0] 47 := br.quiet (hq.after ((by exact hqV2 : Quiet wr _).after hq4))
            go_upto_region 17 with (fail)
            refine wp_gen (fun U => Blk U w4.heap.size #[.int .i64 ck, .slice ia n ic, .slice ra rn rc] 47 ∧ Quiet w4 U) ⟨Blk.new' rfl, hq0 _ _⟩ ?_
            rintro U ⟨bw, hqU⟩
            have gw := bw.cell
            have zw := bw.lt
            have br5 := br4.quiet hqU
            have gr := br5.cell
            have fr := br5.frozen
            have zr := br5.lt
            have hIU := InstsOwn.quiet hI hqU
            have hRU := ReqsOwn.quiet hR hqU
            go_wp2
            refine bodyPost_ret (v := .tuple #[.agg #[.int .i64 ck, .slice ia n ic, .slice ra rn rc], .int .i64 k, .int .i64 0]) (by simp [results, Tryz.results41, go_sem, gr]) rfl ⟨?_, .inr ⟨HOK.out, ia, n, ic, ra, rn, rc, by rw [HEnd.out, HCK.out], ?_, ?_⟩⟩
            · exact Below.set3 (hqW.after hqU) (Nat.le_succ _) _ _ _
            · rw [HEnd.out]; exact InstsOwn.at (own3I hIU br5 _ _ _) HBd.out
            · rw [HEnd.out]; exact ReqsOwn.at (own3R hRU br5 _ _ _)
      · have HEnd : Hid (readR d [] s = (l, k)) := by
          show readR d [] s = _
          rw [← HR.out, readF_stop (fun z => rest_end (by omega) z.1)]
        go_wp2_with fail
        refine (HWl.out _ (by first | exact Below.refl _ _ | exact hq0 _ _)).mono ?_
        rintro e w4 ⟨ia, n, ic, ra, rn, rc, rfl, hI, hR, hq4⟩
        have hqW : Quiet w w4 := (hqw1.after hq).after ((by first | exact Below.refl _ _ | exact hq0 _ _ : Quiet wr _).after hq4)
        have br4 : Blk w4 (w.heap.size + 1) #[.int .i64 0, .slice none 0 0, .slice none 0 0] 47 := br.quiet (hq.after ((by first | exact Below.refl _ _ | exact hq0 _ _ : Quiet wr _).after hq4))
        go_upto_region 17 with (fail)
        refine wp_gen (fun U => Blk U w4.heap.size #[.int .i64 ck, .slice ia n ic, .slice ra rn rc] 47 ∧ Quiet w4 U) ⟨Blk.new' rfl, hq0 _ _⟩ ?_
        rintro U ⟨bw, hqU⟩
        have gw := bw.cell
        have zw := bw.lt
        have br5 := br4.quiet hqU
        have gr := br5.cell
        have fr := br5.frozen
        have zr := br5.lt
        have hIU := InstsOwn.quiet hI hqU
        have hRU := ReqsOwn.quiet hR hqU
        go_wp2
        refine bodyPost_ret (v := .tuple #[.agg #[.int .i64 ck, .slice ia n ic, .slice ra rn rc], .int .i64 k, .int .i64 0]) (by simp [results, Tryz.results41, go_sem, gr]) rfl ⟨?_, .inr ⟨HOK.out, ia, n, ic, ra, rn, rc, by rw [HEnd.out, HCK.out], ?_, ?_⟩⟩
        · exact Below.set3 (hqW.after hqU) (Nat.le_succ _) _ _ _
        · rw [HEnd.out]; exact InstsOwn.at (own3I hIU br5 _ _ _) HBd.out
        · rw [HEnd.out]; exact ReqsOwn.at (own3R hRU br5 _ _ _)

end Go.Proofs.YtgcjlgaapiefiabGreat

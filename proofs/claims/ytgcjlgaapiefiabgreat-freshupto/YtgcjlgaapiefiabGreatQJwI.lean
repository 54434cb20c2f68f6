import Derived.Test.YtgcjlgaapiefiabGreatQJwH

/-
  Walks of the program: Journal, Recover.
-/
namespace Go.Proofs.YtgcjlgaapiefiabGreat
open Go.RowKit Go.Sort Go.Lib

theorem conv_all {w : World} {base : Nat} {ja : Option Addr} {jn jc : Nat} {J : ByteArray} (hown : w.ownsRow base 5 1 (.slice ja jn jc) jn ((nums J).map (Value.int .u8))) (hjn : jn = J.size) (U : World) (hU : Quiet w U) :
    (convert 71 9 (.slice ja jn jc)).run Tryz.prog U = .ok (.string J) U := by
  rcases own_none hown with ⟨rfl, rfl, rfl, _, _⟩ | ⟨g, rfl⟩
  · have he : J = ⟨#[]⟩ := (size_none J).2 hjn.symm
    rw [he]
    exact conv_none U none (.inl rfl)
  · by_cases h0 : jn = 0
    · have he : J = ⟨#[]⟩ := (size_none J).2 (by omega)
      rw [he, h0]
      exact run_convert_bytes_arg _ 71 5 Tryz.underlying71 Tryz.underlying5 g 0 0 _ [] rfl (fun i hi => by omega) 9 Tryz.underlying9
    · obtain ⟨g', cap, e, hg, hxl, hcell⟩ := own_bytes hown (by omega)
      simp at e
      obtain ⟨rfl, rfl⟩ := e
      have := conv_own U g jn jc (nums J) hxl (fun i hi => ((bcell hU).1 g i hg).trans (hcell i hi))
      rw [strOfNums_nums] at this
      exact this

set_option maxRecDepth 100000 in
set_option maxHeartbeats 4000000 in
theorem journalM_any (dv sv : Value) (d : Def) (s : List Cmd) (w : World) (hd : DefIs w dv d) (h : Cmds w sv s) (hl : s.length ≤ 1048576) (hcr : ∀ c ∈ s, c.reason.size ≤ 9223372036854775807) :
    Calls Tryz.prog 40 #[dv, sv] w fun e w' => Quiet w w' ∧ ((d.ok = false ∧ e = .returned (.tuple #[.string ⟨#[]⟩, .int .i64 0, .int .i64 1])) ∨
      (d.ok = true ∧ e = .returned (.tuple #[.string (bytesR (playR d s).log), .int .i64 (playR d s).safe, .int .i64 0]))) := by
  have hq0 : ∀ (w : World) o, Quiet w (w.alloc o) := fun w o => (Below.refl _ _).alloc (Nat.le_refl _) _
  have hd0 := hd
  obtain ⟨da, dn, dcap, rfl, hst⟩ := hd
  clear hst
  go_enter Tryz.func40, Tryz.ntmps40
  go_wp2_with fail
  refine calls_gen (fun V => Blk V w.heap.size #[.slice da dn dcap, .int .i64 d.quorum, .int .i64 d.expiry] 24 ∧ Quiet w V) ⟨Blk.new' rfl, hq0 _ _⟩ ?_
  rintro V ⟨bd, hqV⟩
  refine (check_any _ d V (hd0.quiet hqV)).mono ?_
  rintro e w1 ⟨rfl, hq1⟩
  replace bd := bd.quiet hq1
  replace hqV : Quiet w w1 := hqV.after hq1
  clear hq1
  cases hok : d.ok
  · have hck : (chk false != 0) = true := by decide
    go_wp2
    refine bodyPost_ret (v := .tuple #[.string ⟨#[]⟩, .int .i64 0, .int .i64 1]) (by simp [results, Tryz.results40, go_sem, chk]) rfl ⟨hqV, .inl ⟨hok, rfl⟩⟩
  · have hck : (chk true != 0) = false := by decide
    have HOK : Hid (d.ok = true) := hok
    have HBe : Hid (Calls Tryz.prog 31 #[.agg #[.slice da dn dcap, .int .i64 d.quorum, .int .i64 d.expiry], sv] w1 fun e w' => ∃ v ia n ic ra m rc ja jn jc v5 v6 v7 v8, e = .returned v ∧ Behind w1 w' (worldR d (playR d s).log) (bytesR (playR d s).log) (playR d s).safe v ia n ic ra m rc ja jn jc v5 v6 v7 v8) := behindM_any _ sv d s w1 (hd0.quiet hqV) hok (h.quiet hqV) hl hcr
    clear hok
    obtain ⟨J, HJ⟩ : ∃ J, Hid (bytesR (playR d s).log = J) := ⟨_, rfl⟩
    obtain ⟨sf, HSF⟩ : ∃ sf, Hid ((playR d s).safe = sf) := ⟨_, rfl⟩
    rw [HJ.out, HSF.out] at HBe
    have gd := bd.cell
    have zd := bd.lt
    go_wp2_with fail
    refine HBe.out.mono ?_
    rintro e w2 ⟨v, ia, n, ic, ra, m, rc, ja, jn, jc, v5, v6, v7, v8, rfl, hb⟩
    obtain ⟨hv, ⟨a5, a6, rfl, rfl, ⟨x7, y7, z7, rfl⟩, ⟨x8, y8, z8, rfl⟩⟩, _, _, hown, hjl, hq2⟩ := hb
    obtain ⟨ck, HCK⟩ : ∃ ck, Hid ((worldR d (playR d s).log).clock = ck) := ⟨_, rfl⟩
    rw [HCK.out] at hv
    subst hv
    clear gd zd
    have HJL : Hid (jn = J.size) := hjl
    clear hjl
    go_upto_region 5 with (fail)
    refine wp_gen (fun U => Blk U w2.heap.size #[.int .i64 ck, .slice ia n ic, .slice ra m rc, .slice ja jn jc, .int .i64 sf, .int .i64 a5, .int .i64 a6, .slice x7 y7 z7, .slice x8 y8 z8] 73 ∧ Quiet w2 U) ⟨Blk.new' rfl, hq0 _ _⟩ ?_
    rintro U ⟨bm, hqU⟩
    have gm := bm.cell
    have zm := bm.lt
    have hqF : Quiet w U := (hqV.after hq2).after hqU
    have fc := conv_all hown HJL.out U hqU
    have fc' := conv_all hown HJL.out U.drew (Below.drew hqU)
    clear hown
    go_region
    go_wp2
    refine bodyPost_ret (v := .tuple #[.string J, .int .i64 sf, .int .i64 0]) (by simp [results, Tryz.results40, go_sem]) rfl ⟨?_, .inr ⟨HOK.out, by rw [HJ.out, HSF.out]⟩⟩
    exact Below.drew hqF

set_option maxRecDepth 100000 in
set_option maxHeartbeats 4000000 in
theorem recoverM_any (dv : Value) (d : Def) (s : ByteArray) (w : World) (hd : DefIs w dv d) (hl : s.size ≤ 33554432) :
    Calls Tryz.prog 20 #[dv, .string s] w fun e w' => Quiet w w' ∧ ((d.ok = false ∧ e = .returned (.tuple #[.agg #[.int .i64 0, .slice none 0 0, .slice none 0 0], .int .i64 0, .int .i64 1])) ∨
      (d.ok = true ∧ ∃ ia n ic ra m rc, e = .returned (.tuple #[.agg #[.int .i64 (worldR d (readR d [] s).1).clock, .slice ia n ic, .slice ra m rc], .int .i64 (readR d [] s).2, .int .i64 0]) ∧ LogOk d (readR d [] s).1 ∧ (∃ B, InstsMem B w' ia n ic (worldR d (readR d [] s).1).insts) ∧ ∃ B, ReqsMem B w' ra m rc (worldR d (readR d [] s).1).reqs)) := by
  have hq0 : ∀ (w : World) o, Quiet w (w.alloc o) := fun w o => (Below.refl _ _).alloc (Nat.le_refl _) _
  have hd0 := hd
  obtain ⟨da, dn, dcap, rfl, hst⟩ := hd
  clear hst
  go_enter Tryz.func20, Tryz.ntmps20
  go_wp2_with fail
  refine calls_gen (fun V => Blk V w.heap.size #[.slice da dn dcap, .int .i64 d.quorum, .int .i64 d.expiry] 24 ∧ Blk V (w.heap.size + 1) #[.int .i64 0, .slice none 0 0, .slice none 0 0] 47 ∧ Quiet w V) ⟨(Blk.new' rfl).alloc _, Blk.new' (by simp), (hq0 _ _).after (hq0 _ _)⟩ ?_
  rintro V ⟨bd, br, hqV⟩
  refine (check_any _ d V (hd0.quiet hqV)).mono ?_
  rintro e w1 ⟨rfl, hq1⟩
  replace bd := bd.quiet hq1
  replace br := br.quiet hq1
  replace hqV : Quiet w w1 := hqV.after hq1
  clear hq1
  cases hok : d.ok
  · have hck : (chk false != 0) = true := by decide
    have gr := br.cell
    have fr := br.frozen
    go_wp2
    refine bodyPost_ret (v := .tuple #[.agg #[.int .i64 0, .slice none 0 0, .slice none 0 0], .int .i64 0, .int .i64 1]) (by simp [results, Tryz.results20, go_sem, chk, gr]) rfl ⟨?_, .inl ⟨hok, rfl⟩⟩
    exact ((hqV.setCell (p := ⟨w.heap.size + 1, 0, none⟩) (Nat.le_succ _) _).setCell (p := ⟨w.heap.size + 1, 1, none⟩) (Nat.le_succ _) _).setCell (p := ⟨w.heap.size + 1, 2, none⟩) (Nat.le_succ _) _
  · have hck : (chk true != 0) = false := by decide
    have HOK : Hid (d.ok = true) := hok
    clear hok
    have gd := bd.cell
    have zd := bd.lt
    have HRead : Hid (∀ U, Quiet w1 U → Blk U w1.heap.size #[.int .i64 0, .slice none 0 0, .slice none 0 0] 47 → Calls Tryz.prog 38 #[.agg #[.slice da dn dcap, .int .i64 d.quorum, .int .i64 d.expiry], .pointer (some ⟨w1.heap.size, 0, none⟩), .string s] U fun e w' => e = .returned (.int .i64 (readR d [] s).2) ∧ LogOk d (readR d [] s).1 ∧ PWx ⟨w1, w1.heap, Nat.le_refl _, #[.int .i64 0, .slice none 0 0, .slice none 0 0]⟩ w' w1.heap.size 0 47 (worldR d (readR d [] s).1)) := fun U hU hB => by
      have hP : PW ⟨w1, w1.heap, Nat.le_refl _, #[.int .i64 0, .slice none 0 0, .slice none 0 0]⟩ U w1.heap.size 0 47 #[.int .i64 0, .slice none 0 0, .slice none 0 0] (worldR d []) none 0 0 none 0 0 :=
        PW.of_mem ⟨hB, fun j hj => by
          match j, hj with
          | 0, _ => rfl
          | 1, _ => rfl
          | 2, _ => rfl⟩ ⟨[], rfl, rfl, World.ownsRow_nil _ _ _ _, by simp, by simp⟩ ⟨[], rfl, rfl, World.ownsRow_nil _ _ _ _, by simp, by simp⟩ hU (Nat.le_refl _) (by unfold Aside; decide) hU.size (fun k hk _ => hU.block k hk)
      refine (read_any _ U _ d (hd0.quiet hqV) HOK.out w1.heap.size 0 47 (by decide) (by decide) [] (LogOk.nil d) s (by simp; omega) ⟨_, _, _, _, _, _, _, hP⟩).mono ?_
      rintro e w' ⟨rfl, q1, q2, _⟩
      exact ⟨rfl, q1, q2⟩
    obtain ⟨u, HU⟩ : ∃ u, Hid ((readR d [] s).2 = u) := ⟨_, rfl⟩
    rw [HU.out] at HRead
    go_wp2_with fail
    refine (HRead.out _ (by exact hq0 _ _) (Blk.new' rfl)).mono ?_
    rintro e w2 ⟨rfl, hlo, pcs, ia, n, ic, ra, m, rc, hP⟩
    have hqF : Quiet w w2 := hqV.after hP.quiet
    have br2 := br.quiet hP.quiet
    obtain ⟨ck, HCK⟩ : ∃ ck, Hid ((worldR d (readR d [] s).1).clock = ck) := ⟨_, rfl⟩
    obtain ⟨p0, p1, p2⟩ := hP.row.at.three
    have p0' : w2.cell? ⟨w1.heap.size, 0, none⟩ = some (.int .i64 ck) := by rw [← HCK.out]; exact p0
    have p1' : w2.cell? ⟨w1.heap.size, 1, none⟩ = some (.slice ia n ic) := by simpa using p1
    have p2' : w2.cell? ⟨w1.heap.size, 2, none⟩ = some (.slice ra m rc) := by simpa using p2
    clear p0 p1 p2 gd zd
    have gr := br2.cell
    have fr := br2.frozen
    have zr := br2.lt
    have zp := hP.row.1.lt
    have hs := set3_frame br2 (.int .i64 ck) (.slice ia n ic) (.slice ra m rc)
    go_wp2
    refine bodyPost_ret (v := .tuple #[.agg #[.int .i64 ck, .slice ia n ic, .slice ra m rc], .int .i64 u, .int .i64 0]) (by simp [results, Tryz.results20, go_sem, gr]) rfl ⟨?_, .inr ⟨HOK.out, ia, n, ic, ra, m, rc, by rw [HCK.out, HU.out], hlo, ⟨w1.heap.size, ?_⟩, ⟨w1.heap.size, ?_⟩⟩⟩
    · exact ((hqF.setCell (p := ⟨w.heap.size + 1, 0, none⟩) (Nat.le_succ _) _).setCell (p := ⟨w.heap.size + 1, 1, none⟩) (Nat.le_succ _) _).setCell (p := ⟨w.heap.size + 1, 2, none⟩) (Nat.le_succ _) _
    · exact hP.insts.frame (h1 := fun z c hz => hs z c _ hz (by decide)) (h2 := fun z c hz => hs z c _ hz (by decide))
    · exact hP.reqs.frame (h1 := fun z c hz => hs z c _ hz (by decide)) (h2 := fun z c hz => hs z c _ hz (by decide))

end Go.Proofs.YtgcjlgaapiefiabGreat

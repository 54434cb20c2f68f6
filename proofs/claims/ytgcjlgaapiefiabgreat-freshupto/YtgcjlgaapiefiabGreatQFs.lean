import Derived.Test.YtgcjlgaapiefiabGreatQJwI
import Derived.Test.YtgcjlgaapiefiabGreatQRun

/-
  State, Run, Recover: what comes out lies in blocks of its own that were not there before.
-/
namespace Go.Proofs.YtgcjlgaapiefiabGreat
open Go.RowKit Go.Sort Go.Lib

/-- What a machine that was handed back bears. -/
structure BehindF (w w' : World) (W : WorldR) (J : ByteArray) (S : Int) (v : Value) (ia : Option Addr) (n ic : Nat) (ra : Option Addr) (m rc : Nat) (ja : Option Addr) (jn jc : Nat) (v5 v6 v7 v8 : Value) : Prop where
  val : v = .agg #[.int .i64 W.clock, .slice ia n ic, .slice ra m rc, .slice ja jn jc, .int .i64 S, v5, v6, v7, v8]
  rest : ∃ a5 a6, v5 = .int .i64 a5 ∧ v6 = .int .i64 a6 ∧ (∃ x y z, v7 = .slice x y z) ∧ (∃ x y z, v8 = .slice x y z)
  rows : ∃ B, w.heap.size ≤ B ∧ InstsMem B w' ia n ic W.insts ∧ ReqsMem B w' ra m rc W.reqs
  own : w'.ownsRow w.heap.size 5 1 (.slice ja jn jc) jn ((nums J).map (Value.int .u8))
  len : jn = J.size
  quiet : Quiet w w'

set_option maxRecDepth 100000 in
set_option maxHeartbeats 4000000 in
theorem behindF_any (dv sv : Value) (d : Def) (s : List Cmd) (w : World) (hd : DefIs w dv d) (hok : d.ok = true) (h : Cmds w sv s) (hl : s.length ≤ 1048576) (hcr : ∀ c ∈ s, c.reason.size ≤ 9223372036854775807) :
    Calls Tryz.prog 31 #[dv, sv] w fun e w' => ∃ v ia n ic ra m rc ja jn jc v5 v6 v7 v8, e = .returned v ∧ BehindF w w' (worldR d (playR d s).log) (bytesR (playR d s).log) (playR d s).safe v ia n ic ra m rc ja jn jc v5 v6 v7 v8 := by
  have hq0 : ∀ (w : World) o, Quiet w (w.alloc o) := fun w o => (Below.refl _ _).alloc (Nat.le_refl _) _
  obtain ⟨a, n, cap, rfl⟩ := h.1.shape
  obtain ⟨hn, hm⟩ := h.len
  have HN : Hid (n = s.length) := hn
  have hnl : n ≤ 1048576 := by omega
  clear hn
  have hd0 := hd
  obtain ⟨da, dn, dcap, rfl, hst⟩ := hd
  clear hst
  have HOK : Hid (d.ok = true) := hok
  clear hok
  obtain ⟨w0, hw0v⟩ : ∃ w0, w0 = (w.alloc (.cells #[.slice da dn dcap, .int .i64 d.quorum, .int .i64 d.expiry] 24)).alloc (.cells #[.int .i64 0, .slice none 0 0, .slice none 0 0, .slice none 0 0, .int .i64 0, .int .i64 0, .int .i64 0, .slice none 0 0, .slice none 0 0] 73) := ⟨_, rfl⟩
  have hsz0 : w0.heap.size = w.heap.size + 1 + 1 := by rw [hw0v]; simp
  have hqw0 : Quiet w w0 := by rw [hw0v]; exact (hq0 _ _).after (hq0 _ _)
  have bd0 : Blk w0 w.heap.size #[.slice da dn dcap, .int .i64 d.quorum, .int .i64 d.expiry] 24 := by rw [hw0v]; exact (Blk.new' rfl).alloc _
  have br0 : Blk w0 (w.heap.size + 1) #[.int .i64 0, .slice none 0 0, .slice none 0 0, .slice none 0 0, .int .i64 0, .int .i64 0, .int .i64 0, .slice none 0 0, .slice none 0 0] 73 := by rw [hw0v]; exact Blk.new' (by simp)
  have HW0 : Hid (w0.heap.size = w.heap.size + 1 + 1) := hsz0
  have HBD : Hid (∀ w2, Quiet w0 w2 → Blk w2 w.heap.size #[.slice da dn dcap, .int .i64 d.quorum, .int .i64 d.expiry] 24 ∧ Blk w2 (w.heap.size + 1) #[.int .i64 0, .slice none 0 0, .slice none 0 0, .slice none 0 0, .int .i64 0, .int .i64 0, .int .i64 0, .slice none 0 0, .slice none 0 0] 73) := fun w2 h2 => ⟨bd0.quiet h2, br0.quiet h2⟩
  have hstart : TMx d w0 (w0.alloc (.cells #[.int .i64 0, .slice none 0 0, .slice none 0 0, .slice none 0 0, .int .i64 0, .int .i64 0, .int .i64 0, .slice none 0 0, .slice none 0 0] 73)) (w.heap.size + 1 + 1) ⟨[], 0, []⟩ := TMx.start d w0 _ (w.heap.size + 1 + 1) (Blk.new' hsz0.symm) (hq0 _ _) (by omega)
  rw [hw0v] at hstart
  have HSt := hstart
  rw [← hw0v] at hstart
  clear bd0 br0 hsz0 HSt
  go_enter Tryz.func31, Tryz.ntmps31
  go_wp2
  go_loopw [6] (fun i wr => ∃ k : Nat, k ≤ n ∧ i = .int .i64 k ∧ TMx d w0 wr (w.heap.size + 1 + 1) (playR d (s.take k))) (fun i _ => n - (intOf i).toNat)
  case atStart => exact ⟨0, Nat.zero_le _, rfl, by rw [hw0v] at hstart ⊢; exact hstart⟩
  case round =>
    clear hstart hw0v
    obtain ⟨k, hk, rfl, hP⟩ := hrel
    obtain ⟨bdr, brr⟩ := HBD.out _ hP.quiet
    by_cases hlt : k < n
    · have hkl : k < s.length := by have := HN.out; omega
      obtain ⟨b, off, rfl, hb, c0, c1, c2, c3, c4, c5, c6⟩ := (h.quiet (hqw0.after hP.quiet)).cell k hkl
      have HL : Hid (playR d (s.take (k + 1)) = playStep d (playR d (s.take k)) s[k]) := foldl_take_succ _ _ _ _ hkl
      obtain ⟨_, hll, _⟩ := playFold d s k (by omega)
      have hcr' := hcr s[k] (List.getElem_mem hkl)
      generalize playR d (s.take k) = T at *
      generalize s[k] = c at *
      have HDo : Hid (∀ U, Quiet wr U → Calls Tryz.prog 36 #[.pointer (some ⟨w.heap.size + 1 + 1, 0, none⟩), .agg #[.slice da dn dcap, .int .i64 d.quorum, .int .i64 d.expiry], .agg #[.int .i64 c.kind, .int .i64 c.inst, .int .i64 c.a, .int .i64 c.b, .int .i64 c.who, .string c.reason, .bool c.dry]] U fun e w' => e = .returned (answerM d T c).val ∧ TMx d w0 w' (w.heap.size + 1 + 1) (playStep d T c) ∧ Frame allTypes U w') := fun U hU =>
        machDo_log w0 U _ d (hd0.quiet hqw0) HOK.out _ T (by omega) (hP.hush hU) c hcr'
      generalize answerM d T c = A at *
      generalize playStep d T c = T2 at *
      have gd := bdr.cell
      have zd := bdr.lt
      have hki : (0 : Int) ≤ (k : Int) := by omega
      have hkj : (k : Int) < (n : Int) := by omega
      go_wp2_with fail
      go_region_with (first | (go_at_call 36; refine (HDo.out _ ?_).mono ?_; (first | exact Below.drew (Below.refl _ _) | exact Below.refl _ _ | exact (Below.refl _ _).drewN); rintro e w2 ⟨rfl, hP2, hF2⟩))
      all_goals (try go_wp2)
      all_goals
        go_roundw
        case rel => exact ⟨k + 1, by omega, by go_num, by rw [HL.out]; exact hP2⟩
        case measure => simp [intOf]; omega
    · have hkn : s.take k = s := by have := HN.out; rw [List.take_of_length_le (by omega)]
      rw [hkn] at hP
      have hqA := hqw0.after hP.quiet
      obtain ⟨kk, _, B, ia, ni, ic, ra, nr, rc, ja, jn, jc, xa, xn, xc, ya, yn, yc, hm⟩ := hP
      have gB := hm.blk.cell
      have zB := hm.blk.lt
      have gr := brr.cell
      have fr := brr.frozen
      have zr := brr.lt
      obtain ⟨ck, HCK⟩ : ∃ ck, Hid ((worldR d (playR d s).log).clock = ck) := ⟨_, rfl⟩
      obtain ⟨bk, HBK⟩ : ∃ bk, Hid ((worldR d ((playR d s).log.take kk)).clock = bk) := ⟨_, rfl⟩
      obtain ⟨sf, HSF⟩ : ∃ sf, Hid ((playR d s).safe = sf) := ⟨_, rfl⟩
      obtain ⟨rn, HRN⟩ : ∃ rn, Hid (bytesN ((playR d s).log.take kk) = rn) := ⟨_, rfl⟩
      rw [HCK.out, HBK.out, HSF.out, HRN.out] at gB
      go_wp2
      refine bodyPost_ret (v := .agg #[.int .i64 ck, .slice ia ni ic, .slice ra nr rc, .slice ja jn jc, .int .i64 sf, .int .i64 rn, .int .i64 bk, .slice xa xn xc, .slice ya yn yc]) (by simp [results, Tryz.results31, go_sem, gr]) rfl ⟨_, ia, ni, ic, ra, nr, rc, ja, jn, jc, .int .i64 (rn : Int), .int .i64 bk, .slice xa xn xc, .slice ya yn yc, rfl, ?_⟩
      have hs := nine_frame brr (.int .i64 ck) (.slice ia ni ic) (.slice ra nr rc) (.slice ja jn jc) (.int .i64 sf) (.int .i64 rn) (.int .i64 bk) (.slice xa xn xc) (.slice ya yn yc)
      refine ⟨by rw [HCK.out, HSF.out], ⟨_, _, rfl, rfl, ⟨_, _, _, rfl⟩, ⟨_, _, _, rfl⟩⟩, ⟨B, Nat.le_trans hqw0.size hm.low, ?_, ?_⟩, ?_, hm.len, ?_⟩
      · exact hm.insts.frame (h1 := fun z c hz => hs z c _ hz (by decide)) (h2 := fun z c hz => hs z c _ hz (by decide))
      · exact hm.reqs.frame (h1 := fun z c hz => hs z c _ hz (by decide)) (h2 := fun z c hz => hs z c _ hz (by decide))
      · exact own_base (own_same hm.own (fun z hz => by obtain ⟨cs, hb⟩ := own_blk hm.own hz; exact hs z cs _ hb (by decide))) hqw0.size
      · exact Below.set9 hqA (Nat.le_succ _) _ _ _ _ _ _ _ _ _


set_option maxRecDepth 100000 in
set_option maxHeartbeats 4000000 in
theorem stateF_any (dv sv : Value) (d : Def) (s : List Cmd) (w : World) (hd : DefIs w dv d) (h : Cmds w sv s) (hl : s.length ≤ 1048576) (hcr : ∀ c ∈ s, c.reason.size ≤ 9223372036854775807) :
    Calls Tryz.prog 12 #[dv, sv] w fun e w' => Quiet w w' ∧ ((d.ok = false ∧ e = .returned (.tuple #[.agg #[.int .i64 0, .slice none 0 0, .slice none 0 0], .int .i64 1])) ∨
      (d.ok = true ∧ ∃ ia n ic ra m rc, e = .returned (.tuple #[.agg #[.int .i64 (worldR d (playR d s).log).clock, .slice ia n ic, .slice ra m rc], .int .i64 0]) ∧ ∃ B, w.heap.size ≤ B ∧ InstsMem B w' ia n ic (worldR d (playR d s).log).insts ∧ ReqsMem B w' ra m rc (worldR d (playR d s).log).reqs)) := by
  have hq0 : ∀ (w : World) o, Quiet w (w.alloc o) := fun w o => (Below.refl _ _).alloc (Nat.le_refl _) _
  have hd0 := hd
  obtain ⟨da, dn, dcap, rfl, hst⟩ := hd
  clear hst
  go_enter Tryz.func12, Tryz.ntmps12
  go_wp2_with fail
  refine calls_gen (fun V => Blk V w.heap.size #[.slice da dn dcap, .int .i64 d.quorum, .int .i64 d.expiry] 24 ∧ Blk V (w.heap.size + 1) #[.int .i64 0, .slice none 0 0, .slice none 0 0] 47 ∧ Quiet w V) ⟨(Blk.new' rfl).alloc _, Blk.new' (by simp), (hq0 _ _).after (hq0 _ _)⟩ ?_
  rintro V ⟨bd, br, hqV⟩
  refine (check_any _ d V (hd0.quiet hqV)).mono ?_
  rintro e w1 ⟨rfl, hq1⟩
  replace bd := bd.quiet hq1
  replace br := br.quiet hq1
  replace hqV : Quiet w w1 := hqV.after hq1
  clear hq1
  cases hok : d.ok
  · have hck : (chk false != 0) = true := by decide
    have gr := br.cell
    have fr := br.frozen
    go_wp2
    refine bodyPost_ret (v := .tuple #[.agg #[.int .i64 0, .slice none 0 0, .slice none 0 0], .int .i64 1]) (by simp [results, Tryz.results12, go_sem, chk, gr]) rfl ⟨?_, .inl ⟨hok, rfl⟩⟩
    exact ((hqV.setCell (p := ⟨w.heap.size + 1, 0, none⟩) (Nat.le_succ _) _).setCell (p := ⟨w.heap.size + 1, 1, none⟩) (Nat.le_succ _) _).setCell (p := ⟨w.heap.size + 1, 2, none⟩) (Nat.le_succ _) _
  · have hck : (chk true != 0) = false := by decide
    have HOK : Hid (d.ok = true) := hok
    have HBe : Hid (Calls Tryz.prog 31 #[.agg #[.slice da dn dcap, .int .i64 d.quorum, .int .i64 d.expiry], sv] w1 fun e w' => ∃ v ia n ic ra m rc ja jn jc v5 v6 v7 v8, e = .returned v ∧ BehindF w1 w' (worldR d (playR d s).log) (bytesR (playR d s).log) (playR d s).safe v ia n ic ra m rc ja jn jc v5 v6 v7 v8) := behindF_any _ sv d s w1 (hd0.quiet hqV) hok (h.quiet hqV) hl hcr
    clear hok
    have gd := bd.cell
    have zd := bd.lt
    go_wp2_with fail
    refine HBe.out.mono ?_
    rintro e w2 ⟨v, ia, n, ic, ra, m, rc, ja, jn, jc, v5, v6, v7, v8, rfl, hb⟩
    obtain ⟨hv, ⟨a5, a6, rfl, rfl, ⟨x7, y7, z7, rfl⟩, ⟨x8, y8, z8, rfl⟩⟩, ⟨B1, hB1, hI, hR⟩, hown, hjl, hq2⟩ := hb
    obtain ⟨ck, HCK⟩ : ∃ ck, Hid ((worldR d (playR d s).log).clock = ck) := ⟨_, rfl⟩
    rw [HCK.out] at hv
    subst hv
    obtain ⟨sf, HSF⟩ : ∃ sf, Hid ((playR d s).safe = sf) := ⟨_, rfl⟩
    obtain ⟨jl, HJL⟩ : ∃ jl, Hid (jl = jn) := ⟨_, rfl⟩
    rw [HSF.out, ← HJL.out]
    clear hown hjl gd zd
    go_upto_region 5 with (fail)
    refine wp_gen (fun U => Blk U w2.heap.size #[.int .i64 ck, .slice ia n ic, .slice ra m rc, .slice ja jl jc, .int .i64 sf, .int .i64 a5, .int .i64 a6, .slice x7 y7 z7, .slice x8 y8 z8] 73 ∧ Quiet w2 U) ⟨Blk.new' rfl, hq0 _ _⟩ ?_
    rintro U ⟨bm, hqU⟩
    have br2 := (br.quiet hq2).quiet hqU
    have gr := br2.cell
    have fr := br2.frozen
    have zr := br2.lt
    have gm := bm.cell
    have zm := bm.lt
    have hqF : Quiet w U := (hqV.after hq2).after hqU
    have hIU := hI.quiet (hq := hqU)
    have hRU := hR.quiet (hq := hqU)
    have hs := set3_frame br2 (.int .i64 ck) (.slice ia n ic) (.slice ra m rc)
    clear hI hR
    go_wp2
    refine bodyPost_ret (v := .tuple #[.agg #[.int .i64 ck, .slice ia n ic, .slice ra m rc], .int .i64 0]) (by simp [results, Tryz.results12, go_sem, gr]) rfl ⟨?_, .inr ⟨HOK.out, ia, n, ic, ra, m, rc, by rw [HCK.out], B1, Nat.le_trans hqV.size hB1, ?_, ?_⟩⟩
    · exact ((hqF.setCell (p := ⟨w.heap.size + 1, 0, none⟩) (Nat.le_succ _) _).setCell (p := ⟨w.heap.size + 1, 1, none⟩) (Nat.le_succ _) _).setCell (p := ⟨w.heap.size + 1, 2, none⟩) (Nat.le_succ _) _
    · exact hIU.frame (h1 := fun z c hz => hs z c _ hz (by decide)) (h2 := fun z c hz => hs z c _ hz (by decide))
    · exact hRU.frame (h1 := fun z c hz => hs z c _ hz (by decide)) (h2 := fun z c hz => hs z c _ hz (by decide))


set_option maxRecDepth 100000 in
set_option maxHeartbeats 4000000 in
theorem recoverF_any (dv : Value) (d : Def) (s : ByteArray) (w : World) (hd : DefIs w dv d) (hl : s.size ≤ 33554432) :
    Calls Tryz.prog 20 #[dv, .string s] w fun e w' => Quiet w w' ∧ ((d.ok = false ∧ e = .returned (.tuple #[.agg #[.int .i64 0, .slice none 0 0, .slice none 0 0], .int .i64 0, .int .i64 1])) ∨
      (d.ok = true ∧ ∃ ia n ic ra m rc, e = .returned (.tuple #[.agg #[.int .i64 (worldR d (readR d [] s).1).clock, .slice ia n ic, .slice ra m rc], .int .i64 (readR d [] s).2, .int .i64 0]) ∧ LogOk d (readR d [] s).1 ∧ ∃ B, w.heap.size ≤ B ∧ InstsMem B w' ia n ic (worldR d (readR d [] s).1).insts ∧ ReqsMem B w' ra m rc (worldR d (readR d [] s).1).reqs)) := by
  have hq0 : ∀ (w : World) o, Quiet w (w.alloc o) := fun w o => (Below.refl _ _).alloc (Nat.le_refl _) _
  have hd0 := hd
  obtain ⟨da, dn, dcap, rfl, hst⟩ := hd
  clear hst
  go_enter Tryz.func20, Tryz.ntmps20
  go_wp2_with fail
  refine calls_gen (fun V => Blk V w.heap.size #[.slice da dn dcap, .int .i64 d.quorum, .int .i64 d.expiry] 24 ∧ Blk V (w.heap.size + 1) #[.int .i64 0, .slice none 0 0, .slice none 0 0] 47 ∧ Quiet w V) ⟨(Blk.new' rfl).alloc _, Blk.new' (by simp), (hq0 _ _).after (hq0 _ _)⟩ ?_
  rintro V ⟨bd, br, hqV⟩
  refine (check_any _ d V (hd0.quiet hqV)).mono ?_
  rintro e w1 ⟨rfl, hq1⟩
  replace bd := bd.quiet hq1
  replace br := br.quiet hq1
  replace hqV : Quiet w w1 := hqV.after hq1
  clear hq1
  cases hok : d.ok
  · have hck : (chk false != 0) = true := by decide
    have gr := br.cell
    have fr := br.frozen
    go_wp2
    refine bodyPost_ret (v := .tuple #[.agg #[.int .i64 0, .slice none 0 0, .slice none 0 0], .int .i64 0, .int .i64 1]) (by simp [results, Tryz.results20, go_sem, chk, gr]) rfl ⟨?_, .inl ⟨hok, rfl⟩⟩
    exact ((hqV.setCell (p := ⟨w.heap.size + 1, 0, none⟩) (Nat.le_succ _) _).setCell (p := ⟨w.heap.size + 1, 1, none⟩) (Nat.le_succ _) _).setCell (p := ⟨w.heap.size + 1, 2, none⟩) (Nat.le_succ _) _
  · have hck : (chk true != 0) = false := by decide
    have HOK : Hid (d.ok = true) := hok
    clear hok
    have gd := bd.cell
    have zd := bd.lt
    have HRead : Hid (∀ U, Quiet w1 U → Blk U w1.heap.size #[.int .i64 0, .slice none 0 0, .slice none 0 0] 47 → Calls Tryz.prog 38 #[.agg #[.slice da dn dcap, .int .i64 d.quorum, .int .i64 d.expiry], .pointer (some ⟨w1.heap.size, 0, none⟩), .string s] U fun e w' => e = .returned (.int .i64 (readR d [] s).2) ∧ LogOk d (readR d [] s).1 ∧ PWx ⟨w1, w1.heap, Nat.le_refl _, #[.int .i64 0, .slice none 0 0, .slice none 0 0]⟩ w' w1.heap.size 0 47 (worldR d (readR d [] s).1)) := fun U hU hB => by
      have hP : PW ⟨w1, w1.heap, Nat.le_refl _, #[.int .i64 0, .slice none 0 0, .slice none 0 0]⟩ U w1.heap.size 0 47 #[.int .i64 0, .slice none 0 0, .slice none 0 0] (worldR d []) none 0 0 none 0 0 :=
        PW.of_mem ⟨hB, fun j hj => by
          match j, hj with
          | 0, _ => rfl
          | 1, _ => rfl
          | 2, _ => rfl⟩ ⟨[], rfl, rfl, World.ownsRow_nil _ _ _ _, by simp, by simp⟩ ⟨[], rfl, rfl, World.ownsRow_nil _ _ _ _, by simp, by simp⟩ hU (Nat.le_refl _) (by unfold Aside; decide) hU.size (fun k hk _ => hU.block k hk)
      refine (read_any _ U _ d (hd0.quiet hqV) HOK.out w1.heap.size 0 47 (by decide) (by decide) [] (LogOk.nil d) s (by simp; omega) ⟨_, _, _, _, _, _, _, hP⟩).mono ?_
      rintro e w' ⟨rfl, q1, q2, _⟩
      exact ⟨rfl, q1, q2⟩
    obtain ⟨u, HU⟩ : ∃ u, Hid ((readR d [] s).2 = u) := ⟨_, rfl⟩
    rw [HU.out] at HRead
    go_wp2_with fail
    refine (HRead.out _ (by exact hq0 _ _) (Blk.new' rfl)).mono ?_
    rintro e w2 ⟨rfl, hlo, pcs, ia, n, ic, ra, m, rc, hP⟩
    have hqF : Quiet w w2 := hqV.after hP.quiet
    have br2 := br.quiet hP.quiet
    obtain ⟨ck, HCK⟩ : ∃ ck, Hid ((worldR d (readR d [] s).1).clock = ck) := ⟨_, rfl⟩
    obtain ⟨p0, p1, p2⟩ := hP.row.at.three
    have p0' : w2.cell? ⟨w1.heap.size, 0, none⟩ = some (.int .i64 ck) := by rw [← HCK.out]; exact p0
    have p1' : w2.cell? ⟨w1.heap.size, 1, none⟩ = some (.slice ia n ic) := by simpa using p1
    have p2' : w2.cell? ⟨w1.heap.size, 2, none⟩ = some (.slice ra m rc) := by simpa using p2
    clear p0 p1 p2 gd zd
    have gr := br2.cell
    have fr := br2.frozen
    have zr := br2.lt
    have zp := hP.row.1.lt
    have hs := set3_frame br2 (.int .i64 ck) (.slice ia n ic) (.slice ra m rc)
    go_wp2
    refine bodyPost_ret (v := .tuple #[.agg #[.int .i64 ck, .slice ia n ic, .slice ra m rc], .int .i64 u, .int .i64 0]) (by simp [results, Tryz.results20, go_sem, gr]) rfl ⟨?_, .inr ⟨HOK.out, ia, n, ic, ra, m, rc, by rw [HCK.out, HU.out], hlo, w1.heap.size, hqV.size, ?_, ?_⟩⟩
    · exact ((hqF.setCell (p := ⟨w.heap.size + 1, 0, none⟩) (Nat.le_succ _) _).setCell (p := ⟨w.heap.size + 1, 1, none⟩) (Nat.le_succ _) _).setCell (p := ⟨w.heap.size + 1, 2, none⟩) (Nat.le_succ _) _
    · exact hP.insts.frame (h1 := fun z c hz => hs z c _ hz (by decide)) (h2 := fun z c hz => hs z c _ hz (by decide))
    · exact hP.reqs.frame (h1 := fun z c hz => hs z c _ hz (by decide)) (h2 := fun z c hz => hs z c _ hz (by decide))


end Go.Proofs.YtgcjlgaapiefiabGreat

/-
  The reference's State: its rows lie in blocks of their own.
-/
namespace Go.Proofs.YtgcjlgaapiefiabGreat
open Go.RowKit Go.Sort Go.Lib

set_option maxRecDepth 100000 in
set_option maxHeartbeats 4000000 in
theorem refStateF_any (dv sv : Value) (d : Def) (s : List Cmd) (hpl : PlayedIs s) (w : World) (hd : DefIs w dv d) (h : Cmds w sv s) (hl : s.length ≤ 4194304) (hcr : ∀ c ∈ s, c.reason.size ≤ 9223372036854775807) :
    Calls Tryz.prog 11 #[dv, sv] w fun e w' => Quiet w w' ∧ ((d.ok = false ∧ e = .returned (.tuple #[.agg #[.int .i64 0, .slice none 0 0, .slice none 0 0], .int .i64 1])) ∨
      (d.ok = true ∧ ∃ ia n ic ra m rc, e = .returned (.tuple #[.agg #[.int .i64 (worldR d (playR d s).log).clock, .slice ia n ic, .slice ra m rc], .int .i64 0]) ∧ InstsOwn w.heap.size w' (.slice ia n ic) (worldR d (playR d s).log).insts ∧ ReqsOwn w.heap.size w' (.slice ra m rc) (worldR d (playR d s).log).reqs ∧ ∀ x ∈ (worldR d (playR d s).log).insts, x.ledger.length ≤ 2199023255552)) := by
  have hq0 : ∀ (w : World) o, Quiet w (w.alloc o) := fun w o => (Below.refl _ _).alloc (Nat.le_refl _) _
  have hd0 := hd
  obtain ⟨da, dn, dcap, rfl, hst⟩ := hd
  clear hst
  go_enter Tryz.func11, Tryz.ntmps11
  go_wp2_with fail
  refine calls_gen (fun V => Blk V w.heap.size #[.slice da dn dcap, .int .i64 d.quorum, .int .i64 d.expiry] 24 ∧ Blk V (w.heap.size + 1) #[.int .i64 0, .slice none 0 0, .slice none 0 0] 47 ∧ Quiet w V) ⟨(Blk.new' rfl).alloc _, Blk.new' (by simp), (hq0 _ _).alloc (by simp) _⟩ ?_
  rintro V ⟨bd, br, hqV⟩
  refine (refCheck_any _ d V (hd0.quiet hqV)).mono ?_
  rintro e w1 ⟨rfl, hq1⟩
  replace bd := bd.quiet hq1
  replace br := br.quiet hq1
  replace hqV : Quiet w w1 := hqV.after hq1
  clear hq1
  have gd := bd.cell
  have gr := br.cell
  have fr := br.frozen
  cases hok : d.ok
  · have hck : (chk false != 0) = true := by decide
    go_wp2
    refine bodyPost_ret (v := .tuple #[.agg #[.int .i64 0, .slice none 0 0, .slice none 0 0], .int .i64 1]) (by simp [results, Tryz.results11, go_sem, chk, gr]) rfl ⟨?_, .inl ⟨hok, rfl⟩⟩
    exact ((hqV.setCell (p := ⟨w.heap.size + 1, 0, none⟩) (by show w.heap.size ≤ w.heap.size + 1; omega) _).setCell (p := ⟨w.heap.size + 1, 1, none⟩) (by show w.heap.size ≤ w.heap.size + 1; omega) _).setCell (p := ⟨w.heap.size + 1, 2, none⟩) (by show w.heap.size ≤ w.heap.size + 1; omega) _
  · have hck : (chk true != 0) = false := by decide
    have HOK : Hid (d.ok = true) := hok
    have HPl : Hid (Calls Tryz.prog 28 #[.agg #[.slice da dn dcap, .int .i64 d.quorum, .int .i64 d.expiry], sv] w1 fun e w' => ∃ la L lc aa k ac dcs, e = .returned (.pointer (some ⟨w1.heap.size + 1, 0, none⟩)) ∧ PlayAt w1 w' (playR d s) la L lc aa k ac dcs) := hpl _ sv d w1 (hd0.quiet hqV) hok (h.quiet hqV) hl hcr
    clear hok
    obtain ⟨hTok, hTl, _⟩ := playFold d s s.length (Nat.le_refl _)
    rw [List.take_length] at hTok hTl
    go_wp2_with fail
    refine HPl.out.mono ?_
    rintro e w2 ⟨la, L, lc, aa, k, ac, dcs, rfl, hP⟩
    obtain ⟨T, HT⟩ : ∃ T, Hid (playR d s = T) := ⟨_, rfl⟩
    rw [HT.out] at hP hTok hTl
    have gt := hP.tape.cell
    have zt := hP.tape.lt
    replace bd := bd.quiet hP.quiet
    replace br := br.quiet hP.quiet
    have hqW : Quiet w w2 := hqV.after hP.quiet
    have hdW := hd0.quiet hqW
    have HSZ : Hid (w.heap.size ≤ w2.heap.size) := hqW.size
    have hlogW : Cmds w2 (.slice la L lc) T.log := own_cmds hP.log hP.len (by omega)
    have HWl : Hid (∀ U, Quiet w2 U → Calls Tryz.prog 29 #[.agg #[.slice da dn dcap, .int .i64 d.quorum, .int .i64 d.expiry], .slice la L lc] U fun e w' => ∃ (ia : Option Addr) (n ic : Nat) (ra : Option Addr) (rn rc : Nat), e = .returned (.agg #[.int .i64 (clockR T.log), .slice ia n ic, .slice ra rn rc]) ∧ InstsOwn U.heap.size w' (.slice ia n ic) (worldR d T.log).insts ∧ ReqsOwn U.heap.size w' (.slice ra rn rc) (worldR d T.log).reqs ∧ Quiet U w') := fun U hU =>
      (world_log _ _ d T.log U (hdW.quiet hU) HOK.out (hlogW.quiet hU) hTok.log (by omega)).mono (by
        rintro e w' ⟨ia, ic, ra, rn, rc, rfl, h1, h2, _, h3⟩
        exact ⟨ia, _, ic, ra, rn, rc, rfl, h1, h2, h3⟩)
    have HBd : Hid (∀ x ∈ (worldR d T.log).insts, x.ledger.length ≤ 2199023255552) := worldR_bound d T.log (by omega)
    have HCK : Hid ((worldR d T.log).clock = clockR T.log) := rfl
    obtain ⟨WW, HWW⟩ : ∃ WW, Hid (worldR d T.log = WW) := ⟨_, rfl⟩
    rw [HWW.out] at HWl HBd HCK
    generalize clockR T.log = ck at *
    clear gd gr fr
    have gd := bd.cell
    have zd := bd.lt
    have gt' := gt
    go_wp2_with fail
    go_cut [8] (fun s8 wc => ∃ (wb : Nat) (ia : Option Addr) (n ic : Nat) (ra : Option Addr) (rn rc : Nat), s8 = .pointer (some ⟨wb, 0, none⟩) ∧ Blk wc wb #[.int .i64 ck, .slice ia n ic, .slice ra rn rc] 47 ∧ w2.heap.size ≤ wb ∧ InstsOwn w2.heap.size wc (.slice ia n ic) WW.insts ∧ ReqsOwn w2.heap.size wc (.slice ra rn rc) WW.reqs ∧ Quiet w2 wc)
    case first =>
      go_region_with (first | (go_at_call 29; refine (HWl.out _ ?_).mono ?_; (first | exact Below.drew (Below.refl _ _) | exact Below.drew ((Below.refl _ _).alloc (Nat.le_refl _) _)); rintro e w4 ⟨ia, n, ic, ra, rn, rc, rfl, hI, hR, hq4⟩; have bc1 := (bcell hq4).1; have bf1 := (bcell hq4).2))
      all_goals (try go_wp2)
      all_goals
        go_meet
        case rel =>
          refine ⟨_, ia, n, ic, ra, rn, rc, rfl, ?_, ?_, ?_, ?_, ?_⟩
          · first | (with_reducible exact Blk.new' rfl) | exact (Blk.quiet (Blk.drew (Blk.new' rfl)) hq4).set3 (by simp) _ _ _
          · first | (with_reducible exact Nat.le_refl _) | exact hq4.size
          · first | ((with_reducible refine InstsOwn.quiet ?_ (hq0 _ _)); exact InstsOwn.base hI (Nat.le_refl _)) | exact own3I (InstsOwn.base hI (by simp)) (Blk.quiet (Blk.drew (Blk.new' rfl)) hq4) _ _ _
          · first | ((with_reducible refine ReqsOwn.quiet ?_ (hq0 _ _)); exact ReqsOwn.base hR (Nat.le_refl _)) | exact own3R (ReqsOwn.base hR (by simp)) (Blk.quiet (Blk.drew (Blk.new' rfl)) hq4) _ _ _
          · first | (with_reducible exact Below.alloc (Quiet.after (Below.drew (Below.refl _ _)) hq4) (Quiet.after (Below.drew (Below.refl _ _)) hq4).size _) | exact Below.set3 (Quiet.after (Below.drew ((Below.refl _ _).alloc (Nat.le_refl _) _)) hq4) (Nat.le_refl _) _ _ _
    case rest =>
      obtain ⟨wb, ia, n, ic, ra, rn, rc, rfl, bw, hwb, hI, hR, hq4⟩ := hcut
      have hne : w.heap.size + 1 ≠ wb := by have := br.lt; omega
      replace br := br.quiet hq4
      replace hqW : Quiet w wc := hqW.after hq4
      clear gd zd gt gt' zt
      have gr := br.cell
      have fr := br.frozen
      have gw := bw.cell
      have zr := br.lt
      go_wp2
      refine bodyPost_ret (v := .tuple #[.agg #[.int .i64 ck, .slice ia n ic, .slice ra rn rc], .int .i64 0]) (by simp [results, Tryz.results11, go_sem, gr]) rfl ⟨?_, .inr ⟨HOK.out, ia, n, ic, ra, rn, rc, by rw [HT.out, HWW.out, HCK.out], ?_, ?_, ?_⟩⟩
      · exact ((hqW.setCell (p := ⟨w.heap.size + 1, 0, none⟩) (by show w.heap.size ≤ w.heap.size + 1; omega) _).setCell (p := ⟨w.heap.size + 1, 1, none⟩) (by show w.heap.size ≤ w.heap.size + 1; omega) _).setCell (p := ⟨w.heap.size + 1, 2, none⟩) (by show w.heap.size ≤ w.heap.size + 1; omega) _
      · rw [HT.out, HWW.out]; exact InstsOwn.base (own3I hI br _ _ _) HSZ.out
      · rw [HT.out, HWW.out]; exact ReqsOwn.base (own3R hR br _ _ _) HSZ.out
      · rw [HT.out, HWW.out]; exact HBd.out

end Go.Proofs.YtgcjlgaapiefiabGreat

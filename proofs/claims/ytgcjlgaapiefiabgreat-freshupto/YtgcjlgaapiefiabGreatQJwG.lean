import Derived.Test.YtgcjlgaapiefiabGreatQJwF
import Derived.Deep.RegionHeld3

/-
  Walks of the program: the machine answers a command (START to WITHDRAW, and what is none).
-/
namespace Go.Proofs.YtgcjlgaapiefiabGreat
open Go.RowKit Go.Sort Go.Lib

/-- A command is written into the journal. -/
theorem mm_write {d : Def} {w0 wc : World} {pb : Nat} {T : TapeR} {k B : Nat} {ia' : Option Addr} {n' ic' : Nat} {ra' : Option Addr} {m' rc' : Nat} {ja : Option Addr} {jn jc : Nat} {xa : Option Addr} {xn xc : Nat} {ya : Option Addr} {yn yc : Nat} {c : Cmd}
    (hm2 : MMx w0 wc pb (worldR d (T.log ++ [c])) (worldR d (T.log.take k)) (bytesR T.log) T.safe (bytesN (T.log.take k)) B ia' n' ic' ra' m' rc' ja jn jc xa xn xc ya yn yc) (hj : jn = bytesN T.log) (hjm : jn ≤ 33554432) (hk : k ≤ T.log.length) (hfit : Fits c) (an : List Answer) :
    Calls Tryz.prog 54 #[.pointer (some ⟨pb, 0, none⟩), c.val] wc fun e w' => (∃ v, e = .returned v) ∧ TM d w0 w' pb ⟨T.log ++ [c], if c.kind = 2 then (bytesN T.log : Int) + (recordR c).size else T.safe, an⟩ k ∧ Frame machTypes wc w' := by
  have hrl : 8 + (namC c).reason.size = (recordR c).size := by rw [← recP_length, ← recP_record c hfit.kind.1 hfit.kind.2, strOfNums_size]
  refine (writeM_any w0 wc hm2.quiet pb hm2.above _ _ _ _ _ _ _ _ ja jn jc _ hm2.blk hm2.own c (namC_reason hfit) (by omega)).mono ?_
  rintro e w' ⟨hv, ja', jc', hB', hown', hF', hq'⟩
  refine ⟨hv, ?_, hF'⟩
  have hnew : (nums (bytesR T.log)).map (Value.int .u8) ++ (recP c).map (Value.int .u8) = (nums (bytesR (T.log ++ [c]))).map (Value.int .u8) := by
    rw [bytesR_snoc, nums_append, List.map_append, nums_record, ← body_named c hfit.kind.1 hfit.kind.2]; rfl
  rw [hnew] at hown'
  have hsz : jn + (8 + (namC c).reason.size) = (bytesR (T.log ++ [c])).size := by rw [bytesR_snoc, ByteArray.size_append, hrl, hj]; rfl
  have hs' : (if c.kind = 2 then Value.int .i64 ((jn + (8 + (namC c).reason.size) : Nat) : Int) else Value.int .i64 T.safe) = Value.int .i64 (if c.kind = 2 then (bytesN T.log : Int) + (recordR c).size else T.safe) := by
    by_cases h2 : c.kind = 2
    · rw [if_pos h2, if_pos h2, hrl, hj]; congr 1
    · rw [if_neg h2, if_neg h2]
  rw [hs'] at hB'
  have ht : (T.log ++ [c]).take k = T.log.take k := by rw [List.take_append_of_le_length hk]
  have hfin := hm2.mach hB' hown' hsz hF' hq'
  unfold TM
  simp only
  rw [ht]
  exact ⟨_, _, _, _, _, _, _, _, _, _, _, _, _, _, _, _, hfin⟩

set_option maxRecDepth 100000 in
set_option maxHeartbeats 4000000 in
theorem machElse_any (w0 w : World) (dv : Value) (d : Def) (hd : DefIs w0 dv d) (hok : d.ok = true) (pb : Nat) (T : TapeR) (k : Nat) (hM : MachOk d T k) (hlen : T.log.length ≤ 1048576) (h : TM d w0 w pb T k) (c : Cmd) (h8 : c.kind ≠ 8) (h9 : c.kind ≠ 9) (hcr : c.reason.size ≤ 9223372036854775807) :
    Calls Tryz.prog 36 #[.pointer (some ⟨pb, 0, none⟩), dv, c.val] w fun e w' => MDone d w0 w pb T c e w' := by
  have hq0 : ∀ (w : World) o, Quiet w (w.alloc o) := fun w o => (Below.refl _ _).alloc (Nat.le_refl _) _
  have hw0 : w0.heap.size ≤ w.heap.size + 1 + 1 := by have := h.quiet.size; omega
  have hd0 := hd
  have hd1 := hd.quiet h.quiet
  obtain ⟨da, dn, dcap, rfl, hst⟩ := hd1
  clear hst hd
  have hmost := bytesN_most hM.tape.log T.log.length (Nat.le_refl _)
  rw [List.take_length] at hmost
  obtain ⟨hM', hT'⟩ := hM.step c (fun q => absurd q h9)
  obtain ⟨B, ia, n, ic, ra, m, rc, ja, jn, jc, xa, xn, xc, ya, yn, yc, hm⟩ := h
  have HJ : Hid (jn = bytesN T.log) := hm.len
  have hjm : jn ≤ 33554432 := by have := HJ.out; omega
  have t8 : (c.kind == 8) = false := by simpa using h8
  have t9 : (c.kind == 9) = false := by simpa using h9
  have HDo : Hid (∀ U, Quiet w U → Calls Tryz.prog 53 #[.agg #[.slice da dn dcap, .int .i64 d.quorum, .int .i64 d.expiry], .pointer (some ⟨pb, 0, none⟩), .agg #[.int .i64 c.kind, .int .i64 c.inst, .int .i64 c.a, .int .i64 c.b, .int .i64 c.who, .string c.reason, .bool c.dry]] U fun e w' => e = .returned (answerR d T.log c).val ∧ (∃ ia' n' ic' ra' m' rc', MMx w0 w' pb (worldR d (logStep d T.log c)) (worldR d (T.log.take k)) (bytesR T.log) T.safe (bytesN (T.log.take k)) B ia' n' ic' ra' m' rc' ja jn jc xa xn xc ya yn yc) ∧ Frame (worldTypes 73) U w') := fun U hU =>
    mm_do _ d hd0 hok T.log hM.tape.log (by omega) (hm.hush hU) c hcr
  have HNo : Hid (¬ ((answerR d T.log c).code = 0 ∧ c.dry = false) → playStep d T c = ⟨T.log, T.safe, T.answers ++ [answerR d T.log c]⟩ ∧ logStep d T.log c = T.log) := fun q => ⟨play_no d T c h8 h9 q, by unfold logStep; rw [if_neg q]⟩
  have HYes : Hid ((answerR d T.log c).code = 0 ∧ c.dry = false → playStep d T c = ⟨T.log ++ [c], if c.kind = 2 then (bytesN T.log : Int) + (recordR c).size else T.safe, T.answers ++ [answerR d T.log c]⟩ ∧ logStep d T.log c = T.log ++ [c] ∧ Fits c) := fun q => ⟨play_yes d T c h8 h9 q, by unfold logStep; rw [if_pos q], fits_of hok hM.tape.log q.1⟩
  generalize answerR d T.log c = A at *
  generalize logStep d T.log c = L2 at *
  clear h8 h9
  unfold Cmd.val
  go_enter Tryz.func36, Tryz.ntmps36
  go_upto_region 1 with (fail)
  refine wp_gen (fun V => Blk V w.heap.size #[.slice da dn dcap, .int .i64 d.quorum, .int .i64 d.expiry] 24 ∧ Blk V (w.heap.size + 1) #[.int .i64 c.kind, .int .i64 c.inst, .int .i64 c.a, .int .i64 c.b, .int .i64 c.who, .string c.reason, .bool c.dry] 43 ∧ Blk V (w.heap.size + 1 + 1) #[.int .i64 0, .int .i64 0, .int .i64 0, .int .i64 0] 86 ∧ Quiet w V) ⟨((Blk.new' rfl).alloc _).alloc _, (Blk.new' (by simp)).alloc _, Blk.new' (by simp), ((hq0 _ _).after (hq0 _ _)).after (hq0 _ _)⟩ ?_
  rintro V ⟨bd, bc, br, hqV⟩
  have gc := bc.cell
  have zc := bc.lt
  have gd := bd.cell
  have zd := bd.lt
  have zB := (hm.hush hqV).blk.lt
  go_wp2_with fail
  go_cut [7] (fun s7 wc => ∃ ab, s7 = .pointer (some ⟨ab, 0, none⟩) ∧ Blk wc ab #[.int .i64 A.code, .int .i64 A.number, .int .i64 A.step, .int .i64 A.what] 86 ∧ V.heap.size ≤ ab ∧ (∃ ia' n' ic' ra' m' rc', MMx w0 wc pb (worldR d L2) (worldR d (T.log.take k)) (bytesR T.log) T.safe (bytesN (T.log.take k)) B ia' n' ic' ra' m' rc' ja jn jc xa xn xc ya yn yc) ∧ Frame allTypes V wc)
  case first =>
    go_region_with (first | (go_at_call 53; refine (HDo.out _ ?_).mono ?_; (first | exact Below.drew hqV | exact hqV | exact hqV.drewN | exact Below.drew (hqV.after (hq0 _ _)) | exact (hqV.after (hq0 _ _)) | exact (hqV.after (hq0 _ _)).drewN | exact Below.alloc (Below.drew hqV) (by simp; omega) _); rintro e w2 ⟨rfl, ⟨ia', n', ic', ra', m', rc', hm2⟩, hF2⟩; (first | (have bz := hF2.blk (Blk.drew (Blk.new' (w := V) (b := V.heap.size) rfl)) (by decide); have bzc := bz.cell; have bzf := bz.frozen) | (have bz := hF2.blk (Blk.new' (w := V.drew) (b := V.heap.size) rfl) (by decide); have bzc := bz.cell; have bzf := bz.frozen) | (have bz := hF2.blk (Blk.new' (w := V) (b := V.heap.size) rfl) (by decide); have bzc := bz.cell; have bzf := bz.frozen) | (have bz := True.intro)); simp only [Answer.val]))
    all_goals (try go_wp2)
    all_goals
      go_meet
      case rel =>
        have hFU : Frame allTypes V w2 := Frame.trans (Frame.quiet _ (by first | exact Below.drew (Below.refl _ _) | exact Below.drew (hq0 _ _) | exact Below.alloc (Below.drew (Below.refl _ _)) (Nat.le_refl _) _ | exact hq0 _ _ | exact Below.refl _ _ | exact (Below.refl _ _).drewN)) hF2.all_world
        refine ⟨_, rfl, ?_, ?_, ⟨ia', n', ic', ra', m', rc', ?_⟩, ?_⟩
        · first | (with_reducible exact Blk.new' rfl) | exact bz.four (by simp) _ _ _ _
        · first | exact Nat.le_refl _ | exact hFU.1
        · first | (with_reducible exact hm2.hush (hq0 _ _)) | exact hm2.keep (by simp [World.setCell]) (fun k cs t hk ht => four_frame bz _ _ _ _ k cs t hk (by rintro rfl; revert ht; decide)) (Below.four hm2.quiet (by have := hqV.size; omega) _ _ _ _)
        · first | (with_reducible exact hFU.trans (Frame.quiet _ (hq0 _ _))) | exact (((hFU.fresh (Nat.le_refl _) 0 _).fresh (Nat.le_refl _) 1 _).fresh (Nat.le_refl _) 2 _).fresh (Nat.le_refl _) 3 _
  case rest =>
    obtain ⟨ab, rfl, ba, hab, ⟨ia', n', ic', ra', m', rc', hm2⟩, hF2⟩ := hcut
    have bc2 := hF2.blk bc (by decide)
    have br2 := hF2.blk br (by decide)
    clear gc gd zc zd zB bc bd HDo
    have gc := bc2.cell
    have zc := bc2.lt
    have ga := ba.cell
    have za := ba.lt
    have hFw : Frame allTypes w wc := (Frame.quiet _ hqV).trans hF2
    have zr0 := br.lt
    have har : w.heap.size + 1 + 1 ≠ ab := by omega
    cases hA : A.code == 0
    · have hA' : ¬ (A.code = 0 ∧ c.dry = false) := fun q => by simp [q.1] at hA
      obtain ⟨e1, e2⟩ := HNo.out hA'
      have HA : Hid ((playStep d T c).answers = T.answers ++ [A]) := by show (playStep d T c).answers = _; rw [e1]
      have hT2 : TM d w0 wc pb (playStep d T c) k := by rw [e2] at hm2; rw [e1]; exact ⟨B, ia', n', ic', ra', m', rc', ja, jn, jc, xa, xn, xc, ya, yn, yc, hm2⟩
      clear hA' e1 e2 hm2
      have gr := br2.cell
      have fr := br2.frozen
      have zr := br2.lt
      go_wp2
      exact bodyPost_ret (v := .agg #[.int .i64 A.code, .int .i64 A.number, .int .i64 A.step, .int .i64 A.what]) (by simp [results, Tryz.results36, go_sem, gr]) rfl ⟨k, A, rfl, HA.out, hM', hT2.four br2 hw0 _ _ _ _, (((hFw.fresh (by omega) 0 _).fresh (by omega) 1 _).fresh (by omega) 2 _).fresh (by omega) 3 _⟩
    · cases hdry : c.dry
      · have hA' : A.code = 0 ∧ c.dry = false := ⟨by simpa using hA, hdry⟩
        obtain ⟨e1, e2, hfit⟩ := HYes.out hA'
        have HA : Hid ((playStep d T c).answers = T.answers ++ [A]) := by show (playStep d T c).answers = _; rw [e1]
        have HW : Hid (Calls Tryz.prog 54 #[.pointer (some ⟨pb, 0, none⟩), .agg #[.int .i64 c.kind, .int .i64 c.inst, .int .i64 c.a, .int .i64 c.b, .int .i64 c.who, .string c.reason, .bool c.dry]] wc fun e w' => (∃ v, e = .returned v) ∧ TM d w0 w' pb (playStep d T c) k ∧ Frame machTypes wc w') := by
          show Calls _ _ _ _ _
          rw [e2] at hm2
          rw [e1]
          exact mm_write hm2 HJ.out hjm hM.le hfit _
        clear hA' e1 e2 hm2 hfit
        rw [hdry] at gc HW
        go_wp2_with fail
        refine HW.out.mono ?_
        rintro e w3 ⟨⟨v3, rfl⟩, hT3, hF3⟩
        have br3 := hF3.blk br2 (by decide)
        have ba3 := hF3.blk ba (by decide)
        have gr := br3.cell
        have fr := br3.frozen
        have zr := br3.lt
        have ga3 := ba3.cell
        have hF4 : Frame allTypes w w3 := hFw.trans hF3.all_mach
        clear ga gc
        go_wp2
        exact bodyPost_ret (v := .agg #[.int .i64 A.code, .int .i64 A.number, .int .i64 A.step, .int .i64 A.what]) (by simp [results, Tryz.results36, go_sem, gr]) rfl ⟨k, A, rfl, HA.out, hM', hT3.four br3 hw0 _ _ _ _, (((hF4.fresh (by omega) 0 _).fresh (by omega) 1 _).fresh (by omega) 2 _).fresh (by omega) 3 _⟩
      · have hA' : ¬ (A.code = 0 ∧ c.dry = false) := fun q => by rw [hdry] at q; simp at q
        obtain ⟨e1, e2⟩ := HNo.out hA'
        have HA : Hid ((playStep d T c).answers = T.answers ++ [A]) := by show (playStep d T c).answers = _; rw [e1]
        have hT2 : TM d w0 wc pb (playStep d T c) k := by rw [e2] at hm2; rw [e1]; exact ⟨B, ia', n', ic', ra', m', rc', ja, jn, jc, xa, xn, xc, ya, yn, yc, hm2⟩
        clear hA' e1 e2 hm2
        rw [hdry] at gc
        have gr := br2.cell
        have fr := br2.frozen
        have zr := br2.lt
        go_wp2
        exact bodyPost_ret (v := .agg #[.int .i64 A.code, .int .i64 A.number, .int .i64 A.step, .int .i64 A.what]) (by simp [results, Tryz.results36, go_sem, gr]) rfl ⟨k, A, rfl, HA.out, hM', hT2.four br2 hw0 _ _ _ _, (((hFw.fresh (by omega) 0 _).fresh (by omega) 1 _).fresh (by omega) 2 _).fresh (by omega) 3 _⟩

theorem machDo_any (w0 w : World) (dv : Value) (d : Def) (hd : DefIs w0 dv d) (hok : d.ok = true) (pb : Nat) (T : TapeR) (k : Nat) (hM : MachOk d T k) (hlen : T.log.length ≤ 1048576) (h : TM d w0 w pb T k) (c : Cmd) (hcr : c.reason.size ≤ 9223372036854775807) :
    Calls Tryz.prog 36 #[.pointer (some ⟨pb, 0, none⟩), dv, c.val] w fun e w' => MDone d w0 w pb T c e w' := by
  by_cases h8 : c.kind = 8
  · exact machSync_any w0 w dv d hd pb T k hM hlen h c h8
  by_cases h9 : c.kind = 9
  · exact machCrash_any w0 w dv d hd hok pb T k hM hlen h c h9
  exact machElse_any w0 w dv d hd hok pb T k hM hlen h c h8 h9 hcr

end Go.Proofs.YtgcjlgaapiefiabGreat

import Derived.Test.YtgcjlgaapiefiabGreatQJwG
import Derived.Test.YtgcjlgaapiefiabGreatQSame

/-
  Walks of the program: Run.
-/
namespace Go.Proofs.YtgcjlgaapiefiabGreat
open Go.RowKit Go.Sort

/-- What a command is answered. -/
def answerM (d : Def) (T : TapeR) (c : Cmd) : Answer := if c.kind = 8 then noR 0 else if c.kind = 9 ∧ c.a < 0 then noR 3 else if c.kind = 9 then noR 0 else answerR d T.log c
theorem playStep_answers (d : Def) (T : TapeR) (c : Cmd) : (playStep d T c).answers = T.answers ++ [answerM d T c] := by
  unfold playStep answerM
  split
  · rfl
  split
  · rfl
  split
  · split <;> rfl
  split <;> rfl

def TMx (d : Def) (w0 w : World) (pb : Nat) (T : TapeR) : Prop := ∃ k, MachOk d T k ∧ TM d w0 w pb T k
theorem TMx.hush {d : Def} {w0 w w' : World} {pb : Nat} {T : TapeR} (h : TMx d w0 w pb T) (hq : Quiet w w') : TMx d w0 w' pb T := by obtain ⟨k, h1, h2⟩ := h; exact ⟨k, h1, h2.hush hq⟩
theorem TMx.quiet {d : Def} {w0 w : World} {pb : Nat} {T : TapeR} (h : TMx d w0 w pb T) : Quiet w0 w := by obtain ⟨k, h1, h2⟩ := h; exact h2.quiet
theorem TMx.four {d : Def} {w0 w : World} {pb : Nat} {T : TapeR} (h : TMx d w0 w pb T) {b : Nat} {cs : Array Value} (hb : Blk w b cs 86) (hw : w0.heap.size ≤ b) (v0 v1 v2 v3 : Value) : TMx d w0 ((((w.setCell ⟨b, 0, none⟩ v0).setCell ⟨b, 1, none⟩ v1).setCell ⟨b, 2, none⟩ v2).setCell ⟨b, 3, none⟩ v3) pb T := by obtain ⟨k, h1, h2⟩ := h; exact ⟨k, h1, h2.four hb hw _ _ _ _⟩
theorem TMx.grow {d : Def} {w0 w w' : World} {pb : Nat} {T : TapeR} {o : Obj} {base : Nat} {v : Value} {j : Nat} {xs : List Value} (h : TMx d w0 w pb T) (hg : (w.alloc o).grownBy w' v.ownBlock) (ho : w.ownsRow base 86 4 v j xs) (hb : ∀ z, v.ownBlock = some z → w0.heap.size ≤ z) : TMx d w0 w' pb T := by
  obtain ⟨k, h1, h2⟩ := h
  have hF : Frame [86] w w' := grown_frame hg (fun z hz => own_blk ho hz) (by simp)
  exact ⟨k, h1, h2.keep hF.1 (fun k cs t hk ht => hF.2 k cs t hk (by intro q; simp at q; subst q; revert ht; decide)) (Below.grown (h2.quiet.alloc h2.quiet.size _) hg (by have := h2.quiet.size; simp; omega) hb)⟩
theorem TMx.start (d : Def) (w0 w : World) (pb : Nat) (hB : Blk w pb #[.int .i64 0, .slice none 0 0, .slice none 0 0, .slice none 0 0, .int .i64 0, .int .i64 0, .int .i64 0, .slice none 0 0, .slice none 0 0] 73) (hq : Quiet w0 w) (hb : w0.heap.size ≤ pb) : TMx d w0 w pb ⟨[], 0, []⟩ := by
  refine ⟨0, MachOk.start d, w0.heap.size, none, 0, 0, none, 0, 0, none, 0, 0, none, 0, 0, none, 0, 0, ?_⟩
  exact ⟨hB, ⟨[], rfl, rfl, World.ownsRow_nil _ _ _ _, by simp, by simp⟩, ⟨[], rfl, rfl, World.ownsRow_nil _ _ _ _, by simp, by simp⟩, ⟨[], rfl, rfl, World.ownsRow_nil _ _ _ _, by simp, by simp⟩, ⟨[], rfl, rfl, World.ownsRow_nil _ _ _ _, by simp, by simp⟩, World.ownsRow_nil _ _ _ _, rfl, hq, hb, Nat.le_refl _, hq.size⟩

theorem machDo_log (w0 w : World) (dv : Value) (d : Def) (hd : DefIs w0 dv d) (hok : d.ok = true) (pb : Nat) (T : TapeR) (hlen : T.log.length ≤ 1048576) (h : TMx d w0 w pb T) (c : Cmd) (hcr : c.reason.size ≤ 9223372036854775807) :
    Calls Tryz.prog 36 #[.pointer (some ⟨pb, 0, none⟩), dv, c.val] w fun e w' => e = .returned (answerM d T c).val ∧ TMx d w0 w' pb (playStep d T c) ∧ Frame allTypes w w' := by
  obtain ⟨k, hM, hT⟩ := h
  refine (machDo_any w0 w dv d hd hok pb T k hM hlen hT c hcr).mono ?_
  rintro e w' ⟨k', A, rfl, ha, hM', hT', hF⟩
  rw [playStep_answers] at ha
  have e : answerM d T c = A := by simpa using ha
  rw [e]
  exact ⟨rfl, ⟨k', hM', hT'⟩, hF⟩

set_option maxRecDepth 100000 in
set_option maxHeartbeats 4000000 in
theorem runM_any (dv sv : Value) (d : Def) (s : List Cmd) (w : World) (hd : DefIs w dv d) (h : Cmds w sv s) (hl : s.length ≤ 1048576) (hcr : ∀ c ∈ s, c.reason.size ≤ 9223372036854775807) :
    Calls Tryz.prog 15 #[dv, sv] w fun e w' => Quiet w w' ∧ ((d.ok = false ∧ e = .returned (.tuple #[.slice none 0 0, .int .i64 1])) ∨
      (d.ok = true ∧ ∃ aa ac, e = .returned (.tuple #[.slice aa s.length ac, .int .i64 0]) ∧ w'.ownsRow w.heap.size 86 4 (.slice aa s.length ac) s.length (ansVals (playR d s).answers))) := by
  obtain ⟨i0, hi, hz0, hz1, hz2⟩ := info_parts Tryz.info86
  have hq0 : ∀ (w : World) o, Quiet w (w.alloc o) := fun w o => (Below.refl _ _).alloc (Nat.le_refl _) _
  obtain ⟨a, n, cap, rfl⟩ := h.1.shape
  obtain ⟨hn, hm⟩ := h.len
  have HN : Hid (n = s.length) := hn
  have hnl : n ≤ 1048576 := by omega
  clear hn
  have hd0 := hd
  obtain ⟨da, dn, dcap, rfl, hst⟩ := hd
  clear hst
  go_enter Tryz.func15, Tryz.ntmps15
  go_wp2_with fail
  refine calls_gen (fun V => Blk V w.heap.size #[.slice da dn dcap, .int .i64 d.quorum, .int .i64 d.expiry] 24 ∧ Quiet w V) ⟨Blk.new' rfl, hq0 _ _⟩ ?_
  rintro V ⟨bd, hqV⟩
  refine (check_any _ d V (hd0.quiet hqV)).mono ?_
  rintro e w1 ⟨rfl, hq1⟩
  replace bd := bd.quiet hq1
  replace hqV : Quiet w w1 := hqV.after hq1
  clear hq1
  cases hok : d.ok
  · have hck : (chk false != 0) = true := by decide
    go_wp2
    refine bodyPost_ret (v := .tuple #[.slice none 0 0, .int .i64 1]) (by simp [results, Tryz.results15, go_sem, chk]) rfl ⟨hqV, .inl ⟨hok, rfl⟩⟩
  · have hck : (chk true != 0) = false := by decide
    have HOK : Hid (d.ok = true) := hok
    clear hok
    have hd1 := hd0.quiet hqV
    go_wp2
    go_loopw [8, 9] (fun av i wr => ∃ k : Nat, k ≤ n ∧ i = .int .i64 k ∧ TMx d w1 wr w1.heap.size (playR d (s.take k)) ∧ Blk wr w.heap.size #[.slice da dn dcap, .int .i64 d.quorum, .int .i64 d.expiry] 24 ∧ wr.ownsRow w1.heap.size 86 4 av k (ansVals (playR d (s.take k)).answers)) (fun _ i _ => n - (intOf i).toNat)
    case atStart => exact ⟨0, Nat.zero_le _, rfl, TMx.start d w1 _ w1.heap.size (Blk.new' rfl) (hq0 _ _) (Nat.le_refl _), bd.alloc _, World.ownsRow_nil _ _ _ _⟩
    case round =>
      obtain ⟨k, hk, rfl, hP, bdr, hans⟩ := hrel
      by_cases hlt : k < n
      · have hkl : k < s.length := by have := HN.out; omega
        obtain ⟨b, off, rfl, hb, e0, e1, e2, e3, e4, e5, e6⟩ := (h.quiet hqV).cell k hkl
        have c0 := ((bcell hP.quiet).1 _ _ hb).trans e0
        have c1 := ((bcell hP.quiet).1 _ _ hb).trans e1
        have c2 := ((bcell hP.quiet).1 _ _ hb).trans e2
        have c3 := ((bcell hP.quiet).1 _ _ hb).trans e3
        have c4 := ((bcell hP.quiet).1 _ _ hb).trans e4
        have c5 := ((bcell hP.quiet).1 _ _ hb).trans e5
        have c6 := ((bcell hP.quiet).1 _ _ hb).trans e6
        have HL : Hid (playR d (s.take (k + 1)) = playStep d (playR d (s.take k)) s[k]) := foldl_take_succ _ _ _ _ hkl
        obtain ⟨_, hll, _⟩ := playFold d s k (by omega)
        have hcr' := hcr s[k] (List.getElem_mem hkl)
        generalize playR d (s.take k) = T at *
        generalize s[k] = c at *
        have HA : Hid ((playStep d T c).answers = T.answers ++ [answerM d T c]) := playStep_answers d T c
        have HDo : Hid (∀ U, Quiet wr U → Calls Tryz.prog 36 #[.pointer (some ⟨w1.heap.size, 0, none⟩), .agg #[.slice da dn dcap, .int .i64 d.quorum, .int .i64 d.expiry], .agg #[.int .i64 c.kind, .int .i64 c.inst, .int .i64 c.a, .int .i64 c.b, .int .i64 c.who, .string c.reason, .bool c.dry]] U fun e w' => e = .returned (answerM d T c).val ∧ TMx d w1 w' w1.heap.size (playStep d T c) ∧ Frame allTypes U w') := fun U hU =>
          machDo_log w1 U _ d hd1 HOK.out w1.heap.size T (by omega) (hP.hush hU) c hcr'
        obtain ⟨an, han⟩ : ∃ an, an = T.answers := ⟨_, rfl⟩
        rw [← han] at hans HA
        generalize answerM d T c = A at *
        clear han
        generalize playStep d T c = T2 at *
        have gd := bdr.cell
        have zd := bdr.lt
        have hbn2 : b < wr.heap.size := Nat.lt_of_lt_of_le hb hP.quiet.size
        have hbn : b ≠ wr.heap.size := by omega
        have hdn : w.heap.size ≠ wr.heap.size := by omega
        have hbn3 : wr.heap.size ≠ b := by omega
        have hdn3 : wr.heap.size ≠ w.heap.size := by omega
        have hki : (0 : Int) ≤ (k : Int) := by omega
        have hkj : (k : Int) < (n : Int) := by omega
        go_wp2_with fail
        go_cut [10] (fun s10 wc => ∃ ab, s10 = .pointer (some ⟨ab, 0, none⟩) ∧ Blk wc ab #[.int .i64 A.code, .int .i64 A.number, .int .i64 A.step, .int .i64 A.what] 86 ∧ TMx d w1 wc w1.heap.size T2 ∧ Blk wc w.heap.size #[.slice da dn dcap, .int .i64 d.quorum, .int .i64 d.expiry] 24 ∧ wc.ownsRow w1.heap.size 86 4 u8 k (ansVals an))
        case first =>
          go_region_held3 (fun w' => (w'.cell? ⟨w.heap.size, 0, none⟩ = some (.slice da dn dcap) ∧ w'.cell? ⟨w.heap.size, 1, none⟩ = some (.int .i64 d.quorum) ∧ w'.cell? ⟨w.heap.size, 2, none⟩ = some (.int .i64 d.expiry)) ∧ w'.cell? ⟨b, off + k * 7, none⟩ = some (.int .i64 c.kind) ∧ w'.cell? ⟨b, off + k * 7 + 1, none⟩ = some (.int .i64 c.inst) ∧ w'.cell? ⟨b, off + k * 7 + 2, none⟩ = some (.int .i64 c.a) ∧ w'.cell? ⟨b, off + k * 7 + 3, none⟩ = some (.int .i64 c.b) ∧ w'.cell? ⟨b, off + k * 7 + 4, none⟩ = some (.int .i64 c.who) ∧ w'.cell? ⟨b, off + k * 7 + 5, none⟩ = some (.string c.reason) ∧ w'.cell? ⟨b, off + k * 7 + 6, none⟩ = some (.bool c.dry)) (go_keep) (first | (go_at_call 36; refine (HDo.out _ ?_).mono ?_; (first | exact Below.refl _ _ | exact Below.drew (Below.refl _ _) | exact (Below.refl _ _).drewN | exact (Below.refl _ _).alloc (Nat.le_refl _) _ | exact Below.drew ((Below.refl _ _).alloc (Nat.le_refl _) _) | exact ((Below.refl _ _).alloc (Nat.le_refl _) _).drewN | exact Below.alloc (Below.drew (Below.refl _ _)) (Nat.le_refl _) _); rintro e w2 ⟨rfl, hP2, hF2⟩; have k0 := ((bcell hP2.quiet).1 _ _ hb).trans e0; have k1 := ((bcell hP2.quiet).1 _ _ hb).trans e1; have k2 := ((bcell hP2.quiet).1 _ _ hb).trans e2; have k3 := ((bcell hP2.quiet).1 _ _ hb).trans e3; have k4 := ((bcell hP2.quiet).1 _ _ hb).trans e4; have k5 := ((bcell hP2.quiet).1 _ _ hb).trans e5; have k6 := ((bcell hP2.quiet).1 _ _ hb).trans e6; have kd := (bd.quiet hP2.quiet).cell; have hans9 := hF2.own (own_quiet hans (by first | exact Below.refl _ _ | exact Below.drew (Below.refl _ _) | exact (Below.refl _ _).drewN | exact Below.drew (hq0 _ _) | exact (hq0 _ _).drewN | exact hq0 _ _ | exact Below.alloc (Below.drew (Below.refl _ _)) (Nat.le_refl _) _)) (by decide); (first | (have bz := hF2.blk (Blk.drew (Blk.new' (w := wr) (b := wr.heap.size) rfl)) (by decide); have bzc := bz.cell; have bzf := bz.frozen) | (have bz := hF2.blk (Blk.new' (w := wr.drew) (b := wr.heap.size) rfl) (by decide); have bzc := bz.cell; have bzf := bz.frozen) | (have bz := hF2.blk (Blk.new' (w := wr) (b := wr.heap.size) rfl) (by decide); have bzc := bz.cell; have bzf := bz.frozen) | (have bz := True.intro)); simp only [Answer.val]))
          all_goals (try go_wp2)
          all_goals
            go_meet
            case rel =>
              have hne : u8.ownBlock ≠ some wr.heap.size := fun e => by have := (own_ge hans _ e).2; omega
              refine ⟨_, rfl, ?_, ?_, ?_, ?_⟩
              · first | (with_reducible exact Blk.new' rfl) | exact bz.four (by simp) _ _ _ _
              · first | (with_reducible exact TMx.hush hP2 (hq0 _ _)) | exact TMx.four hP2 bz hP.quiet.size _ _ _ _
              · first | (with_reducible exact Blk.alloc (bd.quiet hP2.quiet) _) | exact ((((bd.quiet hP2.quiet).other _ hdn).other _ hdn).other _ hdn).other _ hdn
              · first | (with_reducible exact World.ownsRow.alloc hans9 _) | exact ownsRow_setCell_other (ownsRow_setCell_other (ownsRow_setCell_other (ownsRow_setCell_other hans9 hne _) hne _) hne _) hne _
        case rest =>
          obtain ⟨ab, rfl, ba, hP2, bd2, hans2⟩ := hcut
          clear gd zd c0 c1 c2 c3 c4 c5 c6 e0 e1 e2 e3 e4 e5 e6 HDo hP bdr hans
          have ga := ba.cell
          have hsz := hP2.quiet.size
          have hsz2 := hqV.size
          go_wp2_with (at_builtin; refine wpList_append_own _ rfl _ _ 53 rfl w1.heap.size 86 i0 (.agg #[.int .i64 0, .int .i64 0, .int .i64 0, .int .i64 0]) 4 32 Tryz.underlying53 hi hz0 hz1 hz2 rfl (by decide) _ _ _ rfl (hans2.alloc _) ⟨wc.heap.size, 0, none⟩ 1 1 A.cells rfl rfl ?c1 ?c2 ?c3 ?c4 ?c5 ?_)
          case c1 => exact answer_new wc _ _ _ _
          case c2 => intro u hu; simp [Answer.cells] at hu; rcases hu with rfl | rfl | rfl | rfl <;> rfl
          case c3 => unfold maxLen; omega
          case c4 => omega
          case c5 => simp; omega
          intro v' w4 hown4 hgrow _
          have hF4 : Frame [86] wc w4 := grown_frame hgrow (fun z hz => own_blk hans2 hz) (by simp)
          go_wp2
          go_roundw
          case rel =>
            refine ⟨k + 1, by omega, by go_num, ?_, hF4.blk bd2 (by decide), ?_⟩
            · rw [HL.out]
              exact hP2.grow hgrow hans2 (fun z hz => (own_ge hans2 z hz).1)
            · rw [HL.out, HA.out]
              have e : ansVals (an ++ [A]) = ansVals an ++ A.cells := by unfold ansVals; simp
              rw [e]; exact hown4
          case measure => simp [intOf]; omega
      · have hkn : s.take k = s := by have := HN.out; rw [List.take_of_length_le (by omega)]
        rw [hkn] at hans
        have hks : k = s.length := by have := HN.out; omega
        obtain ⟨aa, ac, rfl⟩ := own_shape hans
        go_wp2
        refine bodyPost_ret (v := .tuple #[.slice aa k ac, .int .i64 0]) (by simp [results, Tryz.results15, go_sem]) rfl ⟨hqV.after hP.quiet, .inr ⟨HOK.out, aa, ac, by rw [← hks], by rw [← hks]; exact own_base hans hqV.size⟩⟩

end Go.Proofs.YtgcjlgaapiefiabGreat

/-
  Walks of the program: the machine behind a script; State, Journal.
-/
namespace Go.Proofs.YtgcjlgaapiefiabGreat
open Go.RowKit Go.Sort Go.Lib

/-- What the comparisons want. -/
theorem insMem_at {base : Nat} {w : World} {ia : Option Addr} {n ic : Nat} {xs : List Inst} (h : InstsMem base w ia n ic xs) (hb : ∀ x ∈ xs, x.ledger.length ≤ 2199023255552) : InstsAt w (.slice ia n ic) xs := by
  obtain ⟨ps, e1, e2⟩ := h
  refine ⟨ps, e1, own_arr (base := base) (e := 78) (n := n) e2.own (by simpa [instVals] using e2.count) ?_, fun p hp => ?_⟩
  · intro x hx; obtain ⟨p, _, rfl⟩ := List.mem_map.1 hx; rfl
  · obtain ⟨a, k, c, q1, q2, q3⟩ := e2.each p hp
    rw [q1] at q3
    exact ⟨a, k, c, q1, own_ents q3 q2 (hb p.1 (by rw [← e1]; exact List.mem_map_of_mem hp))⟩
theorem reqMem_at {base : Nat} {w : World} {ra : Option Addr} {m rc : Nat} {rs : List Req} (h : ReqsMem base w ra m rc rs) : ReqsAt w (.slice ra m rc) rs := by
  obtain ⟨ps, e1, e2⟩ := h
  refine ⟨ps, e1, own_arr (base := base) (e := 83) (n := m) e2.own (by simpa [reqVals] using e2.count) ?_, fun p hp => ?_⟩
  · intro x hx; obtain ⟨p, _, rfl⟩ := List.mem_map.1 hx; rfl
  · obtain ⟨a, k, c, q1, q2, q3⟩ := e2.each p hp
    have q2' : k = p.1.bys.length := q2
    rw [q1] at q3
    exact ⟨a, k, c, q1, own_ints (base := base) (e := 3) (by rw [← q2']; exact q3)⟩

theorem nine_frame {w : World} {b : Nat} {cs : Array Value} {t : TypeId} (hb : Blk w b cs t) (v0 v1 v2 v3 v4 v5 v6 v7 v8 : Value) : ∀ k c t', Blk w k c t' → t' ≠ t → (((((((((w.setCell ⟨b, 0, none⟩ v0).setCell ⟨b, 1, none⟩ v1).setCell ⟨b, 2, none⟩ v2).setCell ⟨b, 3, none⟩ v3).setCell ⟨b, 4, none⟩ v4).setCell ⟨b, 5, none⟩ v5).setCell ⟨b, 6, none⟩ v6).setCell ⟨b, 7, none⟩ v7).setCell ⟨b, 8, none⟩ v8).heap[k]? = w.heap[k]? := by
  intro k c t' hk ht
  have hne : k ≠ b := Blk.ne hb hk (Ne.symm ht)
  rw [Below.heap_setCell _ _ _ _ hne, Below.heap_setCell _ _ _ _ hne, Below.heap_setCell _ _ _ _ hne, Below.heap_setCell _ _ _ _ hne, Below.heap_setCell _ _ _ _ hne, Below.heap_setCell _ _ _ _ hne, Below.heap_setCell _ _ _ _ hne, Below.heap_setCell _ _ _ _ hne, Below.heap_setCell _ _ _ _ hne]

/-- What a machine that was handed back bears. -/
structure Behind (w w' : World) (W : WorldR) (J : ByteArray) (S : Int) (v : Value) (ia : Option Addr) (n ic : Nat) (ra : Option Addr) (m rc : Nat) (ja : Option Addr) (jn jc : Nat) (v5 v6 v7 v8 : Value) : Prop where
  val : v = .agg #[.int .i64 W.clock, .slice ia n ic, .slice ra m rc, .slice ja jn jc, .int .i64 S, v5, v6, v7, v8]
  rest : ∃ a5 a6, v5 = .int .i64 a5 ∧ v6 = .int .i64 a6 ∧ (∃ x y z, v7 = .slice x y z) ∧ (∃ x y z, v8 = .slice x y z)
  insts : ∃ B, InstsMem B w' ia n ic W.insts
  reqs : ∃ B, ReqsMem B w' ra m rc W.reqs
  own : w'.ownsRow w.heap.size 5 1 (.slice ja jn jc) jn ((nums J).map (Value.int .u8))
  len : jn = J.size
  quiet : Quiet w w'

set_option maxRecDepth 100000 in
set_option maxHeartbeats 4000000 in
theorem behindM_any (dv sv : Value) (d : Def) (s : List Cmd) (w : World) (hd : DefIs w dv d) (hok : d.ok = true) (h : Cmds w sv s) (hl : s.length ≤ 1048576) (hcr : ∀ c ∈ s, c.reason.size ≤ 9223372036854775807) :
    Calls Tryz.prog 31 #[dv, sv] w fun e w' => ∃ v ia n ic ra m rc ja jn jc v5 v6 v7 v8, e = .returned v ∧ Behind w w' (worldR d (playR d s).log) (bytesR (playR d s).log) (playR d s).safe v ia n ic ra m rc ja jn jc v5 v6 v7 v8 := by
  have hq0 : ∀ (w : World) o, Quiet w (w.alloc o) := fun w o => (Below.refl _ _).alloc (Nat.le_refl _) _
  obtain ⟨a, n, cap, rfl⟩ := h.1.shape
  obtain ⟨hn, hm⟩ := h.len
  have HN : Hid (n = s.length) := hn
  have hnl : n ≤ 1048576 := by omega
  clear hn
  have hd0 := hd
  obtain ⟨da, dn, dcap, rfl, hst⟩ := hd
  clear hst
  have HOK : Hid (d.ok = true) := hok
  clear hok
  obtain ⟨w0, hw0v⟩ : ∃ w0, w0 = (w.alloc (.cells #[.slice da dn dcap, .int .i64 d.quorum, .int .i64 d.expiry] 24)).alloc (.cells #[.int .i64 0, .slice none 0 0, .slice none 0 0, .slice none 0 0, .int .i64 0, .int .i64 0, .int .i64 0, .slice none 0 0, .slice none 0 0] 73) := ⟨_, rfl⟩
  have hsz0 : w0.heap.size = w.heap.size + 1 + 1 := by rw [hw0v]; simp
  have hqw0 : Quiet w w0 := by rw [hw0v]; exact (hq0 _ _).after (hq0 _ _)
  have bd0 : Blk w0 w.heap.size #[.slice da dn dcap, .int .i64 d.quorum, .int .i64 d.expiry] 24 := by rw [hw0v]; exact (Blk.new' rfl).alloc _
  have br0 : Blk w0 (w.heap.size + 1) #[.int .i64 0, .slice none 0 0, .slice none 0 0, .slice none 0 0, .int .i64 0, .int .i64 0, .int .i64 0, .slice none 0 0, .slice none 0 0] 73 := by rw [hw0v]; exact Blk.new' (by simp)
  have HW0 : Hid (w0.heap.size = w.heap.size + 1 + 1) := hsz0
  have HBD : Hid (∀ w2, Quiet w0 w2 → Blk w2 w.heap.size #[.slice da dn dcap, .int .i64 d.quorum, .int .i64 d.expiry] 24 ∧ Blk w2 (w.heap.size + 1) #[.int .i64 0, .slice none 0 0, .slice none 0 0, .slice none 0 0, .int .i64 0, .int .i64 0, .int .i64 0, .slice none 0 0, .slice none 0 0] 73) := fun w2 h2 => ⟨bd0.quiet h2, br0.quiet h2⟩
  have hstart : TMx d w0 (w0.alloc (.cells #[.int .i64 0, .slice none 0 0, .slice none 0 0, .slice none 0 0, .int .i64 0, .int .i64 0, .int .i64 0, .slice none 0 0, .slice none 0 0] 73)) (w.heap.size + 1 + 1) ⟨[], 0, []⟩ := TMx.start d w0 _ (w.heap.size + 1 + 1) (Blk.new' hsz0.symm) (hq0 _ _) (by omega)
  rw [hw0v] at hstart
  have HSt := hstart
  rw [← hw0v] at hstart
  clear bd0 br0 hsz0 HSt
  go_enter Tryz.func31, Tryz.ntmps31
  go_wp2
  go_loopw [6] (fun i wr => ∃ k : Nat, k ≤ n ∧ i = .int .i64 k ∧ TMx d w0 wr (w.heap.size + 1 + 1) (playR d (s.take k))) (fun i _ => n - (intOf i).toNat)
  case atStart => exact ⟨0, Nat.zero_le _, rfl, by rw [hw0v] at hstart ⊢; exact hstart⟩
  case round =>
    clear hstart hw0v
    obtain ⟨k, hk, rfl, hP⟩ := hrel
    obtain ⟨bdr, brr⟩ := HBD.out _ hP.quiet
    by_cases hlt : k < n
    · have hkl : k < s.length := by have := HN.out; omega
      obtain ⟨b, off, rfl, hb, c0, c1, c2, c3, c4, c5, c6⟩ := (h.quiet (hqw0.after hP.quiet)).cell k hkl
      have HL : Hid (playR d (s.take (k + 1)) = playStep d (playR d (s.take k)) s[k]) := foldl_take_succ _ _ _ _ hkl
      obtain ⟨_, hll, _⟩ := playFold d s k (by omega)
      have hcr' := hcr s[k] (List.getElem_mem hkl)
      generalize playR d (s.take k) = T at *
      generalize s[k] = c at *
      have HDo : Hid (∀ U, Quiet wr U → Calls Tryz.prog 36 #[.pointer (some ⟨w.heap.size + 1 + 1, 0, none⟩), .agg #[.slice da dn dcap, .int .i64 d.quorum, .int .i64 d.expiry], .agg #[.int .i64 c.kind, .int .i64 c.inst, .int .i64 c.a, .int .i64 c.b, .int .i64 c.who, .string c.reason, .bool c.dry]] U fun e w' => e = .returned (answerM d T c).val ∧ TMx d w0 w' (w.heap.size + 1 + 1) (playStep d T c) ∧ Frame allTypes U w') := fun U hU =>
        machDo_log w0 U _ d (hd0.quiet hqw0) HOK.out _ T (by omega) (hP.hush hU) c hcr'
      generalize answerM d T c = A at *
      generalize playStep d T c = T2 at *
      have gd := bdr.cell
      have zd := bdr.lt
      have hki : (0 : Int) ≤ (k : Int) := by omega
      have hkj : (k : Int) < (n : Int) := by omega
      go_wp2_with fail
      go_region_with (first | (go_at_call 36; refine (HDo.out _ ?_).mono ?_; (first | exact Below.drew (Below.refl _ _) | exact Below.refl _ _ | exact (Below.refl _ _).drewN); rintro e w2 ⟨rfl, hP2, hF2⟩))
      all_goals (try go_wp2)
      all_goals
        go_roundw
        case rel => exact ⟨k + 1, by omega, by go_num, by rw [HL.out]; exact hP2⟩
        case measure => simp [intOf]; omega
    · have hkn : s.take k = s := by have := HN.out; rw [List.take_of_length_le (by omega)]
      rw [hkn] at hP
      have hqA := hqw0.after hP.quiet
      obtain ⟨kk, _, B, ia, ni, ic, ra, nr, rc, ja, jn, jc, xa, xn, xc, ya, yn, yc, hm⟩ := hP
      have gB := hm.blk.cell
      have zB := hm.blk.lt
      have gr := brr.cell
      have fr := brr.frozen
      have zr := brr.lt
      obtain ⟨ck, HCK⟩ : ∃ ck, Hid ((worldR d (playR d s).log).clock = ck) := ⟨_, rfl⟩
      obtain ⟨bk, HBK⟩ : ∃ bk, Hid ((worldR d ((playR d s).log.take kk)).clock = bk) := ⟨_, rfl⟩
      obtain ⟨sf, HSF⟩ : ∃ sf, Hid ((playR d s).safe = sf) := ⟨_, rfl⟩
      obtain ⟨rn, HRN⟩ : ∃ rn, Hid (bytesN ((playR d s).log.take kk) = rn) := ⟨_, rfl⟩
      rw [HCK.out, HBK.out, HSF.out, HRN.out] at gB
      go_wp2
      refine bodyPost_ret (v := .agg #[.int .i64 ck, .slice ia ni ic, .slice ra nr rc, .slice ja jn jc, .int .i64 sf, .int .i64 rn, .int .i64 bk, .slice xa xn xc, .slice ya yn yc]) (by simp [results, Tryz.results31, go_sem, gr]) rfl ⟨_, ia, ni, ic, ra, nr, rc, ja, jn, jc, .int .i64 (rn : Int), .int .i64 bk, .slice xa xn xc, .slice ya yn yc, rfl, ?_⟩
      have hs := nine_frame brr (.int .i64 ck) (.slice ia ni ic) (.slice ra nr rc) (.slice ja jn jc) (.int .i64 sf) (.int .i64 rn) (.int .i64 bk) (.slice xa xn xc) (.slice ya yn yc)
      refine ⟨by rw [HCK.out, HSF.out], ⟨_, _, rfl, rfl, ⟨_, _, _, rfl⟩, ⟨_, _, _, rfl⟩⟩, ⟨B, ?_⟩, ⟨B, ?_⟩, ?_, hm.len, ?_⟩
      · exact hm.insts.frame (h1 := fun z c hz => hs z c _ hz (by decide)) (h2 := fun z c hz => hs z c _ hz (by decide))
      · exact hm.reqs.frame (h1 := fun z c hz => hs z c _ hz (by decide)) (h2 := fun z c hz => hs z c _ hz (by decide))
      · exact own_base (own_same hm.own (fun z hz => by obtain ⟨cs, hb⟩ := own_blk hm.own hz; exact hs z cs _ hb (by decide))) hqw0.size
      · exact Below.set9 hqA (Nat.le_succ _) _ _ _ _ _ _ _ _ _

end Go.Proofs.YtgcjlgaapiefiabGreat

/-
  Walks of the program: State.
-/
namespace Go.Proofs.YtgcjlgaapiefiabGreat
open Go.RowKit Go.Sort Go.Lib

set_option maxRecDepth 100000 in
set_option maxHeartbeats 4000000 in
theorem stateM_any (dv sv : Value) (d : Def) (s : List Cmd) (w : World) (hd : DefIs w dv d) (h : Cmds w sv s) (hl : s.length ≤ 1048576) (hcr : ∀ c ∈ s, c.reason.size ≤ 9223372036854775807) :
    Calls Tryz.prog 12 #[dv, sv] w fun e w' => Quiet w w' ∧ ((d.ok = false ∧ e = .returned (.tuple #[.agg #[.int .i64 0, .slice none 0 0, .slice none 0 0], .int .i64 1])) ∨
      (d.ok = true ∧ ∃ ia n ic ra m rc, e = .returned (.tuple #[.agg #[.int .i64 (worldR d (playR d s).log).clock, .slice ia n ic, .slice ra m rc], .int .i64 0]) ∧ InstsAt w' (.slice ia n ic) (worldR d (playR d s).log).insts ∧ ReqsAt w' (.slice ra m rc) (worldR d (playR d s).log).reqs)) := by
  have hq0 : ∀ (w : World) o, Quiet w (w.alloc o) := fun w o => (Below.refl _ _).alloc (Nat.le_refl _) _
  have hd0 := hd
  obtain ⟨da, dn, dcap, rfl, hst⟩ := hd
  clear hst
  go_enter Tryz.func12, Tryz.ntmps12
  go_wp2_with fail
  refine calls_gen (fun V => Blk V w.heap.size #[.slice da dn dcap, .int .i64 d.quorum, .int .i64 d.expiry] 24 ∧ Blk V (w.heap.size + 1) #[.int .i64 0, .slice none 0 0, .slice none 0 0] 47 ∧ Quiet w V) ⟨(Blk.new' rfl).alloc _, Blk.new' (by simp), (hq0 _ _).after (hq0 _ _)⟩ ?_
  rintro V ⟨bd, br, hqV⟩
  refine (check_any _ d V (hd0.quiet hqV)).mono ?_
  rintro e w1 ⟨rfl, hq1⟩
  replace bd := bd.quiet hq1
  replace br := br.quiet hq1
  replace hqV : Quiet w w1 := hqV.after hq1
  clear hq1
  cases hok : d.ok
  · have hck : (chk false != 0) = true := by decide
    have gr := br.cell
    have fr := br.frozen
    go_wp2
    refine bodyPost_ret (v := .tuple #[.agg #[.int .i64 0, .slice none 0 0, .slice none 0 0], .int .i64 1]) (by simp [results, Tryz.results12, go_sem, chk, gr]) rfl ⟨?_, .inl ⟨hok, rfl⟩⟩
    exact ((hqV.setCell (p := ⟨w.heap.size + 1, 0, none⟩) (Nat.le_succ _) _).setCell (p := ⟨w.heap.size + 1, 1, none⟩) (Nat.le_succ _) _).setCell (p := ⟨w.heap.size + 1, 2, none⟩) (Nat.le_succ _) _
  · have hck : (chk true != 0) = false := by decide
    have HOK : Hid (d.ok = true) := hok
    have HBe : Hid (Calls Tryz.prog 31 #[.agg #[.slice da dn dcap, .int .i64 d.quorum, .int .i64 d.expiry], sv] w1 fun e w' => ∃ v ia n ic ra m rc ja jn jc v5 v6 v7 v8, e = .returned v ∧ Behind w1 w' (worldR d (playR d s).log) (bytesR (playR d s).log) (playR d s).safe v ia n ic ra m rc ja jn jc v5 v6 v7 v8) := behindM_any _ sv d s w1 (hd0.quiet hqV) hok (h.quiet hqV) hl hcr
    obtain ⟨_, hll, _⟩ := playFold d s s.length (Nat.le_refl _)
    rw [List.take_length] at hll
    obtain ⟨htape, _, _⟩ := playFold d s s.length (Nat.le_refl _)
    rw [List.take_length] at htape
    obtain ⟨hbd, _⟩ := worldR_bd hok htape.log (by omega)
    have HLED : Hid (∀ x ∈ (worldR d (playR d s).log).insts, x.ledger.length ≤ 2199023255552) := fun x hx => by have := (hbd.insts x hx).2.2.2.2.2.2; omega
    clear hok hbd htape
    have gd := bd.cell
    have zd := bd.lt
    go_wp2_with fail
    refine HBe.out.mono ?_
    rintro e w2 ⟨v, ia, n, ic, ra, m, rc, ja, jn, jc, v5, v6, v7, v8, rfl, hb⟩
    obtain ⟨hv, ⟨a5, a6, rfl, rfl, ⟨x7, y7, z7, rfl⟩, ⟨x8, y8, z8, rfl⟩⟩, ⟨B1, hI⟩, ⟨B2, hR⟩, hown, hjl, hq2⟩ := hb
    obtain ⟨ck, HCK⟩ : ∃ ck, Hid ((worldR d (playR d s).log).clock = ck) := ⟨_, rfl⟩
    rw [HCK.out] at hv
    subst hv
    obtain ⟨sf, HSF⟩ : ∃ sf, Hid ((playR d s).safe = sf) := ⟨_, rfl⟩
    obtain ⟨jl, HJL⟩ : ∃ jl, Hid (jl = jn) := ⟨_, rfl⟩
    rw [HSF.out, ← HJL.out]
    clear hown hjl gd zd
    go_upto_region 5 with (fail)
    refine wp_gen (fun U => Blk U w2.heap.size #[.int .i64 ck, .slice ia n ic, .slice ra m rc, .slice ja jl jc, .int .i64 sf, .int .i64 a5, .int .i64 a6, .slice x7 y7 z7, .slice x8 y8 z8] 73 ∧ Quiet w2 U) ⟨Blk.new' rfl, hq0 _ _⟩ ?_
    rintro U ⟨bm, hqU⟩
    have br2 := (br.quiet hq2).quiet hqU
    have gr := br2.cell
    have fr := br2.frozen
    have zr := br2.lt
    have gm := bm.cell
    have zm := bm.lt
    have hqF : Quiet w U := (hqV.after hq2).after hqU
    have hIU := hI.quiet (hq := hqU)
    have hRU := hR.quiet (hq := hqU)
    have hs := set3_frame br2 (.int .i64 ck) (.slice ia n ic) (.slice ra m rc)
    clear hI hR
    go_wp2
    refine bodyPost_ret (v := .tuple #[.agg #[.int .i64 ck, .slice ia n ic, .slice ra m rc], .int .i64 0]) (by simp [results, Tryz.results12, go_sem, gr]) rfl ⟨?_, .inr ⟨HOK.out, ia, n, ic, ra, m, rc, by rw [HCK.out], ?_, ?_⟩⟩
    · exact ((hqF.setCell (p := ⟨w.heap.size + 1, 0, none⟩) (Nat.le_succ _) _).setCell (p := ⟨w.heap.size + 1, 1, none⟩) (Nat.le_succ _) _).setCell (p := ⟨w.heap.size + 1, 2, none⟩) (Nat.le_succ _) _
    · exact insMem_at (hIU.frame (h1 := fun z c hz => hs z c _ hz (by decide)) (h2 := fun z c hz => hs z c _ hz (by decide))) HLED.out
    · exact reqMem_at (hRU.frame (h1 := fun z c hz => hs z c _ hz (by decide)) (h2 := fun z c hz => hs z c _ hz (by decide)))

end Go.Proofs.YtgcjlgaapiefiabGreat

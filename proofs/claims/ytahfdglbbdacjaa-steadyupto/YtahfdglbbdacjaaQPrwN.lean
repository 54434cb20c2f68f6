import Derived.Test.YtahfdglbbdacjaaQPrwP
import Derived.Test.YtahfdglbbdacjaaQPlyA
import Derived.Test.YtahfdglbbdacjaaQSame

/-
  Walks of the program: Run and State.
-/
namespace Go.Proofs.Ytahfdglbbdacjaa
open Go.RowKit Go.Sort

theorem stepP_ok {d : Def} (h : d.ok = true) : DOk d := by
  have hs := stepsOk_of d h
  have key : ∀ k, stepP d k = default ∨ stepP d k ∈ d.steps := by
    intro k
    unfold stepP
    split
    · exact .inl rfl
    · by_cases hk : k.toNat < d.steps.length
      · rw [List.getD, List.getElem?_eq_getElem hk]; exact .inr (List.getElem_mem hk)
      · rw [List.getD, List.getElem?_eq_none (by omega)]; exact .inl rfl
  have hz : (default : Step) = ⟨false, false, 0, 0⟩ := rfl
  obtain ⟨_, _, e1, e2, _⟩ := quorum_ok h
  refine ⟨fun k => ?_, fun k => ?_, by omega, e2⟩
  · rcases key k with e | e
    · rw [e, hz]; decide
    · exact (hs _ e).2.1
  · rcases key k with e | e
    · rw [e, hz]; decide
    · have := hs _ e; omega

/-- The world of a log that came about is bounded. -/
theorem worldR_bd {d : Def} (hok : d.ok = true) {l : List Cmd} (h : LogOk d l) (hl : l.length ≤ 4194304) : WBd (worldR d l) ∧ (worldR d l).insts.length ≤ 4 := by
  obtain ⟨q0, q3, e1, e50, n1, n6⟩ := quorum_ok hok
  have hck := h.clock l.length (Nat.le_refl _)
  rw [List.take_length] at hck
  refine ⟨⟨hck, fun x hx => ?_, ?_, fun r hr => ?_⟩, ?_⟩
  · simp only [worldR, List.mem_map] at hx
    obtain ⟨id, _, rfl⟩ := hx
    have hg := h.good (by omega) id
    have hk := inst_keys d l id (by omega)
    have hs : 0 ≤ settledR (instanceR d l id).ledger ∧ settledR (instanceR d l id).ledger ≤ d.steps.length := by
      rcases hg.modes with ⟨_, h2, h3, _⟩ | ⟨_, h2, h3, h4, _⟩ | ⟨_, _, _, h4⟩ | ⟨_, _, _, h4, _⟩ <;> omega
    rw [instanceR_settled]
    have h1 := hg.keys
    have h2 := hg.tries
    omega
  · have := (h.reqs hok).2
    show (requestsR d l).length ≤ 1000
    omega
  · have hr' := (h.reqs hok).1 r hr
    have := hr'.most
    have := hr'.what
    omega
  · show ((startedR l).map (instanceR d l)).length ≤ 4
    rw [List.length_map]; exact h.ids.four

theorem cmdOk_of {d : Def} (hok : d.ok = true) {l : List Cmd} (h : LogOk d l) (c : Cmd) (hc : (answerP d (worldR d l) c).code = 0) : CmdOk (worldR d l) c := by
  rw [answer_eq hok h] at hc
  refine ⟨kind_ok hc, fun h4 => ?_, fun h5 => ?_, fun h67 => ?_⟩
  · have := tick_ok hc h4; omega
  · have := ask_ok hc h5; omega
  · obtain ⟨_, ho⟩ := decided_ok hc h67
    obtain ⟨hlt, e1, _, _⟩ := openP_some ho
    refine ⟨_, e1, ?_⟩
    have := ((h.reqs hok).1 _ (List.getElem_mem hlt)).most
    have := quorum_ok hok
    omega

/-- A script without SYNC and CRASH: its log, its answers. -/
def logOf (d : Def) (s : List Cmd) : List Cmd := s.foldl (logStep d) []
def answersOf (d : Def) (s : List Cmd) : List Answer := (List.range s.length).map fun k => answerR d (logOf d (s.take k)) (s.getD k default)

theorem logOf_ok (d : Def) (s : List Cmd) : LogOk d (logOf d s) := by
  unfold logOf
  suffices h : ∀ l, LogOk d l → LogOk d (s.foldl (logStep d) l) from h [] (LogOk.nil d)
  induction s with
  | nil => intro l hl; exact hl
  | cons c s ih => intro l hl; exact ih _ (logStep_ok hl c)
theorem logOf_len (d : Def) (s : List Cmd) (k : Nat) (hk : k ≤ s.length) : (logOf d (s.take k)).length ≤ k := by
  induction k with
  | zero => simp [logOf]
  | succ k ih =>
    have e : logOf d (s.take (k + 1)) = logStep d (logOf d (s.take k)) s[k] := foldl_take_succ _ _ _ _ (by omega)
    rw [e]
    have := ih (by omega)
    unfold logStep
    split
    · simp; omega
    · omega
theorem answersOf_take (d : Def) (s : List Cmd) (k : Nat) (hk : k < s.length) : answersOf d (s.take (k + 1)) = answersOf d (s.take k) ++ [answerR d (logOf d (s.take k)) s[k]] := by
  have h1 : (s.take (k + 1)).length = k + 1 := by simp; omega
  have h2 : (s.take k).length = k := by simp; omega
  unfold answersOf
  rw [h1, h2, List.range_succ, List.map_append]
  congr 1
  · apply List.map_congr_left
    intro j hj
    have hj' : j < k := List.mem_range.1 hj
    rw [List.take_take, List.take_take, Nat.min_eq_left (by omega), Nat.min_eq_left (by omega)]
    congr 1
    simp only [List.getD, List.getElem?_take]
    rw [if_pos (by omega), if_pos hj']
  · simp only [List.map_cons, List.map_nil]
    rw [List.take_take, Nat.min_eq_left (by omega)]
    congr 2
    simp only [List.getD, List.getElem?_take]
    rw [if_pos (by omega), List.getElem?_eq_getElem hk]; rfl
theorem answersOf_len (d : Def) (s : List Cmd) : (answersOf d s).length = s.length := by simp [answersOf]

end Go.Proofs.Ytahfdglbbdacjaa

/-
  Walks of the program: Run.
-/
namespace Go.Proofs.Ytahfdglbbdacjaa
open Go.RowKit Go.Sort

theorem PW.start (w0 w : World) (pb : Nat) (hB : Blk w pb #[.int .i64 0, .slice none 0 0, .slice none 0 0] 39) (hq : Quiet w0 w) (hb : w0.heap.size ≤ pb) :
    PW w0 w pb 0 39 #[.int .i64 0, .slice none 0 0, .slice none 0 0] ⟨0, [], []⟩ none 0 0 none 0 0 := by
  refine ⟨⟨hB, fun j hj => ?_⟩, ⟨[], rfl, rfl, World.ownsRow_nil _ _ _ _, by simp, by simp⟩, ⟨[], rfl, rfl, World.ownsRow_nil _ _ _ _, by simp, by simp⟩, hq, hb, by unfold Aside; decide⟩
  match j, hj with
  | 0, _ => rfl
  | 1, _ => rfl
  | 2, _ => rfl

/-- What Run and State hold on to. -/
def PWs (w0 w : World) (pb : Nat) (W : WorldR) : Prop := ∃ pcs ia n ic ra m rc, PW w0 w pb 0 39 pcs W ia n ic ra m rc
theorem PWs.hush {w0 w w' : World} {pb : Nat} {W : WorldR} (h : PWs w0 w pb W) (hq : Quiet w w') : PWs w0 w' pb W := by
  obtain ⟨pcs, ia, n, ic, ra, m, rc, h⟩ := h; exact ⟨pcs, ia, n, ic, ra, m, rc, h.hush hq⟩
theorem PWs.quiet {w0 w : World} {pb : Nat} {W : WorldR} (h : PWs w0 w pb W) : Quiet w0 w := by
  obtain ⟨pcs, ia, n, ic, ra, m, rc, h⟩ := h; exact h.quiet
/-- Behind an append to a row of another type. -/
theorem PWs.grow {w0 w w' : World} {pb : Nat} {W : WorldR} {o : Obj} {base : Nat} {v : Value} {k : Nat} {xs : List Value} (h : PWs w0 w pb W) (hg : (w.alloc o).grownBy w' v.ownBlock) (ho : w.ownsRow base 57 4 v k xs) (hb : ∀ z, v.ownBlock = some z → w0.heap.size ≤ z) : PWs w0 w' pb W := by
  obtain ⟨pcs, ia, n, ic, ra, m, rc, h⟩ := h
  have hF : Frame [57] w w' := grown_frame hg (fun z hz => own_blk ho hz) (by simp)
  refine ⟨pcs, ia, n, ic, ra, m, rc, ⟨hF.blk h.row.1 (by decide), h.row.2⟩, h.insts.frame (h1 := fun z c hz => hF.2 z c _ hz (by decide)) (h2 := fun z c hz => hF.2 z c _ hz (by decide)), h.reqs.frame (h1 := fun z c hz => hF.2 z c _ hz (by decide)) (h2 := fun z c hz => hF.2 z c _ hz (by decide)), ?_, h.above, h.aside⟩
  exact Below.grown (h.quiet.alloc h.quiet.size _) hg (by have := h.quiet.size; simp; omega) hb
theorem PWs.four {w0 w : World} {pb : Nat} {W : WorldR} (h : PWs w0 w pb W) {b : Nat} {cs : Array Value} (hb : Blk w b cs 57) (hw : w0.heap.size ≤ b) (v0 v1 v2 v3 : Value) :
    PWs w0 ((((w.setCell ⟨b, 0, none⟩ v0).setCell ⟨b, 1, none⟩ v1).setCell ⟨b, 2, none⟩ v2).setCell ⟨b, 3, none⟩ v3) pb W := by
  obtain ⟨pcs, ia, n, ic, ra, m, rc, h⟩ := h
  have ht : 57 ∉ worldTypes 39 := by decide
  exact ⟨pcs, ia, n, ic, ra, m, rc, (((h.asideSet hb ht hw 0 v0).asideSet (hb.set 0 v0) ht hw 1 v1).asideSet ((hb.set 0 v0).set 1 v1) ht hw 2 v2).asideSet (((hb.set 0 v0).set 1 v1).set 2 v2) ht hw 3 v3⟩
theorem worldR_nil (d : Def) : worldR d [] = ⟨0, [], []⟩ := rfl

theorem do_log (w0 w : World) (dv : Value) (d : Def) (hd : DefIs w0 dv d) (hok : d.ok = true) (pb : Nat) (l : List Cmd) (hl : LogOk d l) (hlen : l.length ≤ 4194304) (h : PWs w0 w pb (worldR d l)) (c : Cmd) (hcr : c.reason.size ≤ 9223372036854775807) :
    Calls Try.prog 38 #[dv, .pointer (some ⟨pb, 0, none⟩), c.val] w fun e w' => e = .returned (answerR d l c).val ∧ PWs w0 w' pb (worldR d (logStep d l c)) ∧ Frame (worldTypes 39) w w' := by
  obtain ⟨pcs, ia, n, ic, ra, m, rc, h⟩ := h
  obtain ⟨hb, hi⟩ := worldR_bd hok hl hlen
  refine (do_any w0 w dv d hd (stepP_ok hok) pb 0 _ pcs (worldR d l) ia n ic ra m rc h hb (by have := h.ilen; omega) c hcr (cmdOk_of hok hl c) (by decide)).mono ?_
  rintro e w' ⟨rfl, pcs', ia', n', ic', ra', m', rc', hP, hF⟩
  rw [doP_eq hok hl] at hP
  rw [answer_eq hok hl]
  exact ⟨rfl, ⟨pcs', ia', n', ic', ra', m', rc', hP⟩, hF⟩

set_option maxRecDepth 100000 in
set_option maxHeartbeats 4000000 in
theorem run_any (dv sv : Value) (d : Def) (s : List Cmd) (w : World) (hd : DefIs w dv d) (h : Cmds w sv s) (hl : s.length ≤ 4194304) (hcr : ∀ c ∈ s, c.reason.size ≤ 9223372036854775807) :
    Calls Try.prog 18 #[dv, sv] w fun e w' => Quiet w w' ∧ ((d.ok = false ∧ e = .returned (.tuple #[.slice none 0 0, .int .i64 1])) ∨
      (d.ok = true ∧ ∃ aa ac, e = .returned (.tuple #[.slice aa s.length ac, .int .i64 0]) ∧ w'.ownsRow w.heap.size 57 4 (.slice aa s.length ac) s.length (ansVals (answersOf d s)))) := by
  obtain ⟨i0, hi, hz0, hz1, hz2⟩ := info_parts Try.info57
  have hq0 : ∀ (w : World) o, Quiet w (w.alloc o) := fun w o => (Below.refl _ _).alloc (Nat.le_refl _) _
  obtain ⟨a, n, cap, rfl⟩ := h.1.shape
  obtain ⟨hn, hm⟩ := h.len
  have HN : Hid (n = s.length) := hn
  have hnl : n ≤ 4194304 := by omega
  clear hn
  have hd0 := hd
  obtain ⟨da, dn, dcap, rfl, hst⟩ := hd
  clear hst
  go_enter Try.func18, Try.ntmps18
  go_wp2_with fail
  refine calls_gen (fun V => Blk V w.heap.size #[.slice da dn dcap, .int .i64 d.quorum, .int .i64 d.expiry] 24 ∧ Quiet w V) ⟨Blk.new' rfl, hq0 _ _⟩ ?_
  rintro V ⟨bd, hqV⟩
  refine (check_any _ d V (hd0.quiet hqV)).mono ?_
  rintro e w1 ⟨rfl, hq1⟩
  replace bd := bd.quiet hq1
  replace hqV : Quiet w w1 := hqV.after hq1
  clear hq1
  cases hok : d.ok
  · have hck : (chk false != 0) = true := by decide
    go_wp2
    refine bodyPost_ret (v := .tuple #[.slice none 0 0, .int .i64 1]) (by simp [results, Try.results18, go_sem, chk]) rfl ⟨hqV, .inl ⟨hok, rfl⟩⟩
  · have hck : (chk true != 0) = false := by decide
    have HOK : Hid (d.ok = true) := hok
    clear hok
    have hd1 := hd0.quiet hqV
    go_wp2
    go_loopw [8, 9] (fun av i wr => ∃ k : Nat, k ≤ n ∧ i = .int .i64 k ∧ PWs w1 wr w1.heap.size (worldR d (logOf d (s.take k))) ∧ Blk wr w.heap.size #[.slice da dn dcap, .int .i64 d.quorum, .int .i64 d.expiry] 24 ∧ wr.ownsRow w1.heap.size 57 4 av k (ansVals (answersOf d (s.take k)))) (fun _ i _ => n - (intOf i).toNat)
    case atStart => exact ⟨0, Nat.zero_le _, rfl, ⟨_, _, _, _, _, _, _, PW.start w1 _ w1.heap.size (Blk.new' rfl) (hq0 _ _) (Nat.le_refl _)⟩, bd.alloc _, World.ownsRow_nil _ _ _ _⟩
    case round =>
      obtain ⟨k, hk, rfl, hP, bdr, hans⟩ := hrel
      by_cases hlt : k < n
      · have hkl : k < s.length := by have := HN.out; omega
        obtain ⟨b, off, rfl, hb, e0, e1, e2, e3, e4, e5, e6⟩ := (h.quiet hqV).cell k hkl
        have c0 := ((bcell hP.quiet).1 _ _ hb).trans e0
        have c1 := ((bcell hP.quiet).1 _ _ hb).trans e1
        have c2 := ((bcell hP.quiet).1 _ _ hb).trans e2
        have c3 := ((bcell hP.quiet).1 _ _ hb).trans e3
        have c4 := ((bcell hP.quiet).1 _ _ hb).trans e4
        have c5 := ((bcell hP.quiet).1 _ _ hb).trans e5
        have c6 := ((bcell hP.quiet).1 _ _ hb).trans e6
        have HL : Hid (logOf d (s.take (k + 1)) = logStep d (logOf d (s.take k)) s[k]) := foldl_take_succ _ _ _ _ hkl
        have HA : Hid (answersOf d (s.take (k + 1)) = answersOf d (s.take k) ++ [answerR d (logOf d (s.take k)) s[k]]) := answersOf_take d s k hkl
        have hlo := logOf_ok d (s.take k)
        have hll := logOf_len d s k (by omega)
        have hcr' := hcr s[k] (List.getElem_mem hkl)
        generalize logOf d (s.take k) = l at *
        generalize answersOf d (s.take k) = an at *
        generalize s[k] = c at *
        have HDo : Hid (∀ U, Quiet wr U → Calls Try.prog 38 #[.agg #[.slice da dn dcap, .int .i64 d.quorum, .int .i64 d.expiry], .pointer (some ⟨w1.heap.size, 0, none⟩), .agg #[.int .i64 c.kind, .int .i64 c.inst, .int .i64 c.a, .int .i64 c.b, .int .i64 c.who, .string c.reason, .bool c.dry]] U fun e w' => e = .returned (answerR d l c).val ∧ PWs w1 w' w1.heap.size (worldR d (logStep d l c)) ∧ Frame (worldTypes 39) U w') := fun U hU =>
          do_log w1 U _ d hd1 HOK.out w1.heap.size l hlo (by omega) (hP.hush hU) c hcr'
        generalize answerR d l c = A at *
        have gd := bdr.cell
        have zd := bdr.lt
        have hbn2 : b < wr.heap.size := Nat.lt_of_lt_of_le hb hP.quiet.size
        have hbn : b ≠ wr.heap.size := by omega
        have hdn : w.heap.size ≠ wr.heap.size := by omega
        have hbn3 : wr.heap.size ≠ b := by omega
        have hdn3 : wr.heap.size ≠ w.heap.size := by omega
        have hki : (0 : Int) ≤ (k : Int) := by omega
        have hkj : (k : Int) < (n : Int) := by omega
        go_wp2_with fail
        go_cut [10] (fun s10 wc => ∃ ab, s10 = .pointer (some ⟨ab, 0, none⟩) ∧ Blk wc ab #[.int .i64 A.code, .int .i64 A.number, .int .i64 A.step, .int .i64 A.what] 57 ∧ PWs w1 wc w1.heap.size (worldR d (logStep d l c)) ∧ Blk wc w.heap.size #[.slice da dn dcap, .int .i64 d.quorum, .int .i64 d.expiry] 24 ∧ wc.ownsRow w1.heap.size 57 4 u8 k (ansVals an))
        case first =>
          go_region_held3 (fun w' => (w'.cell? ⟨w.heap.size, 0, none⟩ = some (.slice da dn dcap) ∧ w'.cell? ⟨w.heap.size, 1, none⟩ = some (.int .i64 d.quorum) ∧ w'.cell? ⟨w.heap.size, 2, none⟩ = some (.int .i64 d.expiry)) ∧ w'.cell? ⟨b, off + k * 7, none⟩ = some (.int .i64 c.kind) ∧ w'.cell? ⟨b, off + k * 7 + 1, none⟩ = some (.int .i64 c.inst) ∧ w'.cell? ⟨b, off + k * 7 + 2, none⟩ = some (.int .i64 c.a) ∧ w'.cell? ⟨b, off + k * 7 + 3, none⟩ = some (.int .i64 c.b) ∧ w'.cell? ⟨b, off + k * 7 + 4, none⟩ = some (.int .i64 c.who) ∧ w'.cell? ⟨b, off + k * 7 + 5, none⟩ = some (.string c.reason) ∧ w'.cell? ⟨b, off + k * 7 + 6, none⟩ = some (.bool c.dry)) (go_keep) (first | (go_at_call 38; refine (HDo.out _ ?_).mono ?_; (first | exact Below.refl _ _ | exact Below.drew (Below.refl _ _) | exact (Below.refl _ _).drewN | exact (Below.refl _ _).alloc (Nat.le_refl _) _ | exact Below.drew ((Below.refl _ _).alloc (Nat.le_refl _) _) | exact ((Below.refl _ _).alloc (Nat.le_refl _) _).drewN | exact Below.alloc (Below.drew (Below.refl _ _)) (Nat.le_refl _) _); rintro e w2 ⟨rfl, hP2, hF2⟩; have k0 := ((bcell hP2.quiet).1 _ _ hb).trans e0; have k1 := ((bcell hP2.quiet).1 _ _ hb).trans e1; have k2 := ((bcell hP2.quiet).1 _ _ hb).trans e2; have k3 := ((bcell hP2.quiet).1 _ _ hb).trans e3; have k4 := ((bcell hP2.quiet).1 _ _ hb).trans e4; have k5 := ((bcell hP2.quiet).1 _ _ hb).trans e5; have k6 := ((bcell hP2.quiet).1 _ _ hb).trans e6; have kd := (bd.quiet hP2.quiet).cell; have hans9 := hF2.own (own_quiet hans (by first | exact Below.refl _ _ | exact Below.drew (Below.refl _ _) | exact (Below.refl _ _).drewN | exact Below.drew (hq0 _ _) | exact (hq0 _ _).drewN | exact hq0 _ _ | exact Below.alloc (Below.drew (Below.refl _ _)) (Nat.le_refl _) _)) (by decide); (first | (have bz := hF2.blk (Blk.drew (Blk.new' (w := wr) (b := wr.heap.size) rfl)) (by decide); have bzc := bz.cell; have bzf := bz.frozen) | (have bz := hF2.blk (Blk.new' (w := wr.drew) (b := wr.heap.size) rfl) (by decide); have bzc := bz.cell; have bzf := bz.frozen) | (have bz := hF2.blk (Blk.new' (w := wr) (b := wr.heap.size) rfl) (by decide); have bzc := bz.cell; have bzf := bz.frozen) | (have bz := True.intro)); simp only [Answer.val]))
          all_goals (try go_wp2)
          all_goals
            go_meet
            case rel =>
              have hne : u8.ownBlock ≠ some wr.heap.size := fun e => by have := (own_ge hans _ e).2; omega
              refine ⟨_, rfl, ?_, ?_, ?_, ?_⟩
              · first | (with_reducible exact Blk.new' rfl) | exact bz.four (by simp) _ _ _ _
              · first | (with_reducible exact PWs.hush hP2 (hq0 _ _)) | exact PWs.four hP2 bz hP.quiet.size _ _ _ _
              · first | (with_reducible exact Blk.alloc (bd.quiet hP2.quiet) _) | exact ((((bd.quiet hP2.quiet).other _ hdn).other _ hdn).other _ hdn).other _ hdn
              · first | (with_reducible exact World.ownsRow.alloc hans9 _) | exact ownsRow_setCell_other (ownsRow_setCell_other (ownsRow_setCell_other (ownsRow_setCell_other hans9 hne _) hne _) hne _) hne _
        case rest =>
          obtain ⟨ab, rfl, ba, hP2, bd2, hans2⟩ := hcut
          clear gd zd c0 c1 c2 c3 c4 c5 c6 e0 e1 e2 e3 e4 e5 e6 HDo hP bdr hans
          have ga := ba.cell
          have hsz := hP2.quiet.size
          have hsz2 := hqV.size
          go_wp2_with (at_builtin; refine wpList_append_own _ rfl _ _ 32 rfl w1.heap.size 57 i0 (.agg #[.int .i64 0, .int .i64 0, .int .i64 0, .int .i64 0]) 4 32 Try.underlying32 hi hz0 hz1 hz2 rfl (by decide) _ _ _ rfl (hans2.alloc _) ⟨wc.heap.size, 0, none⟩ 1 1 A.cells rfl rfl ?c1 ?c2 ?c3 ?c4 ?c5 ?_)
          case c1 => exact answer_new wc _ _ _ _
          case c2 => intro u hu; simp [Answer.cells] at hu; rcases hu with rfl | rfl | rfl | rfl <;> rfl
          case c3 => unfold maxLen; omega
          case c4 => omega
          case c5 => simp; omega
          intro v' w4 hown4 hgrow _
          have hF4 : Frame [57] wc w4 := grown_frame hgrow (fun z hz => own_blk hans2 hz) (by simp)
          go_wp2
          go_roundw
          case rel =>
            refine ⟨k + 1, by omega, by go_num, ?_, hF4.blk bd2 (by decide), ?_⟩
            · rw [HL.out]
              exact hP2.grow hgrow hans2 (fun z hz => (own_ge hans2 z hz).1)
            · rw [HA.out]
              have e : ansVals (an ++ [A]) = ansVals an ++ A.cells := by unfold ansVals; simp
              rw [e]; exact hown4
          case measure => simp [intOf]; omega
      · have hkn : s.take k = s := by have := HN.out; rw [List.take_of_length_le (by omega)]
        rw [hkn] at hans
        have hks : k = s.length := by have := HN.out; omega
        obtain ⟨aa, ac, rfl⟩ := own_shape hans
        go_wp2
        refine bodyPost_ret (v := .tuple #[.slice aa k ac, .int .i64 0]) (by simp [results, Try.results18, go_sem]) rfl ⟨hqV.after hP.quiet, .inr ⟨HOK.out, aa, ac, by rw [← hks], by rw [← hks]; exact own_base hans hqV.size⟩⟩

end Go.Proofs.Ytahfdglbbdacjaa

/-
  Walks of the program: State.
-/
namespace Go.Proofs.Ytahfdglbbdacjaa
open Go.RowKit Go.Sort

/-- What the comparisons want. -/
theorem insMem_at {base : Nat} {w : World} {ia : Option Addr} {n ic : Nat} {xs : List Inst} (h : InstsMem base w ia n ic xs) (hb : ∀ x ∈ xs, x.ledger.length ≤ 2199023255552) : InstsAt w (.slice ia n ic) xs := by
  obtain ⟨ps, e1, e2⟩ := h
  refine ⟨ps, e1, own_arr (base := base) (e := 47) (n := n) e2.own (by simpa [instVals] using e2.count) ?_, fun p hp => ?_⟩
  · intro x hx; obtain ⟨p, _, rfl⟩ := List.mem_map.1 hx; rfl
  · obtain ⟨a, k, c, q1, q2, q3⟩ := e2.each p hp
    rw [q1] at q3
    exact ⟨a, k, c, q1, own_ents q3 q2 (hb p.1 (by rw [← e1]; exact List.mem_map_of_mem hp))⟩
theorem reqMem_at {base : Nat} {w : World} {ra : Option Addr} {m rc : Nat} {rs : List Req} (h : ReqsMem base w ra m rc rs) : ReqsAt w (.slice ra m rc) rs := by
  obtain ⟨ps, e1, e2⟩ := h
  refine ⟨ps, e1, own_arr (base := base) (e := 78) (n := m) e2.own (by simpa [reqVals] using e2.count) ?_, fun p hp => ?_⟩
  · intro x hx; obtain ⟨p, _, rfl⟩ := List.mem_map.1 hx; rfl
  · obtain ⟨a, k, c, q1, q2, q3⟩ := e2.each p hp
    have q2' : k = p.1.bys.length := q2
    rw [q1] at q3
    exact ⟨a, k, c, q1, own_ints (base := base) (e := 3) (by rw [← q2']; exact q3)⟩
theorem set3_frame {w : World} {b : Nat} {cs : Array Value} {t : TypeId} (hb : Blk w b cs t) (v0 v1 v2 : Value) : ∀ k c t', Blk w k c t' → t' ≠ t → (((w.setCell ⟨b, 0, none⟩ v0).setCell ⟨b, 1, none⟩ v1).setCell ⟨b, 2, none⟩ v2).heap[k]? = w.heap[k]? := by
  intro k c t' hk ht
  have hne : k ≠ b := Blk.ne hb hk (Ne.symm ht)
  rw [Below.heap_setCell _ _ _ _ hne, Below.heap_setCell _ _ _ _ hne, Below.heap_setCell _ _ _ _ hne]

set_option maxRecDepth 100000 in
set_option maxHeartbeats 4000000 in
theorem state_any (dv sv : Value) (d : Def) (s : List Cmd) (w : World) (hd : DefIs w dv d) (h : Cmds w sv s) (hl : s.length ≤ 4194304) (hcr : ∀ c ∈ s, c.reason.size ≤ 9223372036854775807) :
    Calls Try.prog 21 #[dv, sv] w fun e w' => Quiet w w' ∧ ((d.ok = false ∧ e = .returned (.tuple #[.agg #[.int .i64 0, .slice none 0 0, .slice none 0 0], .int .i64 1])) ∨
      (d.ok = true ∧ ∃ ia n ic ra m rc, e = .returned (.tuple #[.agg #[.int .i64 (worldR d (logOf d s)).clock, .slice ia n ic, .slice ra m rc], .int .i64 0]) ∧ InstsAt w' (.slice ia n ic) (worldR d (logOf d s)).insts ∧ ReqsAt w' (.slice ra m rc) (worldR d (logOf d s)).reqs)) := by
  have hq0 : ∀ (w : World) o, Quiet w (w.alloc o) := fun w o => (Below.refl _ _).alloc (Nat.le_refl _) _
  obtain ⟨a, n, cap, rfl⟩ := h.1.shape
  obtain ⟨hn, hm⟩ := h.len
  have HN : Hid (n = s.length) := hn
  have hnl : n ≤ 4194304 := by omega
  clear hn
  have hd0 := hd
  obtain ⟨da, dn, dcap, rfl, hst⟩ := hd
  clear hst
  go_enter Try.func21, Try.ntmps21
  go_wp2_with fail
  refine calls_gen (fun V => Blk V w.heap.size #[.slice da dn dcap, .int .i64 d.quorum, .int .i64 d.expiry] 24 ∧ Blk V (w.heap.size + 1) #[.int .i64 0, .slice none 0 0, .slice none 0 0] 39 ∧ Blk V (w.heap.size + 1 + 1) #[.int .i64 0, .slice none 0 0, .slice none 0 0] 39 ∧ ∃ w0, w0.heap.size = w.heap.size + 1 + 1 ∧ Quiet w w0 ∧ Quiet w0 V) ⟨((Blk.new' rfl).alloc _).alloc _, (Blk.new' (by simp)).alloc _, Blk.new' (by simp), (w.alloc (.cells #[.slice da dn dcap, .int .i64 d.quorum, .int .i64 d.expiry] 24)).alloc (.cells #[.int .i64 0, .slice none 0 0, .slice none 0 0] 39), by simp, (hq0 _ _).alloc (by simp) _, hq0 _ _⟩ ?_
  rintro V ⟨bd, br, bw, w0, hw0, hq0w, hqV⟩
  refine (check_any _ d V (hd0.quiet (hq0w.after hqV))).mono ?_
  rintro e w1 ⟨rfl, hq1⟩
  replace bd := bd.quiet hq1
  replace br := br.quiet hq1
  replace bw := bw.quiet hq1
  replace hqV : Quiet w0 w1 := hqV.after hq1
  clear hq1
  cases hok : d.ok
  · have hck : (chk false != 0) = true := by decide
    have gr := br.cell
    have fr := br.frozen
    have gw := bw.cell
    go_wp2
    refine bodyPost_ret (v := .tuple #[.agg #[.int .i64 0, .slice none 0 0, .slice none 0 0], .int .i64 1]) (by simp [results, Try.results21, go_sem, chk, gr]) rfl ⟨?_, .inl ⟨hok, rfl⟩⟩
    exact (((hq0w.after hqV).setCell (p := ⟨w.heap.size + 1, 0, none⟩) (by show w.heap.size ≤ w.heap.size + 1; omega) _).setCell (p := ⟨w.heap.size + 1, 1, none⟩) (by show w.heap.size ≤ w.heap.size + 1; omega) _).setCell (p := ⟨w.heap.size + 1, 2, none⟩) (by show w.heap.size ≤ w.heap.size + 1; omega) _
  · have hck : (chk true != 0) = false := by decide
    have HOK : Hid (d.ok = true) := hok
    clear hok
    have hd1 := hd0.quiet hq0w
    have HW0 : Hid (w0.heap.size = w.heap.size + 1 + 1) := hw0
    clear hw0
    go_wp2
    go_loopw [8] (fun i wr => ∃ k : Nat, k ≤ n ∧ i = .int .i64 k ∧ PWs w0 wr (w.heap.size + 1 + 1) (worldR d (logOf d (s.take k))) ∧ Blk wr w.heap.size #[.slice da dn dcap, .int .i64 d.quorum, .int .i64 d.expiry] 24 ∧ Blk wr (w.heap.size + 1) #[.int .i64 0, .slice none 0 0, .slice none 0 0] 39) (fun i _ => n - (intOf i).toNat)
    case atStart => exact ⟨0, Nat.zero_le _, rfl, ⟨_, _, _, _, _, _, _, PW.start w0 _ (w.heap.size + 1 + 1) bw hqV (by have := HW0.out; omega)⟩, bd, br⟩
    case round =>
      obtain ⟨k, hk, rfl, hP, bdr, brr⟩ := hrel
      by_cases hlt : k < n
      · have hkl : k < s.length := by have := HN.out; omega
        obtain ⟨b, off, rfl, hb, c0, c1, c2, c3, c4, c5, c6⟩ := (h.quiet (hq0w.after hP.quiet)).cell k hkl
        have HL : Hid (logOf d (s.take (k + 1)) = logStep d (logOf d (s.take k)) s[k]) := foldl_take_succ _ _ _ _ hkl
        have hlo := logOf_ok d (s.take k)
        have hll := logOf_len d s k (by omega)
        have hcr' := hcr s[k] (List.getElem_mem hkl)
        generalize logOf d (s.take k) = l at *
        generalize s[k] = c at *
        have HDo : Hid (∀ U, Quiet wr U → Calls Try.prog 38 #[.agg #[.slice da dn dcap, .int .i64 d.quorum, .int .i64 d.expiry], .pointer (some ⟨w.heap.size + 1 + 1, 0, none⟩), .agg #[.int .i64 c.kind, .int .i64 c.inst, .int .i64 c.a, .int .i64 c.b, .int .i64 c.who, .string c.reason, .bool c.dry]] U fun e w' => e = .returned (answerR d l c).val ∧ PWs w0 w' (w.heap.size + 1 + 1) (worldR d (logStep d l c)) ∧ Frame (worldTypes 39) U w') := fun U hU =>
          do_log w0 U _ d hd1 HOK.out (w.heap.size + 1 + 1) l hlo (by omega) (hP.hush hU) c hcr'
        generalize answerR d l c = A at *
        have gd := bdr.cell
        have hki : (0 : Int) ≤ (k : Int) := by omega
        have hkj : (k : Int) < (n : Int) := by omega
        have HBD : Hid (∀ w2, Quiet w0 w2 → Blk w2 w.heap.size #[.slice da dn dcap, .int .i64 d.quorum, .int .i64 d.expiry] 24 ∧ Blk w2 (w.heap.size + 1) #[.int .i64 0, .slice none 0 0, .slice none 0 0] 39) := by
          intro w2 h2
          have e1 : Blk w0 w.heap.size #[.slice da dn dcap, .int .i64 d.quorum, .int .i64 d.expiry] 24 := (hP.quiet.block _ (by have := HW0.out; omega)).symm.trans bdr
          have e2 : Blk w0 (w.heap.size + 1) #[.int .i64 0, .slice none 0 0, .slice none 0 0] 39 := (hP.quiet.block _ (by have := HW0.out; omega)).symm.trans brr
          exact ⟨e1.quiet h2, e2.quiet h2⟩
        go_wp2_with fail
        go_region_with (first | (go_at_call 38; refine (HDo.out _ ?_).mono ?_; exact Below.drew (Below.refl _ _); rintro e w2 ⟨rfl, hP2, hF2⟩))
        all_goals (try go_wp2)
        all_goals
          go_roundw
          case rel =>
            refine ⟨k + 1, by omega, by go_num, by rw [HL.out]; exact hP2, (HBD.out _ hP2.quiet).1, (HBD.out _ hP2.quiet).2⟩
          case measure => simp [intOf]; omega
      · have hkn : s.take k = s := by have := HN.out; rw [List.take_of_length_le (by omega)]
        rw [hkn] at hP
        have hll := logOf_len d s s.length (Nat.le_refl _)
        rw [List.take_length] at hll
        obtain ⟨hbd, _⟩ := worldR_bd HOK.out (logOf_ok d s) (by omega)
        have hq := hq0w.after hP.quiet
        obtain ⟨pcs, ia, ni, ic, ra, nr, rc, hP⟩ := hP
        have HLED : Hid (∀ x ∈ (worldR d (logOf d s)).insts, x.ledger.length ≤ 2199023255552) := fun x hx => by have := (hbd.insts x hx).2.2.2.2.2.2; omega
        obtain ⟨p0, p1, p2⟩ := hP.row.at.three
        have p0' : wr.cell? ⟨w.heap.size + 1 + 1, 0, none⟩ = some (.int .i64 (worldR d (logOf d s)).clock) := p0
        have p1' : wr.cell? ⟨w.heap.size + 1 + 1, 1, none⟩ = some (.slice ia ni ic) := by simpa using p1
        have p2' : wr.cell? ⟨w.heap.size + 1 + 1, 2, none⟩ = some (.slice ra nr rc) := by simpa using p2
        clear p0 p1 p2
        have gr := brr.cell
        have fr := brr.frozen
        have zr := brr.lt
        obtain ⟨ck, HCK⟩ : ∃ ck, Hid ((worldR d (logOf d s)).clock = ck) := ⟨_, rfl⟩
        rw [HCK.out] at p0'
        go_wp2
        refine bodyPost_ret (v := .tuple #[.agg #[.int .i64 ck, .slice ia ni ic, .slice ra nr rc], .int .i64 0]) (by simp [results, Try.results21, go_sem, gr]) rfl ⟨?_, .inr ⟨HOK.out, ia, ni, ic, ra, nr, rc, by rw [HCK.out], ?_, ?_⟩⟩
        · exact ((hq.setCell (p := ⟨w.heap.size + 1, 0, none⟩) (by show w.heap.size ≤ w.heap.size + 1; omega) _).setCell (p := ⟨w.heap.size + 1, 1, none⟩) (by show w.heap.size ≤ w.heap.size + 1; omega) _).setCell (p := ⟨w.heap.size + 1, 2, none⟩) (by show w.heap.size ≤ w.heap.size + 1; omega) _
        · have hs := set3_frame brr (.int .i64 ck) (.slice ia ni ic) (.slice ra nr rc)
          exact insMem_at (hP.insts.frame (h1 := fun z c hz => hs z c _ hz (by decide)) (h2 := fun z c hz => hs z c _ hz (by decide))) HLED.out
        · have hs := set3_frame brr (.int .i64 ck) (.slice ia ni ic) (.slice ra nr rc)
          exact reqMem_at (hP.reqs.frame (h1 := fun z c hz => hs z c _ hz (by decide)) (h2 := fun z c hz => hs z c _ hz (by decide)))

end Go.Proofs.Ytahfdglbbdacjaa

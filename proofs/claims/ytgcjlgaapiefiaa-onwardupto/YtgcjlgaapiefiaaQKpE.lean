import Derived.Test.YtgcjlgaapiefiaaQKpD

/-
  An instance that is free to go on (plain).
-/
namespace Go.Proofs.Ytgcjlgaapiefiaa

def pickC (id : Int) : Cmd := ⟨2, id, 0, 0, 0, ⟨#[]⟩, false⟩
def replyC (id a : Int) : Cmd := ⟨3, id, a, 1, 0, ⟨#[]⟩, false⟩
/-- The commands of j rounds. -/
def ons (id keys : Int) : Nat → List Cmd
  | 0 => []
  | j + 1 => ons id keys j ++ [pickC id] ++ [replyC id (keys + 1 + j)]
/-- The entries of j rounds. -/
def onsE (settled keys : Int) : Nat → List Entry
  | 0 => []
  | j + 1 => onsE settled keys j ++ [⟨1, settled + j, keys + 1 + j⟩]
theorem ons_len (id keys : Int) : ∀ j, (ons id keys j).length = 2 * j
  | 0 => rfl
  | j + 1 => by simp [ons, ons_len id keys j]; omega
theorem onsE_len (settled keys : Int) : ∀ j, (onsE settled keys j).length = j
  | 0 => rfl
  | j + 1 => by simp [onsE, onsE_len settled keys j]
theorem onsE_get (settled keys : Int) : ∀ j q (h : q < (onsE settled keys j).length), (onsE settled keys j)[q] = ⟨1, settled + q, keys + 1 + q⟩ := by
  intro j
  induction j with
  | zero => intro q h; simp [onsE] at h
  | succ j ih =>
    intro q h
    have hl := onsE_len settled keys j
    simp only [onsE]
    by_cases e : q < j
    · rw [List.getElem_append_left (by omega)]; exact ih q (by omega)
    · have hq : q = j := by rw [onsE_len] at h; omega
      subst hq
      rw [List.getElem_append_right (by omega)]
      simp [hl]
theorem ons_reason (id keys : Int) : ∀ j, ∀ c ∈ ons id keys j, c.reason.size ≤ 9223372036854775807
  | 0 => fun c hc => by simp [ons] at hc
  | j + 1 => fun c hc => by
    simp only [ons, List.mem_append, List.mem_singleton] at hc
    rcases hc with (hc | rfl) | rfl
    · exact ons_reason id keys j c hc
    · exact Nat.zero_le _
    · exact Nat.zero_le _

/-- What stands behind j rounds. -/
structure OnP (d : Def) (now : Int) (x : Inst) (j : Nat) (y : Inst) : Prop where
  stuck : y.stuck = false
  key : y.key = 0
  wake : y.wake ≤ now
  keys : y.keys = x.keys + j
  settled : y.settled = x.settled + j
  ledger : y.ledger = x.ledger ++ onsE x.settled x.keys j
  mode : y.mode = if x.settled + j = d.steps.length then 3 else 1

theorem play_wet {d : Def} {s : List Cmd} {c : Cmd} (hk : c.kind = 2 ∨ c.kind = 3) (hw : c.dry = false) (ha : (answerR d (playR d s).log c).code = 0) : (playR d (s ++ [c])).log = (playR d s).log ++ [c] := by
  rw [playR_snocK]
  unfold playStep
  rw [if_neg (by omega), if_neg (by omega), if_neg (by omega), if_pos ⟨ha, hw⟩]

theorem onward_plain {d : Def} (hok : d.ok = true) (s : List Cmd) (id : Int) (hid : id ∈ startedR (playR d s).log)
    (hm : (instanceR d (playR d s).log id).mode = 1) (hst : (instanceR d (playR d s).log id).stuck = false) (hk : (instanceR d (playR d s).log id).key = 0) (hw : (instanceR d (playR d s).log id).wake ≤ clockR (playR d s).log)
    (hke : (instanceR d (playR d s).log id).keys + d.steps.length - (instanceR d (playR d s).log id).settled ≤ 30) :
    ∀ j : Nat, (instanceR d (playR d s).log id).settled + j ≤ d.steps.length →
      startedR (playR d (s ++ ons id (instanceR d (playR d s).log id).keys j)).log = startedR (playR d s).log ∧ clockR (playR d (s ++ ons id (instanceR d (playR d s).log id).keys j)).log = clockR (playR d s).log ∧
      OnP d (clockR (playR d s).log) (instanceR d (playR d s).log id) j (instanceR d (playR d (s ++ ons id (instanceR d (playR d s).log id).keys j)).log id) ∧
      ∀ i, i ≠ id → instanceR d (playR d (s ++ ons id (instanceR d (playR d s).log id).keys j)).log i = instanceR d (playR d s).log i := by
  have hn : 0 < d.steps.length := by have := quorum_ok hok; omega
  have hg0 := (play_logOk d s).good hn id
  have hse : (instanceR d (playR d s).log id).settled = settledR (instanceR d (playR d s).log id).ledger := rfl
  generalize hx : instanceR d (playR d s).log id = x at *
  have hlt : x.settled < d.steps.length := by
    rcases hg0.modes with h | h | h | h <;> omega
  intro j
  induction j with
  | zero =>
    intro _
    simp only [ons, List.append_nil]
    refine ⟨trivial, trivial, ?_, fun _ _ => trivial⟩
    rw [hx]
    exact ⟨hst, hk, hw, by simp, by simp, by simp [onsE], by rw [if_neg (by simp; omega)]; exact hm⟩
  | succ j ih =>
    intro hj
    obtain ⟨i1, i2, i3, i4⟩ := ih (by omega)
    have hlo := play_logOk d (s ++ ons id x.keys j)
    have hnow := i3
    have e1 : s ++ ons id x.keys (j + 1) = (s ++ ons id x.keys j) ++ [pickC id] ++ [replyC id (x.keys + 1 + j)] := by simp [ons, List.append_assoc]
    rw [e1]
    have hge := hlo.good hn id
    generalize s ++ ons id x.keys j = S at *
    have ym : (instanceR d (playR d S).log id).mode = 1 := by rw [i3.mode, if_neg (by omega)]
    have hin : (startedR (playR d S).log).any (· == id) = true := by rw [i1]; exact (any_mem _ _).2 hid
    have a1 : (answerR d (playR d S).log (pickC id)).code = 0 := by
      unfold answerR
      rw [if_neg (by simp [pickC]), if_neg (by simp [pickC]), if_neg (by simp [pickC]), if_pos (.inl rfl)]
      rw [if_pos (show (startedR (playR d S).log).any (· == (pickC id).inst) = true from hin)]
      unfold answeredR
      rw [if_pos (show (pickC id).kind = 2 from rfl)]
      show (pickAns d (instanceR d (playR d S).log id) (clockR (playR d S).log)).code = 0
      unfold pickAns
      rw [i2, if_neg (by omega), if_neg (by rw [i3.stuck]; simp), if_neg (by rw [i3.key]; omega), if_neg (by rw [i3.key]; omega), if_neg (by have := i3.wake; omega), if_neg (by omega), if_neg (by rw [i3.keys]; omega)]
    have p1 := play_wet (d := d) (s := S) (c := pickC id) (.inl rfl) rfl a1
    have hlo1 := hlo.snoc a1
    have q1 := inst_pick hlo hn a1 rfl
    have st1 := started_snoc (playR d S).log (pickC id)
    rw [if_neg (show ¬ (pickC id).kind = 1 by simp [pickC])] at st1
    have ck1 := clock_snoc (playR d S).log (pickC id)
    rw [if_neg (show ¬ (pickC id).kind = 4 by simp [pickC])] at ck1
    have y1 : instanceR d (playR d (S ++ [pickC id])).log id = pickP d (clockR (playR d S).log) (instanceR d (playR d S).log id) := by
      rw [p1, q1 id, if_pos (show id = (pickC id).inst from rfl)]
    rw [← p1] at hlo1 st1 ck1
    have hp : pickP d (clockR (playR d S).log) (instanceR d (playR d S).log id) = { instanceR d (playR d S).log id with keys := (instanceR d (playR d S).log id).keys + 1, tries := (instanceR d (playR d S).log id).tries + 1, key := (instanceR d (playR d S).log id).keys + 1, due := clockR (playR d S).log + (stepP d (nextP (instanceR d (playR d S).log id))).timeout } := by
      unfold pickP; rw [if_pos i3.key]
    rw [hp] at y1
    have o1 : ∀ i, i ≠ id → instanceR d (playR d (S ++ [pickC id])).log i = instanceR d (playR d S).log i := fun i hi => by
      rw [p1, q1 i, if_neg (show ¬ i = (pickC id).inst from hi)]
    have hkp := hge.keys.1
    generalize instanceR d (playR d S).log id = y at *
    have a2 : (answerR d (playR d (S ++ [pickC id])).log (replyC id (x.keys + 1 + j))).code = 0 := by
      unfold answerR
      rw [if_neg (by simp [replyC]), if_neg (by simp [replyC]), if_neg (by simp [replyC]), if_pos (.inr (.inl rfl))]
      rw [if_pos (show (startedR (playR d (S ++ [pickC id])).log).any (· == (replyC id (x.keys + 1 + j)).inst) = true from by rw [st1]; exact hin)]
      unfold answeredR
      rw [if_neg (by simp [replyC]), if_pos (show (replyC id (x.keys + 1 + j)).kind = 3 from rfl)]
      have hkk : (instanceR d (playR d (S ++ [pickC id])).log (replyC id (x.keys + 1 + j)).inst).key = y.keys + 1 := by
        show (instanceR d (playR d (S ++ [pickC id])).log id).key = _
        rw [y1]
      rw [if_neg]
      · rfl
      · rw [hkk]
        show ¬ (y.keys + 1 ≠ x.keys + 1 + j ∨ y.keys + 1 = 0)
        have := i3.keys
        omega
    have p2 := play_wet (d := d) (s := S ++ [pickC id]) (c := replyC id (x.keys + 1 + j)) (.inr rfl) rfl a2
    have q2 := inst_reply hlo1 hn a2 rfl
    have st2 := started_snoc (playR d (S ++ [pickC id])).log (replyC id (x.keys + 1 + j))
    rw [if_neg (show ¬ (replyC id (x.keys + 1 + j)).kind = 1 by simp [replyC])] at st2
    have ck2 := clock_snoc (playR d (S ++ [pickC id])).log (replyC id (x.keys + 1 + j))
    rw [if_neg (show ¬ (replyC id (x.keys + 1 + j)).kind = 4 by simp [replyC])] at ck2
    rw [p2, st2, ck2, st1, ck1]
    refine ⟨i1, i2, ?_, ?_⟩
    · rw [q2 id, if_pos (show id = (replyC id (x.keys + 1 + j)).inst from rfl), y1, ck1, i2]
      have hb : ((replyC id (x.keys + 1 + j)).b == 1) = true := rfl
      rw [hb]
      unfold replyP
      rw [if_neg (by simp), if_neg (by show ¬ y.mode = 2; omega)]
      have hs := i3.settled
      refine ⟨rfl, rfl, Int.le_refl _, ?_, ?_, ?_, ?_⟩
      · show y.keys + 1 = x.keys + ((j + 1 : Nat) : Int)
        rw [i3.keys]; push_cast; omega
      · show y.settled + 1 = x.settled + ((j + 1 : Nat) : Int)
        rw [hs]; push_cast; omega
      · show y.ledger ++ [⟨1, nextP _, y.keys + 1⟩] = _
        rw [i3.ledger]
        simp only [onsE, List.append_assoc]
        congr 2
        have hnx : nextP ({ y with keys := y.keys + 1, tries := y.tries + 1, key := y.keys + 1, due := clockR (playR d s).log + (stepP d (nextP y)).timeout } : Inst) = y.settled := by
          unfold nextP; rw [if_neg (by show ¬ y.mode = 2; omega)]
        rw [hnx, hs, i3.keys]
        congr 2
        omega
      · show (if y.settled + 1 = (d.steps.length : Int) then (3 : Int) else y.mode) = _
        rw [hs, ym]
        have : x.settled + (j : Int) + 1 = x.settled + ((j + 1 : Nat) : Int) := by push_cast; omega
        rw [this]
    · intro i hi
      rw [q2 i, if_neg (show ¬ i = (replyC id (x.keys + 1 + j)).inst from hi), o1 i hi, i4 i hi]

/-- Is the instance free to go on? -/
def ReadyP (d : Def) (x : Inst) (now : Int) : Prop := x.mode = 1 ∧ x.stuck = false ∧ x.key = 0 ∧ x.wake ≤ now ∧ x.keys + d.steps.length - x.settled ≤ 30
theorem onward_world {d : Def} (hok : d.ok = true) (s : List Cmd) (i : Nat) (hi : i < (worldR d (playR d s).log).insts.length) (hr : ReadyP d (worldR d (playR d s).log).insts[i] (worldR d (playR d s).log).clock) (k : Nat) (hk : (worldR d (playR d s).log).insts[i].settled + k = d.steps.length) :
    ∃ hl : (worldR d (playR d (s ++ ons (worldR d (playR d s).log).insts[i].id (worldR d (playR d s).log).insts[i].keys k)).log).insts.length = (worldR d (playR d s).log).insts.length,
      (∀ (m : Nat) (hm : m < (worldR d (playR d s).log).insts.length), m ≠ i → (worldR d (playR d (s ++ ons (worldR d (playR d s).log).insts[i].id (worldR d (playR d s).log).insts[i].keys k)).log).insts[m]'(by rw [hl]; exact hm) = (worldR d (playR d s).log).insts[m]) ∧
      ((worldR d (playR d (s ++ ons (worldR d (playR d s).log).insts[i].id (worldR d (playR d s).log).insts[i].keys k)).log).insts[i]'(by rw [hl]; exact hi)).mode = 3 ∧
      ((worldR d (playR d (s ++ ons (worldR d (playR d s).log).insts[i].id (worldR d (playR d s).log).insts[i].keys k)).log).insts[i]'(by rw [hl]; exact hi)).settled = d.steps.length ∧
      ((worldR d (playR d (s ++ ons (worldR d (playR d s).log).insts[i].id (worldR d (playR d s).log).insts[i].keys k)).log).insts[i]'(by rw [hl]; exact hi)).ledger = (worldR d (playR d s).log).insts[i].ledger ++ onsE (worldR d (playR d s).log).insts[i].settled (worldR d (playR d s).log).insts[i].keys k := by
  have hsl : (worldR d (playR d s).log).insts.length = (startedR (playR d s).log).length := by simp [worldR]
  have his : i < (startedR (playR d s).log).length := by omega
  have hx : (worldR d (playR d s).log).insts[i] = instanceR d (playR d s).log (startedR (playR d s).log)[i] := by simp [worldR]
  have hnd := (play_logOk d s).ids.nodup
  rw [hx] at hr hk ⊢
  have hidx : (instanceR d (playR d s).log (startedR (playR d s).log)[i]).id = (startedR (playR d s).log)[i] := instanceR_id d _ _
  rw [hidx]
  obtain ⟨r1, r2, r3, r4, r5⟩ := hr
  obtain ⟨o1, o2, o3, o4⟩ := onward_plain hok s (startedR (playR d s).log)[i] (List.getElem_mem his) r1 r2 r3 r4 r5 k (by omega)
  have hgi : ∀ (id : Int) (L : List Cmd) (m : Nat) (h : m < (worldR d L).insts.length) (h2 : m < (startedR L).length), (worldR d L).insts[m] = instanceR d L (startedR L)[m] := fun id L m h h2 => by simp [worldR]
  refine ⟨by simp only [worldR, List.length_map, o1], ?_, ?_, ?_, ?_⟩
  · intro m hm hne
    have e : (startedR (playR d s).log)[m]'(by omega) ≠ (startedR (playR d s).log)[i] := by
      intro q
      rcases Nat.lt_or_gt_of_ne hne with h | h
      · exact List.pairwise_iff_getElem.1 hnd m i (by omega) his h q
      · exact List.pairwise_iff_getElem.1 hnd i m his (by omega) h q.symm
    have e4 := o4 _ e
    simp only [worldR, List.getElem_map, o1]
    exact e4
  · simp only [worldR, List.getElem_map, o1]
    rw [o3.mode, if_pos hk]
  · simp only [worldR, List.getElem_map, o1]
    rw [o3.settled]; exact hk
  · simp only [worldR, List.getElem_map, o1]
    exact o3.ledger

theorem onward_world' {d : Def} (hok : d.ok = true) (s : List Cmd) {W0 : WorldR} (hW0 : worldR d (playR d s).log = W0) (i : Nat) (hi : i < W0.insts.length) {x : Inst} (hx : W0.insts[i] = x) (hr : ReadyP d x W0.clock) (k : Nat) (hk : x.settled + k = d.steps.length) :
    ∃ W1 : WorldR, worldR d (playR d (s ++ ons x.id x.keys k)).log = W1 ∧ ∃ hl : W1.insts.length = W0.insts.length, (∀ (m : Nat) (hm : m < W0.insts.length), m ≠ i → W1.insts[m]'(by rw [hl]; exact hm) = W0.insts[m]) ∧
      ∃ y, W1.insts[i]'(by rw [hl]; exact hi) = y ∧ y.mode = 3 ∧ y.settled = d.steps.length ∧ y.ledger = x.ledger ++ onsE x.settled x.keys k := by
  subst hW0
  subst hx
  obtain ⟨hl, h1, h2, h3, h4⟩ := onward_world hok s i hi hr k hk
  exact ⟨_, rfl, hl, h1, _, rfl, h2, h3, h4⟩

end Go.Proofs.Ytgcjlgaapiefiaa

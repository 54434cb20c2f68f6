import Derived.Test.YtgcjlgaapiefiaaQKpA
import Derived.Test.YtgcjlgaapiefiaaQLog

/-
  What a journal is read as (plain).
-/
namespace Go.Proofs.Ytgcjlgaapiefiaa

theorem readF_lenK (d : Def) (s : ByteArray) : ∀ (f : Nat) (l : List Cmd) (i : Nat), i ≤ s.size → 8 * l.length ≤ i → 8 * (readF d s f l i).1.length ≤ s.size := by
  intro f
  induction f with
  | zero => intro l i hi hl; show 8 * l.length ≤ s.size; omega
  | succ f ih =>
    intro l i hi hl
    unfold readF
    split
    · rename_i q
      have h3 := q.1.2.2.1
      have h5 := q.1.2.1
      have hb := byteAt_bd (restOf s i) 0
      have e : (restOf s i).size = s.size - i := by unfold restOf; rw [ByteArray.size_extract]; omega
      rw [e] at h3
      exact ih _ _ (by omega) (by simp; omega)
    · show 8 * l.length ≤ s.size; omega
theorem readR_lenK (d : Def) (s : ByteArray) : 8 * (readR d [] s).1.length ≤ s.size := readF_lenK d s s.size [] 0 (Nat.zero_le _) (by simp)

/-- The beginning of a journal, torn anywhere. -/
theorem torn_read {d : Def} (hok : d.ok = true) {l : List Cmd} (h : LogOk d l) (n : Nat) (hn : n ≤ bytesN l) :
    ∃ j l', j ≤ l.length ∧ readR d [] ((bytesR l).extract 0 n) = (l', bytesN (l.take j)) ∧ LogOk d l' ∧ worldR d l' = worldR d (l.take j) ∧ bytesN (l.take j) ≤ n ∧ (j = l.length ∨ n < bytesN (l.take (j + 1))) := by
  have e : restOf ((bytesR l).extract 0 n) 0 = (bytesR l).extract 0 n := by unfold restOf; exact ext_all _ _ (Nat.le_refl _)
  have := read_journal hok ((bytesR l).extract 0 n) l [] [] 0 n ((bytesR l).extract 0 n).size (by simpa using h) (LogOk.nil d) rfl e hn (by omega) (by omega)
  simpa [readR] using this

theorem whole_read {d : Def} (hok : d.ok = true) {l : List Cmd} (h : LogOk d l) :
    ∃ l', readR d [] (bytesR l) = (l', bytesN l) ∧ worldR d l' = worldR d l := by
  have hs : (bytesR l).size = bytesN l := rfl
  obtain ⟨j, l', hj, h1, h2, h3, h4, h5⟩ := torn_read hok h (bytesN l) (Nat.le_refl _)
  have hx : (bytesR l).extract 0 (bytesN l) = bytesR l := by rw [← hs]; exact ByteArray.extract_zero_size
  rw [hx] at h1
  have hj' : j = l.length := by
    rcases h5 with h5 | h5
    · exact h5
    · by_cases hlt : j < l.length
      · have := bytesN_mono l (j + 1) l.length (by omega) (Nat.le_refl _)
        rw [List.take_length] at this
        omega
      · omega
  subst hj'
  rw [List.take_length] at h1 h3
  exact ⟨l', h1, h3⟩

end Go.Proofs.Ytgcjlgaapiefiaa

/-
  Scripts without crashes; what was accepted, played again (plain).
-/
namespace Go.Proofs.Ytgcjlgaapiefiaa

def calmStep (l : List Cmd) (c : Cmd) : List Cmd := if c.kind = 9 then l else l ++ [c]
def calmR (s : List Cmd) : List Cmd := s.foldl calmStep []
theorem calmR_take (s : List Cmd) (k : Nat) (h : k < s.length) : calmR (s.take (k + 1)) = calmStep (calmR (s.take k)) s[k] := foldl_take_succ _ _ _ _ h
theorem calmR_len (s : List Cmd) : (calmR s).length ≤ s.length := by
  have : ∀ k, k ≤ s.length → (calmR (s.take k)).length ≤ k := by
    intro k
    induction k with
    | zero => intro _; simp [calmR]
    | succ k ih =>
      intro hk
      have := ih (by omega)
      rw [calmR_take s k (by omega)]
      unfold calmStep
      split
      · omega
      · simp; omega
  have := this s.length (Nat.le_refl _)
  rwa [List.take_length] at this
theorem calmR_mem (s : List Cmd) : ∀ c ∈ calmR s, c ∈ s ∧ c.kind ≠ 9 := by
  have : ∀ k, k ≤ s.length → ∀ c ∈ calmR (s.take k), c ∈ s ∧ c.kind ≠ 9 := by
    intro k
    induction k with
    | zero => intro _ c hc; simp [calmR] at hc
    | succ k ih =>
      intro hk c hc
      rw [calmR_take s k (by omega)] at hc
      unfold calmStep at hc
      split at hc
      · exact ih (by omega) c hc
      · rename_i q
        rcases List.mem_append.1 hc with hc | hc
        · exact ih (by omega) c hc
        · simp at hc; subst hc; exact ⟨List.getElem_mem _, q⟩
  have := this s.length (Nat.le_refl _)
  rwa [List.take_length] at this

theorem playR_takeK (d : Def) (s : List Cmd) (k : Nat) (h : k < s.length) : playR d (s.take (k + 1)) = playStep d (playR d (s.take k)) s[k] := foldl_take_succ _ _ _ _ h
theorem playR_snocK (d : Def) (s : List Cmd) (c : Cmd) : playR d (s ++ [c]) = playStep d (playR d s) c := by unfold playR; rw [List.foldl_append]; rfl

theorem playStep_ans1 (d : Def) (t : TapeR) (c : Cmd) : ∃ a, (playStep d t c).answers = t.answers ++ [a] := by
  unfold playStep
  repeat' split
  all_goals exact ⟨_, rfl⟩
theorem answers_takeK (d : Def) (s : List Cmd) (k : Nat) (hk : k ≤ s.length) : (playR d (s.take k)).answers = (playR d s).answers.take k := by
  have : ∀ j, k + j ≤ s.length → (playR d (s.take (k + j))).answers.take k = (playR d (s.take k)).answers := by
    intro j
    induction j with
    | zero =>
      intro _
      have := (playFold d s k hk).2.2
      rw [List.take_of_length_le (by simp; omega)]; rfl
    | succ j ih =>
      intro hj
      obtain ⟨a, ha⟩ := playStep_ans1 d (playR d (s.take (k + j))) s[k + j]
      rw [show k + (j + 1) = k + j + 1 by omega, playR_takeK d s (k + j) (by omega), ha, List.take_append_of_le_length (by rw [(playFold d s (k + j) (by omega)).2.2]; omega)]
      exact ih (by omega)
  have := this (s.length - k) (by omega)
  rw [show k + (s.length - k) = s.length by omega, List.take_length] at this
  exact this.symm
theorem answer_at (d : Def) (s : List Cmd) (k : Nat) (hk : k < s.length) : ∃ h : k < (playR d s).answers.length, (playStep d (playR d (s.take k)) s[k]).answers = (playR d (s.take k)).answers ++ [(playR d s).answers[k]] := by
  have hl : (playR d s).answers.length = s.length := by have := (playFold d s s.length (Nat.le_refl _)).2.2; rwa [List.take_length] at this
  refine ⟨by omega, ?_⟩
  have h1 := answers_takeK d s (k + 1) (by omega)
  have h0 := answers_takeK d s k (by omega)
  rw [playR_takeK d s k hk, List.take_succ_eq_append_getElem (by omega), ← h0] at h1
  exact h1

/-- What a step of a script without crashes leaves in the log. -/
theorem accepted_step (d : Def) (s : List Cmd) (hc : ∀ c ∈ s, c.kind ≠ 9) (k : Nat) (hk : k < s.length) :
    ∃ h : k < (playR d s).answers.length, (playR d (s.take (k + 1))).log = if (playR d s).answers[k].code = 0 ∧ s[k].dry = false ∧ s[k].kind ≠ 8 then (playR d (s.take k)).log ++ [s[k]] else (playR d (s.take k)).log := by
  obtain ⟨h, ha⟩ := answer_at d s k hk
  refine ⟨h, ?_⟩
  rw [playR_takeK d s k hk]
  have h9 := hc s[k] (List.getElem_mem hk)
  by_cases h8 : s[k].kind = 8
  · rw [if_neg (fun q => q.2.2 h8)]
    unfold playStep
    rw [if_pos h8]
  · obtain ⟨e1, e2⟩ := playStep_log (d := d) (t := playR d (s.take k)) h8 h9
    rw [e2] at ha
    have ha' := List.append_cancel_left ha
    simp at ha'
    rw [e1, ← ha']
    unfold logStep
    by_cases q : (answerR d (playR d (s.take k)).log s[k]).code = 0 ∧ s[k].dry = false
    · rw [if_pos q, if_pos ⟨q.1, q.2, h8⟩]
    · rw [if_neg q, if_neg (fun p => q ⟨p.1, p.2.1⟩)]

/-- Nothing in a log is Dry, nothing of it a command on the journal. -/
theorem log_wet (d : Def) (s : List Cmd) : ∀ c ∈ (playR d s).log, c.dry = false ∧ c ∈ s := by
  have : ∀ k, k ≤ s.length → ∀ c ∈ (playR d (s.take k)).log, c.dry = false ∧ c ∈ s := by
    intro k
    induction k with
    | zero => intro _ c hc; simp [playR] at hc
    | succ k ih =>
      intro hk c hc
      rw [playR_takeK d s k (by omega)] at hc
      have ih' := ih (by omega)
      unfold playStep at hc
      split at hc
      · exact ih' c hc
      split at hc
      · exact ih' c hc
      split at hc
      · split at hc
        · exact ih' c (List.mem_of_mem_take hc)
        · exact ih' c hc
      split at hc
      · rename_i q
        rcases List.mem_append.1 hc with hc | hc
        · exact ih' c hc
        · simp at hc; subst hc; exact ⟨q.2, List.getElem_mem _⟩
      · exact ih' c hc
  have := this s.length (Nat.le_refl _)
  rwa [List.take_length] at this

/-- What was accepted is accepted again. -/
theorem replay (d : Def) {l : List Cmd} (h : LogOk d l) (hw : ∀ c ∈ l, c.dry = false) : ∀ k, k ≤ l.length → (playR d (l.take k)).log = l.take k := by
  intro k
  induction k with
  | zero => intro _; simp [playR]
  | succ k ih =>
    intro hk
    have hk' : k < l.length := by omega
    have hc := h k hk'
    have hkind := kind_ok hc
    rw [playR_takeK d l k hk']
    obtain ⟨e1, _⟩ := playStep_log (d := d) (t := playR d (l.take k)) (c := l[k]) (by omega) (by omega)
    rw [e1, ih (by omega)]
    unfold logStep
    rw [if_pos ⟨hc, hw _ (List.getElem_mem hk')⟩, List.take_succ_eq_append_getElem hk']

theorem bytes_begin (l : List Cmd) (j : Nat) : (bytesR l).extract 0 (bytesN (l.take j)) = bytesR (l.take j) := by
  have hb : bytesR l = bytesR (l.take j) ++ bytesR (l.drop j) := by conv => lhs; rw [← take_split l j, bytesR_append]
  rw [hb]
  exact ByteArray.extract_append_eq_left rfl

end Go.Proofs.Ytgcjlgaapiefiaa

/-
  A refused command, a Dry one; one that is accepted changes the world (plain).
-/
namespace Go.Proofs.Ytgcjlgaapiefiaa

def ansK (d : Def) (T : TapeR) (c : Cmd) : Answer := if c.kind = 8 then noR 0 else if c.kind = 9 ∧ c.a < 0 then noR 3 else if c.kind = 9 then noR 0 else answerR d T.log c
theorem play_ansK (d : Def) (T : TapeR) (c : Cmd) : (playStep d T c).answers = T.answers ++ [ansK d T c] := by
  unfold playStep ansK
  by_cases h8 : c.kind = 8
  · rw [if_pos h8, if_pos h8]
  rw [if_neg h8, if_neg h8]
  by_cases h9 : c.kind = 9 ∧ c.a < 0
  · rw [if_pos h9, if_pos h9]
  rw [if_neg h9, if_neg h9]
  by_cases h9' : c.kind = 9
  · rw [if_pos h9', if_pos h9']; split <;> rfl
  rw [if_neg h9', if_neg h9']
  split <;> rfl

def wetC (c : Cmd) : Cmd := ⟨c.kind, c.inst, c.a, c.b, c.who, c.reason, false⟩
def dryC (c : Cmd) : Cmd := ⟨c.kind, c.inst, c.a, c.b, c.who, c.reason, true⟩
theorem answerR_wet (d : Def) (l : List Cmd) (c : Cmd) : answerR d l (wetC c) = answerR d l c := rfl
theorem answerR_dry (d : Def) (l : List Cmd) (c : Cmd) : answerR d l (dryC c) = answerR d l c := rfl
theorem ansK_wet (d : Def) (T : TapeR) (c : Cmd) : ansK d T (wetC c) = ansK d T c := rfl
theorem ansK_dry (d : Def) (T : TapeR) (c : Cmd) : ansK d T (dryC c) = ansK d T c := rfl

theorem step_timeout {d : Def} (hok : d.ok = true) {i : Int} (h0 : 0 ≤ i) (h1 : i < d.steps.length) : 1 ≤ (stepP d i).timeout := by
  obtain ⟨h, _⟩ := stepR_get h0 h1
  have e : stepP d i = d.steps[i.toNat] := by
    unfold stepP
    rw [if_neg (by omega)]
    simp only [List.getD, List.getElem?_eq_getElem h, Option.getD_some]
  rw [e]
  simp only [Def.ok, stepsOk, Bool.and_eq_true, List.all_eq_true] at hok
  have := hok.2.2.2.1 _ (List.getElem_mem h)
  simp only [Step.ok, within, Bool.and_eq_true, decide_eq_true_eq] at this
  omega

theorem pick_late {d : Def} {l : List Cmd} {c : Cmd} (h : (answerR d l c).code = 0) (hk : c.kind = 2) : ¬ (0 < (instanceR d l c.inst).key ∧ clockR l < (instanceR d l c.inst).due) := by
  have h1 := answered_ok h (.inl hk)
  unfold answeredR at h1
  rw [if_pos hk] at h1
  generalize instanceR d l c.inst = x at *
  unfold pickAns at h1
  intro q
  by_cases t1 : 2 < x.mode
  · rw [if_pos t1] at h1; simp [noR] at h1
  rw [if_neg t1] at h1
  by_cases t2 : x.stuck = true
  · rw [if_pos t2] at h1; simp [noR] at h1
  rw [if_neg t2, if_pos q] at h1
  simp [noR] at h1

theorem reply_key0 (d : Def) (clock : Int) (x : Inst) (b : Bool) : (replyP d clock x b).key = 0 := by
  unfold replyP
  split
  · unfold failP; split
    · rfl
    split
    · rfl
    · rfl
  split
  · unfold takeBackP; split <;> rfl
  · rfl

/-- What is accepted changes the world. -/
theorem carry_differs {d : Def} (hok : d.ok = true) {l : List Cmd} {c : Cmd} (hl : LogOk d l) (hc : (answerR d l c).code = 0) : worldR d l ≠ worldR d (l ++ [c]) := by
  intro hW
  have hn : 0 < d.steps.length := by have := quorum_ok hok; omega
  have hclock : clockR l = clockR (l ++ [c]) := congrArg WorldR.clock hW
  have hinsts : (startedR l).map (instanceR d l) = (startedR (l ++ [c])).map (instanceR d (l ++ [c])) := congrArg WorldR.insts hW
  have hreqs : requestsR d l = requestsR d (l ++ [c]) := congrArg WorldR.reqs hW
  have hk := kind_ok hc
  by_cases k1 : c.kind = 1
  · have := congrArg List.length hinsts
    rw [started_snoc, if_pos k1] at this
    simp at this
  have hmap : startedR (l ++ [c]) = startedR l := by rw [started_snoc, if_neg k1]
  rw [hmap] at hinsts
  have heq : ∀ id ∈ startedR l, instanceR d l id = instanceR d (l ++ [c]) id := List.map_inj_left.1 hinsts
  by_cases k2 : c.kind = 2
  · have e := heq c.inst (known_ok hc (.inl k2))
    rw [inst_pick hl hn hc k2, if_pos rfl] at e
    have hm := pick_ok hc k2
    have hlate := pick_late hc k2
    have hg := hl.good hn c.inst
    have hst : (instanceR d l c.inst).settled = settledR (instanceR d l c.inst).ledger := rfl
    generalize instanceR d l c.inst = x at *
    have hr : 0 ≤ nextP x ∧ nextP x < d.steps.length := by
      unfold nextP
      rcases hg.modes with h | h | h | h
      · rw [if_neg (by omega)]; omega
      · rw [if_pos h.1]; omega
      · omega
      · omega
    have ht := step_timeout hok hr.1 hr.2
    unfold pickP at e
    by_cases k0 : x.key = 0
    · rw [if_pos k0] at e
      have := congrArg Inst.keys e
      simp at this
      omega
    · rw [if_neg k0] at e
      have := congrArg Inst.due e
      have hk0 := hg.key.1
      simp at this
      omega
  by_cases k3 : c.kind = 3
  · have e := heq c.inst (known_ok hc (.inr (.inl k3)))
    rw [inst_reply hl hn hc k3, if_pos rfl] at e
    have hkey := (reply_ok hc k3).2
    have := congrArg Inst.key e
    rw [reply_key0] at this
    exact hkey this
  by_cases k4 : c.kind = 4
  · rw [clock_snoc, if_pos k4] at hclock
    have : 1 ≤ c.a := by
      unfold answerR at hc
      rw [if_neg (by omega), if_pos k4] at hc
      by_cases t : c.a < 1 ∨ 100 < c.a
      · rw [if_pos t] at hc; simp [noR] at hc
      · omega
    omega
  by_cases k5 : c.kind = 5
  · rw [reqs_ask k5] at hreqs
    have := congrArg List.length hreqs
    simp at this
  obtain ⟨hlt, ha1, _, hnum, hopen, _⟩ := named hc (show c.kind = 6 ∨ c.kind = 7 by omega)
  have e := reqs_named (d := d) (l := l) (c := c) (show c.kind = 6 ∨ c.kind = 7 by omega) ha1 hlt
  rw [e] at hreqs
  have e2 : (requestsR d l)[(c.a - 1).toNat]? = ((requestsR d l).set (c.a - 1).toNat (reqNext d c (requestsR d l)[(c.a - 1).toNat]))[(c.a - 1).toNat]? := by rw [← hreqs]
  rw [List.getElem?_set_self hlt, List.getElem?_eq_getElem hlt] at e2
  injection e2 with e2
  by_cases k6 : c.kind = 6
  · rw [reqNext_approve d c _ hnum.symm k6] at e2
    have := congrArg (fun r : Req => r.bys.length) e2
    simp at this
  · rw [reqNext_withdraw d c _ hnum.symm (by omega)] at e2
    have := congrArg Req.closed e2
    rw [hopen] at this
    simp at this

theorem dry_log (d : Def) (T : TapeR) (c : Cmd) (h8 : c.kind ≠ 8) (h9 : c.kind ≠ 9) : (playStep d T (dryC c)).log = T.log := by
  unfold playStep
  rw [if_neg (show ¬ (dryC c).kind = 8 from h8), if_neg (fun q => h9 q.1), if_neg (show ¬ (dryC c).kind = 9 from h9), if_neg (fun q => by simp [dryC] at q)]
theorem wet_log (d : Def) (T : TapeR) (c : Cmd) (h8 : c.kind ≠ 8) (h9 : c.kind ≠ 9) (h0 : (answerR d T.log c).code = 0) : (playStep d T (wetC c)).log = T.log ++ [wetC c] := by
  unfold playStep
  rw [if_neg (show ¬ (wetC c).kind = 8 from h8), if_neg (fun q => h9 q.1), if_neg (show ¬ (wetC c).kind = 9 from h9), if_pos ⟨h0, rfl⟩]
theorem no_log (d : Def) (T : TapeR) (c : Cmd) (h : (ansK d T c).code ≠ 0) : (playStep d T c).log = T.log := by
  unfold ansK at h
  unfold playStep
  by_cases h8 : c.kind = 8
  · rw [if_pos h8]
  rw [if_neg h8] at h ⊢
  by_cases h9 : c.kind = 9 ∧ c.a < 0
  · rw [if_pos h9]
  rw [if_neg h9] at h ⊢
  by_cases h9' : c.kind = 9
  · rw [if_pos h9'] at h; simp [noR] at h
  rw [if_neg h9'] at h ⊢
  rw [if_neg (fun q => h q.1)]
theorem same_log (d : Def) (T : TapeR) (c : Cmd) (h : c.kind = 8 ∨ c.kind = 9) : (playStep d T (wetC c)).log = (playStep d T (dryC c)).log := by
  unfold playStep
  rcases h with h | h
  · rw [if_pos (show (wetC c).kind = 8 from h), if_pos (show (dryC c).kind = 8 from h)]
  · rw [if_neg (show ¬ (wetC c).kind = 8 from fun q => by have : c.kind = 8 := q; omega), if_neg (show ¬ (dryC c).kind = 8 from fun q => by have : c.kind = 8 := q; omega)]
    by_cases ha : c.a < 0
    · rw [if_pos (show (wetC c).kind = 9 ∧ (wetC c).a < 0 from ⟨h, ha⟩), if_pos (show (dryC c).kind = 9 ∧ (dryC c).a < 0 from ⟨h, ha⟩)]
    · rw [if_neg (show ¬ ((wetC c).kind = 9 ∧ (wetC c).a < 0) from fun q => ha q.2), if_neg (show ¬ ((dryC c).kind = 9 ∧ (dryC c).a < 0) from fun q => ha q.2), if_pos (show (wetC c).kind = 9 from h), if_pos (show (dryC c).kind = 9 from h)]
      rfl

end Go.Proofs.Ytgcjlgaapiefiaa

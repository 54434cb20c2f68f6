import Derived.Test.YtgcjlgaapiefiabQKpA

/-
  Scripts without crashes; what was accepted, played again (plain).
-/
namespace Go.Proofs.Ytgcjlgaapiefiab

def calmStep (l : List Cmd) (c : Cmd) : List Cmd := if c.kind = 9 then l else l ++ [c]
def calmR (s : List Cmd) : List Cmd := s.foldl calmStep []
theorem calmR_take (s : List Cmd) (k : Nat) (h : k < s.length) : calmR (s.take (k + 1)) = calmStep (calmR (s.take k)) s[k] := foldl_take_succ _ _ _ _ h
theorem calmR_len (s : List Cmd) : (calmR s).length ≤ s.length := by
  have : ∀ k, k ≤ s.length → (calmR (s.take k)).length ≤ k := by
    intro k
    induction k with
    | zero => intro _; simp [calmR]
    | succ k ih =>
      intro hk
      have := ih (by omega)
      rw [calmR_take s k (by omega)]
      unfold calmStep
      split
      · omega
      · simp; omega
  have := this s.length (Nat.le_refl _)
  rwa [List.take_length] at this
theorem calmR_mem (s : List Cmd) : ∀ c ∈ calmR s, c ∈ s ∧ c.kind ≠ 9 := by
  have : ∀ k, k ≤ s.length → ∀ c ∈ calmR (s.take k), c ∈ s ∧ c.kind ≠ 9 := by
    intro k
    induction k with
    | zero => intro _ c hc; simp [calmR] at hc
    | succ k ih =>
      intro hk c hc
      rw [calmR_take s k (by omega)] at hc
      unfold calmStep at hc
      split at hc
      · exact ih (by omega) c hc
      · rename_i q
        rcases List.mem_append.1 hc with hc | hc
        · exact ih (by omega) c hc
        · simp at hc; subst hc; exact ⟨List.getElem_mem _, q⟩
  have := this s.length (Nat.le_refl _)
  rwa [List.take_length] at this

theorem playR_takeK (d : Def) (s : List Cmd) (k : Nat) (h : k < s.length) : playR d (s.take (k + 1)) = playStep d (playR d (s.take k)) s[k] := foldl_take_succ _ _ _ _ h
theorem playR_snocK (d : Def) (s : List Cmd) (c : Cmd) : playR d (s ++ [c]) = playStep d (playR d s) c := by unfold playR; rw [List.foldl_append]; rfl

theorem playStep_ans1 (d : Def) (t : TapeR) (c : Cmd) : ∃ a, (playStep d t c).answers = t.answers ++ [a] := by
  unfold playStep
  repeat' split
  all_goals exact ⟨_, rfl⟩
theorem answers_takeK (d : Def) (s : List Cmd) (k : Nat) (hk : k ≤ s.length) : (playR d (s.take k)).answers = (playR d s).answers.take k := by
  have : ∀ j, k + j ≤ s.length → (playR d (s.take (k + j))).answers.take k = (playR d (s.take k)).answers := by
    intro j
    induction j with
    | zero =>
      intro _
      have := (playFold d s k hk).2.2
      rw [List.take_of_length_le (by simp; omega)]; rfl
    | succ j ih =>
      intro hj
      obtain ⟨a, ha⟩ := playStep_ans1 d (playR d (s.take (k + j))) s[k + j]
      rw [show k + (j + 1) = k + j + 1 by omega, playR_takeK d s (k + j) (by omega), ha, List.take_append_of_le_length (by rw [(playFold d s (k + j) (by omega)).2.2]; omega)]
      exact ih (by omega)
  have := this (s.length - k) (by omega)
  rw [show k + (s.length - k) = s.length by omega, List.take_length] at this
  exact this.symm
theorem answer_at (d : Def) (s : List Cmd) (k : Nat) (hk : k < s.length) : ∃ h : k < (playR d s).answers.length, (playStep d (playR d (s.take k)) s[k]).answers = (playR d (s.take k)).answers ++ [(playR d s).answers[k]] := by
  have hl : (playR d s).answers.length = s.length := by have := (playFold d s s.length (Nat.le_refl _)).2.2; rwa [List.take_length] at this
  refine ⟨by omega, ?_⟩
  have h1 := answers_takeK d s (k + 1) (by omega)
  have h0 := answers_takeK d s k (by omega)
  rw [playR_takeK d s k hk, List.take_succ_eq_append_getElem (by omega), ← h0] at h1
  exact h1

/-- What a step of a script without crashes leaves in the log. -/
theorem accepted_step (d : Def) (s : List Cmd) (hc : ∀ c ∈ s, c.kind ≠ 9) (k : Nat) (hk : k < s.length) :
    ∃ h : k < (playR d s).answers.length, (playR d (s.take (k + 1))).log = if (playR d s).answers[k].code = 0 ∧ s[k].dry = false ∧ s[k].kind ≠ 8 then (playR d (s.take k)).log ++ [s[k]] else (playR d (s.take k)).log := by
  obtain ⟨h, ha⟩ := answer_at d s k hk
  refine ⟨h, ?_⟩
  rw [playR_takeK d s k hk]
  have h9 := hc s[k] (List.getElem_mem hk)
  by_cases h8 : s[k].kind = 8
  · rw [if_neg (fun q => q.2.2 h8)]
    unfold playStep
    rw [if_pos h8]
  · obtain ⟨e1, e2⟩ := playStep_log (d := d) (t := playR d (s.take k)) h8 h9
    rw [e2] at ha
    have ha' := List.append_cancel_left ha
    simp at ha'
    rw [e1, ← ha']
    unfold logStep
    by_cases q : (answerR d (playR d (s.take k)).log s[k]).code = 0 ∧ s[k].dry = false
    · rw [if_pos q, if_pos ⟨q.1, q.2, h8⟩]
    · rw [if_neg q, if_neg (fun p => q ⟨p.1, p.2.1⟩)]

/-- Nothing in a log is Dry, nothing of it a command on the journal. -/
theorem log_wet (d : Def) (s : List Cmd) : ∀ c ∈ (playR d s).log, c.dry = false ∧ c ∈ s := by
  have : ∀ k, k ≤ s.length → ∀ c ∈ (playR d (s.take k)).log, c.dry = false ∧ c ∈ s := by
    intro k
    induction k with
    | zero => intro _ c hc; simp [playR] at hc
    | succ k ih =>
      intro hk c hc
      rw [playR_takeK d s k (by omega)] at hc
      have ih' := ih (by omega)
      unfold playStep at hc
      split at hc
      · exact ih' c hc
      split at hc
      · exact ih' c hc
      split at hc
      · split at hc
        · exact ih' c (List.mem_of_mem_take hc)
        · exact ih' c hc
      split at hc
      · rename_i q
        rcases List.mem_append.1 hc with hc | hc
        · exact ih' c hc
        · simp at hc; subst hc; exact ⟨q.2, List.getElem_mem _⟩
      · exact ih' c hc
  have := this s.length (Nat.le_refl _)
  rwa [List.take_length] at this

/-- What was accepted is accepted again. -/
theorem replay (d : Def) {l : List Cmd} (h : LogOk d l) (hw : ∀ c ∈ l, c.dry = false) : ∀ k, k ≤ l.length → (playR d (l.take k)).log = l.take k := by
  intro k
  induction k with
  | zero => intro _; simp [playR]
  | succ k ih =>
    intro hk
    have hk' : k < l.length := by omega
    have hc := h k hk'
    have hkind := kind_ok hc
    rw [playR_takeK d l k hk']
    obtain ⟨e1, _⟩ := playStep_log (d := d) (t := playR d (l.take k)) (c := l[k]) (by omega) (by omega)
    rw [e1, ih (by omega)]
    unfold logStep
    rw [if_pos ⟨hc, hw _ (List.getElem_mem hk')⟩, List.take_succ_eq_append_getElem hk']

theorem bytes_begin (l : List Cmd) (j : Nat) : (bytesR l).extract 0 (bytesN (l.take j)) = bytesR (l.take j) := by
  have hb : bytesR l = bytesR (l.take j) ++ bytesR (l.drop j) := by conv => lhs; rw [← take_split l j, bytesR_append]
  rw [hb]
  exact ByteArray.extract_append_eq_left rfl

end Go.Proofs.Ytgcjlgaapiefiab

/-
  What was assumed or waived was asked for and approved (plain).
-/
namespace Go.Proofs.Ytgcjlgaapiefiab

/-- What one fact puts into the ledger. -/
def entOf (x : Inst) (f : Fact) : List Entry :=
  if f.kind = 1 then []
  else if f.kind = 2 then [⟨if x.mode = 1 then 1 else 3, atR x, x.key⟩]
  else if f.kind = 3 then []
  else if f.what = 2 then [⟨2, atR x, f.ref⟩]
  else if f.what = 3 then [⟨4, atR x, f.ref⟩]
  else []
theorem entOf_len (x : Inst) (f : Fact) : (entOf x f).length ≤ 1 := by
  unfold entOf
  repeat' split
  all_goals simp
theorem afterR_ledger (d : Def) (x : Inst) (f : Fact) : (afterR d x f).ledger = x.ledger ++ entOf x f := by
  unfold afterR entOf
  by_cases k1 : f.kind = 1
  · rw [if_pos k1, if_pos k1]; unfold pickedR; split <;> simp
  rw [if_neg k1, if_neg k1]
  by_cases k2 : f.kind = 2
  · rw [if_pos k2, if_pos k2]
    by_cases m : x.mode = 1
    · rw [if_pos m, if_pos m, enteredR_ledger]
    · rw [if_neg m, if_neg m, enteredR_ledger]
  rw [if_neg k2, if_neg k2]
  by_cases k3 : f.kind = 3
  · rw [if_pos k3, if_pos k3]; unfold wrongR; split
    · simp
    split
    · simp [backwardR]
    · simp
  rw [if_neg k3, if_neg k3]
  unfold doneR
  by_cases w1 : f.what = 1
  · rw [if_pos w1, if_neg (by omega), if_neg (by omega)]; simp
  rw [if_neg w1]
  by_cases w2 : f.what = 2
  · rw [if_pos w2, if_pos w2, enteredR_ledger]
  rw [if_neg w2, if_neg w2]
  by_cases w3 : f.what = 3
  · rw [if_pos w3, if_pos w3, enteredR_ledger]
  rw [if_neg w3, if_neg w3]
  split <;> simp [backwardR]

/-- The ledger behind one command more. -/
theorem ledger_snoc (d : Def) (l : List Cmd) (c : Cmd) (id : Int) : (factOf d (l ++ [c]) id l.length c = [] ∧ (instanceR d (l ++ [c]) id).ledger = (instanceR d l id).ledger) ∨ ∃ f, factOf d (l ++ [c]) id l.length c = [f] ∧ (instanceR d (l ++ [c]) id).ledger = (instanceR d l id).ledger ++ entOf (instanceR d l id) f := by
  have hl := factOf_len d (l ++ [c]) id l.length c
  cases e : factOf d (l ++ [c]) id l.length c with
  | nil => exact .inl ⟨rfl, by rw [instanceR_none e]⟩
  | cons f t =>
    cases t with
    | nil =>
      refine .inr ⟨f, rfl, ?_⟩
      rw [instanceR_one e]
      show (afterR d (instFold d id (factsR d l id)) f).ledger = _
      rw [afterR_ledger]; rfl
    | cons g t => rw [e] at hl; simp at hl

/-- A request behind one command more. -/
theorem req_next {d : Def} {l : List Cmd} {c : Cmd} (hc : (answerR d l c).code = 0) (j : Nat) (hj : j < (requestsR d l).length) :
    ∃ hj' : j < (requestsR d (l ++ [c])).length, (requestsR d (l ++ [c]))[j].inst = (requestsR d l)[j].inst ∧ (requestsR d (l ++ [c]))[j].what = (requestsR d l)[j].what ∧ ((requestsR d l)[j].closed = true → (requestsR d (l ++ [c]))[j] = (requestsR d l)[j]) := by
  by_cases k5 : c.kind = 5
  · have e := reqs_ask (d := d) (l := l) k5
    refine ⟨by rw [e]; simp; omega, ?_⟩
    have e2 : (requestsR d (l ++ [c]))[j]'(by rw [e]; simp; omega) = (requestsR d l)[j] := by
      simp only [e]; rw [List.getElem_append_left hj]
    rw [e2]; exact ⟨rfl, rfl, fun _ => rfl⟩
  by_cases k67 : c.kind = 6 ∨ c.kind = 7
  · obtain ⟨hlt, ha1, _, hnum, hopen, _⟩ := named hc k67
    have e := reqs_named (d := d) (l := l) (c := c) k67 ha1 hlt
    refine ⟨by rw [e]; simpa using hj, ?_⟩
    by_cases ej : (c.a - 1).toNat = j
    · subst ej
      have e2 : (requestsR d (l ++ [c]))[(c.a - 1).toNat]'(by rw [e]; simpa using hj) = reqNext d c (requestsR d l)[(c.a - 1).toNat] := by
        simp only [e]; rw [List.getElem_set_self]
      rw [e2, hopen]
      rcases k67 with k | k
      · rw [reqNext_approve d c _ hnum.symm k]; exact ⟨rfl, rfl, fun q => by simp at q⟩
      · rw [reqNext_withdraw d c _ hnum.symm k]; exact ⟨rfl, rfl, fun q => by simp at q⟩
    · have e2 : (requestsR d (l ++ [c]))[j]'(by rw [e]; simpa using hj) = (requestsR d l)[j] := by
        simp only [e]; rw [List.getElem_set_ne ej]
      rw [e2]; exact ⟨rfl, rfl, fun _ => rfl⟩
  · have e := reqs_same (d := d) (l := l) (c := c) k5 (by omega) (by omega)
    have e2 : (requestsR d (l ++ [c]))[j]'(by rw [e]; exact hj) = (requestsR d l)[j] := by simp only [e]
    refine ⟨by rw [e]; exact hj, ?_⟩
    rw [e2]; exact ⟨rfl, rfl, fun _ => rfl⟩

/-- An entry is backed by a request. -/
def Bkd (d : Def) (rs : List Req) (id : Int) (e : Entry) : Prop :=
  1 ≤ e.ref ∧ ∃ h : (e.ref - 1).toNat < rs.length, rs[(e.ref - 1).toNat].inst = id ∧ rs[(e.ref - 1).toNat].what = (if e.kind = 4 then 3 else 2) ∧ rs[(e.ref - 1).toNat].closed = true ∧ (rs[(e.ref - 1).toNat].bys.length : Int) = d.quorum
def asked (e : Entry) : Bool := e.kind == 2 || e.kind == 4
structure BackOk (d : Def) (l : List Cmd) : Prop where
  req : ∀ r ∈ requestsR d l, 1 ≤ r.reason.size ∧ r.bys.Nodup ∧ r.who ∉ r.bys
  led : ∀ id, ∀ e ∈ (instanceR d l id).ledger, asked e = true → Bkd d (requestsR d l) id e
  own : ∀ id, (((instanceR d l id).ledger.filter asked).map (·.ref)).Nodup

theorem Bkd.next {d : Def} {l : List Cmd} {c : Cmd} (hc : (answerR d l c).code = 0) {id : Int} {e : Entry} (h : Bkd d (requestsR d l) id e) : Bkd d (requestsR d (l ++ [c])) id e := by
  obtain ⟨h1, hlt, a, b, cl, q⟩ := h
  obtain ⟨hj, _, _, same⟩ := req_next hc _ hlt
  exact ⟨h1, hj, by rw [same cl]; exact a, by rw [same cl]; exact b, by rw [same cl]; exact cl, by rw [same cl]; exact q⟩

theorem approve_free {d : Def} {l : List Cmd} {c : Cmd} (hc : (answerR d l c).code = 0) (hk : c.kind = 6) (hlt : (c.a - 1).toNat < (requestsR d l).length) : c.who ≠ (requestsR d l)[(c.a - 1).toNat].who ∧ c.who ∉ (requestsR d l)[(c.a - 1).toNat].bys := by
  obtain ⟨h0, ho⟩ := decided_ok hc (.inl hk)
  unfold decidedR at h0
  rw [if_neg (by rw [ho]; decide), if_neg (by omega)] at h0
  have e : (requestsR d l).getD (c.a - 1).toNat default = (requestsR d l)[(c.a - 1).toNat] := by simp only [List.getD, List.getElem?_eq_getElem hlt, Option.getD_some]
  rw [e] at h0
  generalize (requestsR d l)[(c.a - 1).toNat] = r at *
  by_cases t : c.who < 0 ∨ 9 < c.who ∨ c.who = r.who ∨ r.bys.any (· == c.who) = true
  · rw [if_pos t] at h0; simp at h0
  · exact ⟨fun q => t (.inr (.inr (.inl q))), fun q => t (.inr (.inr (.inr ((any_mem _ _).2 q))))⟩

/-- The fact that a command is to an instance puts an asked entry only where a request was open or is new. -/
theorem fact_asked {d : Def} {l : List Cmd} {c : Cmd} (hc : (answerR d l c).code = 0) (id : Int) (f : Fact) (hf : factOf d (l ++ [c]) id l.length c = [f]) (x : Inst) (e : Entry) (he : e ∈ entOf x f) (ha : asked e = true) :
    Bkd d (requestsR d (l ++ [c])) id e ∧ ∀ e' : Entry, Bkd d (requestsR d l) id e' → e'.ref ≠ e.ref := by
  have hs := factOf_snoc d l c id
  rw [hf] at hs
  have hsm : asked ⟨if x.mode = 1 then 1 else 3, atR x, x.key⟩ = false := by unfold asked; split <;> rfl
  by_cases c2 : c.kind = 2 ∧ c.inst = id
  · rw [if_pos c2] at hs; simp at hs; subst hs; simp [entOf] at he
  rw [if_neg c2] at hs
  by_cases c3 : c.kind = 3 ∧ c.inst = id ∧ c.b = 1
  · rw [if_pos c3] at hs; simp at hs; subst hs
    simp [entOf] at he
    rw [he, hsm] at ha; simp at ha
  rw [if_neg c3] at hs
  by_cases c3' : c.kind = 3 ∧ c.inst = id
  · rw [if_pos c3'] at hs; simp at hs; subst hs; simp [entOf] at he
  rw [if_neg c3'] at hs
  have hent : ∀ (w t : Int) (n : Int), e ∈ entOf x ⟨4, clockR l, w, t, n⟩ → e.ref = n ∧ w = (if e.kind = 4 then 3 else 2) := by
    intro w t n he
    unfold entOf at he
    simp only [show ¬ (4 : Int) = 1 by omega, show ¬ (4 : Int) = 2 by omega, show ¬ (4 : Int) = 3 by omega, if_false] at he
    by_cases w2 : w = 2
    · rw [if_pos w2] at he; simp at he; subst he; exact ⟨rfl, by simp [w2]⟩
    rw [if_neg w2] at he
    by_cases w3 : w = 3
    · rw [if_pos w3] at he; simp at he; subst he; exact ⟨rfl, by simp [w3]⟩
    · rw [if_neg w3] at he; simp at he
  by_cases c5 : c.kind = 5
  · rw [if_pos (.inl c5), carried_ask d l c id c5] at hs
    by_cases q : d.quorum = 0 ∧ c.inst = id
    · rw [if_pos q] at hs; simp at hs; subst hs
      obtain ⟨e1, e2⟩ := hent _ _ _ he
      have er := reqs_ask (d := d) (l := l) c5
      have hj : (e.ref - 1).toNat = (requestsR d l).length := by omega
      refine ⟨⟨by omega, by rw [er]; simp; omega, ?_⟩, ?_⟩
      · have eg : (requestsR d (l ++ [c]))[(e.ref - 1).toNat]'(by rw [er]; simp; omega) = reqBase d l c ((requestsR d l).length + 1) := by
          simp only [er]; rw [List.getElem_append_right (by omega)]; simp [hj]
        rw [eg]
        exact ⟨q.2, e2, decide_eq_true q.1, q.1.symm⟩
      · rintro e' ⟨p1, p2, _⟩ q2
        omega
    · rw [if_neg q] at hs; simp at hs
  by_cases c6 : c.kind = 6
  · obtain ⟨hlt, ha1, _, hnum, hopen, _⟩ := named hc (.inl c6)
    rw [if_pos (.inr c6), carried_approve id hc c6 hlt] at hs
    by_cases q : (((requestsR d l)[(c.a - 1).toNat]).bys.length : Int) + 1 = d.quorum ∧ ((requestsR d l)[(c.a - 1).toNat]).inst = id
    · rw [if_pos q] at hs; simp only [if_true, List.cons.injEq, and_true] at hs; subst hs
      obtain ⟨e1, e2⟩ := hent _ _ _ he
      have er := reqs_named (d := d) (l := l) (c := c) (.inl c6) ha1 hlt
      refine ⟨⟨by omega, by rw [er, e1]; simpa using hlt, ?_⟩, ?_⟩
      · have eg : (requestsR d (l ++ [c]))[(e.ref - 1).toNat]'(by rw [er, e1]; simpa using hlt) = reqNext d c (requestsR d l)[(c.a - 1).toNat] := by
          simp only [er, e1]; rw [List.getElem_set_self]
        rw [eg, reqNext_approve d c _ hnum.symm c6]
        exact ⟨q.2, e2, decide_eq_true (by simpa using q.1), by simpa using q.1⟩
      · rintro e' ⟨p1, p2, _, _, p3, _⟩ q2
        have : (e'.ref - 1).toNat = (c.a - 1).toNat := by omega
        simp only [this] at p3
        rw [hopen] at p3; simp at p3
    · rw [if_neg q] at hs; simp at hs
  · rw [if_neg (by omega)] at hs; simp at hs

theorem LogOk.backed {d : Def} {l : List Cmd} (h : LogOk d l) : BackOk d l := by
  refine LogOk.ind (P := BackOk d) ⟨by simp [requestsR, requestsTo], fun id e he => by simp [instanceR, instFold, factsR, factsTo, startR] at he, fun id => by simp [instanceR, instFold, factsR, factsTo, startR]⟩ ?_ l h
  intro l c hl hc ih
  refine ⟨?_, ?_, ?_⟩
  · intro r hr
    by_cases k5 : c.kind = 5
    · rw [reqs_ask k5] at hr
      rcases List.mem_append.1 hr with hr | hr
      · exact ih.req r hr
      · simp at hr; subst hr
        exact ⟨(ask_room hc k5).2.2.2.1, by simp [reqBase], by simp [reqBase]⟩
    by_cases k67 : c.kind = 6 ∨ c.kind = 7
    · obtain ⟨hlt, ha1, _, hnum, hopen, _⟩ := named hc k67
      rw [reqs_named k67 ha1 hlt] at hr
      rcases List.mem_or_eq_of_mem_set hr with hr | rfl
      · exact ih.req r hr
      · obtain ⟨i1, i2, i3⟩ := ih.req _ (List.getElem_mem hlt)
        rcases k67 with k | k
        · obtain ⟨f1, f2⟩ := approve_free hc k hlt
          rw [reqNext_approve d c _ hnum.symm k]
          refine ⟨i1, ?_, ?_⟩
          · simp only
            rw [List.nodup_append]
            exact ⟨i2, by simp, fun a ha b hb => by simp at hb; subst hb; exact fun q => f2 (q ▸ ha)⟩
          · simp only
            intro q
            rcases List.mem_append.1 q with q | q
            · exact i3 q
            · exact f1 (List.mem_singleton.1 q).symm
        · rw [reqNext_withdraw d c _ hnum.symm k]; exact ⟨i1, i2, i3⟩
    · rw [reqs_same k5 (by omega) (by omega)] at hr; exact ih.req r hr
  · intro id e he ha
    rcases ledger_snoc d l c id with ⟨_, e1⟩ | ⟨f, hf, e1⟩
    · rw [e1] at he; exact (ih.led id e he ha).next hc
    · rw [e1] at he
      rcases List.mem_append.1 he with he | he
      · exact (ih.led id e he ha).next hc
      · exact (fact_asked hc id f hf _ e he ha).1
  · intro id
    rcases ledger_snoc d l c id with ⟨_, e1⟩ | ⟨f, hf, e1⟩
    · rw [e1]; exact ih.own id
    · rw [e1, List.filter_append, List.map_append, List.nodup_append]
      refine ⟨ih.own id, ?_, ?_⟩
      · have := entOf_len (instanceR d l id) f
        have h2 := List.length_filter_le asked (entOf (instanceR d l id) f)
        match hm : (entOf (instanceR d l id) f).filter asked, h2 with
        | [], _ => simp
        | [e], _ => simp
        | e :: g :: t, h2 => simp at h2; omega
      · intro a ha b hb
        obtain ⟨e', he', rfl⟩ := List.mem_map.1 ha
        obtain ⟨e, he, rfl⟩ := List.mem_map.1 hb
        obtain ⟨m1, m2⟩ := List.mem_filter.1 he
        obtain ⟨m3, m4⟩ := List.mem_filter.1 he'
        exact (fact_asked hc id f hf _ e m1 m2).2 e' (ih.led id e' m3 m4)

end Go.Proofs.Ytgcjlgaapiefiab

/-
  What a crash leaves, behind a script without crashes (plain).
-/
namespace Go.Proofs.Ytgcjlgaapiefiab

theorem cutN_le (l : List Cmd) (n : Int) : ∀ m, cutN l n m ≤ m
  | 0 => Nat.le_refl _
  | m + 1 => by
    unfold cutN; split
    · exact Nat.le_refl _
    · have := cutN_le l n m; omega
theorem cutN_fits (l : List Cmd) (n : Int) (h0 : 0 ≤ n) : ∀ m, (bytesN (l.take (cutN l n m)) : Int) ≤ n
  | 0 => by show ((bytesN ([] : List Cmd) : Nat) : Int) ≤ n; rw [bytesN_nil]; exact h0
  | m + 1 => by
    unfold cutN; split
    · assumption
    · exact cutN_fits l n h0 m
theorem cutN_most (l : List Cmd) (n : Int) (q : Nat) (h : (bytesN (l.take q) : Int) ≤ n) : ∀ m, q ≤ m → q ≤ cutN l n m
  | 0 => fun hq => by omega
  | m + 1 => fun hq => by
    unfold cutN; split
    · exact hq
    · rename_i hn
      by_cases e : q = m + 1
      · subst e; exact absurd h hn
      · exact cutN_most l n q h m (by omega)

/-- What is safe ends where a record ends. -/
def SafeAt (t : TapeR) : Prop := ∃ q, q ≤ t.log.length ∧ t.safe = bytesN (t.log.take q)
theorem SafeAt.step {d : Def} {t : TapeR} (h : SafeAt t) (c : Cmd) : SafeAt (playStep d t c) := by
  obtain ⟨q, hq, e⟩ := h
  unfold playStep
  by_cases h8 : c.kind = 8
  · rw [if_pos h8]; exact ⟨t.log.length, Nat.le_refl _, by rw [List.take_length]⟩
  rw [if_neg h8]
  by_cases h9 : c.kind = 9 ∧ c.a < 0
  · rw [if_pos h9]; exact ⟨q, hq, e⟩
  rw [if_neg h9]
  by_cases h9' : c.kind = 9
  · rw [if_pos h9']; split
    · exact ⟨_, Nat.le_refl _, by rw [List.take_length]⟩
    · exact ⟨_, Nat.le_refl _, by rw [List.take_length]⟩
  rw [if_neg h9']
  by_cases ha : (answerR d t.log c).code = 0 ∧ c.dry = false
  · rw [if_pos ha]
    by_cases h2 : c.kind = 2
    · refine ⟨t.log.length + 1, by simp, ?_⟩
      show (if c.kind = 2 then (bytesN t.log : Int) + (recordR c).size else t.safe) = (bytesN ((t.log ++ [c]).take (t.log.length + 1)) : Int)
      rw [if_pos h2, List.take_of_length_le (by simp), bytesN_snoc]; omega
    · refine ⟨q, by simp; omega, ?_⟩
      show (if c.kind = 2 then (bytesN t.log : Int) + (recordR c).size else t.safe) = (bytesN ((t.log ++ [c]).take q) : Int)
      rw [if_neg h2, List.take_append_of_le_length hq]; exact e
  · rw [if_neg ha]; exact ⟨q, hq, e⟩
theorem safe_at (d : Def) (s : List Cmd) : SafeAt (playR d s) := by
  have : ∀ k, k ≤ s.length → SafeAt (playR d (s.take k)) := by
    intro k
    induction k with
    | zero => intro _; exact ⟨0, Nat.le_refl _, rfl⟩
    | succ k ih =>
      intro hk
      rw [playR_takeK d s k hk]
      exact (ih (by omega)).step _
  have h := this s.length (Nat.le_refl _)
  rwa [List.take_length] at h

def crashC (r : Int) : Cmd := ⟨9, 0, r, 0, 0, ⟨#[]⟩, false⟩

theorem safe_plain (d : Def) (S : List Cmd) (r : Nat) : ∃ p, p ≤ (playR d S).log.length ∧ (playR d (S ++ [crashC r])).log = (playR d S).log.take p ∧ (playR d (S ++ [crashC r])).safe = bytesN ((playR d S).log.take p) ∧
    (playR d S).safe ≤ bytesN ((playR d S).log.take p) ∧ bytesN ((playR d S).log.take p) ≤ bytesN (playR d S).log ∧ (bytesN ((playR d S).log.take p) : Int) ≤ (playR d S).safe + r ∧
    ((bytesN (playR d S).log : Int) ≤ (playR d S).safe + r → bytesN ((playR d S).log.take p) = bytesN (playR d S).log) ∧
    (playR d (S ++ [crashC r] ++ [crashC 0])).log = (playR d S).log.take p := by
  have ht := (playFold d S S.length (Nat.le_refl _)).1
  rw [List.take_length] at ht
  have hs := ht.safe
  obtain ⟨q, hq, eq⟩ := safe_at d S
  have e1 := playR_snocK d S (crashC r)
  have e2 := playR_snocK d (S ++ [crashC r]) (crashC 0)
  generalize playR d S = T at *
  obtain ⟨c1, c2, _⟩ := crash_log d T (crashC r) rfl (by show (0 : Int) ≤ r; omega) hs.1
  have hr : (crashC r).a = (r : Int) := rfl
  rw [hr] at c1
  rw [e1] at e2 ⊢
  have hst : T.safe ≤ (stayN T r : Int) ∧ ((stayN T r : Int) ≤ T.safe + r) ∧ ((bytesN T.log : Int) ≤ T.safe + r → stayN T r = bytesN T.log) := by
    unfold stayN; split
    · omega
    · omega
  obtain ⟨p, hp⟩ : ∃ p, p = cutN T.log (stayN T r) T.log.length := ⟨_, rfl⟩
  have hc : (playStep d T (crashC r)).log = T.log.take p := by rw [c1, hp]; rfl
  have hple : p ≤ T.log.length := by rw [hp]; exact cutN_le _ _ _
  have hpf : (bytesN (T.log.take p) : Int) ≤ stayN T r := by rw [hp]; exact cutN_fits _ _ (by omega) _
  have hqp : q ≤ p := by rw [hp]; exact cutN_most _ _ _ (by omega) _ hq
  have hm1 := bytesN_mono T.log q p hqp hple
  have hm2 := bytesN_mono T.log p T.log.length hple (Nat.le_refl _)
  rw [List.take_length] at hm2
  refine ⟨p, hple, hc, by rw [c2, hc], by omega, hm2, by omega, ?_, ?_⟩
  · intro h
    have hall : T.log.length ≤ p := by rw [hp]; exact cutN_most _ _ _ (by rw [List.take_length]; have := hst.2.2 h; omega) _ (Nat.le_refl _)
    rw [List.take_of_length_le hall]
  · have hs2 : (playStep d T (crashC r)).safe = bytesN (playStep d T (crashC r)).log := c2
    obtain ⟨g1, _, _⟩ := crash_log d (playStep d T (crashC r)) (crashC 0) rfl (by show (0 : Int) ≤ 0; omega) (by rw [hs2]; omega)
    rw [e2, g1]
    have h0 : (crashC 0).a = 0 := rfl
    have : stayN (playStep d T (crashC r)) (crashC 0).a = bytesN (playStep d T (crashC r)).log := by
      unfold stayN; rw [if_neg (by rw [hs2, h0]; omega)]
    rw [this, cut_all _ _ (.inr (Int.le_refl _)), hc]

theorem bytes_inj (l : List Cmd) (i p : Nat) (hi : i ≤ l.length) (hp : p ≤ l.length) (h : bytesN (l.take i) = bytesN (l.take p)) : i = p := by
  have key : ∀ a b, a < b → b ≤ l.length → bytesN (l.take a) < bytesN (l.take b) := by
    intro a b hab hb
    have h1 := bytesN_mono l (a + 1) b hab hb
    have h2 := bytesN_take l a (by omega)
    rw [recordR_size, recBody_length] at h2
    have : 0 < 8 := by omega
    omega
  rcases Nat.lt_trichotomy i p with q | q | q
  · have := key i p q hp; omega
  · exact q
  · have := key p i q hi; omega

end Go.Proofs.Ytgcjlgaapiefiab

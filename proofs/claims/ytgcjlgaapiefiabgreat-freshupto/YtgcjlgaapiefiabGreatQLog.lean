import Derived.Test.YtgcjlgaapiefiabGreatQData

/-
  Logs that came about: what is known of them (plain).
-/
namespace Go.Proofs.YtgcjlgaapiefiabGreat

/-- Each command was answered with OK behind those ahead of it. -/
def LogOk (d : Def) (l : List Cmd) : Prop := ∀ k (hk : k < l.length), (answerR d (l.take k) l[k]).code = 0

theorem LogOk.take {d : Def} {l : List Cmd} (h : LogOk d l) (m : Nat) : LogOk d (l.take m) := by
  intro k hk
  have hkl : k < l.length := by simp at hk; omega
  have hkm : k < m := by simp at hk; omega
  have := h k hkl
  rw [List.getElem_take, List.take_take, Nat.min_eq_left (by omega)]
  exact this

theorem clock_take_succ (l : List Cmd) (k : Nat) (hk : k < l.length) : clockR (l.take (k + 1)) = clockStep (clockR (l.take k)) l[k] := foldl_take_succ _ _ _ _ hk

/-- What an accepted TICK says. -/
theorem tick_ok {d : Def} {l : List Cmd} {c : Cmd} (h : (answerR d l c).code = 0) (h4 : c.kind = 4) : 1 ≤ c.a ∧ c.a ≤ 100 ∧ clockR l + c.a ≤ 10000 := by
  unfold answerR at h
  rw [if_neg (by omega), if_pos h4] at h
  by_cases h1 : c.a < 1 ∨ 100 < c.a
  · rw [if_pos h1] at h; simp [noR] at h
  · rw [if_neg h1] at h
    by_cases h2 : 10000 < clockR l + c.a
    · rw [if_pos h2] at h; simp [noR] at h
    · omega

theorem LogOk.clock {d : Def} {l : List Cmd} (h : LogOk d l) : ∀ k, k ≤ l.length → 0 ≤ clockR (l.take k) ∧ clockR (l.take k) ≤ 10000 := by
  intro k
  induction k with
  | zero => intro _; simp [clockR]
  | succ k ih =>
    intro hk
    have h1 := ih (by omega)
    rw [clock_take_succ l k (by omega)]
    unfold clockStep
    split
    · rename_i h4
      have := tick_ok (h k (by omega)) h4
      omega
    · exact h1

theorem LogOk.ticks {d : Def} {l : List Cmd} (h : LogOk d l) : TicksOk l := by
  refine ⟨fun c hc h4 => ?_, ?_⟩
  · obtain ⟨k, hk, rfl⟩ := List.getElem_of_mem hc
    have := tick_ok (h k hk) h4
    exact ⟨this.1, this.2.1⟩
  · have := h.clock l.length (Nat.le_refl _)
    rw [List.take_length] at this
    exact this.2

/-- How many requests a log makes is how many ASKs it has. -/
def asks (l : List Cmd) : Nat := (l.filter fun c => c.kind == 5).length
theorem requestsTo_asks (d : Def) (l : List Cmd) (k : Nat) (hk : k ≤ l.length) : (requestsTo d l k).length = asks (l.take k) := by
  induction k with
  | zero => simp [requestsTo, asks]
  | succ k ih =>
    have hkl : k < l.length := by omega
    have hg : l.getD k default = l[k] := by simp [List.getD, hkl]
    unfold requestsTo
    rw [hg]
    have h1 := ih (by omega)
    unfold asks at h1 ⊢
    rw [List.take_succ_eq_append_getElem hkl, List.filter_append]
    by_cases h5 : l[k].kind = 5
    · rw [if_pos h5]; simp [h5, h1]
    · rw [if_neg h5]; simp [h5, h1]
theorem requestsR_asks (d : Def) (l : List Cmd) : (requestsR d l).length = asks l := by
  unfold requestsR
  rw [requestsTo_asks d l l.length (Nat.le_refl _), List.take_length]

/-- What an accepted APPROVE or WITHDRAW says. -/
theorem decided_ok {d : Def} {l : List Cmd} {c : Cmd} (h : (answerR d l c).code = 0) (h6 : c.kind = 6 ∨ c.kind = 7) : decidedR d l c (clockR l) = 0 ∧ openR (requestsR d l) c.a (clockR l) = true := by
  unfold answerR at h
  rw [if_neg (by omega), if_neg (by omega), if_pos h6] at h
  have h0 : decidedR d l c (clockR l) = 0 := h
  refine ⟨h0, ?_⟩
  cases ho : openR (requestsR d l) c.a (clockR l)
  · unfold decidedR at h0; rw [if_pos ho] at h0; simp at h0
  · rfl
theorem open_range {rs : List Req} {a now : Int} (h : openR rs a now = true) : 1 ≤ a ∧ a ≤ rs.length := by
  unfold openR at h
  simp only [Bool.and_eq_true, decide_eq_true_eq] at h
  exact ⟨h.1, h.2.1⟩

theorem LogOk.approves {d : Def} {l : List Cmd} (h : LogOk d l) : ApprovesOk d l := by
  intro k hk h6
  obtain ⟨_, ho⟩ := decided_ok (h k hk) (.inl h6)
  have := open_range ho
  refine ⟨this.1, ?_⟩
  rw [requestsR_asks] at this ⊢
  have hle : asks (l.take k) ≤ asks (l.take (k + 1)) := by
    unfold asks
    rw [List.take_succ_eq_append_getElem hk, List.filter_append]
    simp
  omega

end Go.Proofs.YtgcjlgaapiefiabGreat

/-
  One instance: what every acceptable fact keeps (plain).
-/
namespace Go.Proofs.YtgcjlgaapiefiabGreat

/-- What holds of every instance. -/
def InvI (d : Def) (x : Inst) : Prop :=
  (x.mode = 1 ∧ 0 ≤ settledR x.ledger ∧ settledR x.ledger < d.steps.length) ∨
  (x.mode = 2 ∧ 0 ≤ x.target ∧ x.target < settledR x.ledger ∧ settledR x.ledger ≤ d.steps.length) ∨
  (x.mode = 3 ∧ x.key = 0) ∨ (x.mode = 4 ∧ x.key = 0)

/-- A fact that can come about. -/
def Acc (d : Def) (x : Inst) (f : Fact) : Prop :=
  (f.kind = 1 ∧ x.mode ≤ 2) ∨ (f.kind = 2 ∧ x.key ≠ 0) ∨ (f.kind = 3 ∧ x.key ≠ 0) ∨ (f.kind = 4 ∧ 1 ≤ f.what ∧ f.what ≤ 5 ∧ canR d x f.what f.target = true)

theorem settledR_snoc (l : List Entry) (e : Entry) : settledR (l ++ [e]) = settledStep (settledR l) e := by
  unfold settledR; rw [List.foldl_append]; rfl

theorem entered_fwd {d : Def} {x : Inst} (hm : x.mode = 1) (h0 : 0 ≤ settledR x.ledger) (h1 : settledR x.ledger < d.steps.length) (kind ref now : Int) (hk : kind = 1 ∨ kind = 2) : InvI d (enteredR d x kind ref now) := by
  have hs : settledR (x.ledger ++ [⟨kind, atR x, ref⟩]) = settledR x.ledger + 1 := by
    rw [settledR_snoc, settledStep, if_pos hk]
  unfold enteredR closeR anewR InvI
  simp only [hs, hm]
  by_cases e : settledR x.ledger + 1 = d.steps.length
  · simp [e]
  · simp [e, hs]; omega

theorem entered_back {d : Def} {x : Inst} (hm : x.mode = 2) (ht : 0 ≤ x.target) (h0 : x.target < settledR x.ledger) (h1 : settledR x.ledger ≤ d.steps.length) (kind ref now : Int) (hk : kind = 3 ∨ kind = 4) : InvI d (enteredR d x kind ref now) := by
  have hs : settledR (x.ledger ++ [⟨kind, atR x, ref⟩]) = settledR x.ledger - 1 := by
    rw [settledR_snoc, settledStep, if_neg (by show ¬ (kind = 1 ∨ kind = 2); omega)]
  unfold enteredR closeR anewR InvI
  simp only [hs, hm]
  by_cases e : settledR x.ledger - 1 = x.target
  · cases hr : x.resume
    · simp [e]
    · simp [e, hs]; omega
  · simp [e, hs]; omega

theorem backward_inv {d : Def} {x : Inst} (t : Int) (b : Bool) (now : Int) (ht : 0 ≤ t) (h : settledR x.ledger = 0 ∨ t < settledR x.ledger) (h1 : settledR x.ledger ≤ d.steps.length) : InvI d (backwardR x t b now) := by
  unfold backwardR InvI
  by_cases e : settledR x.ledger = 0
  · simp [e]
  · simp [e]; omega

theorem InvI.inSteps {d : Def} {x : Inst} (h : InvI d x) (hm : x.mode ≤ 2) : 0 ≤ atR x ∧ atR x < d.steps.length := by
  unfold atR
  rcases h with ⟨h1, h2, h3⟩ | ⟨h1, h2, h3, h4⟩ | ⟨h1, _⟩ | ⟨h1, _⟩
  · rw [if_neg (by omega)]; omega
  · rw [if_pos h1]; omega
  · omega
  · omega
theorem InvI.key_mode {d : Def} {x : Inst} (h : InvI d x) (hk : x.key ≠ 0) : x.mode ≤ 2 := by
  rcases h with ⟨h1, _⟩ | ⟨h1, _⟩ | ⟨_, h2⟩ | ⟨_, h2⟩
  · omega
  · omega
  · exact absurd h2 hk
  · exact absurd h2 hk
theorem InvI.same {d : Def} {x y : Inst} (h : InvI d x) (hm : y.mode = x.mode) (ht : y.target = x.target) (hl : y.ledger = x.ledger) (hk : x.mode ≤ 2 ∨ y.key = x.key) : InvI d y := by
  unfold InvI
  rw [hm, ht, hl]
  rcases h with h | h | ⟨h1, h2⟩ | ⟨h1, h2⟩
  · exact .inl h
  · exact .inr (.inl h)
  · rcases hk with hk | hk
    · omega
    · exact .inr (.inr (.inl ⟨h1, by rw [hk]; exact h2⟩))
  · rcases hk with hk | hk
    · omega
    · exact .inr (.inr (.inr ⟨h1, by rw [hk]; exact h2⟩))

/-- Every fact that can come about keeps it. -/
theorem InvI.after {d : Def} {x : Inst} {f : Fact} (h : InvI d x) (ha : Acc d x f) : InvI d (afterR d x f) := by
  unfold afterR
  rcases ha with ⟨hk, hm⟩ | ⟨hk, hkey⟩ | ⟨hk, hkey⟩ | ⟨hk, hw1, hw5, hc⟩
  · rw [if_pos hk]
    unfold pickedR
    split
    · exact h.same rfl rfl rfl (.inl hm)
    · exact h.same rfl rfl rfl (.inr rfl)
  · rw [if_neg (by omega), if_pos hk]
    have hm := h.key_mode hkey
    rcases h with ⟨h1, h2, h3⟩ | ⟨h1, h2, h3, h4⟩ | ⟨h1, _⟩ | ⟨h1, _⟩
    · rw [if_pos h1]; exact entered_fwd h1 h2 h3 _ _ _ (.inl rfl)
    · rw [if_neg (by omega)]; exact entered_back h1 h2 h3 h4 _ _ _ (.inl rfl)
    · omega
    · omega
  · rw [if_neg (by omega), if_neg (by omega), if_pos hk]
    have hm := h.key_mode hkey
    unfold wrongR
    split
    · exact h.same rfl rfl rfl (.inl hm)
    split
    · rename_i hb
      rcases h with ⟨h1, h2, h3⟩ | ⟨h1, _⟩ | ⟨h1, _⟩ | ⟨h1, _⟩
      · exact backward_inv 0 false _ (by omega) (by omega) (by omega)
      · omega
      · omega
      · omega
    · exact h.same rfl rfl rfl (.inl hm)
  · rw [if_neg (by omega), if_neg (by omega), if_neg (by omega)]
    unfold doneR
    unfold canR at hc
    by_cases w1 : f.what = 1
    · rw [if_pos w1]; exact h.same rfl rfl rfl (.inr rfl)
    rw [if_neg w1] at hc ⊢
    by_cases w2 : f.what = 2
    · rw [if_pos w2] at hc ⊢
      have hm : x.mode = 1 := by simpa using hc
      rcases h with ⟨h1, h2, h3⟩ | ⟨h1, _⟩ | ⟨h1, _⟩ | ⟨h1, _⟩
      · exact entered_fwd h1 h2 h3 _ _ _ (.inr rfl)
      · omega
      · omega
      · omega
    rw [if_neg w2] at hc ⊢
    by_cases w3 : f.what = 3
    · rw [if_pos w3] at hc ⊢
      have hm : x.mode = 2 := by simpa using hc
      rcases h with ⟨h1, _⟩ | ⟨h1, h2, h3, h4⟩ | ⟨h1, _⟩ | ⟨h1, _⟩
      · omega
      · exact entered_back h1 h2 h3 h4 _ _ _ (.inr rfl)
      · omega
      · omega
    rw [if_neg w3] at hc ⊢
    by_cases w4 : f.what = 4
    · rw [if_pos w4] at hc ⊢
      simp only [Bool.and_eq_true, beq_iff_eq, decide_eq_true_eq] at hc
      rcases h with ⟨h1, h2, h3⟩ | ⟨h1, _⟩ | ⟨h1, _⟩ | ⟨h1, _⟩
      · exact backward_inv 0 false _ (by omega) (by omega) (by omega)
      · omega
      · omega
      · omega
    rw [if_neg w4] at hc ⊢
    simp only [Bool.and_eq_true, beq_iff_eq, decide_eq_true_eq] at hc
    rcases h with ⟨h1, h2, h3⟩ | ⟨h1, _⟩ | ⟨h1, _⟩ | ⟨h1, _⟩
    · exact backward_inv f.target true _ hc.2.1 (.inr hc.2.2.1) (by omega)
    · omega
    · omega
    · omega

theorem InvI.start {d : Def} (id : Int) (h : 0 < d.steps.length) : InvI d (startR id) := by
  unfold InvI startR; left; simp [settledR]; omega

end Go.Proofs.YtgcjlgaapiefiabGreat

/-
  Requests and facts of a log with one command more (plain).
-/
namespace Go.Proofs.YtgcjlgaapiefiabGreat

theorem reqStep_number (d : Def) (n : Int) (r : Req) (c : Cmd) : (reqStep d n r c).number = r.number ∧ (reqStep d n r c).inst = r.inst ∧ (reqStep d n r c).what = r.what ∧ (reqStep d n r c).target = r.target := by
  unfold reqStep; split
  · exact ⟨rfl, rfl, rfl, rfl⟩
  · split <;> exact ⟨rfl, rfl, rfl, rfl⟩
theorem reqFold_number (d : Def) (n : Int) (l : List Cmd) (r : Req) : (l.foldl (reqStep d n) r).number = r.number ∧ (l.foldl (reqStep d n) r).what = r.what := by
  induction l generalizing r with
  | nil => exact ⟨rfl, rfl⟩
  | cons c l ih =>
    have h1 := ih (reqStep d n r c)
    have h2 := reqStep_number d n r c
    simp only [List.foldl_cons]
    exact ⟨h1.1.trans h2.1, h1.2.trans h2.2.2.1⟩
theorem requestR_number (d : Def) (l : List Cmd) (k : Nat) (n : Int) : (requestR d l k n).number = n ∧ (requestR d l k n).what = (l.getD k default).a := by
  unfold requestR; exact reqFold_number ..

theorem requestR_snoc (d : Def) (l : List Cmd) (c : Cmd) (k : Nat) (n : Int) (hk : k < l.length) : requestR d (l ++ [c]) k n = reqStep d n (requestR d l k n) c := by
  unfold requestR
  rw [List.drop_append_of_le_length (by omega), List.foldl_append, List.take_append_of_le_length (by omega)]
  have : (l ++ [c]).getD k default = l.getD k default := by simp [List.getD, List.getElem?_append_left hk]
  rw [this]; rfl

def reqNext (d : Def) (c : Cmd) (r : Req) : Req := reqStep d r.number r c

theorem requestsTo_snoc (d : Def) (l : List Cmd) (c : Cmd) (k : Nat) (hk : k ≤ l.length) : requestsTo d (l ++ [c]) k = (requestsTo d l k).map (reqNext d c) := by
  induction k with
  | zero => rfl
  | succ k ih =>
    have h1 := ih (by omega)
    have hg : (l ++ [c]).getD k default = l.getD k default := by simp [List.getD, List.getElem?_append_left (show k < l.length by omega)]
    unfold requestsTo
    rw [hg, h1]
    by_cases h5 : (l.getD k default).kind = 5
    · rw [if_pos h5, if_pos h5, List.map_append]
      simp only [List.length_map, List.map_cons, List.map_nil]
      rw [requestR_snoc d l c k _ (by omega)]
      congr 2
      unfold reqNext
      rw [(requestR_number d l k _).1]
    · rw [if_neg h5, if_neg h5]

theorem requestsR_snoc (d : Def) (l : List Cmd) (c : Cmd) : requestsR d (l ++ [c]) = (requestsR d l).map (reqNext d c) ++ (if c.kind = 5 then [reqBase d l c ((requestsR d l).length + 1)] else []) := by
  unfold requestsR
  rw [show (l ++ [c]).length = l.length + 1 by simp]
  conv => lhs; unfold requestsTo
  rw [requestsTo_snoc d l c l.length (Nat.le_refl _)]
  have hg : (l ++ [c]).getD l.length default = c := by simp [List.getD]
  rw [hg]
  by_cases h5 : c.kind = 5
  · rw [if_pos h5, if_pos h5]
    congr 2
    unfold requestR
    rw [List.drop_eq_nil_of_le (by simp), hg]
    simp
  · rw [if_neg h5, if_neg h5]; simp

theorem requestsTo_what (d : Def) (l : List Cmd) (k : Nat) (hk : k ≤ l.length) : ∀ r ∈ requestsTo d l k, ∃ i, ∃ hi : i < l.length, l[i].kind = 5 ∧ r.what = l[i].a := by
  induction k with
  | zero => intro r hr; simp [requestsTo] at hr
  | succ k ih =>
    intro r hr
    have hkl : k < l.length := by omega
    have hg : l.getD k default = l[k] := by simp [List.getD, hkl]
    unfold requestsTo at hr
    split at hr
    · rename_i h5
      rcases List.mem_append.1 hr with hr | hr
      · exact ih (by omega) r hr
      · simp at hr; subst hr
        refine ⟨k, hkl, by rw [← hg]; exact h5, ?_⟩
        rw [(requestR_number ..).2, hg]
    · exact ih (by omega) r hr

theorem factsTo_take (d : Def) (l : List Cmd) (id : Int) (m k : Nat) (hk : k ≤ m) : factsTo d (l.take m) id k = factsTo d l id k := by
  induction k with
  | zero => rfl
  | succ k ih =>
    unfold factsTo
    rw [ih (by omega)]
    have hg : (l.take m).getD k default = l.getD k default := by
      simp only [List.getD, List.getElem?_take]
      rw [if_pos (by omega)]
    rw [hg]
    unfold factOf
    rw [List.take_take, List.take_take, Nat.min_eq_left (by omega), Nat.min_eq_left (by omega)]

theorem factsR_succ (d : Def) (l : List Cmd) (id : Int) (k : Nat) (hk : k < l.length) : factsR d (l.take (k + 1)) id = factsR d (l.take k) id ++ factOf d l id k l[k] := by
  have hg : l.getD k default = l[k] := by simp [List.getD, hk]
  unfold factsR
  have e1 : (l.take (k + 1)).length = k + 1 := by simp; omega
  have e0 : (l.take k).length = k := by simp; omega
  rw [e1, e0, factsTo_take d l id (k + 1) (k + 1) (Nat.le_refl _), factsTo_take d l id k k (Nat.le_refl _)]
  conv => lhs; unfold factsTo
  rw [hg]

/-- What PICK, REPLY and ASK are answered does not look at 'settled'. -/
theorem canR_settled (d : Def) (x : Inst) (s what target : Int) : canR d { x with settled := s } what target = canR d x what target := rfl
theorem canR_target (d : Def) (x : Inst) (what t t' : Int) (h : what = 1 ∨ what = 2 ∨ what = 3 ∨ what = 4) : canR d x what t = canR d x what t' := by
  unfold canR
  rcases h with rfl | rfl | rfl | rfl <;> simp

end Go.Proofs.YtgcjlgaapiefiabGreat

/-
  Every log that came about keeps the invariant of each instance (plain).
-/
namespace Go.Proofs.YtgcjlgaapiefiabGreat

/-- What an accepted PICK, REPLY or ASK says. -/
theorem answered_ok {d : Def} {l : List Cmd} {c : Cmd} (h : (answerR d l c).code = 0) (hk : c.kind = 2 ∨ c.kind = 3 ∨ c.kind = 5) : (answeredR d l c (instanceR d l c.inst) (clockR l)).code = 0 := by
  unfold answerR at h
  rw [if_neg (by omega), if_neg (by omega), if_neg (by omega), if_pos hk] at h
  by_cases hs : (startedR l).any (· == c.inst) = true
  · rw [if_pos hs] at h; exact h
  · rw [if_neg hs] at h; simp [noR] at h
theorem pick_ok {d : Def} {l : List Cmd} {c : Cmd} (h : (answerR d l c).code = 0) (hk : c.kind = 2) : (instanceR d l c.inst).mode ≤ 2 := by
  have h1 := answered_ok h (.inl hk)
  unfold answeredR at h1
  rw [if_pos hk] at h1
  unfold pickAns at h1
  by_cases hm : 2 < (instanceR d l c.inst).mode
  · rw [if_pos hm] at h1; simp [noR] at h1
  · omega
theorem reply_ok {d : Def} {l : List Cmd} {c : Cmd} (h : (answerR d l c).code = 0) (hk : c.kind = 3) : (instanceR d l c.inst).key = c.a ∧ (instanceR d l c.inst).key ≠ 0 := by
  have h1 := answered_ok h (.inr (.inl hk))
  unfold answeredR at h1
  rw [if_neg (by omega), if_pos hk] at h1
  by_cases hm : (instanceR d l c.inst).key ≠ c.a ∨ (instanceR d l c.inst).key = 0
  · rw [if_pos hm] at h1; simp [noR] at h1
  · constructor
    · by_cases e : (instanceR d l c.inst).key = c.a
      · exact e
      · exact absurd (.inl e) hm
    · intro e; exact hm (.inr e)
theorem ask_ok {d : Def} {l : List Cmd} {c : Cmd} (h : (answerR d l c).code = 0) (hk : c.kind = 5) : 1 ≤ c.a ∧ c.a ≤ 5 ∧ canR d (instanceR d l c.inst) c.a c.b = true := by
  have h1 := answered_ok h (.inr (.inr hk))
  unfold answeredR at h1
  rw [if_neg (by omega), if_neg (by omega)] at h1
  unfold askAns at h1
  by_cases t1 : c.a < 1 ∨ 5 < c.a
  · rw [if_pos t1] at h1; simp [noR] at h1
  rw [if_neg t1] at h1
  by_cases t2 : c.who < 0 ∨ 9 < c.who
  · rw [if_pos t2] at h1; simp [noR] at h1
  rw [if_neg t2] at h1
  by_cases t3 : (c.reason.size : Int) < 1 ∨ 20 < (c.reason.size : Int)
  · rw [if_pos t3] at h1; simp [noR] at h1
  rw [if_neg t3] at h1
  cases hc : canR d (instanceR d l c.inst) c.a c.b
  · rw [if_pos hc] at h1; simp [noR] at h1
  · exact ⟨by omega, by omega, rfl⟩
theorem approve_ok {d : Def} {l : List Cmd} {c : Cmd} (h : (answerR d l c).code = 0) (hk : c.kind = 6)
    (hq : (((requestsR d l).getD (c.a - 1).toNat default).bys.length : Int) + 1 = d.quorum) :
    canR d (instanceR d l ((requestsR d l).getD (c.a - 1).toNat default).inst) ((requestsR d l).getD (c.a - 1).toNat default).what ((requestsR d l).getD (c.a - 1).toNat default).target = true := by
  obtain ⟨h0, ho⟩ := decided_ok h (.inl hk)
  unfold decidedR at h0
  rw [if_neg (by rw [ho]; simp), if_neg (by omega)] at h0
  split at h0
  · simp at h0
  · cases hc : canR d (instanceR d l ((requestsR d l).getD (c.a - 1).toNat default).inst) ((requestsR d l).getD (c.a - 1).toNat default).what ((requestsR d l).getD (c.a - 1).toNat default).target
    · rw [if_pos ⟨hq, hc⟩] at h0; simp at h0
    · rfl

theorem LogOk.what {d : Def} {l : List Cmd} (h : LogOk d l) : ∀ r ∈ requestsR d l, 1 ≤ r.what ∧ r.what ≤ 5 := by
  intro r hr
  obtain ⟨i, hi, h5, hw⟩ := requestsTo_what d l l.length (Nat.le_refl _) r hr
  have := ask_ok (h i hi) h5
  omega

theorem getD_map_req (d : Def) (c : Cmd) (rs : List Req) (j : Nat) (h : j < rs.length) : (rs.map (reqNext d c)).getD j default = reqNext d c (rs.getD j default) := by
  simp [List.getD, List.getElem?_eq_getElem h]
theorem requestsTo_number (d : Def) (l : List Cmd) (k : Nat) : ∀ j (hj : j < (requestsTo d l k).length), (requestsTo d l k)[j].number = (j : Int) + 1 := by
  induction k with
  | zero => intro j hj; simp [requestsTo] at hj
  | succ k ih =>
    intro j hj
    by_cases h5 : (l.getD k default).kind = 5
    · have e : requestsTo d l (k + 1) = requestsTo d l k ++ [requestR d l k ((requestsTo d l k).length + 1)] := by
        conv => lhs; unfold requestsTo
        rw [if_pos h5]
      simp only [e] at hj ⊢
      by_cases hlt : j < (requestsTo d l k).length
      · rw [List.getElem_append_left hlt]; exact ih j hlt
      · have : j = (requestsTo d l k).length := by simp at hj; omega
        subst this
        simp [(requestR_number d l k _).1]
    · have e : requestsTo d l (k + 1) = requestsTo d l k := by
        conv => lhs; unfold requestsTo
        rw [if_neg h5]
      simp only [e] at hj ⊢
      exact ih j hj

/-- A fact that a log makes can come about. -/
theorem carried_acc {d : Def} {L : List Cmd} {c : Cmd} {id : Int} (hL : LogOk d L) (h : (answerR d L c).code = 0) (hk : c.kind = 5 ∨ c.kind = 6) (hc : (carriedR d (L ++ [c]) id).2 = true) :
    Acc d (instanceR d L id) (carriedR d (L ++ [c]) id).1 := by
  have hlast : (L ++ [c]).getD ((L ++ [c]).length - 1) default = c := by simp [List.getD]
  have hsn := requestsR_snoc d L c
  unfold carriedR at hc ⊢
  simp only [hlast] at hc ⊢
  by_cases hn : carriedN d c (requestsR d (L ++ [c])) = 0
  · rw [if_pos hn] at hc; simp at hc
  rw [if_neg hn] at hc ⊢
  by_cases hi : ((requestsR d (L ++ [c])).getD (carriedN d c (requestsR d (L ++ [c])) - 1).toNat default).inst = id
  · rw [if_pos hi] at hc ⊢
    right; right; right
    refine ⟨rfl, ?_⟩
    show 1 ≤ ((requestsR d (L ++ [c])).getD (carriedN d c (requestsR d (L ++ [c])) - 1).toNat default).what ∧ ((requestsR d (L ++ [c])).getD (carriedN d c (requestsR d (L ++ [c])) - 1).toNat default).what ≤ 5 ∧ canR d (instanceR d L id) ((requestsR d (L ++ [c])).getD (carriedN d c (requestsR d (L ++ [c])) - 1).toNat default).what ((requestsR d (L ++ [c])).getD (carriedN d c (requestsR d (L ++ [c])) - 1).toNat default).target = true
    rcases hk with h5 | h6
    · obtain ⟨a1, a5, ac⟩ := ask_ok h h5
      have hq : d.quorum = 0 := by
        by_cases e : d.quorum = 0
        · exact e
        · exfalso; apply hn; unfold carriedN; rw [if_neg (fun x => e x.2), if_neg (by omega)]
      have hN : carriedN d c (requestsR d (L ++ [c])) = ((requestsR d L).length : Int) + 1 := by
        unfold carriedN; rw [if_pos ⟨h5, hq⟩, hsn, if_pos h5]; simp
      have hg : (requestsR d (L ++ [c])).getD (carriedN d c (requestsR d (L ++ [c])) - 1).toNat default = reqBase d L c ((requestsR d L).length + 1) := by
        rw [hN, show (((requestsR d L).length : Int) + 1 - 1).toNat = (requestsR d L).length by omega, hsn, if_pos h5]
        simp [List.getD]
      rw [hg] at hi ⊢
      have hid : c.inst = id := hi
      subst hid
      refine ⟨a1, a5, ?_⟩
      show canR d (instanceR d L c.inst) c.a (if c.a = 5 then c.b else 0) = true
      by_cases e : c.a = 5
      · rw [if_pos e]; exact ac
      · rw [canR_target d _ c.a _ c.b (by omega)]; exact ac
    · obtain ⟨_, ho⟩ := decided_ok h (.inl h6)
      obtain ⟨r1, r2⟩ := open_range ho
      have hlt : (c.a - 1).toNat < (requestsR d L).length := by omega
      have hget : (requestsR d (L ++ [c])).getD (c.a - 1).toNat default = reqNext d c ((requestsR d L).getD (c.a - 1).toNat default) := by
        rw [hsn, if_neg (by omega), List.append_nil]
        exact getD_map_req d c (requestsR d L) _ hlt
      have hcond : c.kind = 6 ∧ (((requestsR d (L ++ [c])).getD (c.a - 1).toNat default).bys.length : Int) = d.quorum := by
        by_cases e : c.kind = 6 ∧ (((requestsR d (L ++ [c])).getD (c.a - 1).toNat default).bys.length : Int) = d.quorum
        · exact e
        · exfalso; apply hn; unfold carriedN; rw [if_neg (by omega), if_neg e]
      have hN : carriedN d c (requestsR d (L ++ [c])) = c.a := by
        unfold carriedN; rw [if_neg (by omega), if_pos hcond]
      rw [hN] at hi ⊢
      rw [hget] at hi hcond ⊢
      have hmem : (requestsR d L).getD (c.a - 1).toNat default ∈ requestsR d L := by
        have e : (requestsR d L).getD (c.a - 1).toNat default = (requestsR d L)[(c.a - 1).toNat] := by simp only [List.getD, List.getElem?_eq_getElem hlt, Option.getD_some]
        rw [e]; exact List.getElem_mem hlt
      have hnum : ((requestsR d L).getD (c.a - 1).toNat default).number = c.a := by
        have e : (requestsR d L).getD (c.a - 1).toNat default = (requestsR d L)[(c.a - 1).toNat] := by simp only [List.getD, List.getElem?_eq_getElem hlt, Option.getD_some]
        rw [e]
        have := requestsTo_number d L L.length (c.a - 1).toNat hlt
        show (requestsTo d L L.length)[(c.a - 1).toNat].number = c.a
        rw [this]; omega
      have hwhat := hL.what _ hmem
      have happ := approve_ok (d := d) (l := L) (c := c) h h6
      generalize (requestsR d L).getD (c.a - 1).toNat default = r at *
      obtain ⟨_, n2, n3, n4⟩ := reqStep_number d r.number r c
      have hby : (reqNext d c r).bys = r.bys ++ [c.who] := by
        unfold reqNext reqStep; rw [if_pos ⟨hnum.symm, h6⟩]
      rw [hby] at hcond
      have hq : (r.bys.length : Int) + 1 = d.quorum := by have := hcond.2; simp at this; exact this
      have hc2 := happ hq
      unfold reqNext at hi ⊢
      rw [n2] at hi
      rw [n3, n4]
      subst hi
      exact ⟨hwhat.1, hwhat.2, hc2⟩
  · rw [if_neg hi] at hc; simp at hc

end Go.Proofs.YtgcjlgaapiefiabGreat

/-
  Every log that came about: the premises of the document's walks (plain).
-/
namespace Go.Proofs.YtgcjlgaapiefiabGreat

theorem factOf_acc {d : Def} {l : List Cmd} (h : LogOk d l) (id : Int) (k : Nat) (hk : k < l.length) : ∀ f ∈ factOf d l id k l[k], Acc d (instanceR d (l.take k) id) f := by
  intro f hf
  have hc := h k hk
  have htk : l.take (k + 1) = l.take k ++ [l[k]] := List.take_succ_eq_append_getElem hk
  unfold factOf at hf
  rw [htk] at hf
  generalize l[k] = c at *
  split at hf
  · rename_i e
    simp at hf; subst hf
    have := pick_ok hc e.1
    rw [e.2] at this
    exact .inl ⟨rfl, this⟩
  split at hf
  · rename_i e
    simp at hf; subst hf
    have := reply_ok hc e.1
    rw [e.2.1] at this
    exact .inr (.inl ⟨rfl, this.2⟩)
  split at hf
  · rename_i e
    simp at hf; subst hf
    have := reply_ok hc e.1
    rw [e.2] at this
    exact .inr (.inr (.inl ⟨rfl, this.2⟩))
  split at hf
  · rename_i e
    split at hf
    · rename_i ho
      simp at hf; subst hf
      exact carried_acc (h.take k) hc e ho
    · simp at hf
  · simp at hf

/-- No step is asked for that there is not. -/
def FactsIn (d : Def) (id : Int) (fs : List Fact) : Prop := ∀ j (hj : j < fs.length), fs[j].kind = 1 ∨ fs[j].kind = 3 → 0 ≤ atR (instFold d id (fs.take j)) ∧ atR (instFold d id (fs.take j)) < d.steps.length

theorem FactsIn.snoc {d : Def} {id : Int} {fs : List Fact} {f : Fact} (h : FactsIn d id fs) (hi : InvI d (instFold d id fs)) (ha : Acc d (instFold d id fs) f) : FactsIn d id (fs ++ [f]) := by
  intro j hj hkind
  by_cases hlt : j < fs.length
  · rw [List.getElem_append_left hlt] at hkind
    rw [List.take_append_of_le_length (by omega)]
    exact h j hlt hkind
  · have hjl : j = fs.length := by simp at hj; omega
    subst hjl
    rw [List.take_left]
    simp only [List.getElem_concat_length] at hkind
    apply hi.inSteps
    rcases ha with ⟨_, hm⟩ | ⟨e, _⟩ | ⟨_, hk⟩ | ⟨e, _⟩
    · exact hm
    · omega
    · exact hi.key_mode hk
    · omega

theorem LogOk.inv {d : Def} {l : List Cmd} (h : LogOk d l) (hn : 0 < d.steps.length) (id : Int) : ∀ k, k ≤ l.length → InvI d (instFold d id (factsR d (l.take k) id)) ∧ FactsIn d id (factsR d (l.take k) id) := by
  intro k
  induction k with
  | zero =>
    intro _
    have e : factsR d (l.take 0) id = [] := rfl
    rw [e]
    exact ⟨InvI.start id hn, fun j hj => by simp at hj⟩
  | succ k ih =>
    intro hk
    obtain ⟨hi, hf⟩ := ih (by omega)
    rw [factsR_succ d l id k (by omega)]
    have hacc := factOf_acc h id k (by omega)
    have hlen := factOf_len d l id k l[k]
    generalize factOf d l id k l[k] = new at *
    match new, hlen with
    | [], _ => rw [List.append_nil]; exact ⟨hi, hf⟩
    | [f], _ =>
      have ha : Acc d (instFold d id (factsR d (l.take k) id)) f := hacc f (List.mem_singleton.2 rfl)
      refine ⟨?_, hf.snoc hi ha⟩
      have e : instFold d id (factsR d (l.take k) id ++ [f]) = afterR d (instFold d id (factsR d (l.take k) id)) f := by
        unfold instFold; rw [List.foldl_append]; rfl
      rw [e]
      exact hi.after ha

theorem LogOk.factsIn {d : Def} {l : List Cmd} (h : LogOk d l) (hn : 0 < d.steps.length) (id : Int) : FactsIn d id (factsR d l id) := by
  have := (h.inv hn id l.length (Nat.le_refl _)).2
  rwa [List.take_length] at this
theorem LogOk.invI {d : Def} {l : List Cmd} (h : LogOk d l) (hn : 0 < d.steps.length) (id : Int) : InvI d (instanceR d l id) := by
  have := (h.inv hn id l.length (Nat.le_refl _)).1
  rw [List.take_length] at this
  exact this
theorem LogOk.back {d : Def} {l : List Cmd} (h : LogOk d l) (hn : 0 < d.steps.length) (id : Int) (hm : (instanceR d l id).mode = 2) : 0 ≤ atR (instanceR d l id) ∧ atR (instanceR d l id) < d.steps.length :=
  (h.invI hn id).inSteps (by omega)

end Go.Proofs.YtgcjlgaapiefiabGreat

/-
  The program's functions on one instance, as Lean functions; what holds of every instance (plain).
-/
namespace Go.Proofs.YtgcjlgaapiefiabGreat

/-- An instance with its count of settled steps. -/
def fixI (x : Inst) : Inst := { x with settled := settledR x.ledger }

def nextP (x : Inst) : Int := if x.mode = 2 then x.settled - 1 else x.settled
def stepP (d : Def) (n : Int) : Step := if n < 0 then default else d.steps.getD n.toNat default
def floorP (d : Def) (x : Inst) : Int := firstPivot d.steps x.settled.toNat 0 + 1
def anewP (clock : Int) (x : Inst) : Inst := ⟨x.id, x.mode, false, x.settled, x.target, x.resume, x.keys, 0, 0, 0, clock, x.ledger⟩
def settleP (d : Def) (clock : Int) (x : Inst) (kind ref : Int) : Inst :=
  ⟨x.id, if x.settled + 1 = d.steps.length then 3 else x.mode, false, x.settled + 1, x.target, x.resume, x.keys, 0, 0, 0, clock, x.ledger ++ [⟨kind, nextP x, ref⟩]⟩
def arriveP (x : Inst) : Inst := { x with mode := if x.resume then 1 else 4, target := 0, resume := false }
def takeBackP (clock : Int) (x : Inst) (kind ref : Int) : Inst :=
  if x.settled - 1 = x.target then ⟨x.id, if x.resume then 1 else 4, false, x.settled - 1, 0, false, x.keys, 0, 0, 0, clock, x.ledger ++ [⟨kind, nextP x, ref⟩]⟩
  else ⟨x.id, x.mode, false, x.settled - 1, x.target, x.resume, x.keys, 0, 0, 0, clock, x.ledger ++ [⟨kind, nextP x, ref⟩]⟩
def goBackP (clock : Int) (x : Inst) (target : Int) (resume : Bool) : Inst := ⟨x.id, 2, false, x.settled, target, resume, x.keys, 0, 0, 0, clock, x.ledger⟩
def abortP (clock : Int) (x : Inst) : Inst := ⟨x.id, if x.settled = 0 then 4 else 2, false, x.settled, 0, false, x.keys, 0, 0, 0, clock, x.ledger⟩
def failP (d : Def) (clock : Int) (x : Inst) : Inst :=
  if x.tries ≤ (stepP d (nextP x)).retries then { x with key := 0, due := 0, wake := clock + pauseR x.tries }
  else if x.mode = 1 ∧ floorP d x ≤ 0 then abortP clock x
  else { x with key := 0, due := 0, stuck := true }
def pickP (d : Def) (clock : Int) (x : Inst) : Inst :=
  if x.key = 0 then { x with keys := x.keys + 1, tries := x.tries + 1, key := x.keys + 1, due := clock + (stepP d (nextP x)).timeout }
  else { x with due := clock + (stepP d (nextP x)).timeout }
def replyP (d : Def) (clock : Int) (x : Inst) (well : Bool) : Inst :=
  if well = false then failP d clock x
  else if x.mode = 2 then takeBackP clock x 3 x.key
  else settleP d clock x 1 x.key
def canP (d : Def) (x : Inst) (what target : Int) : Bool :=
  if what = 1 then x.stuck
  else if what = 2 then x.mode == 1
  else if what = 3 then x.mode == 2
  else if what = 4 then (x.mode == 1) && decide (floorP d x ≤ 0)
  else if what = 5 then (x.mode == 1) && (decide (target < x.settled) && decide (floorP d x ≤ target))
  else false
def grantP (d : Def) (clock : Int) (x : Inst) (what target number : Int) : Inst :=
  if what = 1 then anewP clock x
  else if what = 2 then settleP d clock x 2 number
  else if what = 3 then takeBackP clock x 4 number
  else if what = 4 then abortP clock x
  else if what = 5 then goBackP clock x target true
  else x

/-- What holds of every instance that came about. -/
structure Good (d : Def) (x : Inst) : Prop where
  modes : (x.mode = 1 ∧ 0 ≤ settledR x.ledger ∧ settledR x.ledger < d.steps.length ∧ x.target = 0 ∧ x.resume = false) ∨
    (x.mode = 2 ∧ 0 ≤ x.target ∧ x.target < settledR x.ledger ∧ settledR x.ledger ≤ d.steps.length ∧ (x.resume = false → x.target = 0)) ∨
    (x.mode = 3 ∧ x.key = 0 ∧ x.stuck = false ∧ settledR x.ledger = d.steps.length) ∨ (x.mode = 4 ∧ x.key = 0 ∧ x.stuck = false ∧ settledR x.ledger = 0 ∧ x.target = 0 ∧ x.resume = false)
  stuck : x.stuck = true → x.key = 0 ∧ x.due = 0
  keyed : x.key = 0 → x.due = 0
  key : 0 ≤ x.key ∧ x.key ≤ x.keys
  keys : 0 ≤ x.keys ∧ x.keys ≤ 30
  tries : 0 ≤ x.tries ∧ x.tries ≤ x.keys

/-- A fact that can come about, whole. -/
def Accs (d : Def) (x : Inst) (f : Fact) : Prop :=
  (f.kind = 1 ∧ x.mode ≤ 2 ∧ x.stuck = false ∧ (x.key = 0 → x.keys < 30) ∧ (x.key = 0 → x.mode = 2 → (stepR d (atR x)).undo = true)) ∨ (f.kind = 2 ∧ x.key ≠ 0) ∨ (f.kind = 3 ∧ x.key ≠ 0) ∨ (f.kind = 4 ∧ 1 ≤ f.what ∧ f.what ≤ 5 ∧ canR d x f.what f.target = true)

theorem atR_next (x : Inst) : atR x = nextP (fixI x) := rfl
theorem firstPivot_ge (l : List Step) (n i : Nat) : firstPivot l n i = -1 ∨ (i : Int) ≤ firstPivot l n i := by
  induction l generalizing n i with
  | nil => cases n <;> exact .inl rfl
  | cons s l ih =>
    cases n with
    | zero => exact .inl rfl
    | succ n =>
      simp only [firstPivot]
      split
      · exact .inr (Int.le_refl _)
      · rcases ih n (i + 1) with h | h
        · exact .inl h
        · exact .inr (by omega)
theorem floorP_fix (d : Def) (x : Inst) : floorP d (fixI x) = behindR d x.ledger + 1 := rfl
theorem behindR_ge (d : Def) (l : List Entry) : -1 ≤ behindR d l := by
  unfold behindR
  rcases firstPivot_ge d.steps (settledR l).toNat 0 with h | h
  · omega
  · omega

theorem canP_fix (d : Def) (x : Inst) (what target : Int) (h1 : 1 ≤ what) (h5 : what ≤ 5) : canP d (fixI x) what target = canR d x what target := by
  unfold canP canR
  by_cases w1 : what = 1
  · rw [if_pos w1, if_pos w1]; rfl
  rw [if_neg w1, if_neg w1]
  by_cases w2 : what = 2
  · rw [if_pos w2, if_pos w2]; rfl
  rw [if_neg w2, if_neg w2]
  by_cases w3 : what = 3
  · rw [if_pos w3, if_pos w3]; rfl
  rw [if_neg w3, if_neg w3]
  rw [floorP_fix]
  have hb := behindR_ge d x.ledger
  by_cases w4 : what = 4
  · rw [if_pos w4, if_pos w4]
    show ((x.mode == 1) && _) = _
    have e : decide (behindR d x.ledger + 1 ≤ 0) = decide (behindR d x.ledger < 0) := by rw [Bool.eq_iff_iff]; simp only [decide_eq_true_eq]; omega
    rw [e]
  rw [if_neg w4, if_neg w4, if_pos (by omega)]
  show ((x.mode == 1) && (decide (target < settledR x.ledger) && _)) = _
  have e : (decide (target < settledR x.ledger) && decide (behindR d x.ledger + 1 ≤ target)) = (decide (0 ≤ target) && (decide (target < settledR x.ledger) && decide (behindR d x.ledger < target))) := by
    rw [Bool.eq_iff_iff]; simp only [Bool.and_eq_true, decide_eq_true_eq]; omega
  rw [e]

/-- The way back that does not resume goes to 0. -/
theorem Good.inv {d : Def} {x : Inst} (h : Good d x) : InvI d x := by
  rcases h.modes with ⟨h1, h2, h3, _⟩ | ⟨h1, h2, h3, h4, _⟩ | ⟨h1, h2, _⟩ | ⟨h1, h2, _⟩
  · exact .inl ⟨h1, h2, h3⟩
  · exact .inr (.inl ⟨h1, h2, h3, h4⟩)
  · exact .inr (.inr (.inl ⟨h1, h2⟩))
  · exact .inr (.inr (.inr ⟨h1, h2⟩))
theorem Good.mode_of {d : Def} {x : Inst} (h : Good d x) (hm : x.mode ≤ 2) : x.mode = 1 ∨ x.mode = 2 := by
  rcases h.modes with ⟨h1, _⟩ | ⟨h1, _⟩ | ⟨h1, _⟩ | ⟨h1, _⟩ <;> omega

theorem settled_do (l : List Entry) (e : Entry) (h : e.kind = 1 ∨ e.kind = 2) : settledR (l ++ [e]) = settledR l + 1 := by
  rw [settledR_snoc, settledStep, if_pos h]
theorem settled_undo (l : List Entry) (e : Entry) (h : e.kind = 3 ∨ e.kind = 4) : settledR (l ++ [e]) = settledR l - 1 := by
  rw [settledR_snoc, settledStep, if_neg (by omega)]

/-- ENTERED, forward: what the program does. -/
theorem entered_settle {d : Def} {x : Inst} (hm : x.mode = 1) (kind ref now : Int) (hk : kind = 1 ∨ kind = 2) : fixI (enteredR d x kind ref now) = settleP d now (fixI x) kind ref := by
  have hs : ∀ s, settledR (x.ledger ++ [⟨kind, s, ref⟩]) = settledR x.ledger + 1 := fun s => settled_do _ _ hk
  unfold enteredR closeR anewR settleP fixI
  simp only [hs, hm]
  by_cases e : settledR x.ledger + 1 = d.steps.length
  · simp [e, hs, nextP, atR, hm]
  · simp [e, hs, nextP, atR, hm]
theorem entered_take {d : Def} {x : Inst} (hm : x.mode = 2) (hr : x.resume = false → x.target = 0) (kind ref now : Int) (hk : kind = 3 ∨ kind = 4) : fixI (enteredR d x kind ref now) = takeBackP now (fixI x) kind ref := by
  have hs : ∀ s, settledR (x.ledger ++ [⟨kind, s, ref⟩]) = settledR x.ledger - 1 := fun s => settled_undo _ _ hk
  unfold enteredR closeR anewR takeBackP fixI
  simp only [hs, hm]
  by_cases e : settledR x.ledger - 1 = x.target
  · cases hrr : x.resume
    · have := hr hrr
      simp [e, hs, nextP, atR, hm, this]
    · simp [e, hs, nextP, atR, hm]
  · simp [e, hs, nextP, atR, hm]
theorem backward_abort (x : Inst) (now : Int) : fixI (backwardR x 0 false now) = abortP now (fixI x) := rfl
theorem backward_go (x : Inst) (t now : Int) (h : settledR x.ledger ≠ 0) : fixI (backwardR x t true now) = goBackP now (fixI x) t true := by
  unfold backwardR fixI goBackP; simp [h]

theorem stepP_at {d : Def} {x : Inst} (h : 0 ≤ atR x) : stepP d (nextP (fixI x)) = stepR d (atR x) := by
  rw [← atR_next]; unfold stepP stepR; rw [if_neg (by omega)]

/-- Behind a fact that can come about: what the program does. -/
theorem after_pickP {d : Def} {x : Inst} {f : Fact} (h : Good d x) (hk : f.kind = 1) (hm : x.mode ≤ 2) : fixI (afterR d x f) = pickP d f.at_ (fixI x) := by
  have hin := h.inv.inSteps hm
  unfold afterR
  rw [if_pos hk]
  unfold pickP pickedR
  rw [stepP_at hin.1]
  by_cases e : x.key = 0
  · rw [if_pos e, if_pos (show (fixI x).key = 0 from e)]; rfl
  · rw [if_neg e, if_neg (show ¬ (fixI x).key = 0 from e)]; rfl
theorem after_wellP {d : Def} {x : Inst} {f : Fact} (h : Good d x) (hk : f.kind = 2) (hkey : x.key ≠ 0) : fixI (afterR d x f) = replyP d f.at_ (fixI x) true := by
  have hm := h.mode_of (h.inv.key_mode hkey)
  unfold afterR replyP
  rw [if_neg (show ¬ f.kind = 1 by omega), if_pos hk, if_neg (show ¬ true = false by decide)]
  rcases hm with hm | hm
  · rw [if_pos hm, if_neg (show ¬ (fixI x).mode = 2 by show ¬ x.mode = 2; omega)]
    exact entered_settle hm 1 x.key f.at_ (.inl rfl)
  · rw [if_neg (by omega), if_pos (show (fixI x).mode = 2 from hm)]
    refine entered_take hm ?_ 3 x.key f.at_ (.inl rfl)
    rcases h.modes with ⟨h1, _⟩ | ⟨_, _, _, _, h5⟩ | ⟨h1, _⟩ | ⟨h1, _⟩
    · omega
    · exact h5
    · omega
    · omega
theorem after_wrongP {d : Def} {x : Inst} {f : Fact} (h : Good d x) (hk : f.kind = 3) (hkey : x.key ≠ 0) : fixI (afterR d x f) = replyP d f.at_ (fixI x) false := by
  have hm := h.inv.key_mode hkey
  have hin := h.inv.inSteps hm
  unfold afterR replyP
  rw [if_neg (by omega), if_neg (by omega), if_pos hk, if_pos rfl]
  unfold wrongR failP
  rw [stepP_at hin.1, floorP_fix]
  have hb := behindR_ge d x.ledger
  by_cases e : x.tries ≤ (stepR d (atR x)).retries
  · rw [if_pos e, if_pos (show (fixI x).tries ≤ _ from e)]; rfl
  rw [if_neg e, if_neg (show ¬ (fixI x).tries ≤ _ from e)]
  by_cases e2 : x.mode = 1 ∧ behindR d x.ledger < 0
  · rw [if_pos e2, if_pos (show (fixI x).mode = 1 ∧ _ from ⟨e2.1, by omega⟩)]; rfl
  · rw [if_neg e2, if_neg (show ¬ ((fixI x).mode = 1 ∧ _) from fun q => e2 ⟨q.1, by omega⟩)]; rfl
theorem after_doneP {d : Def} {x : Inst} {f : Fact} (h : Good d x) (hk : f.kind = 4) (h1 : 1 ≤ f.what) (h5 : f.what ≤ 5) (hc : canR d x f.what f.target = true) : fixI (afterR d x f) = grantP d f.at_ (fixI x) f.what f.target f.ref := by
  unfold afterR
  rw [if_neg (by omega), if_neg (by omega), if_neg (by omega)]
  unfold doneR grantP
  unfold canR at hc
  by_cases w1 : f.what = 1
  · rw [if_pos w1] at hc
    rw [if_pos w1, if_pos w1]
    obtain ⟨e1, e2⟩ := h.stuck hc
    unfold fixI anewP
    simp [e1, e2]
  rw [if_neg w1] at hc
  rw [if_neg w1, if_neg w1]
  by_cases w2 : f.what = 2
  · rw [if_pos w2] at hc
    rw [if_pos w2, if_pos w2]
    exact entered_settle (by simpa using hc) 2 _ _ (.inr rfl)
  rw [if_neg w2] at hc
  rw [if_neg w2, if_neg w2]
  by_cases w3 : f.what = 3
  · rw [if_pos w3] at hc
    rw [if_pos w3, if_pos w3]
    have hm : x.mode = 2 := by simpa using hc
    refine entered_take hm ?_ 4 _ _ (.inr rfl)
    rcases h.modes with ⟨h1, _⟩ | ⟨_, _, _, _, h5⟩ | ⟨h1, _⟩ | ⟨h1, _⟩
    · omega
    · exact h5
    · omega
    · omega
  rw [if_neg w3] at hc
  rw [if_neg w3, if_neg w3]
  by_cases w4 : f.what = 4
  · rw [if_pos w4, if_pos w4]; rfl
  rw [if_neg w4] at hc
  rw [if_neg w4, if_neg w4, if_pos (by omega)]
  simp only [Bool.and_eq_true, beq_iff_eq, decide_eq_true_eq] at hc
  exact backward_go x _ _ (by omega)

end Go.Proofs.YtgcjlgaapiefiabGreat

/-
  What holds of every instance, behind every fact that can come about (plain).
-/
namespace Go.Proofs.YtgcjlgaapiefiabGreat

theorem Good.start {d : Def} (id : Int) (h : 0 < d.steps.length) : Good d (startR id) := by
  refine ⟨?_, ?_, ?_, ?_, ?_, ?_⟩
  · left; simp [startR, settledR]; omega
  all_goals simp [startR]

theorem good_entered_fwd {d : Def} {x : Inst} (h : Good d x) (hm : x.mode = 1) (kind ref now : Int) (hk : kind = 1 ∨ kind = 2) : Good d (enteredR d x kind ref now) := by
  have hs : settledR (x.ledger ++ [⟨kind, atR x, ref⟩]) = settledR x.ledger + 1 := settled_do _ _ hk
  obtain ⟨h2, h3, h4, h5⟩ : 0 ≤ settledR x.ledger ∧ settledR x.ledger < d.steps.length ∧ x.target = 0 ∧ x.resume = false := by
    rcases h.modes with ⟨_, h⟩ | ⟨h1, _⟩ | ⟨h1, _⟩ | ⟨h1, _⟩
    · exact h
    all_goals omega
  have hks := h.keys
  unfold enteredR closeR anewR
  simp only [hs, hm]
  by_cases e : settledR x.ledger + 1 = d.steps.length
  · rw [if_pos (by simp [e])]
    refine ⟨?_, ?_, ?_, ?_, ?_, ?_⟩
    · right; right; left; simp [hs, e]
    all_goals simp <;> omega
  · rw [if_neg (by simp [e]), if_neg (by simp), if_neg (by simp)]
    refine ⟨?_, ?_, ?_, ?_, ?_, ?_⟩
    · left; simp [hs, h4, h5]; omega
    all_goals simp <;> omega

theorem good_entered_back {d : Def} {x : Inst} (h : Good d x) (hm : x.mode = 2) (kind ref now : Int) (hk : kind = 3 ∨ kind = 4) : Good d (enteredR d x kind ref now) := by
  have hs : settledR (x.ledger ++ [⟨kind, atR x, ref⟩]) = settledR x.ledger - 1 := settled_undo _ _ hk
  obtain ⟨h2, h3, h4, h5⟩ : 0 ≤ x.target ∧ x.target < settledR x.ledger ∧ settledR x.ledger ≤ d.steps.length ∧ (x.resume = false → x.target = 0) := by
    rcases h.modes with ⟨h1, _⟩ | ⟨_, h⟩ | ⟨h1, _⟩ | ⟨h1, _⟩
    · omega
    · exact h
    all_goals omega
  have hks := h.keys
  unfold enteredR closeR anewR
  simp only [hs, hm]
  rw [if_neg (by simp)]
  by_cases e : settledR x.ledger - 1 = x.target
  · cases hr : x.resume
    · rw [if_neg (by simp), if_pos (by simp [e])]
      have ht := h5 hr
      refine ⟨?_, ?_, ?_, ?_, ?_, ?_⟩
      · right; right; right; simp [hs, ht]; omega
      all_goals simp <;> omega
    · rw [if_pos (by simp [e])]
      refine ⟨?_, ?_, ?_, ?_, ?_, ?_⟩
      · left; simp [hs]; omega
      all_goals simp <;> omega
  · rw [if_neg (by simp [e]), if_neg (by simp [e])]
    refine ⟨?_, ?_, ?_, ?_, ?_, ?_⟩
    · right; left; simp [hs]; exact ⟨h2, by omega, by omega, h5⟩
    all_goals simp <;> omega

theorem good_backward {d : Def} {x : Inst} (h : Good d x) (t : Int) (b : Bool) (now : Int) (ht : 0 ≤ t) (hb : b = false → t = 0) (hs : (settledR x.ledger = 0 ∧ t = 0 ∧ b = false) ∨ t < settledR x.ledger) (h1 : settledR x.ledger ≤ d.steps.length) : Good d (backwardR x t b now) := by
  have hks := h.keys
  unfold backwardR
  by_cases e : settledR x.ledger = 0
  · rw [if_pos e]
    rcases hs with ⟨_, h2, h3⟩ | hs
    · refine ⟨?_, ?_, ?_, ?_, ?_, ?_⟩
      · right; right; right; simp [e, h2, h3]
      all_goals simp <;> omega
    · omega
  · rw [if_neg e]
    have hs' : t < settledR x.ledger := by
      rcases hs with ⟨h2, _⟩ | hs
      · exact absurd h2 e
      · exact hs
    refine ⟨?_, ?_, ?_, ?_, ?_, ?_⟩
    · right; left; simp; exact ⟨ht, hs', h1, hb⟩
    all_goals simp <;> omega

theorem Good.after {d : Def} {x : Inst} {f : Fact} (h : Good d x) (ha : Accs d x f) : Good d (afterR d x f) := by
  have hks := h.keys
  have hkk := h.key
  have htt := h.tries
  unfold afterR
  rcases ha with ⟨hk, hm, hst, hfull, _⟩ | ⟨hk, hkey⟩ | ⟨hk, hkey⟩ | ⟨hk, hw1, hw5, hc⟩
  · rw [if_pos hk]
    have hmm : ∀ k due tr ks, Good d { x with keys := ks, tries := tr, key := k, due := due } ↔ (((x.key = 0 → k = 0 → True)) ∧ Good d { x with keys := ks, tries := tr, key := k, due := due }) := fun _ _ _ _ => by simp
    clear hmm
    have modes : ∀ y : Inst, y.mode = x.mode → y.ledger = x.ledger → y.target = x.target → y.resume = x.resume →
        ((y.mode = 1 ∧ 0 ≤ settledR y.ledger ∧ settledR y.ledger < d.steps.length ∧ y.target = 0 ∧ y.resume = false) ∨ (y.mode = 2 ∧ 0 ≤ y.target ∧ y.target < settledR y.ledger ∧ settledR y.ledger ≤ d.steps.length ∧ (y.resume = false → y.target = 0)) ∨
          (y.mode = 3 ∧ y.key = 0 ∧ y.stuck = false ∧ settledR y.ledger = d.steps.length) ∨ (y.mode = 4 ∧ y.key = 0 ∧ y.stuck = false ∧ settledR y.ledger = 0 ∧ y.target = 0 ∧ y.resume = false)) := by
      intro y e1 e2 e3 e4
      rw [e1, e2, e3, e4]
      rcases h.modes with h | h | ⟨h1, _⟩ | ⟨h1, _⟩
      · exact .inl h
      · exact .inr (.inl h)
      · omega
      · omega
    unfold pickedR
    by_cases e : x.key = 0
    · rw [if_pos e]
      have := hfull e
      refine ⟨modes _ rfl rfl rfl rfl, ?_, ?_, ?_, ?_, ?_⟩
      · intro hs; exact absurd hs (by simp [hst])
      all_goals simp <;> omega
    · rw [if_neg e]
      refine ⟨modes _ rfl rfl rfl rfl, ?_, ?_, ?_, ?_, ?_⟩
      · intro hs; exact absurd hs (by simp [hst])
      · intro h0; exact absurd h0 e
      · exact hkk
      · exact hks
      · exact htt
  · rw [if_neg (by omega), if_pos hk]
    rcases h.mode_of (h.inv.key_mode hkey) with hm | hm
    · rw [if_pos hm]; exact good_entered_fwd h hm _ _ _ (.inl rfl)
    · rw [if_neg (by omega)]; exact good_entered_back h hm _ _ _ (.inl rfl)
  · rw [if_neg (by omega), if_neg (by omega), if_pos hk]
    have hm := h.mode_of (h.inv.key_mode hkey)
    have modes : ∀ y : Inst, y.mode = x.mode → y.ledger = x.ledger → y.target = x.target → y.resume = x.resume →
        ((y.mode = 1 ∧ 0 ≤ settledR y.ledger ∧ settledR y.ledger < d.steps.length ∧ y.target = 0 ∧ y.resume = false) ∨ (y.mode = 2 ∧ 0 ≤ y.target ∧ y.target < settledR y.ledger ∧ settledR y.ledger ≤ d.steps.length ∧ (y.resume = false → y.target = 0)) ∨
          (y.mode = 3 ∧ y.key = 0 ∧ y.stuck = false ∧ settledR y.ledger = d.steps.length) ∨ (y.mode = 4 ∧ y.key = 0 ∧ y.stuck = false ∧ settledR y.ledger = 0 ∧ y.target = 0 ∧ y.resume = false)) := by
      intro y e1 e2 e3 e4
      rw [e1, e2, e3, e4]
      rcases h.modes with h | h | ⟨h1, _⟩ | ⟨h1, _⟩
      · exact .inl h
      · exact .inr (.inl h)
      · omega
      · omega
    have hnst : x.stuck = false := by
      cases hs : x.stuck
      · rfl
      · exact absurd (h.stuck hs).1 hkey
    unfold wrongR
    split
    · refine ⟨modes _ rfl rfl rfl rfl, ?_, ?_, ?_, hks, htt⟩
      · intro hs; simp
      all_goals simp <;> omega
    split
    · rename_i hb
      rcases h.modes with ⟨h1, h2, h3, _⟩ | ⟨h1, _⟩ | ⟨h1, _⟩ | ⟨h1, _⟩
      · exact good_backward h 0 false _ (by omega) (fun _ => rfl) (by by_cases e : settledR x.ledger = 0; exact .inl ⟨e, rfl, rfl⟩; exact .inr (by omega)) (by omega)
      all_goals omega
    · refine ⟨modes _ rfl rfl rfl rfl, ?_, ?_, ?_, hks, htt⟩
      · intro hs; simp
      all_goals simp <;> omega
  · rw [if_neg (by omega), if_neg (by omega), if_neg (by omega)]
    unfold doneR
    unfold canR at hc
    by_cases w1 : f.what = 1
    · rw [if_pos w1] at hc ⊢
      obtain ⟨k0, d0⟩ := h.stuck hc
      have hmode : x.mode ≤ 2 := by
        rcases h.modes with ⟨h1, _⟩ | ⟨h1, _⟩ | ⟨_, _, h3, _⟩ | ⟨_, _, h3, _⟩
        · omega
        · omega
        · rw [h3] at hc; simp at hc
        · rw [h3] at hc; simp at hc
      refine ⟨?_, ?_, h.keyed, hkk, hks, ?_⟩
      · rcases h.modes with h | h | ⟨h1, _⟩ | ⟨h1, _⟩
        · exact .inl h
        · exact .inr (.inl h)
        · omega
        · omega
      · simp
      · simp; omega
    rw [if_neg w1] at hc ⊢
    by_cases w2 : f.what = 2
    · rw [if_pos w2] at hc ⊢
      exact good_entered_fwd h (by simpa using hc) _ _ _ (.inr rfl)
    rw [if_neg w2] at hc ⊢
    by_cases w3 : f.what = 3
    · rw [if_pos w3] at hc ⊢
      exact good_entered_back h (by simpa using hc) _ _ _ (.inr rfl)
    rw [if_neg w3] at hc ⊢
    by_cases w4 : f.what = 4
    · rw [if_pos w4] at hc ⊢
      simp only [Bool.and_eq_true, beq_iff_eq, decide_eq_true_eq] at hc
      rcases h.modes with ⟨h1, h2, h3, _⟩ | ⟨h1, _⟩ | ⟨h1, _⟩ | ⟨h1, _⟩
      · exact good_backward h 0 false _ (by omega) (fun _ => rfl) (by by_cases e : settledR x.ledger = 0; exact .inl ⟨e, rfl, rfl⟩; exact .inr (by omega)) (by omega)
      all_goals omega
    rw [if_neg w4] at hc ⊢
    simp only [Bool.and_eq_true, beq_iff_eq, decide_eq_true_eq] at hc
    rcases h.modes with ⟨h1, h2, h3, _⟩ | ⟨h1, _⟩ | ⟨h1, _⟩ | ⟨h1, _⟩
    · exact good_backward h f.target true _ hc.2.1 (by simp) (.inr hc.2.2.1) (by omega)
    all_goals omega

end Go.Proofs.YtgcjlgaapiefiabGreat

/-
  The program's functions on a world, as Lean functions (plain).
-/
namespace Go.Proofs.YtgcjlgaapiefiabGreat

structure WorldR where
  clock : Int
  insts : List Inst
  reqs : List Req
def worldR (d : Def) (l : List Cmd) : WorldR := ⟨clockR l, (startedR l).map (instanceR d l), requestsR d l⟩

/-- Where the instance of an Id is. -/
def placeP (xs : List Inst) (id : Int) : Option Nat := xs.findIdx? (·.id == id)
def modI (xs : List Inst) (id : Int) (f : Inst → Inst) : List Inst := match placeP xs id with
  | some k => xs.modify k f
  | none => xs
def instP (xs : List Inst) (id : Int) : Option Inst := match placeP xs id with
  | some k => xs[k]?
  | none => none

def newKeyP (d : Def) (clock : Int) (x : Inst) : Int :=
  if clock < x.wake then 9
  else if x.mode = 2 ∧ (stepP d (nextP x)).undo = false then 10
  else if 30 ≤ x.keys then 5
  else 0
def pickCodeP (d : Def) (clock : Int) (x : Inst) : Int :=
  if x.mode = 3 ∨ x.mode = 4 then 6
  else if x.stuck = true then 7
  else if x.key = 0 then newKeyP d clock x
  else if clock < x.due then 8
  else 0
def pickAnsP (d : Def) (clock : Int) (x : Inst) : Answer :=
  if pickCodeP d clock x = 0 then ⟨0, if x.key = 0 then x.keys + 1 else x.key, nextP x, if x.mode = 2 then 2 else 1⟩
  else noR (pickCodeP d clock x)
def replyCodeP (x : Inst) (key : Int) : Int := if x.key = 0 ∨ x.key ≠ key then 11 else 0
def isWhoP (who : Int) : Bool := decide (0 ≤ who) && decide (who ≤ 9)
def askCodeP (d : Def) (W : WorldR) (c : Cmd) (x : Inst) : Int :=
  if c.a < 1 ∨ 5 < c.a then 2
  else if isWhoP c.who = false then 13
  else if c.reason.size = 0 ∨ 20 < (c.reason.size : Int) then 12
  else if canP d x c.a c.b = false then 14
  else if 40 ≤ (W.reqs.length : Int) then 5
  else 0
def askAnsP (d : Def) (W : WorldR) (c : Cmd) : Answer :=
  match instP W.insts c.inst with
  | none => noR 4
  | some x => if askCodeP d W c x = 0 then ⟨0, W.reqs.length + 1, 0, 0⟩ else noR (askCodeP d W c x)
/-- Where the open request of a number is. -/
def openP (W : WorldR) (a : Int) : Option Req :=
  if a < 1 ∨ (W.reqs.length : Int) < a then none
  else match W.reqs[(a - 1).toNat]? with
    | some r => if r.closed = true ∨ r.upto ≤ W.clock then none else some r
    | none => none
def mayP (r : Req) (who : Int) : Bool := if isWhoP who = false ∨ who = r.who then false else !hasP r.bys who
where hasP (l : List Int) (x : Int) : Bool := l.any (· == x)
def canGrantP (d : Def) (W : WorldR) (r : Req) : Bool := match instP W.insts r.inst with
  | some x => canP d x r.what r.target
  | none => false
def approveCodeP (d : Def) (W : WorldR) (a who : Int) : Int := match openP W a with
  | none => 15
  | some r => if mayP r who = false then 13 else if d.quorum ≤ (r.bys.length : Int) + 1 ∧ canGrantP d W r = false then 14 else 0
def withdrawCodeP (W : WorldR) (a who : Int) : Int := match openP W a with
  | none => 15
  | some r => if who ≠ r.who then 13 else 0
def startCodeP (W : WorldR) (id : Int) : Int :=
  if id < 0 ∨ 255 < id then 3 else if (placeP W.insts id).isSome then 4 else if 4 ≤ (W.insts.length : Int) then 5 else 0
def tickCodeP (W : WorldR) (a : Int) : Int := if a < 1 ∨ 100 < a then 3 else if 10000 < W.clock + a then 16 else 0

def answerP (d : Def) (W : WorldR) (c : Cmd) : Answer :=
  if c.kind = 1 then noR (startCodeP W c.inst)
  else if c.kind = 2 then (match instP W.insts c.inst with | none => noR 4 | some x => pickAnsP d W.clock x)
  else if c.kind = 3 then (match instP W.insts c.inst with | none => noR 4 | some x => noR (replyCodeP x c.a))
  else if c.kind = 4 then noR (tickCodeP W c.a)
  else if c.kind = 5 then askAnsP d W c
  else if c.kind = 6 then noR (approveCodeP d W c.a c.who)
  else if c.kind = 7 then noR (withdrawCodeP W c.a c.who)
  else noR 2

/-- A request is carried out and closed, if enough have approved. -/
def decideI (d : Def) (W : WorldR) (r : Req) : List Inst := if (r.bys.length : Int) < d.quorum then W.insts else modI W.insts r.inst (fun x => grantP d W.clock x r.what r.target r.number)
def decideR (d : Def) (r : Req) : Req := if (r.bys.length : Int) < d.quorum then r else { r with closed := true }
def newReq (d : Def) (W : WorldR) (c : Cmd) : Req := ⟨W.reqs.length + 1, c.inst, c.a, if c.a = 5 then c.b else 0, c.who, c.reason, [], W.clock + d.expiry, false⟩

def carryP (d : Def) (W : WorldR) (c : Cmd) : WorldR :=
  if c.kind = 1 then ⟨W.clock, W.insts ++ [startR c.inst], W.reqs⟩
  else if c.kind = 2 then ⟨W.clock, modI W.insts c.inst (pickP d W.clock), W.reqs⟩
  else if c.kind = 3 then ⟨W.clock, modI W.insts c.inst (fun x => replyP d W.clock x (c.b == 1)), W.reqs⟩
  else if c.kind = 4 then ⟨W.clock + c.a, W.insts, W.reqs⟩
  else if c.kind = 5 then ⟨W.clock, decideI d W (newReq d W c), W.reqs ++ [decideR d (newReq d W c)]⟩
  else if c.kind = 6 then (match openP W c.a with
    | none => W
    | some r => ⟨W.clock, decideI d W { r with bys := r.bys ++ [c.who] }, W.reqs.set (c.a - 1).toNat (decideR d { r with bys := r.bys ++ [c.who] })⟩)
  else if c.kind = 7 then (match openP W c.a with
    | none => W
    | some r => ⟨W.clock, W.insts, W.reqs.set (c.a - 1).toNat { r with closed := true }⟩)
  else W

def doP (d : Def) (W : WorldR) (c : Cmd) : WorldR := if (answerP d W c).code = 0 ∧ c.dry = false then carryP d W c else W

end Go.Proofs.YtgcjlgaapiefiabGreat

/-
  Logs that came about: what holds of their instances, ids and requests (plain).
-/
namespace Go.Proofs.YtgcjlgaapiefiabGreat

theorem LogOk.ind {d : Def} {P : List Cmd → Prop} (h0 : P []) (hs : ∀ l c, LogOk d l → (answerR d l c).code = 0 → P l → P (l ++ [c])) : ∀ l, LogOk d l → P l := by
  intro l h
  have : ∀ k, k ≤ l.length → P (l.take k) := by
    intro k
    induction k with
    | zero => intro _; simpa using h0
    | succ k ih =>
      intro hk
      rw [List.take_succ_eq_append_getElem (by omega)]
      exact hs _ _ (h.take k) (h k (by omega)) (ih (by omega))
  have := this l.length (Nat.le_refl _)
  rwa [List.take_length] at this

theorem pick_ok2 {d : Def} {l : List Cmd} {c : Cmd} (h : (answerR d l c).code = 0) (hk : c.kind = 2) :
    (instanceR d l c.inst).mode ≤ 2 ∧ (instanceR d l c.inst).stuck = false ∧ (¬ 0 < (instanceR d l c.inst).key → (instanceR d l c.inst).keys ≠ 30 ∧ ((instanceR d l c.inst).mode = 2 → (stepR d (atR (instanceR d l c.inst))).undo = true)) := by
  have h1 := answered_ok h (.inl hk)
  unfold answeredR at h1
  rw [if_pos hk] at h1
  generalize instanceR d l c.inst = x at *
  unfold pickAns at h1
  by_cases hm : 2 < x.mode
  · rw [if_pos hm] at h1; simp [noR] at h1
  rw [if_neg hm] at h1
  cases hst : x.stuck
  · rw [if_neg (by simp [hst])] at h1
    refine ⟨by omega, rfl, fun hkey => ?_⟩
    rw [if_neg (fun e => hkey e.1), if_neg hkey] at h1
    by_cases hw : clockR l < x.wake
    · rw [if_pos hw] at h1; simp [noR] at h1
    rw [if_neg hw] at h1
    by_cases hu : x.mode = 2 ∧ (stepR d (atR x)).undo = false
    · rw [if_pos hu] at h1; simp [noR] at h1
    rw [if_neg hu] at h1
    by_cases hf : x.keys = 30
    · rw [if_pos hf] at h1; simp [noR] at h1
    refine ⟨hf, fun hm2 => ?_⟩
    cases hun : (stepR d (atR x)).undo
    · exact absurd ⟨hm2, hun⟩ hu
    · rfl
  · rw [if_pos hst] at h1; simp [noR] at h1

theorem factOf_accs {d : Def} {l : List Cmd} (h : LogOk d l) (id : Int) (k : Nat) (hk : k < l.length) (hg : Good d (instanceR d (l.take k) id)) : ∀ f ∈ factOf d l id k l[k], Accs d (instanceR d (l.take k) id) f := by
  intro f hf
  have ha := factOf_acc h id k hk f hf
  rcases ha with ⟨hk1, hm⟩ | h2 | h3 | h4
  · left
    refine ⟨hk1, hm, ?_⟩
    have hc := h k hk
    unfold factOf at hf
    generalize l[k] = c at *
    split at hf
    · rename_i e
      obtain ⟨_, h2, h3⟩ := pick_ok2 hc e.1
      rw [e.2] at h2 h3
      have hks := hg.keys
      refine ⟨h2, fun h0 => ?_, fun h0 => (h3 (by omega)).2⟩
      have := (h3 (by omega)).1
      omega
    split at hf
    · simp at hf; subst hf; simp at hk1
    split at hf
    · simp at hf; subst hf; simp at hk1
    split at hf
    · split at hf
      · rename_i ho
        simp at hf; subst hf
        unfold carriedR at ho hk1
        simp only at ho hk1
        split at ho
        · simp at ho
        · rename_i hn
          rw [if_neg hn] at hk1
          split at ho
          · rename_i hi
            rw [if_pos hi] at hk1; simp at hk1
          · simp at ho
      · simp at hf
    · simp at hf
  · exact .inr (.inl h2)
  · exact .inr (.inr (.inl h3))
  · exact .inr (.inr (.inr h4))

theorem Good.fix {d : Def} {x : Inst} (h : Good d x) : Good d (fixI x) := ⟨h.modes, h.stuck, h.keyed, h.key, h.keys, h.tries⟩
theorem Good.unfix {d : Def} {x : Inst} (h : Good d (fixI x)) : Good d x := ⟨h.modes, h.stuck, h.keyed, h.key, h.keys, h.tries⟩

theorem instFold_append (d : Def) (id : Int) (fs gs : List Fact) : instFold d id (fs ++ gs) = gs.foldl (afterR d) (instFold d id fs) := by
  unfold instFold; rw [List.foldl_append]

theorem factsR_snoc (d : Def) (l : List Cmd) (c : Cmd) (id : Int) : factsR d (l ++ [c]) id = factsR d l id ++ factOf d (l ++ [c]) id l.length c := by
  have h := factsR_succ d (l ++ [c]) id l.length (by simp)
  rw [List.take_of_length_le (by simp), List.take_left] at h
  simpa using h

theorem LogOk.last {d : Def} {l : List Cmd} {c : Cmd} (h : LogOk d (l ++ [c])) : LogOk d l ∧ (answerR d l c).code = 0 := by
  refine ⟨?_, ?_⟩
  · have := h.take l.length
    rwa [List.take_left] at this
  · have := h l.length (by simp)
    rw [List.take_left] at this
    simpa using this
theorem LogOk.snoc {d : Def} {l : List Cmd} {c : Cmd} (h : LogOk d l) (hc : (answerR d l c).code = 0) : LogOk d (l ++ [c]) := by
  intro k hk
  by_cases hlt : k < l.length
  · rw [List.getElem_append_left hlt, List.take_append_of_le_length (by omega)]
    exact h k hlt
  · have hkl : k = l.length := by simp at hk; omega
    subst hkl
    rw [List.take_left]
    simpa using hc
theorem LogOk.nil (d : Def) : LogOk d [] := fun k hk => by simp at hk

/-- The facts that one command more makes, each of which can come about. -/
theorem facts_next {d : Def} {l : List Cmd} {c : Cmd} (h : LogOk d l) (hc : (answerR d l c).code = 0) (id : Int) (hg : Good d (instanceR d l id)) : ∀ f ∈ factOf d (l ++ [c]) id l.length c, Accs d (instanceR d l id) f := by
  have := factOf_accs (h.snoc hc) id l.length (by simp) (by rw [List.take_left]; exact hg)
  rw [List.take_left] at this
  simpa using this

theorem LogOk.good {d : Def} {l : List Cmd} (h : LogOk d l) (hn : 0 < d.steps.length) (id : Int) : Good d (instanceR d l id) := by
  refine LogOk.ind (P := fun l => Good d (instanceR d l id)) ?_ ?_ l h
  · exact (Good.start id hn).fix
  · intro l c hl hc hg
    show Good d (fixI (instFold d id (factsR d (l ++ [c]) id)))
    rw [factsR_snoc, instFold_append]
    have hf := facts_next hl hc id hg
    have hlen := factOf_len d (l ++ [c]) id l.length c
    generalize factOf d (l ++ [c]) id l.length c = fs at *
    match fs, hlen with
    | [], _ => exact hg
    | [f], _ =>
      have := hf f (by simp)
      exact (Good.after (Good.unfix hg) this).fix

/-! ### the instance behind one command more -/

theorem carried_ask (d : Def) (l : List Cmd) (c : Cmd) (id : Int) (h5 : c.kind = 5) :
    carriedR d (l ++ [c]) id = if d.quorum = 0 ∧ c.inst = id then (⟨4, clockR l, c.a, if c.a = 5 then c.b else 0, ((requestsR d l).length : Int) + 1⟩, true) else (⟨0, 0, 0, 0, 0⟩, false) := by
  have hlast : (l ++ [c]).getD ((l ++ [c]).length - 1) default = c := by simp [List.getD]
  have hsn := requestsR_snoc d l c
  have hck : clockR (l ++ [c]) = clockR l := by unfold clockR; rw [List.foldl_append]; simp [clockStep, h5]
  unfold carriedR
  simp only [hlast]
  by_cases hq : d.quorum = 0
  · have hN : carriedN d c (requestsR d (l ++ [c])) = ((requestsR d l).length : Int) + 1 := by
      unfold carriedN; rw [if_pos ⟨h5, hq⟩, hsn, if_pos h5]; simp
    have hg : (requestsR d (l ++ [c])).getD (((requestsR d l).length : Int) + 1 - 1).toNat default = reqBase d l c ((requestsR d l).length + 1) := by
      rw [show (((requestsR d l).length : Int) + 1 - 1).toNat = (requestsR d l).length by omega, hsn, if_pos h5]
      simp [List.getD]
    rw [hN, hg, if_neg (by omega)]
    by_cases hi : c.inst = id
    · rw [if_pos (show (reqBase d l c _).inst = id from hi), if_pos ⟨hq, hi⟩, hck]; rfl
    · rw [if_neg (show ¬ (reqBase d l c _).inst = id from hi), if_neg (fun e => hi e.2)]
  · have hN : carriedN d c (requestsR d (l ++ [c])) = 0 := by
      unfold carriedN; rw [if_neg (fun e => hq e.2), if_neg (by omega)]
    rw [hN, if_pos rfl, if_neg (fun e => hq e.1)]

/-- The request that an accepted APPROVE or WITHDRAW names. -/
theorem named {d : Def} {l : List Cmd} {c : Cmd} (hc : (answerR d l c).code = 0) (hk : c.kind = 6 ∨ c.kind = 7) :
    ∃ hlt : (c.a - 1).toNat < (requestsR d l).length, 1 ≤ c.a ∧ (requestsR d l).getD (c.a - 1).toNat default = (requestsR d l)[(c.a - 1).toNat] ∧ ((requestsR d l)[(c.a - 1).toNat]).number = c.a ∧
      ((requestsR d l)[(c.a - 1).toNat]).closed = false ∧ clockR l < ((requestsR d l)[(c.a - 1).toNat]).upto := by
  obtain ⟨_, ho⟩ := decided_ok hc hk
  obtain ⟨r1, r2⟩ := open_range ho
  have hlt : (c.a - 1).toNat < (requestsR d l).length := by omega
  have e : (requestsR d l).getD (c.a - 1).toNat default = (requestsR d l)[(c.a - 1).toNat] := by simp only [List.getD, List.getElem?_eq_getElem hlt, Option.getD_some]
  refine ⟨hlt, r1, e, ?_, ?_⟩
  · have := requestsTo_number d l l.length (c.a - 1).toNat hlt
    show (requestsTo d l l.length)[(c.a - 1).toNat].number = c.a
    rw [this]; omega
  · unfold openR at ho
    rw [e] at ho
    simp only [Bool.and_eq_true, decide_eq_true_eq, Bool.not_eq_true'] at ho
    exact ⟨ho.2.2.1, ho.2.2.2⟩

theorem carried_approve {d : Def} {l : List Cmd} {c : Cmd} (id : Int) (hc : (answerR d l c).code = 0) (h6 : c.kind = 6) (hlt : (c.a - 1).toNat < (requestsR d l).length) :
    carriedR d (l ++ [c]) id = if (((requestsR d l)[(c.a - 1).toNat]).bys.length : Int) + 1 = d.quorum ∧ ((requestsR d l)[(c.a - 1).toNat]).inst = id then
      (⟨4, clockR l, ((requestsR d l)[(c.a - 1).toNat]).what, ((requestsR d l)[(c.a - 1).toNat]).target, c.a⟩, true) else (⟨0, 0, 0, 0, 0⟩, false) := by
  have hlast : (l ++ [c]).getD ((l ++ [c]).length - 1) default = c := by simp [List.getD]
  have hsn := requestsR_snoc d l c
  have hck : clockR (l ++ [c]) = clockR l := by unfold clockR; rw [List.foldl_append]; simp [clockStep, h6]
  obtain ⟨_, ha1, hgd, hnum, _⟩ := named hc (.inl h6)
  have hget : (requestsR d (l ++ [c])).getD (c.a - 1).toNat default = reqNext d c ((requestsR d l)[(c.a - 1).toNat]) := by
    rw [hsn, if_neg (by omega), List.append_nil, ← hgd]
    exact getD_map_req d c (requestsR d l) _ hlt
  unfold carriedR
  simp only [hlast]
  generalize (requestsR d l)[(c.a - 1).toNat] = r at *
  obtain ⟨_, n2, n3, n4⟩ := reqStep_number d r.number r c
  have hby : (reqNext d c r).bys = r.bys ++ [c.who] := by
    unfold reqNext reqStep; rw [if_pos ⟨hnum.symm, h6⟩]
  by_cases hq : (r.bys.length : Int) + 1 = d.quorum
  · have hN : carriedN d c (requestsR d (l ++ [c])) = c.a := by
      unfold carriedN; rw [if_neg (by omega), if_pos ⟨h6, by rw [hget, hby]; simpa using hq⟩]
    rw [hN, hget, if_neg (by omega)]
    by_cases hi : r.inst = id
    · rw [if_pos (show (reqNext d c r).inst = id from n2.trans hi), if_pos ⟨hq, hi⟩, hck]
      show (Fact.mk 4 (clockR l) (reqNext d c r).what (reqNext d c r).target c.a, true) = _
      rw [show (reqNext d c r).what = r.what from n3, show (reqNext d c r).target = r.target from n4]
    · rw [if_neg (show ¬ (reqNext d c r).inst = id from fun e => hi (n2.symm.trans e)), if_neg (fun e => hi e.2)]
  · have hN : carriedN d c (requestsR d (l ++ [c])) = 0 := by
      unfold carriedN; rw [if_neg (by omega), if_neg (fun e => hq (by have := e.2; rw [hget, hby] at this; simpa using this))]
    rw [hN, if_pos rfl, if_neg (fun e => hq e.1)]

end Go.Proofs.YtgcjlgaapiefiabGreat

/-
  The document's instance behind one command more is what the program makes of it (plain).
-/
namespace Go.Proofs.YtgcjlgaapiefiabGreat

theorem instanceR_snoc (d : Def) (l : List Cmd) (c : Cmd) (id : Int) : instanceR d (l ++ [c]) id = fixI ((factOf d (l ++ [c]) id l.length c).foldl (afterR d) (instFold d id (factsR d l id))) := by
  show fixI (instFold d id (factsR d (l ++ [c]) id)) = _
  rw [factsR_snoc, instFold_append]
theorem instanceR_none {d : Def} {l : List Cmd} {c : Cmd} {id : Int} (h : factOf d (l ++ [c]) id l.length c = []) : instanceR d (l ++ [c]) id = instanceR d l id := by
  rw [instanceR_snoc, h]; rfl
theorem instanceR_one {d : Def} {l : List Cmd} {c : Cmd} {id : Int} {f : Fact} (h : factOf d (l ++ [c]) id l.length c = [f]) : instanceR d (l ++ [c]) id = fixI (afterR d (instFold d id (factsR d l id)) f) := by
  rw [instanceR_snoc, h]; rfl

theorem factOf_snoc (d : Def) (l : List Cmd) (c : Cmd) (id : Int) : factOf d (l ++ [c]) id l.length c =
    if c.kind = 2 ∧ c.inst = id then [⟨1, clockR l, 0, 0, 0⟩]
    else if c.kind = 3 ∧ c.inst = id ∧ c.b = 1 then [⟨2, clockR l, 0, 0, 0⟩]
    else if c.kind = 3 ∧ c.inst = id then [⟨3, clockR l, 0, 0, 0⟩]
    else if c.kind = 5 ∨ c.kind = 6 then (if (carriedR d (l ++ [c]) id).2 then [(carriedR d (l ++ [c]) id).1] else [])
    else [] := by
  unfold factOf
  rw [List.take_left, List.take_of_length_le (by simp)]

theorem inst_pick {d : Def} {l : List Cmd} {c : Cmd} (h : LogOk d l) (hn : 0 < d.steps.length) (hc : (answerR d l c).code = 0) (hk : c.kind = 2) (id : Int) :
    instanceR d (l ++ [c]) id = if id = c.inst then pickP d (clockR l) (instanceR d l id) else instanceR d l id := by
  have hf := factOf_snoc d l c id
  by_cases e : id = c.inst
  · rw [if_pos ⟨hk, e.symm⟩] at hf
    rw [if_pos e, instanceR_one hf]
    have hg := h.good hn id
    have hm := pick_ok hc hk
    rw [← e] at hm
    exact after_pickP (Good.unfix hg) rfl hm
  · rw [if_neg (fun q => e q.2.symm), if_neg (by omega), if_neg (by omega), if_neg (by omega)] at hf
    rw [if_neg e, instanceR_none hf]

theorem inst_reply {d : Def} {l : List Cmd} {c : Cmd} (h : LogOk d l) (hn : 0 < d.steps.length) (hc : (answerR d l c).code = 0) (hk : c.kind = 3) (id : Int) :
    instanceR d (l ++ [c]) id = if id = c.inst then replyP d (clockR l) (instanceR d l id) (c.b == 1) else instanceR d l id := by
  have hf := factOf_snoc d l c id
  rw [if_neg (by omega)] at hf
  by_cases e : id = c.inst
  · have hg := h.good hn id
    have hkey := (reply_ok hc hk).2
    rw [← e] at hkey
    rw [if_pos e]
    by_cases hb : c.b = 1
    · rw [if_pos ⟨hk, e.symm, hb⟩] at hf
      rw [instanceR_one hf, show (c.b == 1) = true by simp [hb]]
      exact after_wellP (Good.unfix hg) rfl hkey
    · rw [if_neg (fun q => hb q.2.2), if_pos ⟨hk, e.symm⟩] at hf
      rw [instanceR_one hf, show (c.b == 1) = false by simp [hb]]
      exact after_wrongP (Good.unfix hg) rfl hkey
  · rw [if_neg (fun q => e q.2.1.symm), if_neg (fun q => e q.2.symm), if_neg (by omega)] at hf
    rw [if_neg e, instanceR_none hf]

theorem inst_ask {d : Def} {l : List Cmd} {c : Cmd} (h : LogOk d l) (hn : 0 < d.steps.length) (hc : (answerR d l c).code = 0) (hk : c.kind = 5) (id : Int) :
    instanceR d (l ++ [c]) id = if d.quorum = 0 ∧ c.inst = id then grantP d (clockR l) (instanceR d l id) c.a (if c.a = 5 then c.b else 0) ((requestsR d l).length + 1) else instanceR d l id := by
  have hf := factOf_snoc d l c id
  rw [if_neg (by omega), if_neg (by omega), if_neg (by omega), if_pos (.inl hk), carried_ask d l c id hk] at hf
  by_cases e : d.quorum = 0 ∧ c.inst = id
  · rw [if_pos e] at hf ⊢
    simp only [if_true] at hf
    rw [instanceR_one hf]
    have hg := h.good hn id
    have ha := facts_next h hc id hg _ (by rw [hf]; exact List.mem_singleton.2 rfl)
    rcases ha with ⟨q, _⟩ | ⟨q, _⟩ | ⟨q, _⟩ | ⟨_, h1, h5, hcan⟩
    · simp at q
    · simp at q
    · simp at q
    · exact after_doneP (Good.unfix hg) rfl h1 h5 hcan
  · rw [if_neg e] at hf ⊢
    rw [instanceR_none (by simpa using hf)]

theorem inst_approve {d : Def} {l : List Cmd} {c : Cmd} (h : LogOk d l) (hn : 0 < d.steps.length) (hc : (answerR d l c).code = 0) (hk : c.kind = 6) (id : Int) (hlt : (c.a - 1).toNat < (requestsR d l).length) :
    instanceR d (l ++ [c]) id = if (((requestsR d l)[(c.a - 1).toNat]).bys.length : Int) + 1 = d.quorum ∧ ((requestsR d l)[(c.a - 1).toNat]).inst = id then
      grantP d (clockR l) (instanceR d l id) ((requestsR d l)[(c.a - 1).toNat]).what ((requestsR d l)[(c.a - 1).toNat]).target c.a else instanceR d l id := by
  have hf := factOf_snoc d l c id
  rw [if_neg (by omega), if_neg (by omega), if_neg (by omega), if_pos (.inr hk), carried_approve id hc hk hlt] at hf
  generalize (requestsR d l)[(c.a - 1).toNat] = r at *
  by_cases e : (r.bys.length : Int) + 1 = d.quorum ∧ r.inst = id
  · rw [if_pos e] at hf ⊢
    simp only [if_true] at hf
    rw [instanceR_one hf]
    have hg := h.good hn id
    have ha := facts_next h hc id hg _ (by rw [hf]; exact List.mem_singleton.2 rfl)
    rcases ha with ⟨q, _⟩ | ⟨q, _⟩ | ⟨q, _⟩ | ⟨_, h1, h5, hcan⟩
    · simp at q
    · simp at q
    · simp at q
    · exact after_doneP (Good.unfix hg) rfl h1 h5 hcan
  · rw [if_neg e] at hf ⊢
    rw [instanceR_none (by simpa using hf)]

theorem inst_else {d : Def} {l : List Cmd} {c : Cmd} (hk : c.kind = 1 ∨ c.kind = 4 ∨ c.kind = 7) (id : Int) : instanceR d (l ++ [c]) id = instanceR d l id := by
  have hf := factOf_snoc d l c id
  rw [if_neg (by omega), if_neg (by omega), if_neg (by omega), if_neg (by omega)] at hf
  exact instanceR_none hf

/-- An accepted command is one of START to WITHDRAW. -/
theorem kind_ok {d : Def} {l : List Cmd} {c : Cmd} (hc : (answerR d l c).code = 0) : 1 ≤ c.kind ∧ c.kind ≤ 7 := by
  by_cases h : 1 ≤ c.kind ∧ c.kind ≤ 7
  · exact h
  · unfold answerR at hc
    rw [if_neg (by omega), if_neg (by omega), if_neg (by omega), if_neg (by omega)] at hc
    simp [noR] at hc

/-! ### ids and requests -/

theorem started_snoc (l : List Cmd) (c : Cmd) : startedR (l ++ [c]) = if c.kind = 1 then startedR l ++ [c.inst] else startedR l := by
  unfold startedR; rw [List.foldl_append]; rfl
theorem clock_snoc (l : List Cmd) (c : Cmd) : clockR (l ++ [c]) = if c.kind = 4 then clockR l + c.a else clockR l := by
  unfold clockR; rw [List.foldl_append]; rfl

theorem any_mem (l : List Int) (x : Int) : l.any (· == x) = true ↔ x ∈ l := by
  simp [List.any_eq_true]

structure IdsOk (l : List Cmd) : Prop where
  nodup : (startedR l).Nodup
  four : (startedR l).length ≤ 4
  range : ∀ i ∈ startedR l, 0 ≤ i ∧ i ≤ 255

theorem start_ok {d : Def} {l : List Cmd} {c : Cmd} (hc : (answerR d l c).code = 0) (hk : c.kind = 1) : 0 ≤ c.inst ∧ c.inst ≤ 255 ∧ c.inst ∉ startedR l ∧ (startedR l).length ≠ 4 := by
  unfold answerR at hc
  rw [if_pos hk] at hc
  by_cases h1 : c.inst < 0 ∨ 255 < c.inst
  · rw [if_pos h1] at hc; simp [noR] at hc
  rw [if_neg h1] at hc
  by_cases h2 : (startedR l).any (· == c.inst) = true
  · rw [if_pos h2] at hc; simp [noR] at hc
  rw [if_neg h2] at hc
  by_cases h3 : (startedR l).length = 4
  · rw [if_pos h3] at hc; simp [noR] at hc
  exact ⟨by omega, by omega, fun h => h2 ((any_mem _ _).2 h), h3⟩

theorem LogOk.ids {d : Def} {l : List Cmd} (h : LogOk d l) : IdsOk l := by
  refine LogOk.ind (P := IdsOk) ⟨by simp [startedR], by simp [startedR], by simp [startedR]⟩ ?_ l h
  intro l c hl hc ih
  by_cases hk : c.kind = 1
  · obtain ⟨a1, a2, a3, a4⟩ := start_ok hc hk
    have e := started_snoc l c
    rw [if_pos hk] at e
    have h4 := ih.four
    refine ⟨?_, ?_, ?_⟩
    · rw [e, List.nodup_append]
      exact ⟨ih.nodup, by simp, fun a ha b hb => by simp at hb; subst hb; exact fun q => a3 (q ▸ ha)⟩
    · rw [e]; simp; omega
    · rw [e]; intro i hi
      rcases List.mem_append.1 hi with hi | hi
      · exact ih.range i hi
      · simp at hi; subst hi; exact ⟨a1, a2⟩
  · have e := started_snoc l c
    rw [if_neg hk] at e
    exact ⟨by rw [e]; exact ih.nodup, by rw [e]; exact ih.four, by rw [e]; exact ih.range⟩

theorem known_ok {d : Def} {l : List Cmd} {c : Cmd} (hc : (answerR d l c).code = 0) (hk : c.kind = 2 ∨ c.kind = 3 ∨ c.kind = 5) : c.inst ∈ startedR l := by
  unfold answerR at hc
  rw [if_neg (by omega), if_neg (by omega), if_neg (by omega), if_pos hk] at hc
  by_cases h : (startedR l).any (· == c.inst) = true
  · exact (any_mem _ _).1 h
  · rw [if_neg h] at hc; simp [noR] at hc

structure ReqOk (d : Def) (l : List Cmd) (r : Req) : Prop where
  inst : r.inst ∈ startedR l
  few : r.closed = false → (r.bys.length : Int) < d.quorum
  most : (r.bys.length : Int) ≤ d.quorum
  what : 1 ≤ r.what ∧ r.what ≤ 5
  upto : 0 ≤ r.upto ∧ r.upto ≤ 10050

theorem quorum_ok {d : Def} (h : d.ok = true) : 0 ≤ d.quorum ∧ d.quorum ≤ 3 ∧ 1 ≤ d.expiry ∧ d.expiry ≤ 50 ∧ 1 ≤ d.steps.length ∧ d.steps.length ≤ 6 := by
  simp only [Def.ok, within, Bool.and_eq_true, decide_eq_true_eq] at h
  omega

/-- How many requests. -/
theorem ask_room {d : Def} {l : List Cmd} {c : Cmd} (hc : (answerR d l c).code = 0) (hk : c.kind = 5) : (requestsR d l).length ≠ 40 ∧ 0 ≤ c.who ∧ c.who ≤ 9 ∧ 1 ≤ c.reason.size ∧ c.reason.size ≤ 20 := by
  have h1 := answered_ok hc (.inr (.inr hk))
  unfold answeredR at h1
  rw [if_neg (by omega), if_neg (by omega)] at h1
  unfold askAns at h1
  by_cases t1 : c.a < 1 ∨ 5 < c.a
  · rw [if_pos t1] at h1; simp [noR] at h1
  rw [if_neg t1] at h1
  by_cases t2 : c.who < 0 ∨ 9 < c.who
  · rw [if_pos t2] at h1; simp [noR] at h1
  rw [if_neg t2] at h1
  by_cases t3 : (c.reason.size : Int) < 1 ∨ 20 < (c.reason.size : Int)
  · rw [if_pos t3] at h1; simp [noR] at h1
  rw [if_neg t3] at h1
  by_cases t4 : canR d (instanceR d l c.inst) c.a c.b = false
  · rw [if_pos t4] at h1; simp [noR] at h1
  rw [if_neg t4] at h1
  by_cases t5 : ((requestsR d l).length : Int) = 40
  · rw [if_pos t5] at h1; simp [noR] at h1
  omega

theorem reqNext_other (d : Def) (c : Cmd) (r : Req) (h : ¬ (c.a = r.number ∧ (c.kind = 6 ∨ c.kind = 7))) : reqNext d c r = r := by
  unfold reqNext reqStep
  rw [if_neg (fun e => h ⟨e.1, .inl e.2⟩), if_neg (fun e => h ⟨e.1, .inr e.2⟩)]
theorem reqNext_approve (d : Def) (c : Cmd) (r : Req) (hn : c.a = r.number) (h : c.kind = 6) : reqNext d c r = { r with bys := r.bys ++ [c.who], closed := decide (((r.bys ++ [c.who]).length : Int) = d.quorum) } := by
  unfold reqNext reqStep; rw [if_pos ⟨hn, h⟩]
theorem reqNext_withdraw (d : Def) (c : Cmd) (r : Req) (hn : c.a = r.number) (h : c.kind = 7) : reqNext d c r = { r with closed := true } := by
  unfold reqNext reqStep; rw [if_neg (by omega), if_pos ⟨hn, h⟩]

theorem requestsR_number (d : Def) (l : List Cmd) (j : Nat) (hj : j < (requestsR d l).length) : (requestsR d l)[j].number = (j : Int) + 1 := requestsTo_number d l l.length j hj

theorem started_mono (l : List Cmd) (c : Cmd) (i : Int) (h : i ∈ startedR l) : i ∈ startedR (l ++ [c]) := by
  rw [started_snoc]; split
  · exact List.mem_append_left _ h
  · exact h

theorem LogOk.reqs {d : Def} {l : List Cmd} (h : LogOk d l) (hok : d.ok = true) : (∀ r ∈ requestsR d l, ReqOk d l r) ∧ (requestsR d l).length ≤ 40 := by
  obtain ⟨q0, q3, e1, e50, _⟩ := quorum_ok hok
  refine LogOk.ind (P := fun l => (∀ r ∈ requestsR d l, ReqOk d l r) ∧ (requestsR d l).length ≤ 40) ⟨by simp [requestsR, requestsTo], by simp [requestsR, requestsTo]⟩ ?_ l h
  intro l c hl hc ⟨ih, ihl⟩
  have hsn := requestsR_snoc d l c
  refine ⟨fun r hr => ?_, ?_⟩
  · rw [hsn] at hr
    rcases List.mem_append.1 hr with hr | hr
    · obtain ⟨r0, hr0, rfl⟩ := List.mem_map.1 hr
      have h0 := ih r0 hr0
      by_cases hm : c.a = r0.number ∧ (c.kind = 6 ∨ c.kind = 7)
      · obtain ⟨hnum, hk⟩ := hm
        obtain ⟨hlt, ha1, hgd, hnum2, hopen, _⟩ := named hc hk
        have hsame : r0 = (requestsR d l)[(c.a - 1).toNat] := by
          obtain ⟨j, hj, rfl⟩ := List.getElem_of_mem hr0
          have := requestsR_number d l j hj
          have ej : j = (c.a - 1).toNat := by omega
          subst ej; rfl
        rw [← hsame] at hopen
        have hfew := h0.few hopen
        rcases hk with hk | hk
        · rw [reqNext_approve d c r0 hnum hk]
          refine ⟨started_mono _ _ _ h0.inst, ?_, ?_, h0.what, h0.upto⟩
          · intro hcl; simp at hcl ⊢; omega
          · simp; omega
        · rw [reqNext_withdraw d c r0 hnum hk]
          exact ⟨started_mono _ _ _ h0.inst, by simp, h0.most, h0.what, h0.upto⟩
      · rw [reqNext_other d c r0 hm]
        exact ⟨started_mono _ _ _ h0.inst, h0.few, h0.most, h0.what, h0.upto⟩
    · by_cases hk : c.kind = 5
      · rw [if_pos hk] at hr
        simp at hr; subst hr
        have ha := ask_ok hc hk
        have hck := (hl.clock l.length (Nat.le_refl _))
        rw [List.take_length] at hck
        refine ⟨started_mono _ _ _ (known_ok hc (.inr (.inr hk))), ?_, ?_, ⟨ha.1, ha.2.1⟩, ?_⟩
        · intro hcl; simp [reqBase] at hcl ⊢; omega
        · simp [reqBase]; omega
        · simp only [reqBase]; omega
      · rw [if_neg hk] at hr; simp at hr
  · rw [hsn]
    by_cases hk : c.kind = 5
    · rw [if_pos hk]
      have := (ask_room hc hk).1
      simp; omega
    · rw [if_neg hk]; simpa using ihl

end Go.Proofs.YtgcjlgaapiefiabGreat

/-
  The program's world is the document's, behind every log that came about (plain).
-/
namespace Go.Proofs.YtgcjlgaapiefiabGreat

theorem closeR_id (d : Def) (x : Inst) : (closeR d x).id = x.id := by unfold closeR; repeat' split
                                                                      all_goals rfl
theorem enteredR_id (d : Def) (x : Inst) (kind ref now : Int) : (enteredR d x kind ref now).id = x.id := by unfold enteredR; rw [closeR_id]; rfl
theorem afterR_id (d : Def) (x : Inst) (f : Fact) : (afterR d x f).id = x.id := by
  unfold afterR
  split
  · unfold pickedR; split <;> rfl
  split
  · split <;> exact enteredR_id ..
  split
  · unfold wrongR; split
    · rfl
    split <;> rfl
  · unfold doneR
    split
    · rfl
    split
    · exact enteredR_id ..
    split
    · exact enteredR_id ..
    split <;> rfl
theorem foldl_id (d : Def) (fs : List Fact) (x : Inst) : (fs.foldl (afterR d) x).id = x.id := by
  induction fs generalizing x with
  | nil => rfl
  | cons f fs ih => rw [List.foldl_cons, ih, afterR_id]
theorem instanceR_id (d : Def) (l : List Cmd) (id : Int) : (instanceR d l id).id = id := foldl_id d (factsR d l id) (startR id)
theorem instanceR_settled (d : Def) (l : List Cmd) (id : Int) : (instanceR d l id).settled = settledR (instanceR d l id).ledger := rfl
theorem instanceR_fix (d : Def) (l : List Cmd) (id : Int) : fixI (instanceR d l id) = instanceR d l id := rfl

theorem placeP_cons (x : Inst) (xs : List Inst) (id : Int) : placeP (x :: xs) id = if x.id = id then some 0 else (placeP xs id).map (· + 1) := by
  unfold placeP
  rw [List.findIdx?_cons]
  by_cases h : x.id = id
  · simp [h]
  · simp [h]
theorem instP_cons (x : Inst) (xs : List Inst) (id : Int) : instP (x :: xs) id = if x.id = id then some x else instP xs id := by
  unfold instP
  rw [placeP_cons]
  by_cases h : x.id = id
  · simp [h]
  · simp only [h, if_false]
    cases placeP xs id <;> simp
theorem modI_cons (x : Inst) (xs : List Inst) (id : Int) (f : Inst → Inst) : modI (x :: xs) id f = if x.id = id then f x :: xs else x :: modI xs id f := by
  unfold modI
  rw [placeP_cons]
  by_cases h : x.id = id
  · simp [h]
  · simp only [h, if_false]
    cases placeP xs id <;> simp

section
variable (F : Int → Inst) (hF : ∀ i, (F i).id = i)
include hF

theorem placeP_map (ids : List Int) (id : Int) : (placeP (ids.map F) id).isSome = ids.any (· == id) := by
  induction ids with
  | nil => rfl
  | cons i ids ih =>
    rw [List.map_cons, placeP_cons, hF, List.any_cons]
    by_cases h : i = id
    · simp [h]
    · rw [if_neg h, Option.isSome_map, ih]; simp [h]
theorem instP_map (ids : List Int) (id : Int) : instP (ids.map F) id = if id ∈ ids then some (F id) else none := by
  induction ids with
  | nil => rfl
  | cons i ids ih =>
    rw [List.map_cons, instP_cons, hF]
    by_cases h : i = id
    · subst h; simp
    · rw [if_neg h, ih]
      have : id ≠ i := fun e => h e.symm
      simp [this]
theorem modI_map (ids : List Int) (id : Int) (f : Inst → Inst) (hn : ids.Nodup) : modI (ids.map F) id f = ids.map (fun i => if i = id then f (F i) else F i) := by
  induction ids with
  | nil => rfl
  | cons i ids ih =>
    rw [List.map_cons, modI_cons, hF, List.map_cons]
    obtain ⟨h1, h2⟩ := List.nodup_cons.1 hn
    by_cases h : i = id
    · subst h
      rw [if_pos rfl, if_pos rfl]
      congr 1
      apply List.map_congr_left
      intro j hj
      rw [if_neg (fun (e : j = i) => h1 (e ▸ hj))]
    · rw [if_neg h, if_neg h, ih h2]
end

/-! ### answers -/

theorem pickAns_eq {d : Def} {x : Inst} (h : Good d x) (hx : x.settled = settledR x.ledger) (now : Int) : pickAnsP d now x = pickAns d x now := by
  have hnx : nextP x = atR x := by unfold nextP atR; rw [hx]
  have hks := h.keys
  have hkk := h.key
  have bad : ∀ e, pickCodeP d now x = e → e ≠ 0 → pickAnsP d now x = noR e := fun e he h0 => by unfold pickAnsP; rw [he, if_neg h0]
  have good : pickCodeP d now x = 0 → pickAnsP d now x = ⟨0, if x.key = 0 then x.keys + 1 else x.key, nextP x, if x.mode = 2 then 2 else 1⟩ := fun he => by unfold pickAnsP; rw [if_pos he]
  unfold pickAns
  by_cases hm : 2 < x.mode
  · have : x.mode = 3 ∨ x.mode = 4 := by rcases h.modes with ⟨h1, _⟩ | ⟨h1, _⟩ | ⟨h1, _⟩ | ⟨h1, _⟩ <;> omega
    rw [if_pos hm]
    exact bad 6 (by unfold pickCodeP; rw [if_pos this]) (by decide)
  have hm12 : x.mode = 1 ∨ x.mode = 2 := h.mode_of (by omega)
  have hmm : (if x.mode = 2 then (2 : Int) else 1) = x.mode := by
    rcases hm12 with e | e
    · rw [e]; rfl
    · rw [e]; rfl
  rw [hmm] at good
  rw [if_neg hm]
  have hno : ¬ (x.mode = 3 ∨ x.mode = 4) := by omega
  by_cases hst : x.stuck = true
  · rw [if_pos hst]
    exact bad 7 (by unfold pickCodeP; rw [if_neg hno, if_pos hst]) (by decide)
  rw [if_neg hst]
  by_cases hk : x.key = 0
  · have hcode : pickCodeP d now x = newKeyP d now x := by unfold pickCodeP; rw [if_neg hno, if_neg hst, if_pos hk]
    rw [if_pos hk] at good
    rw [hcode] at bad good
    rw [if_neg (show ¬ (0 < x.key ∧ now < x.due) by omega), if_neg (show ¬ 0 < x.key by omega)]
    have hin := h.inv.inSteps (by omega)
    have hsp : stepP d (nextP x) = stepR d (atR x) := by rw [hnx]; unfold stepP stepR; rw [if_neg (by omega)]
    unfold newKeyP at bad good
    rw [hsp] at bad good
    by_cases h1 : now < x.wake
    · rw [if_pos h1]; exact bad 9 (by rw [if_pos h1]) (by decide)
    rw [if_neg h1]
    by_cases h2 : x.mode = 2 ∧ (stepR d (atR x)).undo = false
    · rw [if_pos h2]; exact bad 10 (by rw [if_neg h1, if_pos h2]) (by decide)
    rw [if_neg h2]
    by_cases h3 : x.keys = 30
    · rw [if_pos h3]; exact bad 5 (by rw [if_neg h1, if_neg h2, if_pos (by omega)]) (by decide)
    rw [if_neg h3, good (by rw [if_neg h1, if_neg h2, if_neg (by omega)]), hnx]
  · rw [if_neg hk] at good
    by_cases h1 : now < x.due
    · rw [if_pos ⟨by omega, h1⟩]
      exact bad 8 (by unfold pickCodeP; rw [if_neg hno, if_neg hst, if_neg hk, if_pos h1]) (by decide)
    · rw [if_neg (fun e => h1 e.2), if_pos (show 0 < x.key by omega), good (by unfold pickCodeP; rw [if_neg hno, if_neg hst, if_neg hk, if_neg h1]), hnx]

theorem worldR_inst {d : Def} {l : List Cmd} (id : Int) : instP (worldR d l).insts id = if (startedR l).any (· == id) = true then some (instanceR d l id) else none := by
  show instP ((startedR l).map (instanceR d l)) id = _
  rw [instP_map _ (instanceR_id d l)]
  by_cases h : id ∈ startedR l
  · rw [if_pos h, if_pos ((any_mem _ _).2 h)]
  · rw [if_neg h, if_neg (fun e => h ((any_mem _ _).1 e))]

theorem canGrant_eq {d : Def} {l : List Cmd} {r : Req} (h : ReqOk d l r) : canGrantP d (worldR d l) r = canR d (instanceR d l r.inst) r.what r.target := by
  unfold canGrantP
  rw [worldR_inst, if_pos ((any_mem _ _).2 h.inst)]
  exact canP_fix d (instanceR d l r.inst) r.what r.target h.what.1 h.what.2

theorem openP_none {d : Def} {l : List Cmd} {a : Int} (h : openR (requestsR d l) a (clockR l) = false) : openP (worldR d l) a = none := by
  unfold openP
  by_cases h1 : a < 1 ∨ ((worldR d l).reqs.length : Int) < a
  · rw [if_pos h1]
  rw [if_neg h1]
  have hlt : (a - 1).toNat < (requestsR d l).length := by
    have : ¬ (a < 1 ∨ ((requestsR d l).length : Int) < a) := h1
    omega
  show (match (requestsR d l)[(a - 1).toNat]? with | some r => if r.closed = true ∨ r.upto ≤ clockR l then none else some r | none => none) = none
  rw [List.getElem?_eq_getElem hlt]
  simp only
  rw [if_pos]
  unfold openR at h
  have e : (requestsR d l).getD (a - 1).toNat default = (requestsR d l)[(a - 1).toNat] := by simp only [List.getD, List.getElem?_eq_getElem hlt, Option.getD_some]
  have h1' : ¬ (a < 1 ∨ ((requestsR d l).length : Int) < a) := h1
  rw [e, decide_eq_true (show 1 ≤ a by omega), decide_eq_true (show a ≤ ((requestsR d l).length : Int) by omega)] at h
  simp only [Bool.true_and, Bool.and_eq_false_iff, Bool.not_eq_false', decide_eq_false_iff_not] at h
  rcases h with h | h
  · exact .inl h
  · exact .inr (by omega)
theorem openP_some {d : Def} {l : List Cmd} {a : Int} (h : openR (requestsR d l) a (clockR l) = true) :
    ∃ hlt : (a - 1).toNat < (requestsR d l).length, openP (worldR d l) a = some (requestsR d l)[(a - 1).toNat] ∧ (requestsR d l).getD (a - 1).toNat default = (requestsR d l)[(a - 1).toNat] ∧ ((requestsR d l)[(a - 1).toNat]).closed = false := by
  obtain ⟨r1, r2⟩ := open_range h
  have hlt : (a - 1).toNat < (requestsR d l).length := by omega
  have e : (requestsR d l).getD (a - 1).toNat default = (requestsR d l)[(a - 1).toNat] := by simp only [List.getD, List.getElem?_eq_getElem hlt, Option.getD_some]
  unfold openR at h
  rw [e] at h
  simp only [Bool.and_eq_true, decide_eq_true_eq, Bool.not_eq_true'] at h
  refine ⟨hlt, ?_, e, h.2.2.1⟩
  unfold openP
  rw [if_neg (show ¬ (a < 1 ∨ ((worldR d l).reqs.length : Int) < a) from (show ¬ (a < 1 ∨ ((requestsR d l).length : Int) < a) by omega))]
  show (match (requestsR d l)[(a - 1).toNat]? with | some r => if r.closed = true ∨ r.upto ≤ clockR l then none else some r | none => none) = _
  rw [List.getElem?_eq_getElem hlt]
  simp only
  rw [if_neg]
  intro q
  rcases q with q | q
  · rw [h.2.2.1] at q; simp at q
  · have := h.2.2.2; omega

theorem isWho_false (who : Int) : isWhoP who = false ↔ who < 0 ∨ 9 < who := by
  unfold isWhoP
  simp only [Bool.and_eq_false_iff, decide_eq_false_iff_not]
  omega

theorem approve_eq {d : Def} {l : List Cmd} (hok : d.ok = true) (h : LogOk d l) (c : Cmd) (hk : c.kind = 6) : approveCodeP d (worldR d l) c.a c.who = decidedR d l c (clockR l) := by
  unfold approveCodeP decidedR
  cases ho : openR (requestsR d l) c.a (clockR l)
  · rw [openP_none ho]; rfl
  · obtain ⟨hlt, e1, e2, e3⟩ := openP_some ho
    rw [e1, e2]
    have hr := (h.reqs hok).1 _ (List.getElem_mem hlt)
    generalize (requestsR d l)[(c.a - 1).toNat] = r at *
    simp only [Bool.true_eq_false, if_false]
    rw [if_neg (show ¬ c.kind = 7 by omega), canGrant_eq hr]
    have hfew := hr.few e3
    by_cases hm : c.who < 0 ∨ 9 < c.who ∨ c.who = r.who ∨ r.bys.any (· == c.who) = true
    · rw [if_pos hm, if_pos]
      unfold mayP
      by_cases h1 : isWhoP c.who = false ∨ c.who = r.who
      · rw [if_pos h1]
      · rw [if_neg h1, isWho_false] at *
        have : r.bys.any (· == c.who) = true := by
          rcases hm with q | q | q | q
          · exact absurd (.inl (.inl q)) h1
          · exact absurd (.inl (.inr q)) h1
          · exact absurd (.inr q) h1
          · exact q
        show (!(r.bys.any (· == c.who))) = false
        rw [this]; rfl
    · rw [if_neg hm, if_neg]
      · by_cases hq : (r.bys.length : Int) + 1 = d.quorum ∧ canR d (instanceR d l r.inst) r.what r.target = false
        · rw [if_pos hq, if_pos ⟨by omega, hq.2⟩]
        · rw [if_neg hq, if_neg (fun q => hq ⟨by omega, q.2⟩)]
      · unfold mayP
        rw [if_neg (fun q => hm (by rw [isWho_false] at q; rcases q with (q | q) | q; exact .inl q; exact .inr (.inl q); exact .inr (.inr (.inl q))))]
        have : r.bys.any (· == c.who) = false := by
          cases hb : r.bys.any (· == c.who)
          · rfl
          · exact absurd (.inr (.inr (.inr hb))) hm
        show ¬ (!(r.bys.any (· == c.who))) = false
        rw [this]; decide

theorem withdraw_eq {d : Def} {l : List Cmd} (c : Cmd) (hk : c.kind = 7) : withdrawCodeP (worldR d l) c.a c.who = decidedR d l c (clockR l) := by
  unfold withdrawCodeP decidedR
  cases ho : openR (requestsR d l) c.a (clockR l)
  · rw [openP_none ho]; rfl
  · obtain ⟨hlt, e1, e2, e3⟩ := openP_some ho
    rw [e1, e2]
    simp only [Bool.true_eq_false, if_false]
    rw [if_pos hk]
    by_cases q : c.who = ((requestsR d l)[(c.a - 1).toNat]).who
    · rw [if_pos q, if_neg (fun e => e q)]
    · rw [if_neg q, if_pos q]

theorem ask_eq {d : Def} {l : List Cmd} (hok : d.ok = true) (h : LogOk d l) (c : Cmd) (hk : c.kind = 5) :
    askAnsP d (worldR d l) c = if (startedR l).any (· == c.inst) = true then answeredR d l c (instanceR d l c.inst) (clockR l) else noR 4 := by
  unfold askAnsP
  rw [worldR_inst]
  by_cases hs : (startedR l).any (· == c.inst) = true
  · rw [if_pos hs, if_pos hs]
    simp only
    have h40 := (h.reqs hok).2
    have he : answeredR d l c (instanceR d l c.inst) (clockR l) = askAns d c (instanceR d l c.inst) (requestsR d l).length := by
      unfold answeredR; rw [if_neg (show ¬ c.kind = 2 by omega), if_neg (show ¬ c.kind = 3 by omega)]
    rw [he]
    have bad : ∀ e, askCodeP d (worldR d l) c (instanceR d l c.inst) = e → e ≠ 0 → (if askCodeP d (worldR d l) c (instanceR d l c.inst) = 0 then (⟨0, (worldR d l).reqs.length + 1, 0, 0⟩ : Answer) else noR (askCodeP d (worldR d l) c (instanceR d l c.inst))) = noR e := fun e he h0 => by rw [he, if_neg h0]
    unfold askAns
    by_cases t1 : c.a < 1 ∨ 5 < c.a
    · rw [if_pos t1]; exact bad 2 (by unfold askCodeP; rw [if_pos t1]) (by decide)
    rw [if_neg t1]
    by_cases t2 : c.who < 0 ∨ 9 < c.who
    · rw [if_pos t2]; exact bad 13 (by unfold askCodeP; rw [if_neg t1, if_pos ((isWho_false _).2 t2)]) (by decide)
    have t2' : ¬ isWhoP c.who = false := fun e => t2 ((isWho_false _).1 e)
    rw [if_neg t2]
    by_cases t3 : (c.reason.size : Int) < 1 ∨ 20 < (c.reason.size : Int)
    · rw [if_pos t3]; exact bad 12 (by unfold askCodeP; rw [if_neg t1, if_neg t2', if_pos (by omega)]) (by decide)
    have t3' : ¬ (c.reason.size = 0 ∨ 20 < (c.reason.size : Int)) := by omega
    rw [if_neg t3]
    have hcan : canP d (instanceR d l c.inst) c.a c.b = canR d (instanceR d l c.inst) c.a c.b := canP_fix d (instanceR d l c.inst) c.a c.b (by omega) (by omega)
    by_cases t4 : canR d (instanceR d l c.inst) c.a c.b = false
    · rw [if_pos t4]; exact bad 14 (by unfold askCodeP; rw [if_neg t1, if_neg t2', if_neg t3', hcan, if_pos t4]) (by decide)
    rw [if_neg t4]
    by_cases t5 : ((requestsR d l).length : Int) = 40
    · rw [if_pos t5]
      exact bad 5 (by unfold askCodeP; rw [if_neg t1, if_neg t2', if_neg t3', hcan, if_neg t4, if_pos (show 40 ≤ ((worldR d l).reqs.length : Int) from (show 40 ≤ ((requestsR d l).length : Int) by omega))]) (by decide)
    · rw [if_neg t5, if_pos (by unfold askCodeP; rw [if_neg t1, if_neg t2', if_neg t3', hcan, if_neg t4, if_neg (show ¬ 40 ≤ ((worldR d l).reqs.length : Int) from (show ¬ 40 ≤ ((requestsR d l).length : Int) by omega))])]
      rfl
  · rw [if_neg hs, if_neg hs]

theorem answer_eq {d : Def} {l : List Cmd} (hok : d.ok = true) (h : LogOk d l) (c : Cmd) : answerP d (worldR d l) c = answerR d l c := by
  have hn : 0 < d.steps.length := by have := quorum_ok hok; omega
  unfold answerP answerR
  by_cases k1 : c.kind = 1
  · rw [if_pos k1, if_pos k1]
    unfold startCodeP
    have hp : (placeP (worldR d l).insts c.inst).isSome = (startedR l).any (· == c.inst) := placeP_map _ (instanceR_id d l) _ _
    have hl : ((worldR d l).insts.length : Int) = (startedR l).length := by simp [worldR]
    rw [hp, hl]
    have h4 := h.ids.four
    by_cases t1 : c.inst < 0 ∨ 255 < c.inst
    · rw [if_pos t1, if_pos t1]
    rw [if_neg t1, if_neg t1]
    by_cases t2 : (startedR l).any (· == c.inst) = true
    · rw [if_pos t2, if_pos t2]
    rw [if_neg t2, if_neg t2]
    by_cases t3 : (startedR l).length = 4
    · rw [if_pos t3, if_pos (by omega)]
    · rw [if_neg t3, if_neg (by omega)]
  rw [if_neg k1, if_neg k1]
  by_cases k2 : c.kind = 2
  · rw [if_pos k2, if_neg (by omega), if_neg (by omega), if_pos (.inl k2), worldR_inst]
    by_cases hs : (startedR l).any (· == c.inst) = true
    · rw [if_pos hs, if_pos hs]
      simp only
      unfold answeredR
      rw [if_pos k2]
      exact pickAns_eq (h.good hn c.inst) (instanceR_settled d l c.inst) _
    · rw [if_neg hs, if_neg hs]
  rw [if_neg k2]
  by_cases k3 : c.kind = 3
  · rw [if_pos k3, if_neg (by omega), if_neg (by omega), if_pos (.inr (.inl k3)), worldR_inst]
    by_cases hs : (startedR l).any (· == c.inst) = true
    · rw [if_pos hs, if_pos hs]
      simp only
      unfold answeredR replyCodeP
      rw [if_neg k2, if_pos k3]
      by_cases q : (instanceR d l c.inst).key ≠ c.a ∨ (instanceR d l c.inst).key = 0
      · rw [if_pos q, if_pos (Or.symm q)]
      · rw [if_neg q, if_neg (fun e => q (Or.symm e))]
    · rw [if_neg hs, if_neg hs]
  rw [if_neg k3]
  by_cases k4 : c.kind = 4
  · rw [if_pos k4, if_pos k4]
    unfold tickCodeP
    by_cases t1 : c.a < 1 ∨ 100 < c.a
    · rw [if_pos t1, if_pos t1]
    rw [if_neg t1, if_neg t1]
    show noR (if 10000 < clockR l + c.a then 16 else 0) = _
    by_cases t2 : 10000 < clockR l + c.a
    · rw [if_pos t2, if_pos t2]
    · rw [if_neg t2, if_neg t2]
  rw [if_neg k4, if_neg k4]
  by_cases k5 : c.kind = 5
  · rw [if_pos k5, if_neg (by omega), if_pos (.inr (.inr k5))]
    exact ask_eq hok h c k5
  rw [if_neg k5]
  by_cases k6 : c.kind = 6
  · rw [if_pos k6, if_pos (.inl k6), approve_eq hok h c k6]
  rw [if_neg k6]
  by_cases k7 : c.kind = 7
  · rw [if_pos k7, if_pos (.inr k7), withdraw_eq c k7]
  rw [if_neg k7, if_neg (by omega), if_neg (by omega)]

end Go.Proofs.YtgcjlgaapiefiabGreat

/-
  What the program carries out is the document's world behind one command more (plain).
-/
namespace Go.Proofs.YtgcjlgaapiefiabGreat

theorem reqs_same {d : Def} {l : List Cmd} {c : Cmd} (hk : c.kind ≠ 5) (hk6 : c.kind ≠ 6) (hk7 : c.kind ≠ 7) : requestsR d (l ++ [c]) = requestsR d l := by
  rw [requestsR_snoc, if_neg hk, List.append_nil]
  conv => rhs; rw [← List.map_id (requestsR d l)]
  apply List.map_congr_left
  intro r _
  exact reqNext_other d c r (by omega)
theorem reqs_ask {d : Def} {l : List Cmd} {c : Cmd} (hk : c.kind = 5) : requestsR d (l ++ [c]) = requestsR d l ++ [reqBase d l c ((requestsR d l).length + 1)] := by
  rw [requestsR_snoc, if_pos hk]
  congr 1
  conv => rhs; rw [← List.map_id (requestsR d l)]
  apply List.map_congr_left
  intro r _
  exact reqNext_other d c r (by omega)
/-- One request alone is named. -/
theorem reqs_named {d : Def} {l : List Cmd} {c : Cmd} (hk : c.kind = 6 ∨ c.kind = 7) (_h1 : 1 ≤ c.a) (hlt : (c.a - 1).toNat < (requestsR d l).length) :
    requestsR d (l ++ [c]) = (requestsR d l).set (c.a - 1).toNat (reqNext d c (requestsR d l)[(c.a - 1).toNat]) := by
  rw [requestsR_snoc, if_neg (by omega), List.append_nil]
  apply List.ext_getElem
  · simp
  · intro j hj hj2
    simp only [List.length_map] at hj
    rw [List.getElem_map, List.getElem_set]
    by_cases e : (c.a - 1).toNat = j
    · subst e; rw [if_pos rfl]
    · rw [if_neg e]
      refine reqNext_other d c _ ?_
      rw [requestsR_number d l j hj]
      omega

theorem insts_one {d : Def} {l : List Cmd} {c : Cmd} (h : LogOk d l) (id : Int) (f : Inst → Inst) (hk : c.kind ≠ 1) (he : ∀ i, instanceR d (l ++ [c]) i = if i = id then f (instanceR d l i) else instanceR d l i) :
    (worldR d (l ++ [c])).insts = modI (worldR d l).insts id f := by
  show (startedR (l ++ [c])).map (instanceR d (l ++ [c])) = modI ((startedR l).map (instanceR d l)) id f
  rw [modI_map _ (instanceR_id d l) _ _ _ h.ids.nodup, started_snoc, if_neg hk]
  apply List.map_congr_left
  intro i _
  exact he i
theorem insts_same {d : Def} {l : List Cmd} {c : Cmd} (hk : c.kind ≠ 1) (he : ∀ i, instanceR d (l ++ [c]) i = instanceR d l i) : (worldR d (l ++ [c])).insts = (worldR d l).insts := by
  show (startedR (l ++ [c])).map (instanceR d (l ++ [c])) = (startedR l).map (instanceR d l)
  rw [started_snoc, if_neg hk]
  apply List.map_congr_left
  intro i _
  exact he i

theorem world_ext {W V : WorldR} (h1 : W.clock = V.clock) (h2 : W.insts = V.insts) (h3 : W.reqs = V.reqs) : W = V := by
  cases W; cases V; simp_all

/-- An instance that was not started has had nothing happen to it. -/
theorem unstarted {d : Def} {l : List Cmd} (hok : d.ok = true) (h : LogOk d l) (id : Int) : id ∉ startedR l → instanceR d l id = startR id := by
  have hn : 0 < d.steps.length := by have := quorum_ok hok; omega
  refine LogOk.ind (P := fun l => id ∉ startedR l → instanceR d l id = startR id) (fun _ => rfl) ?_ l h
  intro l c hl hc ih hid
  have hid' : id ∉ startedR l := fun e => hid (started_mono l c id e)
  have hk := kind_ok hc
  rw [← ih hid']
  by_cases k2 : c.kind = 2
  · rw [inst_pick hl hn hc k2, if_neg (fun e => hid' (by rw [e]; exact known_ok hc (.inl k2)))]
  by_cases k3 : c.kind = 3
  · rw [inst_reply hl hn hc k3, if_neg (fun e => hid' (by rw [e]; exact known_ok hc (.inr (.inl k3))))]
  by_cases k5 : c.kind = 5
  · rw [inst_ask hl hn hc k5, if_neg (fun e => hid' (by rw [← e.2]; exact known_ok hc (.inr (.inr k5))))]
  by_cases k6 : c.kind = 6
  · obtain ⟨hlt, _⟩ := named hc (.inl k6)
    rw [inst_approve hl hn hc k6 id hlt, if_neg (fun e => hid' (by rw [← e.2]; exact ((hl.reqs hok).1 _ (List.getElem_mem hlt)).inst))]
  exact inst_else (by omega) id

theorem carry_eq {d : Def} {l : List Cmd} {c : Cmd} (hok : d.ok = true) (h : LogOk d l) (hc : (answerR d l c).code = 0) : carryP d (worldR d l) c = worldR d (l ++ [c]) := by
  obtain ⟨q0, q3, e1, e50, hn1, _⟩ := quorum_ok hok
  have hn : 0 < d.steps.length := by omega
  have hk := kind_ok hc
  unfold carryP
  by_cases k1 : c.kind = 1
  · rw [if_pos k1]
    refine world_ext ?_ ?_ ?_
    · show clockR l = clockR (l ++ [c]); rw [clock_snoc, if_neg (by omega)]
    · show (startedR l).map (instanceR d l) ++ [startR c.inst] = (startedR (l ++ [c])).map (instanceR d (l ++ [c]))
      rw [started_snoc, if_pos k1, List.map_append, List.map_singleton, inst_else (.inl k1)]
      have hns := (start_ok hc k1).2.2.1
      rw [unstarted hok h c.inst hns]
      congr 1
      apply List.map_congr_left
      intro i _
      exact (inst_else (.inl k1) i).symm
    · exact (reqs_same (by omega) (by omega) (by omega)).symm
  rw [if_neg k1]
  by_cases k2 : c.kind = 2
  · rw [if_pos k2]
    refine world_ext ?_ ?_ ?_
    · show clockR l = clockR (l ++ [c]); rw [clock_snoc, if_neg (by omega)]
    · exact (insts_one h c.inst (pickP d (clockR l)) k1 (inst_pick h hn hc k2)).symm
    · exact (reqs_same (by omega) (by omega) (by omega)).symm
  rw [if_neg k2]
  by_cases k3 : c.kind = 3
  · rw [if_pos k3]
    refine world_ext ?_ ?_ ?_
    · show clockR l = clockR (l ++ [c]); rw [clock_snoc, if_neg (by omega)]
    · exact (insts_one h c.inst (fun x => replyP d (clockR l) x (c.b == 1)) k1 (inst_reply h hn hc k3)).symm
    · exact (reqs_same (by omega) (by omega) (by omega)).symm
  rw [if_neg k3]
  by_cases k4 : c.kind = 4
  · rw [if_pos k4]
    refine world_ext ?_ ?_ ?_
    · show clockR l + c.a = clockR (l ++ [c]); rw [clock_snoc, if_pos k4]
    · exact (insts_same k1 (inst_else (.inr (.inl k4)))).symm
    · exact (reqs_same (by omega) (by omega) (by omega)).symm
  rw [if_neg k4]
  by_cases k5 : c.kind = 5
  · rw [if_pos k5]
    refine world_ext ?_ ?_ ?_
    · show clockR l = clockR (l ++ [c]); rw [clock_snoc, if_neg (by omega)]
    · show decideI d (worldR d l) (newReq d (worldR d l) c) = _
      unfold decideI
      show (if ((0 : Nat) : Int) < d.quorum then _ else modI (worldR d l).insts c.inst (fun x => grantP d (clockR l) x c.a (if c.a = 5 then c.b else 0) ((requestsR d l).length + 1))) = _
      by_cases hq : d.quorum = 0
      · rw [if_neg (by omega)]
        refine (insts_one h c.inst _ k1 (fun i => ?_)).symm
        rw [inst_ask h hn hc k5]
        by_cases e : c.inst = i
        · rw [if_pos ⟨hq, e⟩, if_pos e.symm]
        · rw [if_neg (fun q => e q.2), if_neg (fun q => e q.symm)]
      · rw [if_pos (by omega)]
        refine (insts_same k1 (fun i => ?_)).symm
        rw [inst_ask h hn hc k5, if_neg (fun q => hq q.1)]
    · show requestsR d l ++ [decideR d (newReq d (worldR d l) c)] = requestsR d (l ++ [c])
      rw [reqs_ask k5]
      congr 2
      unfold decideR newReq reqBase
      show (if ((0 : Nat) : Int) < d.quorum then _ else _) = _
      by_cases hq : d.quorum = 0
      · rw [if_neg (by omega), decide_eq_true hq]; rfl
      · rw [if_pos (by omega), decide_eq_false hq]; rfl
  rw [if_neg k5]
  by_cases k6 : c.kind = 6
  · rw [if_pos k6]
    obtain ⟨hlt, ha1, hgd, hnum, hopen, hupto⟩ := named hc (.inl k6)
    obtain ⟨_, ho⟩ := decided_ok hc (.inl k6)
    obtain ⟨_, eo, _⟩ := openP_some ho
    have hr := (h.reqs hok).1 _ (List.getElem_mem hlt)
    have hfew := hr.few hopen
    have hreq := reqs_named (d := d) (l := l) (c := c) (.inl k6) ha1 hlt
    have hinst := inst_approve h hn hc k6 (hlt := hlt)
    rw [eo]
    simp only
    refine world_ext ?_ ?_ ?_
    · show clockR l = clockR (l ++ [c]); rw [clock_snoc, if_neg (by omega)]
    · show decideI d (worldR d l) _ = _
      unfold decideI
      generalize (requestsR d l)[(c.a - 1).toNat] = r at *
      simp only [List.length_append, List.length_singleton]
      by_cases hq : (r.bys.length : Int) + 1 = d.quorum
      · rw [if_neg (by omega)]
        refine (insts_one h r.inst _ k1 (fun i => ?_)).symm
        rw [hinst]
        by_cases e : r.inst = i
        · rw [if_pos ⟨hq, e⟩, if_pos e.symm, hnum]; rfl
        · rw [if_neg (fun q => e q.2), if_neg (fun q => e q.symm)]
      · rw [if_pos (by omega)]
        refine (insts_same k1 (fun i => ?_)).symm
        rw [hinst, if_neg (fun q => hq q.1)]
    · show (requestsR d l).set _ _ = requestsR d (l ++ [c])
      rw [hreq]
      congr 1
      generalize (requestsR d l)[(c.a - 1).toNat] = r at *
      rw [reqNext_approve d c r hnum.symm k6]
      unfold decideR
      simp only [List.length_append, List.length_singleton]
      by_cases hq : (r.bys.length : Int) + 1 = d.quorum
      · rw [if_neg (by omega)]; simp [hq]
      · rw [if_pos (by omega)]; simp [hq, hopen]
  rw [if_neg k6]
  have k7 : c.kind = 7 := by omega
  rw [if_pos k7]
  obtain ⟨hlt, ha1, hgd, hnum, hopen, hupto⟩ := named hc (.inr k7)
  obtain ⟨_, ho⟩ := decided_ok hc (.inr k7)
  obtain ⟨_, eo, _⟩ := openP_some ho
  have hreq := reqs_named (d := d) (l := l) (c := c) (.inr k7) ha1 hlt
  rw [eo]
  simp only
  refine world_ext ?_ ?_ ?_
  · show clockR l = clockR (l ++ [c]); rw [clock_snoc, if_neg (by omega)]
  · exact (insts_same k1 (inst_else (.inr (.inr k7)))).symm
  · show (requestsR d l).set _ _ = requestsR d (l ++ [c])
    rw [hreq, reqNext_withdraw d c _ hnum.symm k7]

/-! ### a script -/

/-- The log behind a script without SYNC and CRASH; what its commands were answered. -/
def logStep (d : Def) (l : List Cmd) (c : Cmd) : List Cmd := if (answerR d l c).code = 0 ∧ c.dry = false then l ++ [c] else l

theorem logStep_ok {d : Def} {l : List Cmd} (h : LogOk d l) (c : Cmd) : LogOk d (logStep d l c) := by
  unfold logStep; split
  · rename_i e; exact h.snoc e.1
  · exact h
theorem doP_eq {d : Def} {l : List Cmd} (hok : d.ok = true) (h : LogOk d l) (c : Cmd) : doP d (worldR d l) c = worldR d (logStep d l c) := by
  unfold doP logStep
  rw [answer_eq hok h]
  by_cases e : (answerR d l c).code = 0 ∧ c.dry = false
  · rw [if_pos e, if_pos e, carry_eq hok h e.1]
  · rw [if_neg e, if_neg e]

end Go.Proofs.YtgcjlgaapiefiabGreat

/-
  The document's journal: bytes, cut, a script played (plain).
-/
namespace Go.Proofs.YtgcjlgaapiefiabGreat

/-- What is known of the records of a log. -/
def RecsOk (l : List Cmd) : Prop := ∀ c ∈ l, c.kind = 5 → c.reason.size ≤ 250

theorem recordR_size (c : Cmd) : (recordR c).size = (recBody c).length + 3 := by
  unfold recordR
  rw [ByteArray.size_append, ByteArray.size_append, strOfNums_size, strOfNums_size, strOfNums_size]
  simp; omega
theorem recordR_le (c : Cmd) (h : c.kind = 5 → c.reason.size ≤ 250) : 8 ≤ (recordR c).size ∧ (recordR c).size ≤ 258 := by
  rw [recordR_size, recBody_length]
  by_cases h5 : c.kind = 5
  · rw [if_pos h5]; have := h h5; omega
  · rw [if_neg h5]; omega

theorem bytesR_snoc (l : List Cmd) (c : Cmd) : bytesR (l ++ [c]) = bytesR l ++ recordR c := by
  unfold bytesR; rw [List.foldl_append]; rfl
theorem bytesR_take (l : List Cmd) (k : Nat) (h : k < l.length) : bytesR (l.take (k + 1)) = bytesR (l.take k) ++ recordR l[k] := foldl_take_succ _ _ _ _ h
theorem bytesR_nil : bytesR [] = ByteArray.empty := rfl

/-- How long the records of a log are together. -/
def bytesN (l : List Cmd) : Nat := (bytesR l).size
theorem bytesN_nil : bytesN [] = 0 := rfl
theorem bytesN_snoc (l : List Cmd) (c : Cmd) : bytesN (l ++ [c]) = bytesN l + (recordR c).size := by
  unfold bytesN; rw [bytesR_snoc, ByteArray.size_append]
theorem bytesN_take (l : List Cmd) (k : Nat) (h : k < l.length) : bytesN (l.take (k + 1)) = bytesN (l.take k) + (recordR l[k]).size := by
  unfold bytesN; rw [bytesR_take l k h, ByteArray.size_append]
theorem bytesN_le (l : List Cmd) (h : RecsOk l) : ∀ k, k ≤ l.length → bytesN (l.take k) ≤ 258 * k := by
  intro k
  induction k with
  | zero => intro _; simp [bytesN_nil]
  | succ k ih =>
    intro hk
    have h1 := ih (by omega)
    rw [bytesN_take l k (by omega)]
    have := recordR_le l[k] (h _ (List.getElem_mem (by omega)))
    omega

/-- As many commands as have their records whole within n bytes. -/
def cutN (l : List Cmd) (n : Int) : Nat → Nat
  | 0 => 0
  | k + 1 => if (bytesN (l.take (k + 1)) : Int) ≤ n then k + 1 else cutN l n k
def cutR (l : List Cmd) (n : Int) : List Cmd := l.take (cutN l n l.length)

theorem bytesN_mono (l : List Cmd) (i j : Nat) (hij : i ≤ j) (hj : j ≤ l.length) : bytesN (l.take i) ≤ bytesN (l.take j) := by
  induction j with
  | zero => have : i = 0 := by omega
            subst this; exact Nat.le_refl _
  | succ j ih =>
    by_cases e : i = j + 1
    · subst e; exact Nat.le_refl _
    · have := ih (by omega) (by omega)
      rw [bytesN_take l j (by omega)]
      omega
theorem cutN_stop (l : List Cmd) (n : Int) (k : Nat) (h : ¬ (bytesN (l.take (k + 1)) : Int) ≤ n) (hk : k < l.length) : ∀ m, k + 1 ≤ m → m ≤ l.length → cutN l n m = cutN l n k := by
  intro m
  induction m with
  | zero => intro h1 _; omega
  | succ m ih =>
    intro h1 h2
    have hm := bytesN_mono l (k + 1) (m + 1) h1 h2
    have e0 : cutN l n (m + 1) = if (bytesN (l.take (m + 1)) : Int) ≤ n then m + 1 else cutN l n m := rfl
    rw [e0, if_neg (by omega)]
    by_cases e : m = k
    · subst e; rfl
    · exact ih (by omega) (by omega)
theorem cutN_go (l : List Cmd) (n : Int) (k : Nat) (h : (bytesN (l.take k) : Int) ≤ n) : cutN l n k = k := by
  cases k with
  | zero => rfl
  | succ k => unfold cutN; rw [if_pos h]
theorem cut_stop (l : List Cmd) (n : Int) (k : Nat) (hk : k < l.length) (h0 : k = 0 ∨ (bytesN (l.take k) : Int) ≤ n) (h1 : ¬ (bytesN (l.take (k + 1)) : Int) ≤ n) : cutR l n = l.take k := by
  unfold cutR
  rw [cutN_stop l n k h1 hk l.length (by omega) (Nat.le_refl _)]
  rcases h0 with rfl | h0
  · rfl
  · rw [cutN_go l n k h0]
theorem cut_all (l : List Cmd) (n : Int) (h : l.length = 0 ∨ (bytesN l : Int) ≤ n) : cutR l n = l := by
  unfold cutR
  rcases h with h | h
  · rw [h]; have : l = [] := List.eq_nil_of_length_eq_zero h
    subst this; rfl
  · have e : l.take l.length = l := List.take_length
    rw [cutN_go l n l.length (by rw [e]; exact h), e]

/-- What has been played. -/
structure TapeR where
  log : List Cmd
  safe : Int
  answers : List Answer

def playStep (d : Def) (t : TapeR) (c : Cmd) : TapeR :=
  if c.kind = 8 then ⟨t.log, bytesN t.log, t.answers ++ [noR 0]⟩
  else if c.kind = 9 ∧ c.a < 0 then ⟨t.log, t.safe, t.answers ++ [noR 3]⟩
  else if c.kind = 9 then
    (if c.a < (bytesN t.log : Int) - t.safe then ⟨cutR t.log (t.safe + c.a), bytesN (cutR t.log (t.safe + c.a)), t.answers ++ [noR 0]⟩ else ⟨t.log, bytesN t.log, t.answers ++ [noR 0]⟩)
  else if (answerR d t.log c).code = 0 ∧ c.dry = false then
    ⟨t.log ++ [c], if c.kind = 2 then (bytesN t.log : Int) + (recordR c).size else t.safe, t.answers ++ [answerR d t.log c]⟩
  else ⟨t.log, t.safe, t.answers ++ [answerR d t.log c]⟩
def playR (d : Def) (s : List Cmd) : TapeR := s.foldl (playStep d) ⟨[], 0, []⟩

/-- What holds of every tape. -/
structure TapeOk (d : Def) (t : TapeR) : Prop where
  log : LogOk d t.log
  safe : 0 ≤ t.safe ∧ t.safe ≤ bytesN t.log

theorem LogOk.recs {d : Def} {l : List Cmd} (h : LogOk d l) : RecsOk l := by
  intro c hc h5
  obtain ⟨k, hk, rfl⟩ := List.getElem_of_mem hc
  have := ask_room (h k hk) h5
  omega

theorem playStep_ok {d : Def} {t : TapeR} (h : TapeOk d t) (c : Cmd) : TapeOk d (playStep d t c) := by
  unfold playStep
  split
  · exact ⟨h.log, by simp⟩
  split
  · exact ⟨h.log, h.safe⟩
  split
  · split
    · refine ⟨h.log.take _, by simp⟩
    · exact ⟨h.log, by simp⟩
  split
  · rename_i e
    refine ⟨h.log.snoc e.1, ?_⟩
    have := h.safe
    show 0 ≤ (if c.kind = 2 then (bytesN t.log : Int) + (recordR c).size else t.safe) ∧ (if c.kind = 2 then (bytesN t.log : Int) + (recordR c).size else t.safe) ≤ (bytesN (t.log ++ [c]) : Int)
    rw [bytesN_snoc]
    split <;> omega
  · exact ⟨h.log, h.safe⟩
theorem playStep_len (d : Def) (t : TapeR) (c : Cmd) : (playStep d t c).log.length ≤ t.log.length + 1 ∧ (playStep d t c).answers.length = t.answers.length + 1 := by
  unfold playStep
  repeat' split
  all_goals (first | (simp; done) | (simp [cutR]; omega))
theorem playFold (d : Def) (s : List Cmd) (k : Nat) (hk : k ≤ s.length) : TapeOk d (playR d (s.take k)) ∧ (playR d (s.take k)).log.length ≤ k ∧ (playR d (s.take k)).answers.length = k := by
  induction k with
  | zero => exact ⟨⟨LogOk.nil d, by simp [playR]⟩, by simp [playR], by simp [playR]⟩
  | succ k ih =>
    obtain ⟨h1, h2, h3⟩ := ih (by omega)
    have e : playR d (s.take (k + 1)) = playStep d (playR d (s.take k)) s[k] := foldl_take_succ _ _ _ _ (by omega)
    rw [e]
    obtain ⟨q1, q2⟩ := playStep_len d (playR d (s.take k)) s[k]
    exact ⟨playStep_ok h1 _, by omega, by omega⟩

/-- Scripts without SYNC and CRASH: the log is what the program's commands make. -/
def NoJournal (s : List Cmd) : Prop := ∀ c ∈ s, c.kind ≠ 8 ∧ c.kind ≠ 9
theorem playStep_log {d : Def} {t : TapeR} {c : Cmd} (h8 : c.kind ≠ 8) (h9 : c.kind ≠ 9) : (playStep d t c).log = logStep d t.log c ∧ (playStep d t c).answers = t.answers ++ [answerR d t.log c] := by
  unfold playStep logStep
  rw [if_neg h8, if_neg (fun q => h9 q.1), if_neg h9]
  split <;> exact ⟨rfl, rfl⟩

end Go.Proofs.YtgcjlgaapiefiabGreat

/-
  The program's records, and what is read of a journal (plain).
-/
namespace Go.Proofs.YtgcjlgaapiefiabGreat

/-- What a command names. -/
def namC (c : Cmd) : Cmd :=
  ⟨c.kind, if c.kind = 1 ∨ c.kind = 2 ∨ c.kind = 3 ∨ c.kind = 5 then c.inst else 0, if 3 ≤ c.kind ∧ c.kind ≤ 7 then c.a else 0,
    if c.kind = 3 ∧ c.b = 1 then 1 else if c.kind = 5 ∧ c.a = 5 then c.b else 0, if 5 ≤ c.kind ∧ c.kind ≤ 7 then c.who else 0,
    if c.kind = 5 then c.reason else ByteArray.empty, false⟩
/-- A command's body, and a record, as the program writes them. -/
def bodyL (c : Cmd) : List Int := [c.kind % 256, c.inst % 256, c.a % 256, c.b % 256, c.who % 256] ++ nums c.reason
def recL (xs : List Int) : List Int := [(xs.length : Int) % 256] ++ xs ++ [recSum xs % 256, recSum xs / 256 % 256]
def recP (c : Cmd) : List Int := recL (bodyL (namC c))

theorem recordR_recL (c : Cmd) : recordR c = strOfNums (recL (recBody c)) := by
  unfold recordR recL
  rw [strOfNums_append, strOfNums_append]
theorem body_named (c : Cmd) (h1 : 1 ≤ c.kind) (h7 : c.kind ≤ 7) : bodyL (namC c) = recBody c := by
  have hn : nums ByteArray.empty = [] := rfl
  have hk : c.kind = 1 ∨ c.kind = 2 ∨ c.kind = 3 ∨ c.kind = 4 ∨ c.kind = 5 ∨ c.kind = 6 ∨ c.kind = 7 := by omega
  unfold bodyL namC recBody recHead
  rcases hk with e | e | e | e | e | e | e <;> simp only [e] <;> simp [hn]
  · by_cases hb : c.b = 1 <;> simp [hb]
  · by_cases hb : c.a = 5 <;> simp [hb]
theorem recP_record (c : Cmd) (h1 : 1 ≤ c.kind) (h7 : c.kind ≤ 7) : strOfNums (recP c) = recordR c := by
  unfold recP; rw [body_named c h1 h7, recordR_recL]

theorem nums_append (s t : ByteArray) : nums (s ++ t) = nums s ++ nums t := by
  unfold nums; rw [ByteArray.toList_data_append, List.map_append]
theorem strOfNums_nums (s : ByteArray) : strOfNums (nums s) = s := by
  apply ByteArray.ext
  apply Array.toList_inj.1
  rw [strOfNums_data]
  unfold nums
  rw [List.map_map]
  conv => rhs; rw [← List.map_id s.data.toList]
  apply List.map_congr_left
  intro b _
  simp
theorem nums_strOfNums (xs : List Int) (h : ∀ x ∈ xs, 0 ≤ x ∧ x ≤ 255) : nums (strOfNums xs) = xs := by
  unfold nums
  rw [strOfNums_data, List.map_map]
  conv => rhs; rw [← List.map_id xs]
  apply List.map_congr_left
  intro x hx
  have := h x hx
  simp
  omega
theorem nums_inj {s t : ByteArray} (h : nums s = nums t) : s = t := by rw [← strOfNums_nums s, h, strOfNums_nums]
theorem nums_extract (s : ByteArray) (i j : Nat) : nums (s.extract i j) = ((nums s).take j).drop i := by
  unfold nums
  rw [ByteArray.data_extract, Array.toList_extract, List.extract_eq_take_drop, List.map_take, List.map_drop, List.drop_take]

/-- A byte of a string. -/
def byteAt (s : ByteArray) (i : Nat) : Int := (nums s).getD i 0
theorem byteAt_bd (s : ByteArray) (i : Nat) : 0 ≤ byteAt s i ∧ byteAt s i ≤ 255 := getD_bd (nums_bd s) i

/-- The command that stands at the beginning of the bytes, and whether it stands there as a record. -/
def cmdOf (r : ByteArray) : Cmd := ⟨byteAt r 1, byteAt r 2, byteAt r 3, byteAt r 4, byteAt r 5, r.extract 6 ((byteAt r 0).toNat + 1), false⟩
def IsRec (r : ByteArray) : Prop := 0 < r.size ∧ 5 ≤ byteAt r 0 ∧ byteAt r 0 + 3 ≤ r.size ∧ recordR (cmdOf r) = r.extract 0 ((byteAt r 0).toNat + 3)
instance (r : ByteArray) : Decidable (IsRec r) := by unfold IsRec; infer_instance
/-- The rest of the bytes. -/
def restOf (s : ByteArray) (i : Nat) : ByteArray := s.extract i s.size

def readF (d : Def) (s : ByteArray) : Nat → List Cmd → Nat → List Cmd × Nat
  | 0, l, i => (l, i)
  | f + 1, l, i => if IsRec (restOf s i) ∧ (answerR d l (cmdOf (restOf s i))).code = 0 then readF d s f (l ++ [cmdOf (restOf s i)]) (i + (byteAt (restOf s i) 0).toNat + 3) else (l, i)
def readR (d : Def) (l : List Cmd) (s : ByteArray) : List Cmd × Nat := readF d s s.size l 0

theorem readF_go {d : Def} {s : ByteArray} {f : Nat} {l : List Cmd} {i : Nat} (hf : s.size ≤ i + f) (h : IsRec (restOf s i)) (ha : (answerR d l (cmdOf (restOf s i))).code = 0) :
    ∃ f', s.size ≤ (i + (byteAt (restOf s i) 0).toNat + 3) + f' ∧ readF d s f l i = readF d s f' (l ++ [cmdOf (restOf s i)]) (i + (byteAt (restOf s i) 0).toNat + 3) := by
  have h0 : 0 < (restOf s i).size := h.1
  unfold restOf at h0
  rw [ByteArray.size_extract] at h0
  cases f with
  | zero => omega
  | succ f =>
    refine ⟨f, by omega, ?_⟩
    conv => lhs; unfold readF
    rw [if_pos ⟨h, ha⟩]
theorem readF_stop {d : Def} {s : ByteArray} {f : Nat} {l : List Cmd} {i : Nat} (h : ¬ (IsRec (restOf s i) ∧ (answerR d l (cmdOf (restOf s i))).code = 0)) : readF d s f l i = (l, i) := by
  cases f with
  | zero => rfl
  | succ f => unfold readF; rw [if_neg h]
theorem rest_end {s : ByteArray} {i : Nat} (h : s.size ≤ i) : ¬ IsRec (restOf s i) := by
  intro q
  have := q.1
  unfold restOf at this
  rw [ByteArray.size_extract] at this
  omega

/-- What a command of the log may bear. -/
structure Fits (c : Cmd) : Prop where
  kind : 1 ≤ c.kind ∧ c.kind ≤ 7
  inst : c.kind = 1 ∨ c.kind = 2 ∨ c.kind = 3 ∨ c.kind = 5 → 0 ≤ c.inst ∧ c.inst ≤ 255
  a : 3 ≤ c.kind → 0 ≤ c.a ∧ c.a ≤ 255
  b : c.kind = 5 → c.a = 5 → 0 ≤ c.b ∧ c.b ≤ 255
  who : 5 ≤ c.kind → 0 ≤ c.who ∧ c.who ≤ 255
  reason : c.kind = 5 → c.reason.size ≤ 250

theorem namC_bd {c : Cmd} (h : Fits c) : (0 ≤ (namC c).kind ∧ (namC c).kind ≤ 255) ∧ (0 ≤ (namC c).inst ∧ (namC c).inst ≤ 255) ∧ (0 ≤ (namC c).a ∧ (namC c).a ≤ 255) ∧ (0 ≤ (namC c).b ∧ (namC c).b ≤ 255) ∧ (0 ≤ (namC c).who ∧ (namC c).who ≤ 255) := by
  have hk := h.kind
  simp only [namC]
  refine ⟨by omega, ?_, ?_, ?_, ?_⟩
  · split
    · exact h.inst ‹_›
    · omega
  · split
    · exact h.a (by omega)
    · omega
  · split
    · omega
    · split
      · rename_i q; exact h.b q.1 q.2
      · omega
  · split
    · exact h.who (by omega)
    · omega
theorem namC_reason {c : Cmd} (h : Fits c) : (namC c).reason.size ≤ 250 := by
  simp only [namC]
  split
  · exact h.reason ‹_›
  · decide
theorem recBody_list {c : Cmd} (h : Fits c) : recBody c = [(namC c).kind, (namC c).inst, (namC c).a, (namC c).b, (namC c).who] ++ nums (namC c).reason := by
  rw [← body_named c h.kind.1 h.kind.2]
  obtain ⟨h1, h2, h3, h4, h5⟩ := namC_bd h
  unfold bodyL
  rw [Int.emod_eq_of_lt h1.1 (by omega), Int.emod_eq_of_lt h2.1 (by omega), Int.emod_eq_of_lt h3.1 (by omega), Int.emod_eq_of_lt h4.1 (by omega), Int.emod_eq_of_lt h5.1 (by omega)]
theorem recL_bd {xs : List Int} (h : ∀ x ∈ xs, 0 ≤ x ∧ x ≤ 255) : ∀ x ∈ recL xs, 0 ≤ x ∧ x ≤ 255 := by
  intro x hx
  unfold recL at hx
  simp only [List.mem_append, List.mem_cons, List.not_mem_nil, or_false] at hx
  rcases hx with (rfl | hx) | rfl | rfl
  · omega
  · exact h x hx
  · omega
  · omega
theorem nums_record (c : Cmd) : nums (recordR c) = recL (recBody c) := by
  rw [recordR_recL, nums_strOfNums _ (recL_bd (recBody_bd c))]
theorem recL_len (xs : List Int) : (recL xs).length = xs.length + 3 := by unfold recL; simp

theorem namC_idem (c : Cmd) (h1 : 1 ≤ c.kind) (h7 : c.kind ≤ 7) : namC (namC c) = namC c := by
  have hk : c.kind = 1 ∨ c.kind = 2 ∨ c.kind = 3 ∨ c.kind = 4 ∨ c.kind = 5 ∨ c.kind = 6 ∨ c.kind = 7 := by omega
  rcases hk with e | e | e | e | e | e | e
  · simp [namC, e]
  · simp [namC, e]
  · by_cases hb : c.b = 1 <;> simp [namC, e, hb]
  · simp [namC, e]
  · by_cases hb : c.a = 5 <;> simp [namC, e, hb]
  · simp [namC, e]
  · simp [namC, e]

theorem recordR_namC {c : Cmd} (h : Fits c) : recordR (namC c) = recordR c := by
  rw [← recP_record c h.kind.1 h.kind.2, ← recP_record (namC c) (by simp only [namC]; exact h.kind.1) (by simp only [namC]; exact h.kind.2)]
  unfold recP; rw [namC_idem c h.kind.1 h.kind.2]

/-- A record that stands at the beginning is read as its command. -/
theorem cmdOf_record {c : Cmd} (h : Fits c) (t : ByteArray) : cmdOf (recordR c ++ t) = namC c ∧ byteAt (recordR c ++ t) 0 = (recBody c).length ∧ (recordR c).size = (recBody c).length + 3 := by
  have hl : nums (recordR c ++ t) = recL (recBody c) ++ nums t := by rw [nums_append, nums_record]
  have hsz : (recordR c).size = (recBody c).length + 3 := recordR_size c
  have hr := namC_reason h
  have hbl : (recBody c).length = 5 + (namC c).reason.size := by rw [recBody_list h]; simp [nums_length]; omega
  have hb := recBody_list h
  have hcons : nums (recordR c ++ t) = ((recBody c).length : Int) % 256 :: (namC c).kind :: (namC c).inst :: (namC c).a :: (namC c).b :: (namC c).who :: (nums (namC c).reason ++ ([recSum (recBody c) % 256, recSum (recBody c) / 256 % 256] ++ nums t)) := by
    rw [hl]; unfold recL
    generalize recSum (recBody c) = z
    generalize ((recBody c).length : Int) % 256 = y
    rw [hb]
    simp
  have h0 : byteAt (recordR c ++ t) 0 = (recBody c).length := by unfold byteAt; rw [hcons]; simp; omega
  refine ⟨?_, h0, hsz⟩
  unfold cmdOf
  rw [h0]
  have e1 : byteAt (recordR c ++ t) 1 = (namC c).kind := by unfold byteAt; rw [hcons]; rfl
  have e2 : byteAt (recordR c ++ t) 2 = (namC c).inst := by unfold byteAt; rw [hcons]; rfl
  have e3 : byteAt (recordR c ++ t) 3 = (namC c).a := by unfold byteAt; rw [hcons]; rfl
  have e4 : byteAt (recordR c ++ t) 4 = (namC c).b := by unfold byteAt; rw [hcons]; rfl
  have e5 : byteAt (recordR c ++ t) 5 = (namC c).who := by unfold byteAt; rw [hcons]; rfl
  have e6 : (recordR c ++ t).extract 6 (((recBody c).length : Int).toNat + 1) = (namC c).reason := by
    apply nums_inj
    rw [nums_extract, hcons, hbl]
    have : ((5 + (namC c).reason.size : Nat) : Int).toNat + 1 = (namC c).reason.size + 6 := by omega
    rw [this]
    simp only [List.take_succ_cons, List.drop_succ_cons, List.drop_zero]
    rw [List.take_left' (nums_length _)]
  rw [e1, e2, e3, e4, e5, e6]
  rfl
theorem isRec_record {c : Cmd} (h : Fits c) (t : ByteArray) : IsRec (recordR c ++ t) := by
  obtain ⟨h1, h2, h3⟩ := cmdOf_record h t
  have hbl := recBody_length c
  refine ⟨by rw [ByteArray.size_append]; omega, by rw [h2]; omega, by rw [h2, ByteArray.size_append]; omega, ?_⟩
  rw [h1, h2, recordR_namC h, ByteArray.extract_append_eq_left (by omega)]
theorem not_rec_torn {c : Cmd} (h : Fits c) (t : ByteArray) (m : Nat) (hm : m < (recordR c).size) : ¬ IsRec ((recordR c ++ t).extract 0 m) := by
  obtain ⟨h1, h2, h3⟩ := cmdOf_record h t
  rintro ⟨q1, q2, q3, _⟩
  rw [ByteArray.size_extract, ByteArray.size_append] at q1 q3
  have e : byteAt ((recordR c ++ t).extract 0 m) 0 = byteAt (recordR c ++ t) 0 := by
    unfold byteAt
    rw [nums_extract, List.drop_zero]
    have : 0 < m := by omega
    simp only [List.getD, List.getElem?_take, if_pos this]
  rw [e, h2] at q3
  omega

end Go.Proofs.YtgcjlgaapiefiabGreat

/-
  A journal is read (plain).
-/
namespace Go.Proofs.YtgcjlgaapiefiabGreat

theorem reqNext_who (d : Def) (c : Cmd) (r : Req) : (reqNext d c r).who = r.who := by
  by_cases h : c.a = r.number ∧ (c.kind = 6 ∨ c.kind = 7)
  · rcases h.2 with q | q
    · rw [reqNext_approve d c r h.1 q]
    · rw [reqNext_withdraw d c r h.1 q]
  · rw [reqNext_other d c r h]
theorem LogOk.whos {d : Def} {l : List Cmd} (h : LogOk d l) : ∀ r ∈ requestsR d l, 0 ≤ r.who ∧ r.who ≤ 9 := by
  refine LogOk.ind (P := fun l => ∀ r ∈ requestsR d l, 0 ≤ r.who ∧ r.who ≤ 9) (by simp [requestsR, requestsTo]) ?_ l h
  intro l c hl hc ih r hr
  rw [requestsR_snoc] at hr
  rcases List.mem_append.1 hr with hr | hr
  · obtain ⟨q, hq, rfl⟩ := List.mem_map.1 hr
    rw [reqNext_who]; exact ih q hq
  · by_cases h5 : c.kind = 5
    · rw [if_pos h5] at hr
      simp at hr
      subst hr
      have := ask_room hc h5
      show 0 ≤ c.who ∧ c.who ≤ 9
      omega
    · rw [if_neg h5] at hr; simp at hr

theorem fits_of {d : Def} {l : List Cmd} {c : Cmd} (hok : d.ok = true) (h : LogOk d l) (hc : (answerR d l c).code = 0) : Fits c := by
  have hk := kind_ok hc
  have hids := h.ids
  refine ⟨hk, fun h1 => ?_, fun h3 => ?_, fun h5 h5' => ?_, fun h5 => ?_, fun h5 => ?_⟩
  · by_cases e : c.kind = 1
    · have := start_ok hc e; omega
    · exact hids.range _ (known_ok hc (by omega))
  · by_cases e3 : c.kind = 3
    · have hq := reply_ok hc e3
      have hg := (h.good (by have := quorum_ok hok; omega) c.inst)
      have := hg.key; have := hg.keys
      omega
    by_cases e4 : c.kind = 4
    · have := tick_ok hc e4; omega
    by_cases e5 : c.kind = 5
    · have := ask_ok hc e5; omega
    · obtain ⟨_, ho⟩ := decided_ok hc (by omega)
      have hr := open_range ho
      have := (h.reqs hok).2
      omega
  · have hq := (ask_ok hc h5).2.2
    rw [h5'] at hq
    have hg := (h.good (by have := quorum_ok hok; omega) c.inst)
    have hs : settledR (instanceR d l c.inst).ledger ≤ d.steps.length := by
      rcases hg.modes with ⟨_, h2, h3, _⟩ | ⟨_, h2, h3, h4, _⟩ | ⟨_, _, _, h4⟩ | ⟨_, _, _, h4, _⟩ <;> omega
    have := quorum_ok hok
    unfold canR at hq
    simp at hq
    omega
  · by_cases e5 : c.kind = 5
    · have := ask_room hc e5; omega
    obtain ⟨h0, ho⟩ := decided_ok hc (by omega)
    have hr := open_range ho
    unfold decidedR at h0
    rw [if_neg (by rw [ho]; simp)] at h0
    by_cases e7 : c.kind = 7
    · rw [if_pos e7] at h0
      have hlt : (c.a - 1).toNat < (requestsR d l).length := by omega
      have := h.whos _ (List.getElem_mem hlt)
      by_cases e : c.who = ((requestsR d l).getD (c.a - 1).toNat default).who
      · have e' : ((requestsR d l).getD (c.a - 1).toNat default) = (requestsR d l)[(c.a - 1).toNat] := by rw [List.getD, List.getElem?_eq_getElem hlt]; rfl
        rw [e'] at e
        omega
      · rw [if_neg e] at h0; simp at h0
    · rw [if_neg e7] at h0
      by_cases e : c.who < 0 ∨ 9 < c.who
      · rw [if_pos (by omega)] at h0; simp at h0
      · omega
  · have := ask_room hc h5; omega

theorem canP_target (d : Def) (x : Inst) (what t t' : Int) (h : what ≠ 5) : canP d x what t = canP d x what t' := by
  unfold canP
  simp [h]
theorem askCode_namC {d : Def} {W : WorldR} {c : Cmd} {x : Inst} (h5 : c.kind = 5) : askCodeP d W (namC c) x = askCodeP d W c x := by
  have e : canP d x (namC c).a (namC c).b = canP d x c.a c.b := by
    simp only [namC, h5]
    by_cases h : c.a = 5
    · simp [h]
    · simp [h]
      exact canP_target d x c.a 0 c.b h
  unfold askCodeP
  rw [e]
  simp [namC, h5]
theorem answerP_namC {d : Def} {W : WorldR} {c : Cmd} (h1 : 1 ≤ c.kind) (h7 : c.kind ≤ 7) : answerP d W (namC c) = answerP d W c := by
  have hk : c.kind = 1 ∨ c.kind = 2 ∨ c.kind = 3 ∨ c.kind = 4 ∨ c.kind = 5 ∨ c.kind = 6 ∨ c.kind = 7 := by omega
  have hkk : (namC c).kind = c.kind := rfl
  unfold answerP
  rw [hkk]
  rcases hk with e | e | e | e | e | e | e <;> simp only [e] <;> simp [namC, e]
  unfold askAnsP
  have hi : (namC c).inst = c.inst := by simp [namC, e]
  have h2 := fun x => askCode_namC (d := d) (W := W) (x := x) e
  simp only [namC, e] at h2 hi ⊢
  simp at h2 ⊢
  cases instP W.insts c.inst with
  | none => rfl
  | some x => simp only [h2]
theorem carryP_namC {d : Def} {W : WorldR} {c : Cmd} (h1 : 1 ≤ c.kind) (h7 : c.kind ≤ 7) : carryP d W (namC c) = carryP d W c := by
  have hk : c.kind = 1 ∨ c.kind = 2 ∨ c.kind = 3 ∨ c.kind = 4 ∨ c.kind = 5 ∨ c.kind = 6 ∨ c.kind = 7 := by omega
  have hkk : (namC c).kind = c.kind := rfl
  unfold carryP
  rw [hkk]
  rcases hk with e | e | e | e | e | e | e <;> simp only [e] <;> simp [namC, e]
  · by_cases hb : c.b = 1
    · simp [hb]
    · have e2 : (c.b == 1) = false := by simpa using hb
      simp [hb, e2]
  · have : newReq d W (namC c) = newReq d W c := by
      unfold newReq
      by_cases ha : c.a = 5 <;> simp [namC, e, ha]
    simp only [namC, e] at this
    simp at this
    rw [this]
    exact ⟨rfl, rfl⟩

/-- A log and another one that makes the same world: the next command. -/
theorem same_next {d : Def} {l l0 : List Cmd} {c : Cmd} (hok : d.ok = true) (h : LogOk d l) (h0 : LogOk d l0) (hw : worldR d l = worldR d l0) (hc : (answerR d l0 c).code = 0) :
    (answerR d l (namC c)).code = 0 ∧ worldR d (l ++ [namC c]) = worldR d (l0 ++ [c]) ∧ LogOk d (l ++ [namC c]) := by
  have hk := kind_ok hc
  have ha : (answerR d l (namC c)).code = 0 := by
    rw [← answer_eq hok h, hw, answerP_namC hk.1 hk.2, answer_eq hok h0]; exact hc
  refine ⟨ha, ?_, h.snoc ha⟩
  rw [← carry_eq hok h ha, hw, carryP_namC hk.1 hk.2, carry_eq hok h0 hc]

theorem bytesR_fold (l : List Cmd) (s : ByteArray) : l.foldl (fun s c => s ++ recordR c) s = s ++ bytesR l := by
  induction l generalizing s with
  | nil => simp [bytesR]
  | cons c l ih =>
    unfold bytesR
    rw [List.foldl_cons, List.foldl_cons, ih, ih, ByteArray.empty_append, ByteArray.append_assoc]
theorem bytesR_cons (c : Cmd) (l : List Cmd) : bytesR (c :: l) = recordR c ++ bytesR l := by
  conv => lhs; unfold bytesR
  rw [List.foldl_cons, bytesR_fold, ByteArray.empty_append]
theorem bytesR_append (l m : List Cmd) : bytesR (l ++ m) = bytesR l ++ bytesR m := by
  conv => lhs; unfold bytesR
  rw [List.foldl_append, bytesR_fold]; rfl
theorem bytesN_cons (c : Cmd) (l : List Cmd) : bytesN (c :: l) = (recordR c).size + bytesN l := by
  unfold bytesN; rw [bytesR_cons, ByteArray.size_append]
theorem bytesN_append (l m : List Cmd) : bytesN (l ++ m) = bytesN l + bytesN m := by
  unfold bytesN; rw [bytesR_append, ByteArray.size_append]

theorem ext_all (s : ByteArray) (m : Nat) (h : s.size ≤ m) : s.extract 0 m = s := by
  apply nums_inj
  rw [nums_extract, List.drop_zero, List.take_of_length_le (by rw [nums_length]; exact h)]

set_option maxHeartbeats 1000000 in
/-- A journal's beginning is read as the commands whose records stand in it whole. -/
theorem read_journal {d : Def} (hok : d.ok = true) (s : ByteArray) : ∀ (more l0 l : List Cmd) (i m f : Nat), LogOk d (l0 ++ more) → LogOk d l → worldR d l = worldR d l0 → restOf s i = (bytesR more).extract 0 m → m ≤ bytesN more → s.size ≤ i + f → i ≤ s.size →
    ∃ j l', j ≤ more.length ∧ readF d s f l i = (l', i + bytesN (more.take j)) ∧ LogOk d l' ∧ worldR d l' = worldR d (l0 ++ more.take j) ∧ bytesN (more.take j) ≤ m ∧ (j = more.length ∨ m < bytesN (more.take (j + 1))) := by
  intro more
  induction more with
  | nil =>
    intro l0 l i m f _ hl hw hr hm hf hi
    refine ⟨0, l, Nat.le_refl _, ?_, hl, by simpa using hw, by simp [bytesN_nil], .inl rfl⟩
    have h0 : s.size ≤ i := by
      have e : (restOf s i).size = 0 := by rw [hr, bytesR_nil]; simp
      unfold restOf at e
      rw [ByteArray.size_extract] at e
      omega
    rw [readF_stop (fun q => rest_end h0 q.1)]
    simp [bytesN_nil]
  | cons c more ih =>
    intro l0 l i m f hlog hl hw hr hm hf hi
    have hlog' : LogOk d (l0 ++ [c]) := by
      have := hlog.take (l0.length + 1)
      have e : (l0 ++ c :: more).take (l0.length + 1) = l0 ++ [c] := by
        rw [List.take_append, List.take_of_length_le (by omega)]; simp
      rw [e] at this
      exact this
    obtain ⟨h0, hc⟩ := hlog'.last
    have hfit := fits_of hok h0 hc
    obtain ⟨ha, hw', hl'⟩ := same_next hok hl h0 hw hc
    rw [bytesR_cons] at hr
    rw [bytesN_cons] at hm
    by_cases hmr : m < (recordR c).size
    · refine ⟨0, l, Nat.zero_le _, ?_, hl, by simpa using hw, by simp [bytesN_nil], .inr ?_⟩
      · rw [readF_stop]
        · simp [bytesN_nil]
        · intro q
          have q1 := q.1
          rw [hr] at q1
          exact not_rec_torn hfit _ m hmr q1
      · rw [List.take_succ_cons, List.take_zero, bytesN_cons, bytesN_nil]; omega
    · have hr' : restOf s i = recordR c ++ (bytesR more).extract 0 (m - (recordR c).size) := by
        rw [hr, ByteArray.extract_append]
        have q1 : (recordR c).extract 0 m = recordR c := by
          exact ext_all _ _ (by omega)
        rw [q1, Nat.zero_sub]
      obtain ⟨e1, e2, e3⟩ := cmdOf_record hfit ((bytesR more).extract 0 (m - (recordR c).size))
      have hrec : IsRec (restOf s i) := by rw [hr']; exact isRec_record hfit _
      rw [← hr'] at e1 e2
      obtain ⟨f', hf', hgo⟩ := readF_go (d := d) (f := f) (l := l) hf hrec (by rw [e1]; exact ha)
      rw [e1, e2] at hgo
      rw [e2] at hf'
      have ei : i + ((recBody c).length : Int).toNat + 3 = i + (recordR c).size := by omega
      rw [ei] at hgo hf'
      have hsz : (restOf s i).size = s.size - i := by unfold restOf; rw [ByteArray.size_extract]; omega
      have hsz2 : (restOf s i).size = (recordR c).size + (m - (recordR c).size) := by
        rw [hr', ByteArray.size_append, ByteArray.size_extract]
        have : (bytesR more).size = bytesN more := rfl
        omega
      have hrest : restOf s (i + (recordR c).size) = (bytesR more).extract 0 (m - (recordR c).size) := by
        have e : restOf s (i + (recordR c).size) = (restOf s i).extract (recordR c).size (restOf s i).size := by
          unfold restOf
          rw [ByteArray.extract_extract, ByteArray.size_extract]
          congr 1
          omega
        rw [e, hr', ByteArray.extract_append_eq_right rfl (by rw [ByteArray.size_append])]
      obtain ⟨j, l'', hj, q1, q2, q3, q4, q5⟩ := ih (l0 ++ [c]) (l ++ [namC c]) (i + (recordR c).size) (m - (recordR c).size) f' (by simpa using hlog) hl' hw' hrest (by omega) hf' (by omega)
      refine ⟨j + 1, l'', by simpa using hj, ?_, q2, by simpa using q3, ?_, ?_⟩
      · rw [hgo, q1, List.take_succ_cons, bytesN_cons]
        congr 1
        omega
      · rw [List.take_succ_cons, bytesN_cons]; omega
      · rcases q5 with q5 | q5
        · exact .inl (by simp [q5])
        · exact .inr (by rw [List.take_succ_cons, bytesN_cons]; omega)

end Go.Proofs.YtgcjlgaapiefiabGreat

/-
  The machine: a script, with the crashes (plain).
-/
namespace Go.Proofs.YtgcjlgaapiefiabGreat

/-- What holds of every machine: k commands of the log were read in the last crash. -/
structure MachOk (d : Def) (T : TapeR) (k : Nat) : Prop where
  tape : TapeOk d T
  le : k ≤ T.log.length
  safe : (bytesN (T.log.take k) : Int) ≤ T.safe

theorem MachOk.start (d : Def) : MachOk d ⟨[], 0, []⟩ 0 := ⟨⟨LogOk.nil d, by simp⟩, by simp, by simp [bytesN_nil]⟩

/-- How many bytes a crash leaves. -/
def stayN (T : TapeR) (a : Int) : Nat := if a < (bytesN T.log : Int) - T.safe then (T.safe + a).toNat else bytesN T.log

theorem crash_log (d : Def) (T : TapeR) (c : Cmd) (h9 : c.kind = 9) (h0 : 0 ≤ c.a) (hs : 0 ≤ T.safe) : (playStep d T c).log = cutR T.log (stayN T c.a) ∧ (playStep d T c).safe = bytesN (playStep d T c).log ∧ (playStep d T c).answers = T.answers ++ [noR 0] := by
  unfold playStep stayN
  rw [if_neg (by omega), if_neg (by omega), if_pos h9]
  by_cases h : c.a < (bytesN T.log : Int) - T.safe
  · rw [if_pos h, if_pos h]
    have e : ((T.safe + c.a).toNat : Int) = T.safe + c.a := by omega
    rw [e]
    exact ⟨rfl, rfl, rfl⟩
  · rw [if_neg h, if_neg h]
    exact ⟨(cut_all _ _ (.inr (Int.le_refl _))).symm, rfl, rfl⟩

theorem take_split (l : List Cmd) (k : Nat) : l.take k ++ l.drop k = l := List.take_append_drop k l

set_option maxHeartbeats 1000000 in
/-- What a crash reads. -/
theorem crash_read {d : Def} (hok : d.ok = true) {T : TapeR} {k : Nat} (h : MachOk d T k) (n : Nat) (hn1 : T.safe ≤ n) (hn2 : n ≤ bytesN T.log) :
    ∃ l', readR d (T.log.take k) ((bytesR T.log).extract (bytesN (T.log.take k)) n) = (l', bytesN (cutR T.log n) - bytesN (T.log.take k)) ∧ LogOk d l' ∧ worldR d l' = worldR d (cutR T.log n) ∧
      bytesN (T.log.take k) ≤ bytesN (cutR T.log n) ∧ bytesN (cutR T.log n) ≤ n ∧ (bytesR T.log).extract 0 (bytesN (cutR T.log n)) = bytesR (cutR T.log n) := by
  have hk := h.le
  have hsafe := h.safe
  have hlen : (T.log.take k).length = k := by simp; omega
  have hsplit := take_split T.log k
  have hb : bytesR T.log = bytesR (T.log.take k) ++ bytesR (T.log.drop k) := by conv => lhs; rw [← hsplit, bytesR_append]
  have hbn : bytesN T.log = bytesN (T.log.take k) + bytesN (T.log.drop k) := by conv => lhs; rw [← hsplit, bytesN_append]
  have hs : (bytesR T.log).extract (bytesN (T.log.take k)) n = (bytesR (T.log.drop k)).extract 0 (n - bytesN (T.log.take k)) := by
    rw [hb]
    have := ByteArray.extract_append_size_add (a := bytesR (T.log.take k)) (b := bytesR (T.log.drop k)) (i := 0) (j := n - bytesN (T.log.take k))
    rw [← this]
    have e : (bytesR (T.log.take k)).size = bytesN (T.log.take k) := rfl
    rw [e, Nat.add_zero]
    congr 1
    omega
  obtain ⟨s, hsv⟩ : ∃ s, s = (bytesR T.log).extract (bytesN (T.log.take k)) n := ⟨_, rfl⟩
  obtain ⟨j, l', hj, q1, q2, q3, q4, q5⟩ := read_journal hok s (T.log.drop k) (T.log.take k) (T.log.take k) 0 (n - bytesN (T.log.take k)) s.size (by rw [hsplit]; exact h.tape.log) (h.tape.log.take k) rfl (by unfold restOf; rw [ByteArray.extract_zero_size, hsv, hs]) (by omega) (by omega) (Nat.zero_le _)
  rw [List.length_drop] at hj
  have hcat : T.log.take k ++ (T.log.drop k).take j = T.log.take (k + j) := by rw [List.take_add]
  have hcn : bytesN (T.log.take (k + j)) = bytesN (T.log.take k) + bytesN ((T.log.drop k).take j) := by rw [← hcat, bytesN_append]
  have hcut : cutR T.log n = T.log.take (k + j) := by
    rcases q5 with q5 | q5
    · rw [List.length_drop] at q5
      have e : T.log.take (k + j) = T.log := List.take_of_length_le (by omega)
      rw [e]
      refine cut_all _ _ (.inr ?_)
      have : bytesN (T.log.take (k + j)) = bytesN T.log := by rw [e]
      omega
    · by_cases hjl : k + j < T.log.length
      · have hcat' : T.log.take k ++ (T.log.drop k).take (j + 1) = T.log.take (k + j + 1) := by rw [Nat.add_assoc]; exact (List.take_add).symm
        have hcn' : bytesN (T.log.take (k + j + 1)) = bytesN (T.log.take k) + bytesN ((T.log.drop k).take (j + 1)) := by rw [← hcat', bytesN_append]
        exact cut_stop _ _ _ hjl (.inr (by omega)) (by omega)
      · have e : (T.log.drop k).take (j + 1) = T.log.drop k := List.take_of_length_le (by rw [List.length_drop]; omega)
        have e' : (T.log.drop k).take j = T.log.drop k := List.take_of_length_le (by rw [List.length_drop]; omega)
        rw [e] at q5
        rw [e'] at q4
        omega
  rw [hcut]
  refine ⟨l', ?_, q2, by rw [q3, hcat], by omega, by omega, ?_⟩
  · rw [← hsv]
    show readF d s s.size (T.log.take k) 0 = _
    rw [q1, hcn]
    congr 1
    omega
  · have e : bytesR T.log = bytesR (T.log.take (k + j)) ++ bytesR (T.log.drop (k + j)) := by conv => lhs; rw [← take_split T.log (k + j), bytesR_append]
    conv => lhs; rw [e]
    exact ByteArray.extract_append_eq_left rfl

theorem MachOk.crash {d : Def} {T : TapeR} {k : Nat} (h : MachOk d T k) (c : Cmd) (h9 : c.kind = 9) (h0 : 0 ≤ c.a) : MachOk d (playStep d T c) (playStep d T c).log.length := by
  have hs := h.tape.safe
  obtain ⟨e1, e2, e3⟩ := crash_log d T c h9 h0 hs.1
  exact ⟨playStep_ok h.tape c, Nat.le_refl _, by rw [List.take_length, e2]; omega⟩
theorem MachOk.step {d : Def} {T : TapeR} {k : Nat} (h : MachOk d T k) (c : Cmd) (h9 : c.kind = 9 → c.a < 0) : MachOk d (playStep d T c) k ∧ (playStep d T c).log.take k = T.log.take k := by
  have hk := h.le
  have hs := h.safe
  have hts := h.tape.safe
  have ht := playStep_ok h.tape c
  have hm := bytesN_mono T.log k T.log.length hk (Nat.le_refl _)
  rw [List.take_length] at hm
  unfold playStep at ht ⊢
  by_cases h8 : c.kind = 8
  · rw [if_pos h8] at ht ⊢
    exact ⟨⟨ht, hk, by show (bytesN (T.log.take k) : Int) ≤ (bytesN T.log : Int); omega⟩, rfl⟩
  rw [if_neg h8] at ht ⊢
  by_cases h9' : c.kind = 9 ∧ c.a < 0
  · rw [if_pos h9'] at ht ⊢; exact ⟨⟨ht, hk, hs⟩, rfl⟩
  rw [if_neg h9'] at ht ⊢
  by_cases h99 : c.kind = 9
  · exact absurd ⟨h99, h9 h99⟩ h9'
  rw [if_neg h99] at ht ⊢
  by_cases ha : (answerR d T.log c).code = 0 ∧ c.dry = false
  · rw [if_pos ha] at ht ⊢
    have e : (T.log ++ [c]).take k = T.log.take k := by rw [List.take_append_of_le_length hk]
    refine ⟨⟨ht, by simp; omega, ?_⟩, e⟩
    show (bytesN ((T.log ++ [c]).take k) : Int) ≤ (if c.kind = 2 then (bytesN T.log : Int) + (recordR c).size else T.safe)
    rw [e]
    split <;> omega
  · rw [if_neg ha] at ht ⊢; exact ⟨⟨ht, hk, hs⟩, rfl⟩

theorem bytesN_ge (l : List Cmd) : ∀ k, k ≤ l.length → 8 * k ≤ bytesN (l.take k) := by
  intro k
  induction k with
  | zero => intro _; omega
  | succ k ih =>
    intro hk
    have h1 := ih (by omega)
    rw [bytesN_take l k (by omega), recordR_size, recBody_length]
    omega
theorem bytesN_most {d : Def} {l : List Cmd} (h : LogOk d l) : ∀ k, k ≤ l.length → bytesN (l.take k) ≤ 28 * k := by
  intro k
  induction k with
  | zero => intro _; simp [bytesN_nil]
  | succ k ih =>
    intro hk
    have h1 := ih (by omega)
    rw [bytesN_take l k (by omega), recordR_size, recBody_length]
    by_cases h5 : l[k].kind = 5
    · rw [if_pos h5]
      have := ask_room (h k (by omega)) h5
      omega
    · rw [if_neg h5]; omega

end Go.Proofs.YtgcjlgaapiefiabGreat

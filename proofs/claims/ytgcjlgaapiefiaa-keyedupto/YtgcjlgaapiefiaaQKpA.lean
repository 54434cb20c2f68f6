import Derived.Test.YtgcjlgaapiefiaaQLog

/-
  What every ledger keeps (plain).
-/
namespace Go.Proofs.Ytgcjlgaapiefiaa

/-- An entry, behind n settled steps. -/
def EntOk (d : Def) (n : Int) (e : Entry) : Prop :=
  ((e.kind = 1 ∨ e.kind = 2) ∧ e.step = n ∧ 0 ≤ n ∧ n < d.steps.length) ∨
  ((e.kind = 3 ∨ e.kind = 4) ∧ e.step = n - 1 ∧ 0 ≤ n - 1 ∧ n ≤ d.steps.length ∧ (stepR d (n - 1)).pivot = false ∧ (e.kind = 3 → (stepR d (n - 1)).undo = true))
def LedOk (d : Def) (l : List Entry) : Prop := ∀ (k : Nat) (h : k < l.length), EntOk d (settledR (l.take k)) l[k]

theorem LedOk.nil (d : Def) : LedOk d [] := fun k h => by simp at h
theorem LedOk.snoc {d : Def} {l : List Entry} {e : Entry} (h : LedOk d l) (he : EntOk d (settledR l) e) : LedOk d (l ++ [e]) := by
  intro k hk
  by_cases hlt : k < l.length
  · rw [List.take_append_of_le_length (by omega), List.getElem_append_left hlt]
    exact h k hlt
  · have e1 : k = l.length := by simp at hk; omega
    subst e1
    rw [List.take_left]
    simpa using he

structure LedI (d : Def) (x : Inst) : Prop where
  led : LedOk d x.ledger
  piv : x.mode = 2 → ∀ i : Int, x.target ≤ i → i < settledR x.ledger → (stepR d i).pivot = false
  und : x.mode = 2 → x.key ≠ 0 → (stepR d (atR x)).undo = true

theorem firstPivot_spec (l : List Step) : ∀ (n i : Nat), (firstPivot l n i = -1 ∧ ∀ j, j < n → (h : j < l.length) → l[j].pivot = false) ∨ (∃ j, j < n ∧ ∃ h : j < l.length, firstPivot l n i = (i + j : Nat) ∧ l[j].pivot = true) := by
  induction l with
  | nil => intro n i; exact .inl ⟨rfl, fun j _ h => by simp at h⟩
  | cons s l ih =>
    intro n i
    cases n with
    | zero => exact .inl ⟨rfl, fun j hj => by omega⟩
    | succ n =>
      unfold firstPivot
      by_cases hp : s.pivot = true
      · rw [if_pos hp]
        exact .inr ⟨0, by omega, by simp, by simp, by simpa using hp⟩
      · rw [if_neg hp]
        rcases ih n (i + 1) with ⟨h1, h2⟩ | ⟨j, hj, hl, h1, h2⟩
        · refine .inl ⟨h1, fun j hj hl => ?_⟩
          cases j with
          | zero => simpa using hp
          | succ j => simpa using h2 j (by omega) (by simpa using hl)
        · exact .inr ⟨j + 1, by omega, by simpa using hl, by rw [h1]; congr 1; omega, by simpa using h2⟩
theorem pivots_pos (l : List Step) (i : Nat) (hi : i < l.length) (h : l[i].pivot = true) : 1 ≤ pivots l := by
  induction l generalizing i with
  | nil => simp at hi
  | cons s l ih =>
    unfold pivots
    cases i with
    | zero => simp at h; rw [if_pos h]; omega
    | succ i => have := ih i (by simpa using hi) (by simpa using h); omega
theorem pivots_one (l : List Step) (h : pivots l ≤ 1) (i j : Nat) (hi : i < l.length) (hj : j < l.length) (h1 : l[i].pivot = true) (h2 : l[j].pivot = true) : i = j := by
  induction l generalizing i j with
  | nil => simp at hi
  | cons s l ih =>
    unfold pivots at h
    cases i with
    | zero =>
      cases j with
      | zero => rfl
      | succ j =>
        simp at h1
        have := pivots_pos l j (by simpa using hj) (by simpa using h2)
        rw [if_pos h1] at h; omega
    | succ i =>
      cases j with
      | zero =>
        simp at h2
        have := pivots_pos l i (by simpa using hi) (by simpa using h1)
        rw [if_pos h2] at h; omega
      | succ j =>
        have := ih (by omega) i j (by simpa using hi) (by simpa using hj) (by simpa using h1) (by simpa using h2)
        omega
theorem stepR_get {d : Def} {i : Int} (h0 : 0 ≤ i) (h1 : i < d.steps.length) : ∃ h : i.toNat < d.steps.length, stepR d i = d.steps[i.toNat] := by
  refine ⟨by omega, ?_⟩
  unfold stepR
  rw [List.getD, List.getElem?_eq_getElem (by omega)]; rfl
/-- No pivot lies between the target and what is settled. -/
theorem behind_free {d : Def} (hok : d.ok = true) {l : List Entry} {t : Int} (hs : settledR l ≤ d.steps.length) (ht : 0 ≤ t) (hb : behindR d l < t) : ∀ i : Int, t ≤ i → i < settledR l → (stepR d i).pivot = false := by
  intro i h1 h2
  have hp : pivots d.steps ≤ 1 := by
    simp only [Def.ok, stepsOk, Bool.and_eq_true, decide_eq_true_eq] at hok
    exact hok.2.2.2.2
  obtain ⟨hi, e⟩ := stepR_get (d := d) (i := i) (by omega) (by omega)
  rw [e]
  unfold behindR at hb
  rcases firstPivot_spec d.steps (settledR l).toNat 0 with ⟨_, q2⟩ | ⟨j, hj, hjl, q1, q2⟩
  · exact q2 i.toNat (by omega) hi
  · cases hq : d.steps[i.toNat].pivot
    · rfl
    · have := pivots_one d.steps hp i.toNat j hi hjl hq q2
      rw [q1] at hb
      omega

theorem LedI.start (d : Def) (id : Int) : LedI d (startR id) := ⟨LedOk.nil d, fun h => by simp [startR] at h, fun h => by simp [startR] at h⟩
theorem LedI.fix {d : Def} {x : Inst} (h : LedI d x) : LedI d (fixI x) := ⟨h.led, h.piv, h.und⟩
theorem LedI.unfix {d : Def} {x : Inst} (h : LedI d (fixI x)) : LedI d x := ⟨h.led, h.piv, h.und⟩

theorem closeR_led {d : Def} {x : Inst} (h : LedI d x) : LedI d (closeR d x) := by
  unfold closeR
  split
  · exact ⟨h.led, fun q => by simp at q, fun q => by simp at q⟩
  split
  · exact ⟨h.led, fun q => by simp at q, fun q => by simp at q⟩
  split
  · exact ⟨h.led, fun q => by simp at q, fun q => by simp at q⟩
  · exact h
theorem entered_fwd_led {d : Def} {x : Inst} (h : LedI d x) (hm : x.mode = 1) (h0 : 0 ≤ settledR x.ledger) (h1 : settledR x.ledger < d.steps.length) (kind ref now : Int) (hk : kind = 1 ∨ kind = 2) : LedI d (enteredR d x kind ref now) := by
  unfold enteredR
  refine closeR_led ?_
  refine ⟨?_, fun q => ?_, fun q => ?_⟩
  · show LedOk d (x.ledger ++ [⟨kind, atR x, ref⟩])
    refine h.led.snoc (.inl ⟨hk, ?_, h0, h1⟩)
    show atR x = _
    unfold atR; rw [if_neg (by omega)]
  · have : x.mode = 2 := q
    omega
  · have : x.mode = 2 := q
    omega
theorem entered_back_led {d : Def} {x : Inst} (h : LedI d x) (hm : x.mode = 2) (ht : 0 ≤ x.target) (h0 : x.target < settledR x.ledger) (h1 : settledR x.ledger ≤ d.steps.length) (kind ref now : Int) (hk : kind = 3 ∨ kind = 4) (hu : kind = 3 → x.key ≠ 0) : LedI d (enteredR d x kind ref now) := by
  have hat : atR x = settledR x.ledger - 1 := by unfold atR; rw [if_pos hm]
  unfold enteredR
  refine closeR_led ?_
  refine ⟨?_, fun _ i h2 h3 => ?_, fun _ q => ?_⟩
  · show LedOk d (x.ledger ++ [⟨kind, atR x, ref⟩])
    refine h.led.snoc (.inr ⟨hk, hat, by omega, h1, h.piv hm _ (by omega) (by omega), fun q => ?_⟩)
    have := h.und hm (hu q)
    rw [hat] at this
    exact this
  · have h3' : i < settledR (x.ledger ++ [⟨kind, atR x, ref⟩]) := h3
    have h2' : x.target ≤ i := h2
    rw [settledR_snoc] at h3'
    have e : settledStep (settledR x.ledger) ⟨kind, atR x, ref⟩ = settledR x.ledger - 1 := by
      unfold settledStep
      rw [if_neg (by simp; omega)]
    rw [e] at h3'
    exact h.piv hm i h2' (by omega)
  · exact absurd rfl q
theorem backward_led {d : Def} (hok : d.ok = true) {x : Inst} (h : LedI d x) (t : Int) (b : Bool) (now : Int) (hs : settledR x.ledger ≤ d.steps.length) (ht : 0 ≤ t) (hb : behindR d x.ledger < t ∨ (t = 0 ∧ behindR d x.ledger < 0)) : LedI d (backwardR x t b now) := by
  refine ⟨h.led, fun _ => ?_, fun _ q => absurd rfl q⟩
  have hb' : behindR d x.ledger < t := by omega
  exact behind_free hok hs ht hb'

theorem LedI.after {d : Def} (hok : d.ok = true) {x : Inst} {f : Fact} (h : LedI d x) (hg : Good d x) (ha : Accs d x f) : LedI d (afterR d x f) := by
  have hs : settledR x.ledger ≤ d.steps.length := by
    rcases hg.modes with ⟨_, h2, h3, _⟩ | ⟨_, h2, h3, h4, _⟩ | ⟨_, _, _, h4⟩ | ⟨_, _, _, h4, _⟩ <;> omega
  unfold afterR
  rcases ha with ⟨hk, hm, hst, hfull, hun⟩ | ⟨hk, hkey⟩ | ⟨hk, hkey⟩ | ⟨hk, hw1, hw5, hc⟩
  · rw [if_pos hk]
    unfold pickedR
    by_cases e : x.key = 0
    · rw [if_pos e]; exact ⟨h.led, h.piv, fun q _ => hun e q⟩
    · rw [if_neg e]; exact ⟨h.led, h.piv, fun q _ => h.und q e⟩
  · rw [if_neg (by omega), if_pos hk]
    rcases hg.mode_of (hg.inv.key_mode hkey) with hm | hm
    · rw [if_pos hm]
      rcases hg.modes with ⟨_, h2, h3, _⟩ | ⟨q, _⟩ | ⟨q, _⟩ | ⟨q, _⟩
      · exact entered_fwd_led h hm h2 h3 _ _ _ (.inl rfl)
      all_goals omega
    · rw [if_neg (by omega)]
      rcases hg.modes with ⟨q, _⟩ | ⟨_, h2, h3, h4, _⟩ | ⟨q, _⟩ | ⟨q, _⟩
      · omega
      · exact entered_back_led h hm h2 h3 h4 _ _ _ (.inl rfl) (fun _ => hkey)
      all_goals omega
  · rw [if_neg (by omega), if_neg (by omega), if_pos hk]
    unfold wrongR
    split
    · exact ⟨h.led, h.piv, fun _ q => absurd rfl q⟩
    split
    · rename_i q
      exact backward_led hok h 0 false _ hs (Int.le_refl _) (.inl q.2)
    · exact ⟨h.led, h.piv, fun _ q => absurd rfl q⟩
  · rw [if_neg (by omega), if_neg (by omega), if_neg (by omega)]
    unfold doneR
    unfold canR at hc
    split
    · exact ⟨h.led, h.piv, h.und⟩
    split
    · rename_i q1 q2
      rw [if_neg q1, if_pos q2] at hc
      have hm : x.mode = 1 := by simpa using hc
      rcases hg.modes with ⟨_, h2, h3, _⟩ | ⟨q, _⟩ | ⟨q, _⟩ | ⟨q, _⟩
      · exact entered_fwd_led h hm h2 h3 _ _ _ (.inr rfl)
      all_goals omega
    split
    · rename_i q1 q2 q3
      rw [if_neg q1, if_neg q2, if_pos q3] at hc
      have hm : x.mode = 2 := by simpa using hc
      rcases hg.modes with ⟨q, _⟩ | ⟨_, h2, h3, h4, _⟩ | ⟨q, _⟩ | ⟨q, _⟩
      · omega
      · exact entered_back_led h hm h2 h3 h4 _ _ _ (.inr rfl) (fun q => by omega)
      all_goals omega
    split
    · rename_i q1 q2 q3 q4
      rw [if_neg q1, if_neg q2, if_neg q3, if_pos q4] at hc
      simp at hc
      exact backward_led hok h 0 false _ hs (Int.le_refl _) (.inl hc.2)
    · rename_i q1 q2 q3 q4
      rw [if_neg q1, if_neg q2, if_neg q3, if_neg q4] at hc
      simp at hc
      exact backward_led hok h _ true _ hs hc.2.1 (.inl hc.2.2.2)

theorem LogOk.ledger {d : Def} (hok : d.ok = true) {l : List Cmd} (h : LogOk d l) (id : Int) : LedI d (instanceR d l id) := by
  have hn : 0 < d.steps.length := by have := quorum_ok hok; omega
  refine LogOk.ind (P := fun l => LedI d (instanceR d l id)) ?_ ?_ l h
  · exact (LedI.start d id).fix
  · intro l c hl hc hg
    have hgood := hl.good hn id
    show LedI d (fixI (instFold d id (factsR d (l ++ [c]) id)))
    rw [factsR_snoc, instFold_append]
    have hf := facts_next hl hc id hgood
    have hlen := factOf_len d (l ++ [c]) id l.length c
    generalize factOf d (l ++ [c]) id l.length c = fs at *
    match fs, hlen with
    | [], _ => exact hg
    | [f], _ =>
      have := hf f (by simp)
      exact (LedI.after hok (LedI.unfix hg) (Good.unfix hgood) this).fix

end Go.Proofs.Ytgcjlgaapiefiaa

/-
  What the world behind every script keeps (plain).
-/
namespace Go.Proofs.Ytgcjlgaapiefiaa

theorem play_logOk (d : Def) (s : List Cmd) : LogOk d (playR d s).log := by
  have h := (playFold d s s.length (Nat.le_refl _)).1
  rw [List.take_length] at h
  exact h.log

/-- What Ledgers asks of the instances. -/
structure InstsOk (d : Def) (xs : List Inst) : Prop where
  each : ∀ (k : Nat) (h : k < xs.length), LedI d xs[k] ∧ Good d xs[k] ∧ xs[k].settled = settledR xs[k].ledger
  ids : ∀ (i k : Nat) (hi : i < xs.length) (hk : k < xs.length), k < i → (xs[k].id == xs[i].id) = false

theorem worldR_instsOk {d : Def} {l : List Cmd} (hok : d.ok = true) (h : LogOk d l) : InstsOk d (worldR d l).insts := by
  have hn : 0 < d.steps.length := by have := quorum_ok hok; omega
  refine ⟨fun k hk => ?_, fun i k hi hk hlt => ?_⟩
  · have e : (worldR d l).insts[k] = instanceR d l ((startedR l)[k]'(by simpa [worldR] using hk)) := by simp [worldR]
    rw [e]
    exact ⟨h.ledger hok _, h.good hn _, rfl⟩
  · have e : (worldR d l).insts[k] = instanceR d l ((startedR l)[k]'(by simpa [worldR] using hk)) := by simp [worldR]
    have e' : (worldR d l).insts[i] = instanceR d l ((startedR l)[i]'(by simpa [worldR] using hi)) := by simp [worldR]
    rw [e, e', instanceR_id, instanceR_id]
    have hnd := h.ids.nodup
    have := List.pairwise_iff_getElem.mp hnd k i (by simpa [worldR] using hk) (by simpa [worldR] using hi) hlt
    simpa using this

end Go.Proofs.Ytgcjlgaapiefiaa

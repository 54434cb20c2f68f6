import Derived.Test.YtgcjlgaapiefiabGreatQPrwP
import Derived.Test.YtgcjlgaapiefiabGreatQPlyA

/-
  Walks of the program: Run and State.
-/
namespace Go.Proofs.YtgcjlgaapiefiabGreat
open Go.RowKit Go.Sort

theorem stepP_ok {d : Def} (h : d.ok = true) : DOk d := by
  have hs := stepsOk_of d h
  have key : ∀ k, stepP d k = default ∨ stepP d k ∈ d.steps := by
    intro k
    unfold stepP
    split
    · exact .inl rfl
    · by_cases hk : k.toNat < d.steps.length
      · rw [List.getD, List.getElem?_eq_getElem hk]; exact .inr (List.getElem_mem hk)
      · rw [List.getD, List.getElem?_eq_none (by omega)]; exact .inl rfl
  have hz : (default : Step) = ⟨false, false, 0, 0⟩ := rfl
  obtain ⟨_, _, e1, e2, _⟩ := quorum_ok h
  refine ⟨fun k => ?_, fun k => ?_, by omega, e2⟩
  · rcases key k with e | e
    · rw [e, hz]; decide
    · exact (hs _ e).2.1
  · rcases key k with e | e
    · rw [e, hz]; decide
    · have := hs _ e; omega

/-- The world of a log that came about is bounded. -/
theorem worldR_bd {d : Def} (hok : d.ok = true) {l : List Cmd} (h : LogOk d l) (hl : l.length ≤ 4194304) : WBd (worldR d l) ∧ (worldR d l).insts.length ≤ 4 := by
  obtain ⟨q0, q3, e1, e50, n1, n6⟩ := quorum_ok hok
  have hck := h.clock l.length (Nat.le_refl _)
  rw [List.take_length] at hck
  refine ⟨⟨hck, fun x hx => ?_, ?_, fun r hr => ?_⟩, ?_⟩
  · simp only [worldR, List.mem_map] at hx
    obtain ⟨id, _, rfl⟩ := hx
    have hg := h.good (by omega) id
    have hk := inst_keys d l id (by omega)
    have hs : 0 ≤ settledR (instanceR d l id).ledger ∧ settledR (instanceR d l id).ledger ≤ d.steps.length := by
      rcases hg.modes with ⟨_, h2, h3, _⟩ | ⟨_, h2, h3, h4, _⟩ | ⟨_, _, _, h4⟩ | ⟨_, _, _, h4, _⟩ <;> omega
    rw [instanceR_settled]
    have h1 := hg.keys
    have h2 := hg.tries
    omega
  · have := (h.reqs hok).2
    show (requestsR d l).length ≤ 1000
    omega
  · have hr' := (h.reqs hok).1 r hr
    have := hr'.most
    have := hr'.what
    omega
  · show ((startedR l).map (instanceR d l)).length ≤ 4
    rw [List.length_map]; exact h.ids.four

theorem cmdOk_of {d : Def} (hok : d.ok = true) {l : List Cmd} (h : LogOk d l) (c : Cmd) (hc : (answerP d (worldR d l) c).code = 0) : CmdOk (worldR d l) c := by
  rw [answer_eq hok h] at hc
  refine ⟨kind_ok hc, fun h4 => ?_, fun h5 => ?_, fun h67 => ?_⟩
  · have := tick_ok hc h4; omega
  · have := ask_ok hc h5; omega
  · obtain ⟨_, ho⟩ := decided_ok hc h67
    obtain ⟨hlt, e1, _, _⟩ := openP_some ho
    refine ⟨_, e1, ?_⟩
    have := ((h.reqs hok).1 _ (List.getElem_mem hlt)).most
    have := quorum_ok hok
    omega

/-- A script without SYNC and CRASH: its log, its answers. -/
def logOf (d : Def) (s : List Cmd) : List Cmd := s.foldl (logStep d) []
def answersOf (d : Def) (s : List Cmd) : List Answer := (List.range s.length).map fun k => answerR d (logOf d (s.take k)) (s.getD k default)

theorem logOf_ok (d : Def) (s : List Cmd) : LogOk d (logOf d s) := by
  unfold logOf
  suffices h : ∀ l, LogOk d l → LogOk d (s.foldl (logStep d) l) from h [] (LogOk.nil d)
  induction s with
  | nil => intro l hl; exact hl
  | cons c s ih => intro l hl; exact ih _ (logStep_ok hl c)
theorem logOf_len (d : Def) (s : List Cmd) (k : Nat) (hk : k ≤ s.length) : (logOf d (s.take k)).length ≤ k := by
  induction k with
  | zero => simp [logOf]
  | succ k ih =>
    have e : logOf d (s.take (k + 1)) = logStep d (logOf d (s.take k)) s[k] := foldl_take_succ _ _ _ _ (by omega)
    rw [e]
    have := ih (by omega)
    unfold logStep
    split
    · simp; omega
    · omega
theorem answersOf_take (d : Def) (s : List Cmd) (k : Nat) (hk : k < s.length) : answersOf d (s.take (k + 1)) = answersOf d (s.take k) ++ [answerR d (logOf d (s.take k)) s[k]] := by
  have h1 : (s.take (k + 1)).length = k + 1 := by simp; omega
  have h2 : (s.take k).length = k := by simp; omega
  unfold answersOf
  rw [h1, h2, List.range_succ, List.map_append]
  congr 1
  · apply List.map_congr_left
    intro j hj
    have hj' : j < k := List.mem_range.1 hj
    rw [List.take_take, List.take_take, Nat.min_eq_left (by omega), Nat.min_eq_left (by omega)]
    congr 1
    simp only [List.getD, List.getElem?_take]
    rw [if_pos (by omega), if_pos hj']
  · simp only [List.map_cons, List.map_nil]
    rw [List.take_take, Nat.min_eq_left (by omega)]
    congr 2
    simp only [List.getD, List.getElem?_take]
    rw [if_pos (by omega), List.getElem?_eq_getElem hk]; rfl
theorem answersOf_len (d : Def) (s : List Cmd) : (answersOf d s).length = s.length := by simp [answersOf]

end Go.Proofs.YtgcjlgaapiefiabGreat

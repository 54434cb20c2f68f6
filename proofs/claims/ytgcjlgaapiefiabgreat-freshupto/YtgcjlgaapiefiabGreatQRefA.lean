import Derived.Test.YtgcjlgaapiefiabGreatQChk
import Derived.Test.YtgcjlgaapiefiabGreatQData
import Derived.Deep.DeepCutAuto

/-
  Walks of the document's answer: clock, started, settled, has, no.
-/
namespace Go.Proofs.YtgcjlgaapiefiabGreat
open Go.RowKit

theorem At.seven {w : World} {b o : Nat} {x0 x1 x2 x3 x4 x5 x6 : Value} (h : At w b o [x0, x1, x2, x3, x4, x5, x6]) :
    w.cell? ⟨b, o, none⟩ = some x0 ∧ w.cell? ⟨b, o + 1, none⟩ = some x1 ∧ w.cell? ⟨b, o + 2, none⟩ = some x2 ∧ w.cell? ⟨b, o + 3, none⟩ = some x3 ∧ w.cell? ⟨b, o + 4, none⟩ = some x4 ∧ w.cell? ⟨b, o + 5, none⟩ = some x5 ∧ w.cell? ⟨b, o + 6, none⟩ = some x6 :=
  ⟨h 0 x0 rfl, h 1 x1 rfl, h 2 x2 rfl, h 3 x3 rfl, h 4 x4 rfl, h 5 x5 rfl, h 6 x6 rfl⟩

theorem Arr.row {w : World} {m n cap : Nat} {a : Option Addr} {xs : List (List Value)} (h : Arr w m (.slice a n cap) xs) (k : Nat) (hk : k < xs.length) :
    ∃ b off, a = some ⟨b, off, none⟩ ∧ At w b (off + k * m) xs[k] := by
  obtain ⟨a', cap', h1, h2, h3, h4, h5⟩ := h
  cases h1
  rcases h5 with h5 | ⟨b, off, ha, hx⟩
  · subst h5; simp at hk
  · exact ⟨b, off, ha, hx k xs[k] (by simp [hk])⟩

theorem Arr.shape {w : World} {m : Nat} {v : Value} {xs : List (List Value)} (h : Arr w m v xs) : ∃ a n cap, v = .slice a n cap := by
  obtain ⟨a, cap, h1, _⟩ := h; exact ⟨a, _, cap, h1⟩

/-- A slice of commands. -/
def Cmds (w : World) (v : Value) (l : List Cmd) : Prop := Arr w 7 v (l.map Cmd.cells) ∧ l.length ≤ 2199023255552

theorem Cmds.quiet {w w' : World} {v : Value} {l : List Cmd} (h : Cmds w v l) (hq : Quiet w w') : Cmds w' v l := ⟨h.1.quiet hq, h.2⟩

theorem Cmds.len {w : World} {n cap : Nat} {a : Option Addr} {l : List Cmd} (h : Cmds w (.slice a n cap) l) : n = l.length ∧ n ≤ 2199023255552 := by
  have h1 := h.1.len.1
  have h2 := h.2
  simp at h1
  omega

theorem Cmds.cell {w : World} {n cap : Nat} {a : Option Addr} {l : List Cmd} (h : Cmds w (.slice a n cap) l) (k : Nat) (hk : k < l.length) :
    ∃ b off, a = some ⟨b, off, none⟩ ∧ b < w.heap.size ∧
      w.cell? ⟨b, off + k * 7, none⟩ = some (.int .i64 l[k].kind) ∧ w.cell? ⟨b, off + k * 7 + 1, none⟩ = some (.int .i64 l[k].inst) ∧ w.cell? ⟨b, off + k * 7 + 2, none⟩ = some (.int .i64 l[k].a) ∧
      w.cell? ⟨b, off + k * 7 + 3, none⟩ = some (.int .i64 l[k].b) ∧ w.cell? ⟨b, off + k * 7 + 4, none⟩ = some (.int .i64 l[k].who) ∧ w.cell? ⟨b, off + k * 7 + 5, none⟩ = some (.string l[k].reason) ∧ w.cell? ⟨b, off + k * 7 + 6, none⟩ = some (.bool l[k].dry) := by
  obtain ⟨b, off, ha, hx⟩ := h.1.row k (by simpa using hk)
  simp only [List.getElem_map] at hx
  exact ⟨b, off, ha, hx.lt, hx.seven⟩

set_option maxHeartbeats 400000 in
theorem clock_any (v : Value) (l : List Cmd) (w : World) (h : Cmds w v l) (ht : TicksOk l) :
    Calls Tryz.prog 45 #[v] w fun e w' => e = .returned (.int .i64 (clockR l)) ∧ w' = w := by
  obtain ⟨a, n, cap, rfl⟩ := h.1.shape
  obtain ⟨hn, hm⟩ := h.len
  have HN : Hid (n = l.length) := hn
  clear hn
  go_enter Tryz.func45, Tryz.ntmps45
  go_wp2
  go_loop [3, 4] (fun p i => ∃ k : Nat, k ≤ n ∧ i = .int .i64 k ∧ p = .int .i64 (clockR (l.take k))) (fun _ i => n - (intOf i).toNat)
  case atStart => exact ⟨0, Nat.zero_le _, rfl, by simp [clockR]⟩
  case round =>
    obtain ⟨k, hk, rfl, rfl⟩ := hrel
    obtain ⟨b1, b2⟩ := (ht.take k).bd
    by_cases hlt : k < n
    · have hkl : k < l.length := by have := HN.out; omega
      obtain ⟨b, off, rfl, hb, c0, c1, c2, _⟩ := h.cell k hkl
      have HC : Hid (clockR (l.take (k + 1)) = clockStep (clockR (l.take k)) l[k]) := foldl_take_succ _ _ _ _ hkl
      have htk := ht.1 l[k] (List.getElem_mem hkl)
      generalize l[k] = c at *
      by_cases h4 : c.kind = 4
      · obtain ⟨h5, h6⟩ := htk h4
        clear htk
        have h4' : (c.kind == 4) = true := by simp [h4]
        have HK : Hid (c.kind = 4) := h4
        clear h4
        go_wp2
        go_round
        case rel => exact ⟨k + 1, by omega, by go_num, by rw [HC.out, clockStep, if_pos HK.out]⟩
        case measure => simp [intOf]; omega
      · clear htk
        have h4' : (c.kind == 4) = false := by simp [h4]
        have HK : Hid (¬ c.kind = 4) := h4
        clear h4
        go_wp2
        go_round
        case rel => exact ⟨k + 1, by omega, by go_num, by rw [HC.out, clockStep, if_neg HK.out]⟩
        case measure => simp [intOf]; omega
    · have hkn : l.take k = l := by have := HN.out; rw [List.take_of_length_le (by omega)]
      rw [hkn]
      go_wp2
      go_ret
      exact ⟨rfl, rfl⟩

theorem Tryz.info3 : (Tryz.prog.info? 3).map (fun i => (i.zero, i.size, i.bytes)) = some (some (.int .i64 0), 1, 8) := by kernel_rfl

/-- A slice of ints that the call made. -/
def ints (l : List Int) : List Value := l.map (Value.int .i64)
theorem startedR_len (l : List Cmd) : (startedR l).length ≤ l.length := by
  unfold startedR
  suffices h : ∀ z : List Int, (l.foldl startedStep z).length ≤ z.length + l.length by have := h []; simpa using this
  induction l with
  | nil => intro z; simp
  | cons c l ih =>
    intro z
    have := ih (startedStep z c)
    have h2 : (startedStep z c).length ≤ z.length + 1 := by unfold startedStep; split <;> simp
    simp only [List.foldl_cons, List.length_cons]
    omega

set_option maxHeartbeats 400000 in
theorem started_any (v : Value) (l : List Cmd) (w : World) (h : Cmds w v l) :
    Calls Tryz.prog 47 #[v] w fun e w' => ∃ v, e = .returned v ∧ w'.ownsRow w.heap.size 3 1 v (startedR l).length (ints (startedR l)) ∧ Quiet w w' := by
  obtain ⟨a, n, cap, rfl⟩ := h.1.shape
  obtain ⟨hn, hm⟩ := h.len
  have HN : Hid (n = l.length) := hn
  clear hn
  obtain ⟨i0, hi, hz0, hz1, hz2⟩ := info_parts Tryz.info3
  go_enter Tryz.func47, Tryz.ntmps47
  go_wp2
  go_loopw [3, 4] (fun p i wr => ∃ k : Nat, k ≤ n ∧ i = .int .i64 k ∧ wr.ownsRow w.heap.size 3 1 p (startedR (l.take k)).length (ints (startedR (l.take k))) ∧ Quiet w wr) (fun _ i _ => n - (intOf i).toNat)
  case atStart => exact ⟨0, Nat.zero_le _, rfl, World.ownsRow_nil _ _ _ _, Below.refl _ _⟩
  case round =>
    obtain ⟨k, hk, rfl, hown, hbel⟩ := hrel
    by_cases hlt : k < n
    · have hkl : k < l.length := by have := HN.out; omega
      obtain ⟨b, off, rfl, hb, c0, c1, _⟩ := (h.quiet hbel).cell k hkl
      have HC : Hid (startedR (l.take (k + 1)) = startedStep (startedR (l.take k)) l[k]) := foldl_take_succ _ _ _ _ hkl
      have hsl := startedR_len (l.take k)
      simp only [List.length_take] at hsl
      generalize l[k] = c at *
      by_cases h4 : c.kind = 1
      · have h4' : (c.kind == 1) = true := by simp [h4]
        have HK : Hid (c.kind = 1) := h4
        clear h4
        go_wp2_with (at_builtin; refine wpList_append_own _ rfl _ _ 81 rfl w.heap.size 3 i0 (.int .i64 0) 1 8 Tryz.underlying81 hi hz0 hz1 hz2 rfl (by decide) _ _ _ rfl (hown.alloc _) ⟨wr.heap.size, 0, none⟩ 1 1 [.int .i64 c.inst] rfl rfl ?c1 ?c2 ?c3 ?c4 ?c5 ?_)
        case c1 => exact cell_one_new _ _ _
        case c2 => intro u hu; simp at hu; subst hu; rfl
        case c3 => unfold maxLen; omega
        case c4 => omega
        case c5 => have := hbel.size; simp; omega
        intro v' w1 hown' hgrow _
        have hq1 : Quiet w w1 := hbel.app hown hgrow
        have hown2 : w1.ownsRow w.heap.size 3 1 v' (startedR (l.take (k + 1))).length (ints (startedR (l.take (k + 1)))) := by
          rw [HC.out, startedStep, if_pos HK.out]; simpa [ints] using hown'
        clear hown' hgrow hown
        go_wp2
        go_roundw
        case rel => exact ⟨k + 1, by omega, by go_num, hown2, hq1⟩
        case measure => simp [intOf]; omega
      · have h4' : (c.kind == 1) = false := by simp [h4]
        have HK : Hid (¬ c.kind = 1) := h4
        clear h4
        go_wp2
        go_roundw
        case rel => exact ⟨k + 1, by omega, by go_num, by rw [HC.out, startedStep, if_neg HK.out]; exact hown, hbel⟩
        case measure => simp [intOf]; omega
    · have hkn : l.take k = l := by have := HN.out; rw [List.take_of_length_le (by omega)]
      rw [hkn] at hown
      go_wp2
      go_ret
      exact ⟨_, rfl, hown, hbel⟩

/-- A slice of entries. -/
def Ents (w : World) (v : Value) (l : List Entry) : Prop := Arr w 3 v (l.map Entry.cells) ∧ l.length ≤ 2199023255552

theorem Ents.quiet {w w' : World} {v : Value} {l : List Entry} (h : Ents w v l) (hq : Quiet w w') : Ents w' v l := ⟨h.1.quiet hq, h.2⟩

theorem Ents.len {w : World} {n cap : Nat} {a : Option Addr} {l : List Entry} (h : Ents w (.slice a n cap) l) : n = l.length ∧ n ≤ 2199023255552 := by
  have h1 := h.1.len.1
  have h2 := h.2
  simp at h1
  omega

theorem Ents.cell {w : World} {n cap : Nat} {a : Option Addr} {l : List Entry} (h : Ents w (.slice a n cap) l) (k : Nat) (hk : k < l.length) :
    ∃ b off, a = some ⟨b, off, none⟩ ∧ b < w.heap.size ∧
      w.cell? ⟨b, off + k * 3, none⟩ = some (.int .i64 l[k].kind) ∧ w.cell? ⟨b, off + k * 3 + 1, none⟩ = some (.int .i64 l[k].step) ∧ w.cell? ⟨b, off + k * 3 + 2, none⟩ = some (.int .i64 l[k].ref) := by
  obtain ⟨b, off, ha, hx⟩ := h.1.row k (by simpa using hk)
  simp only [List.getElem_map] at hx
  exact ⟨b, off, ha, hx.lt, hx.three⟩

set_option maxHeartbeats 400000 in
theorem settled_any (v : Value) (l : List Entry) (w : World) (h : Ents w v l) :
    Calls Tryz.prog 63 #[v] w fun e w' => e = .returned (.int .i64 (settledR l)) ∧ w' = w := by
  obtain ⟨a, n, cap, rfl⟩ := h.1.shape
  obtain ⟨hn, hm⟩ := h.len
  have HN : Hid (n = l.length) := hn
  clear hn
  go_enter Tryz.func63, Tryz.ntmps63
  go_wp2
  go_loop [3, 4] (fun p i => ∃ k : Nat, k ≤ n ∧ i = .int .i64 k ∧ p = .int .i64 (settledR (l.take k))) (fun _ i => n - (intOf i).toNat)
  case atStart => exact ⟨0, Nat.zero_le _, rfl, by simp [settledR]⟩
  case round =>
    obtain ⟨k, hk, rfl, rfl⟩ := hrel
    have hbd := settledR_bd (l.take k)
    have hlt' : (l.take k).length ≤ k := List.length_take_le _ _
    by_cases hlt : k < n
    · have hkl : k < l.length := by have := HN.out; omega
      obtain ⟨b, off, rfl, hb, c0, c1, c2⟩ := h.cell k hkl
      have HC : Hid (settledR (l.take (k + 1)) = settledStep (settledR (l.take k)) l[k]) := foldl_take_succ _ _ _ _ hkl
      generalize l[k] = c at *
      by_cases h1 : c.kind = 1
      · have h1' : (c.kind == 1) = true := by simp [h1]
        have HK : Hid (c.kind = 1 ∨ c.kind = 2) := .inl h1
        clear h1
        go_wp2
        go_round
        case rel => exact ⟨k + 1, by omega, by go_num, by rw [HC.out, settledStep, if_pos HK.out]⟩
        case measure => simp [intOf]; omega
      · have h1' : (c.kind == 1) = false := by simp [h1]
        by_cases h2 : c.kind = 2
        · have h2' : (c.kind == 2) = true := by simp [h2]
          have HK : Hid (c.kind = 1 ∨ c.kind = 2) := .inr h2
          clear h1 h2
          go_wp2
          go_round
          case rel => exact ⟨k + 1, by omega, by go_num, by rw [HC.out, settledStep, if_pos HK.out]⟩
          case measure => simp [intOf]; omega
        · have h2' : (c.kind == 2) = false := by simp [h2]
          have HK : Hid (¬ (c.kind = 1 ∨ c.kind = 2)) := by intro h; rcases h with h | h <;> contradiction
          clear h1 h2
          go_wp2
          go_round
          case rel => exact ⟨k + 1, by omega, by go_num, by rw [HC.out, settledStep, if_neg HK.out]⟩
          case measure => simp [intOf]; omega
    · have hkn : l.take k = l := by have := HN.out; rw [List.take_of_length_le (by omega)]
      rw [hkn]
      go_wp2
      go_ret
      exact ⟨rfl, rfl⟩

/-- A slice of ints. -/
def Ints (w : World) (v : Value) (l : List Int) : Prop := Arr w 1 v (l.map fun i => [Value.int .i64 i])

theorem Ints.quiet {w w' : World} {v : Value} {l : List Int} (h : Ints w v l) (hq : Quiet w w') : Ints w' v l := Arr.quiet h hq
theorem flatten_ints (l : List Int) : (l.map fun i => [Value.int .i64 i]).flatten = ints l := by
  induction l with
  | nil => rfl
  | cons a l ih => simp [ints] at ih ⊢; exact ih
theorem own_ints {w : World} {base : Nat} {e : TypeId} {v : Value} {l : List Int} (h : w.ownsRow base e 1 v l.length (ints l)) : Ints w v l :=
  own_arr (base := base) (e := e) (n := l.length) (by rw [flatten_ints]; exact h) (by simp) (by simp)

theorem Ints.cell {w : World} {n cap : Nat} {a : Option Addr} {l : List Int} (h : Ints w (.slice a n cap) l) (k : Nat) (hk : k < l.length) :
    ∃ b off, a = some ⟨b, off, none⟩ ∧ b < w.heap.size ∧ w.cell? ⟨b, off + k, none⟩ = some (.int .i64 l[k]) := by
  obtain ⟨b, off, ha, hx⟩ := Arr.row h k (by simpa using hk)
  simp only [List.getElem_map] at hx
  have := hx 0 _ rfl
  exact ⟨b, off, ha, hx.lt, by simpa using this⟩

def hasR (l : List Int) (x : Int) : Bool := l.any (· == x)

set_option maxHeartbeats 400000 in
theorem has_any (v : Value) (l : List Int) (x : Int) (w : World) (h : Ints w v l) :
    Calls Tryz.prog 56 #[v, .int .i64 x] w fun e w' => e = .returned (.bool (hasR l x)) ∧ w' = w := by
  obtain ⟨a, n, cap, rfl⟩ := Arr.shape h
  obtain ⟨hn, hm⟩ := Arr.len h
  simp only [List.length_map] at hn
  have HN : Hid (n = l.length) := hn
  clear hn
  go_enter Tryz.func56, Tryz.ntmps56
  go_wp2
  go_loop [5] (fun i => ∃ k : Nat, k ≤ n ∧ i = .int .i64 k ∧ hasR (l.take k) x = false) (fun i => n - (intOf i).toNat)
  case atStart => exact ⟨0, Nat.zero_le _, rfl, by simp [hasR]⟩
  case round =>
    obtain ⟨k, hk, rfl, hno⟩ := hrel
    have HO : Hid (hasR (l.take k) x = false) := hno
    clear hno
    by_cases hlt : k < n
    · have hkl : k < l.length := by have := HN.out; omega
      obtain ⟨b, off, rfl, hb, c0⟩ := h.cell k hkl
      have hc' : hasR (l.take (k + 1)) x = (hasR (l.take k) x || (l[k] == x)) := by
        unfold hasR; rw [List.take_succ_eq_append_getElem hkl, List.any_append]; simp
      have HC : Hid (hasR (l.take (k + 1)) x = (hasR (l.take k) x || (l[k] == x))) := hc'
      clear hc'
      have HM : Hid ((l[k] == x) = true → hasR l x = true) := by
        intro hx; unfold hasR; rw [List.any_eq_true]; exact ⟨l[k], List.getElem_mem hkl, hx⟩
      generalize l[k] = c at *
      cases h1 : c == x
      · go_wp2
        go_round
        case rel => exact ⟨k + 1, by omega, by go_num, by rw [HC.out, HO.out, h1]; rfl⟩
        case measure => simp [intOf]; omega
      · go_wp2
        go_ret
        exact ⟨ret_bool (HM.out h1).symm, rfl⟩
    · have hkn : l.take k = l := by have := HN.out; rw [List.take_of_length_le (by omega)]
      go_wp2
      go_ret
      exact ⟨ret_bool (by have := HO.out; rw [hkn] at this; exact this.symm), rfl⟩

end Go.Proofs.YtgcjlgaapiefiabGreat

/-
  Walks of the document's answer: no, at, behind, anew.
-/
namespace Go.Proofs.YtgcjlgaapiefiabGreat
open Go.RowKit

/-- An instance as a value. -/
def Inst.val (x : Inst) (lv : Value) : Value := .agg #[.int .i64 x.id, .int .i64 x.mode, .bool x.stuck, .int .i64 x.settled, .int .i64 x.target, .bool x.resume, .int .i64 x.keys, .int .i64 x.key, .int .i64 x.due, .int .i64 x.tries, .int .i64 x.wake, lv]
def Answer.val (a : Answer) : Value := .agg #[.int .i64 a.code, .int .i64 a.number, .int .i64 a.step, .int .i64 a.what]

theorem ret_val {a b : Value} (h : a = b) : Ending.returned a = .returned b := by rw [h]

theorem no_any (c : Int) (w : World) :
    Calls Tryz.prog 57 #[.int .i64 c] w fun e w' => e = .returned (Answer.val ⟨c, 0, 0, 0⟩) ∧ Quiet w w' := by
  go_enter Tryz.func57, Tryz.ntmps57
  go_wp2
  refine bodyPost_ret (v := Answer.val ⟨c, 0, 0, 0⟩) (by simp [results, Tryz.results57, go_sem, Answer.val]) rfl ⟨rfl, ?_⟩
  first | exact (Below.refl _ _).alloc (Nat.le_refl _) _ | trace_state

set_option maxHeartbeats 400000 in
theorem at_any (x : Inst) (a : Option Addr) (n cap : Nat) (w : World) (h : Ents w (.slice a n cap) x.ledger) :
    Calls Tryz.prog 77 #[x.val (.slice a n cap)] w fun e w' => e = .returned (.int .i64 (atR x)) ∧ Quiet w w' := by
  have hq0 : ∀ o, Quiet w (w.alloc o) := fun o => (Below.refl _ _).alloc (Nat.le_refl _) _
  have hbd := settledR_bd x.ledger
  have hl := h.2
  unfold Inst.val
  cases hm : x.mode == 2
  all_goals
    go_enter Tryz.func77, Tryz.ntmps77
    go_wp2_with (go_at_call 63; refine (settled_any _ x.ledger _ (h.quiet (hq0 _))).mono ?_; rintro e w' ⟨rfl, rfl⟩)
    go_ret
    exact ⟨ret_int (by unfold atR; simp at hm; simp [hm]), hq0 _⟩

set_option maxHeartbeats 400000 in
theorem anew_any (x : Inst) (a : Option Addr) (n cap : Nat) (now : Int) (w : World) :
    Calls Tryz.prog 98 #[x.val (.slice a n cap), .int .i64 now] w fun e w' => e = .returned ((anewR x now).val (.slice a n cap)) ∧ Quiet w w' := by
  unfold Inst.val
  go_enter Tryz.func98, Tryz.ntmps98
  go_wp2
  refine bodyPost_ret (v := (anewR x now).val (.slice a n cap)) (by simp [results, Tryz.results98, go_sem, Inst.val, anewR]) rfl ⟨rfl, ?_⟩
  exact ((Below.refl _ _).alloc (Nat.le_refl _) _).alloc (by simp) _

set_option maxHeartbeats 400000 in
theorem behind_any (dv : Value) (d : Def) (v : Value) (l : List Entry) (w : World) (hd : DefIs w dv d) (h : Ents w v l) :
    Calls Tryz.prog 97 #[dv, v] w fun e w' => e = .returned (.int .i64 (behindR d l)) ∧ Quiet w w' := by
  have hq0 : ∀ o, Quiet w (w.alloc o) := fun o => (Below.refl _ _).alloc (Nat.le_refl _) _
  have hbd := settledR_bd l
  have hl := h.2
  obtain ⟨a, n, cap, rfl, hs⟩ := hd
  obtain ⟨hn, hm⟩ := hs.len
  rw [stepVals, List.length_map] at hn
  have HN : Hid (n = d.steps.length) := hn
  clear hn
  have HB : Hid (behindR d l = firstPivot d.steps (settledR l).toNat 0) := rfl
  have HS : ∀ o, Ents (w.alloc o) v l := fun o => h.quiet (hq0 o)
  generalize hz : settledR l = z at hbd HB
  have HZ : Hid (settledR l = z) := hz
  clear hz
  go_enter Tryz.func97, Tryz.ntmps97
  go_wp2_with (go_at_call 63; refine (settled_any _ l _ (HS _)).mono ?_; rw [HZ.out]; rintro e w' ⟨rfl, rfl⟩)
  go_loop [6] (fun i => ∃ k : Nat, k ≤ n ∧ (k : Int) ≤ max z 0 ∧ i = .int .i64 k ∧ ∀ j, j < k → ∀ hj : j < d.steps.length, d.steps[j].pivot = false) (fun i => n - (intOf i).toNat)
  case atStart => exact ⟨0, Nat.zero_le _, by omega, rfl, by omega⟩
  case round =>
    obtain ⟨k, hk, hkz, rfl, hno⟩ := hrel
    have HO : Hid (∀ j, j < k → ∀ hj : j < d.steps.length, d.steps[j].pivot = false) := hno
    clear hno
    by_cases hz : (k : Int) < z
    · by_cases hlt : k < n
      · have hkl : k < d.steps.length := by have := HN.out; omega
        obtain ⟨b, off, rfl, hb, c0, c1, c2, c3⟩ := hs.step k hkl
        have ca := fun o => (bcell (hq0 o)).1
        have HP1 : Hid (d.steps[k].pivot = true → behindR d l = k) := fun hp => by
          rw [HB.out]; have := firstPivot_some d.steps z.toNat 0 k (by omega) hkl hp HO.out; omega
        have HP0 : Hid (d.steps[k].pivot = false → ∀ j, j < k + 1 → ∀ hj : j < d.steps.length, d.steps[j].pivot = false) := fun hp j hj hjl => by
          by_cases e : j = k
          · subst e; exact hp
          · exact HO.out j (by omega) hjl
        revert HP1 HP0 c0 c1 c2 c3
        generalize hs : d.steps[k] = s
        intro c0 c1 c2 c3 HP1 HP0
        clear hs
        cases hp : s.pivot
        · go_wp2
          go_round
          case rel => exact ⟨k + 1, by omega, by omega, by go_num, HP0.out hp⟩
          case measure => simp [intOf]; omega
        · go_wp2
          go_ret
          exact ⟨ret_int (HP1.out hp).symm, hq0 _⟩
      · go_wp2
        go_ret
        exact ⟨ret_int (by rw [HB.out, firstPivot_none _ _ _ (fun j hj hjl => HO.out j (by have := HN.out; omega) hjl)]), hq0 _⟩
    · go_wp2
      go_ret
      exact ⟨ret_int (by rw [HB.out, firstPivot_none _ _ _ (fun j hj hjl => HO.out j (by omega) hjl)]), hq0 _⟩

end Go.Proofs.YtgcjlgaapiefiabGreat

/-
  Walks of the document's answer: entered.
-/
namespace Go.Proofs.YtgcjlgaapiefiabGreat
open Go.RowKit

theorem Tryz.info92 : (Tryz.prog.info? 92).map (fun i => (i.zero, i.size, i.bytes)) = some (some (.agg #[.int .i64 0, .int .i64 0, .int .i64 0]), 3, 24) := by kernel_rfl

/-- The cells of a ledger. -/
def ents (l : List Entry) : List Value := (l.map Entry.cells).flatten
theorem ents_snoc (l : List Entry) (e : Entry) : ents (l ++ [e]) = ents l ++ e.cells := by simp [ents]
theorem own_ents {w : World} {base : Nat} {v : Value} {n : Nat} {l : List Entry} (h : w.ownsRow base 92 3 v n (ents l)) (hn : n = l.length) (hl : l.length ≤ 2199023255552) : Ents w v l :=
  ⟨own_arr (base := base) (e := 92) (n := n) h (by simpa using hn) (by simp [Entry.cells]), hl⟩

set_option maxRecDepth 100000 in
set_option maxHeartbeats 2000000 in
theorem entered_any (w0 w : World) (hq : Quiet w0 w) (dv : Value) (d : Def) (hd : DefIs w0 dv d) (x : Inst) (a : Option Addr) (n cap : Nat)
    (hown : w.ownsRow w0.heap.size 92 3 (.slice a n cap) n (ents x.ledger)) (hn : n = x.ledger.length) (hlen : x.ledger.length < 1099511627776) (kind ref now : Int) :
    Calls Tryz.prog 78 #[dv, x.val (.slice a n cap), .int .i64 kind, .int .i64 ref, .int .i64 now] w fun e w' =>
      ∃ a' n' cap', e = .returned ((enteredR d x kind ref now).val (.slice a' n' cap')) ∧ w'.ownsRow w0.heap.size 92 3 (.slice a' n' cap') n' (ents (enteredR d x kind ref now).ledger) ∧
        n' = (enteredR d x kind ref now).ledger.length ∧ w.grownBy w' (Value.slice a n cap).ownBlock := by
  obtain ⟨i0, hi, hz0, hz1, hz2⟩ := info_parts Tryz.info92
  have hE : Ents w (.slice a n cap) x.ledger := own_ents hown hn (by omega)
  have hN : Hid (n = x.ledger.length) := hn
  have hsz := hq.size
  have hnl : n < 1099511627776 := by omega
  have hd' := hd.quiet hq
  obtain ⟨da, dn, dcap, rfl, hs⟩ := hd'
  clear hn hd
  unfold Inst.val
  go_enter Tryz.func78, Tryz.ntmps78
  go_wp2_with fail
  refine calls_gen (fun W => Blk W w.heap.size #[.slice da dn dcap, .int .i64 d.quorum, .int .i64 d.expiry] 24 ∧
    Blk W (w.heap.size + 1) #[.int .i64 x.id, .int .i64 x.mode, .bool x.stuck, .int .i64 x.settled, .int .i64 x.target, .bool x.resume, .int .i64 x.keys, .int .i64 x.key, .int .i64 x.due, .int .i64 x.tries, .int .i64 x.wake, .slice a n cap] 78 ∧
    Blk W (w.heap.size + 1 + 1) #[.int .i64 0, .int .i64 0, .bool false, .int .i64 0, .int .i64 0, .bool false, .int .i64 0, .int .i64 0, .int .i64 0, .int .i64 0, .int .i64 0, .slice none 0 0] 78 ∧ Quiet w W) ⟨?_, ?_, ?_, ?_⟩ ?_
  · repeat (first | (refine Blk.new' ?_; simp; done) | refine Blk.alloc ?_ _)
  · repeat (first | (refine Blk.new' ?_; simp; done) | refine Blk.alloc ?_ _)
  · exact Blk.new' (by simp)
  · exact (((Below.refl _ _).alloc (Nat.le_refl _) _).alloc (by simp) _).alloc (by simp; omega) _
  rintro W ⟨b0, b1, b2, hqW⟩
  refine (at_any x a n cap _ (hE.quiet hqW)).mono ?_
  rintro e w1 ⟨rfl, hq1⟩
  replace b0 := b0.quiet hq1
  replace b1 := b1.quiet hq1
  replace b2 := b2.quiet hq1
  have hqw1 : Quiet w w1 := hqW.after hq1
  clear hq1 hqW W
  have hown1 := own_quiet hown hqw1
  have c1 := b1.cell
  have z1 := b1.lt
  go_wp2_with (at_builtin; refine wpList_append_own _ rfl _ _ 76 rfl w0.heap.size 92 i0 (.agg #[.int .i64 0, .int .i64 0, .int .i64 0]) 3 24 Tryz.underlying76 hi hz0 hz1 hz2 rfl (by decide) _ _ _ rfl ((hown1.alloc _).alloc _) ⟨w1.heap.size + 1, 0, none⟩ 1 1 [.int .i64 kind, .int .i64 (atR x), .int .i64 ref] rfl rfl ?c1 ?c2 ?c3 ?c4 ?c5 ?_)
  case c1 =>
    intro j u hj
    match j, hj with
    | 0, hj => simp at hj; subst hj; simp [Addr.add, go_sem]
    | 1, hj => simp at hj; subst hj; simp [Addr.add, go_sem]
    | 2, hj => simp at hj; subst hj; simp [Addr.add, go_sem]
  case c2 => intro u hu; simp at hu; rcases hu with rfl | rfl | rfl <;> rfl
  case c3 => unfold maxLen; omega
  case c4 => omega
  case c5 => simp; omega
  intro v' w2 hown2 hgrow _
  obtain ⟨a', cap', rfl⟩ := own_shape hown2
  have hne : ∀ b, w.heap.size ≤ b → some b ≠ (Value.slice a n cap).ownBlock := fun b hb e => by have := (own_ge hown b e.symm).2; omega
  replace b0 := ((b0.alloc _).alloc _).grown hgrow (hne _ (Nat.le_refl _))
  replace b1 := ((b1.alloc _).alloc _).grown hgrow (hne _ (by omega))
  replace b2 := ((b2.alloc _).alloc _).grown hgrow (hne _ (by omega))
  have hq2 : w.grownBy w2 (Value.slice a n cap).ownBlock := grown_trans (grown_of_quiet ((hqw1.alloc hqw1.size _).alloc (by have := hqw1.size; simp; omega) _)) hgrow
  clear hgrow hown1 c1 z1 hqw1
  have c1 := b1.cell
  have f1 := b1.frozen
  have z1 := b1.lt
  go_wp2_with fail
  refine (anew_any { x with ledger := x.ledger ++ [⟨kind, atR x, ref⟩] } a' (n + 1) cap' now _).mono ?_
  rintro e w3 ⟨rfl, hq3⟩
  replace hown2 := own_quiet (ownsRow_setCell_other hown2 (own_ne hown2 b1 (by decide)) _) hq3
  replace b0 := (b0.other _ (by simp)).quiet hq3
  replace b1 := (b1.set _ _).quiet hq3
  replace b2 := (b2.other _ (by simp)).quiet hq3
  replace hq3 : w.grownBy w3 (Value.slice a n cap).ownBlock := grown_quiet (grown_set hq2 (a := ⟨w.heap.size + 1, 11, none⟩) (by show w.heap.size ≤ w.heap.size + 1; omega) _) hq3
  clear c1 f1 z1 hq2
  have c1 := b1.cell
  have f1 := b1.frozen
  have z1 := b1.lt
  simp only [Inst.val, anewR]
  go_wp2_with fail
  refine calls_gen (fun W => Blk W w.heap.size #[.slice da dn dcap, .int .i64 d.quorum, .int .i64 d.expiry] 24 ∧
    Blk W (w.heap.size + 1) #[.int .i64 x.id, .int .i64 x.mode, .bool false, .int .i64 0, .int .i64 x.target, .bool x.resume, .int .i64 x.keys, .int .i64 0, .int .i64 0, .int .i64 0, .int .i64 now, .slice a' (n + 1) cap'] 78 ∧
    Blk W (w.heap.size + 1 + 1) #[.int .i64 0, .int .i64 0, .bool false, .int .i64 0, .int .i64 0, .bool false, .int .i64 0, .int .i64 0, .int .i64 0, .int .i64 0, .int .i64 0, .slice none 0 0] 78 ∧ w.grownBy W (Value.slice a n cap).ownBlock ∧ W.ownsRow w0.heap.size 92 3 (.slice a' (n + 1) cap') (n + 1) (ents (x.ledger ++ [⟨kind, atR x, ref⟩]))) ⟨?_, ?_, ?_, ?_, ?_⟩ ?_
  · exact b0.other12 (by omega) _ _ _ _ _ _ _ _ _ _ _ _
  · exact b1.set12 (by simp) _ _ _ _ _ _ _ _ _ _ _ _
  · exact b2.other12 (by omega) _ _ _ _ _ _ _ _ _ _ _ _
  · exact grown_set12 hq3 (by omega) _ _ _ _ _ _ _ _ _ _ _ _
  · have hr := own_ne hown2 b1 (by decide)
    rw [ents_snoc]
    iterate 12 refine ownsRow_setCell_other ?_ hr _
    exact hown2
  clear c1 f1 z1 hq3 hown2 b0 b1 b2
  rintro W ⟨b0, b1, b2, hqW, hown2⟩
  refine (settled_any _ (x.ledger ++ [⟨kind, atR x, ref⟩]) _ (own_ents hown2 (by have := hN.out; simp; omega) (by simp; omega))).mono ?_
  rintro e w1 ⟨rfl, rfl⟩
  have c0 := b0.cell
  have c1 := b1.cell
  have f1 := b1.frozen
  have c2 := b2.cell
  have f2 := b2.frozen
  have fin : ∀ (y : Inst) (W' : World), enteredR d x kind ref now = y → y.ledger = x.ledger ++ [⟨kind, atR x, ref⟩] → w.grownBy W' (Value.slice a n cap).ownBlock → W'.ownsRow w0.heap.size 92 3 (.slice a' (n + 1) cap') (n + 1) (ents (x.ledger ++ [⟨kind, atR x, ref⟩])) →
      ∃ a'' n' cap'', Ending.returned (y.val (.slice a' (n + 1) cap')) = .returned ((enteredR d x kind ref now).val (.slice a'' n' cap'')) ∧ W'.ownsRow w0.heap.size 92 3 (.slice a'' n' cap'') n' (ents (enteredR d x kind ref now).ledger) ∧
        n' = (enteredR d x kind ref now).ledger.length ∧ w.grownBy W' (Value.slice a n cap).ownBlock := by
    intro y W' he hl hq' ho
    exact ⟨a', n + 1, cap', by rw [he], by rw [he, hl]; exact ho, by rw [he, hl]; have := hN.out; simp; omega, hq'⟩
  have FIN := fin
  clear fin
  have HD : Hid ((dn : Int) = d.steps.length) := by have := hs.len.1; simp [stepVals] at this; show (dn : Int) = _; omega
  have hr2 := own_ne hown2 b2 (by decide)
  have hr1 := own_ne hown2 b1 (by decide)
  generalize hzn : settledR (x.ledger ++ [⟨kind, atR x, ref⟩]) = zn
  have HE : Hid (enteredR d x kind ref now = closeR d ⟨x.id, x.mode, false, 0, x.target, x.resume, x.keys, 0, 0, 0, now, x.ledger ++ [⟨kind, atR x, ref⟩]⟩) := rfl
  have HZ : Hid (settledR (x.ledger ++ [⟨kind, atR x, ref⟩]) = zn) := hzn
  clear hzn
  cases hm1 : x.mode == 1
  · cases hm2 : x.mode == 2
    · go_wp2
      refine bodyPost_ret (v := Inst.val ⟨x.id, x.mode, false, 0, x.target, x.resume, x.keys, 0, 0, 0, now, x.ledger ++ [⟨kind, atR x, ref⟩]⟩ (.slice a' (n + 1) cap')) (by simp [results, Tryz.results78, go_sem, Inst.val, c2]) rfl (FIN ⟨x.id, x.mode, false, 0, x.target, x.resume, x.keys, 0, 0, 0, now, x.ledger ++ [⟨kind, atR x, ref⟩]⟩ _ ?_ rfl ?_ ?_)
      · rw [HE.out]; unfold closeR; simp only [HZ.out]; simp at hm1 hm2; simp [hm1, hm2]
      · refine grown_set12 ?_ (by omega) _ _ _ _ _ _ _ _ _ _ _ _
        exact hqW
      · iterate 12 refine ownsRow_setCell_other ?_ hr2 _
        exact hown2
    · cases ht : zn == x.target
      · go_wp2
        refine bodyPost_ret (v := Inst.val ⟨x.id, x.mode, false, 0, x.target, x.resume, x.keys, 0, 0, 0, now, x.ledger ++ [⟨kind, atR x, ref⟩]⟩ (.slice a' (n + 1) cap')) (by simp [results, Tryz.results78, go_sem, Inst.val, c2]) rfl (FIN ⟨x.id, x.mode, false, 0, x.target, x.resume, x.keys, 0, 0, 0, now, x.ledger ++ [⟨kind, atR x, ref⟩]⟩ _ ?_ rfl ?_ ?_)
        · rw [HE.out]; unfold closeR; simp only [HZ.out]; simp at hm1 hm2 ht; simp [hm2, ht]
        · refine grown_set12 ?_ (by omega) _ _ _ _ _ _ _ _ _ _ _ _
          exact hqW
        · iterate 12 refine ownsRow_setCell_other ?_ hr2 _
          exact hown2
      · cases hr : x.resume
        · go_wp2
          refine bodyPost_ret (v := Inst.val ⟨x.id, 4, false, 0, x.target, false, x.keys, 0, 0, 0, now, x.ledger ++ [⟨kind, atR x, ref⟩]⟩ (.slice a' (n + 1) cap')) (by simp [results, Tryz.results78, go_sem, Inst.val, c2]) rfl (FIN ⟨x.id, 4, false, 0, x.target, false, x.keys, 0, 0, 0, now, x.ledger ++ [⟨kind, atR x, ref⟩]⟩ _ ?_ rfl ?_ ?_)
          · rw [HE.out]; unfold closeR; simp only [HZ.out]; simp at hm1 hm2 ht; simp [hm2, ht, hr]
          · refine grown_set12 ?_ (by omega) _ _ _ _ _ _ _ _ _ _ _ _
            refine grown_set ?_ (by show w.heap.size ≤ w.heap.size + 1; omega) _
            exact hqW
          · iterate 12 refine ownsRow_setCell_other ?_ hr2 _
            refine ownsRow_setCell_other ?_ hr1 _
            exact hown2
        · go_wp2
          refine bodyPost_ret (v := Inst.val ⟨x.id, 1, false, 0, 0, false, x.keys, 0, 0, 0, now, x.ledger ++ [⟨kind, atR x, ref⟩]⟩ (.slice a' (n + 1) cap')) (by simp [results, Tryz.results78, go_sem, Inst.val, c2]) rfl (FIN ⟨x.id, 1, false, 0, 0, false, x.keys, 0, 0, 0, now, x.ledger ++ [⟨kind, atR x, ref⟩]⟩ _ ?_ rfl ?_ ?_)
          · rw [HE.out]; unfold closeR; simp only [HZ.out]; simp at hm1 hm2 ht; simp [hm2, ht, hr]
          · refine grown_set12 ?_ (by omega) _ _ _ _ _ _ _ _ _ _ _ _
            refine grown_set ?_ (by show w.heap.size ≤ w.heap.size + 1; omega) _
            refine grown_set ?_ (by show w.heap.size ≤ w.heap.size + 1; omega) _
            refine grown_set ?_ (by show w.heap.size ≤ w.heap.size + 1; omega) _
            exact hqW
          · iterate 12 refine ownsRow_setCell_other ?_ hr2 _
            refine ownsRow_setCell_other ?_ hr1 _
            refine ownsRow_setCell_other ?_ hr1 _
            refine ownsRow_setCell_other ?_ hr1 _
            exact hown2
  · have hm2 : (x.mode == 2) = false := by simp at hm1 ⊢; omega
    cases hz : zn == (dn : Int)
    · go_wp2
      refine bodyPost_ret (v := Inst.val ⟨x.id, x.mode, false, 0, x.target, x.resume, x.keys, 0, 0, 0, now, x.ledger ++ [⟨kind, atR x, ref⟩]⟩ (.slice a' (n + 1) cap')) (by simp [results, Tryz.results78, go_sem, Inst.val, c2]) rfl (FIN ⟨x.id, x.mode, false, 0, x.target, x.resume, x.keys, 0, 0, 0, now, x.ledger ++ [⟨kind, atR x, ref⟩]⟩ _ ?_ rfl ?_ ?_)
      · rw [HE.out]; unfold closeR; simp only [HZ.out]; simp at hm1 hz; have := HD.out; rw [this] at hz; simp [hm1, hz]
      · refine grown_set12 ?_ (by omega) _ _ _ _ _ _ _ _ _ _ _ _
        exact hqW
      · iterate 12 refine ownsRow_setCell_other ?_ hr2 _
        exact hown2
    · go_wp2
      refine bodyPost_ret (v := Inst.val ⟨x.id, 3, false, 0, x.target, x.resume, x.keys, 0, 0, 0, now, x.ledger ++ [⟨kind, atR x, ref⟩]⟩ (.slice a' (n + 1) cap')) (by simp [results, Tryz.results78, go_sem, Inst.val, c2]) rfl (FIN ⟨x.id, 3, false, 0, x.target, x.resume, x.keys, 0, 0, 0, now, x.ledger ++ [⟨kind, atR x, ref⟩]⟩ _ ?_ rfl ?_ ?_)
      · rw [HE.out]; unfold closeR; simp only [HZ.out]; simp at hm1 hz; have := HD.out; rw [this] at hz; simp [hm1, hz]
      · refine grown_set12 ?_ (by omega) _ _ _ _ _ _ _ _ _ _ _ _
        refine grown_set ?_ (by show w.heap.size ≤ w.heap.size + 1; omega) _
        exact hqW
      · iterate 12 refine ownsRow_setCell_other ?_ hr2 _
        refine ownsRow_setCell_other ?_ hr1 _
        exact hown2

end Go.Proofs.YtgcjlgaapiefiabGreat

/-
  Walks of the document's answer: backward, wrong.
-/
namespace Go.Proofs.YtgcjlgaapiefiabGreat
open Go.RowKit

set_option maxRecDepth 100000 in
set_option maxHeartbeats 2000000 in
theorem backward_any (x : Inst) (a : Option Addr) (n cap : Nat) (target : Int) (resume : Bool) (now : Int) (w : World) (hE : Ents w (.slice a n cap) x.ledger) :
    Calls Tryz.prog 99 #[x.val (.slice a n cap), .int .i64 target, .bool resume, .int .i64 now] w fun e w' => e = .returned ((backwardR x target resume now).val (.slice a n cap)) ∧ Quiet w w' := by
  unfold Inst.val
  go_enter Tryz.func99, Tryz.ntmps99
  go_wp2_with fail
  refine calls_gen (fun W => Blk W w.heap.size #[.int .i64 x.id, .int .i64 x.mode, .bool x.stuck, .int .i64 x.settled, .int .i64 x.target, .bool x.resume, .int .i64 x.keys, .int .i64 x.key, .int .i64 x.due, .int .i64 x.tries, .int .i64 x.wake, .slice a n cap] 78 ∧ Blk W (w.heap.size + 1) #[.int .i64 0, .int .i64 0, .bool false, .int .i64 0, .int .i64 0, .bool false, .int .i64 0, .int .i64 0, .int .i64 0, .int .i64 0, .int .i64 0, .slice none 0 0] 78 ∧ Quiet w W) ⟨?_, ?_, ?_⟩ ?_
  · repeat (first | (refine Blk.new' ?_; simp; done) | refine Blk.alloc ?_ _)
  · exact Blk.new' (by simp)
  · exact ((Below.refl _ _).alloc (Nat.le_refl _) _).alloc (by simp) _
  rintro W ⟨b1, b2, hqW⟩
  refine (anew_any x a n cap now _).mono ?_
  rintro e w3 ⟨rfl, hq3⟩
  replace b1 := b1.quiet hq3
  replace b2 := b2.quiet hq3
  replace hq3 : Quiet w w3 := hqW.after hq3
  clear hqW W
  have c1 := b1.cell
  have f1 := b1.frozen
  simp only [Inst.val, anewR]
  go_wp2_with fail
  refine calls_gen (fun W => Blk W w.heap.size #[.int .i64 x.id, .int .i64 2, .bool false, .int .i64 0, .int .i64 target, .bool resume, .int .i64 x.keys, .int .i64 0, .int .i64 0, .int .i64 0, .int .i64 now, .slice a n cap] 78 ∧ Blk W (w.heap.size + 1) #[.int .i64 0, .int .i64 0, .bool false, .int .i64 0, .int .i64 0, .bool false, .int .i64 0, .int .i64 0, .int .i64 0, .int .i64 0, .int .i64 0, .slice none 0 0] 78 ∧ Quiet w W) ⟨?_, ?_, ?_⟩ ?_
  · simpa using (((b1.set12 (by simp) _ _ _ _ _ _ _ _ _ _ _ _).set 1 _).set 4 _).set 5 _
  · exact (((b2.other12 (by omega) _ _ _ _ _ _ _ _ _ _ _ _).other _ (by simp)).other _ (by simp)).other _ (by simp)
  · exact (((Below.set12 hq3 (Nat.le_refl _) _ _ _ _ _ _ _ _ _ _ _ _).setCell (Nat.le_refl _) _).setCell (Nat.le_refl _) _).setCell (Nat.le_refl _) _
  clear c1 f1 b1 b2 hq3
  rintro W ⟨b1, b2, hqW⟩
  refine (settled_any _ x.ledger _ (hE.quiet hqW)).mono ?_
  rintro e w1 ⟨rfl, rfl⟩
  have c1 := b1.cell
  have f1 := b1.frozen
  have c2 := b2.cell
  have f2 := b2.frozen
  have HE : Hid (backwardR x target resume now = ⟨x.id, if settledR x.ledger = 0 then 4 else 2, false, 0, target, resume, x.keys, 0, 0, 0, now, x.ledger⟩) := rfl
  generalize hzn : settledR x.ledger = zn at HE
  clear hzn
  cases hm1 : zn == 0
  · have HE' : Hid (backwardR x target resume now = ⟨x.id, 2, false, 0, target, resume, x.keys, 0, 0, 0, now, x.ledger⟩) := by
      simp at hm1; have := HE.out; rw [if_neg hm1] at this; exact this
    clear HE
    go_wp2
    refine bodyPost_ret (v := Inst.val ⟨x.id, 2, false, 0, target, resume, x.keys, 0, 0, 0, now, x.ledger⟩ (.slice a n cap)) (by simp [results, Tryz.results99, go_sem, Inst.val, c2]) rfl ⟨by rw [HE'.out]; rfl, ?_⟩
    exact Below.set12 hqW (by omega) _ _ _ _ _ _ _ _ _ _ _ _
  · have HE' : Hid (backwardR x target resume now = ⟨x.id, 4, false, 0, target, resume, x.keys, 0, 0, 0, now, x.ledger⟩) := by
      simp at hm1; have := HE.out; rw [if_pos hm1] at this; exact this
    clear HE
    go_wp2
    refine bodyPost_ret (v := Inst.val ⟨x.id, 4, false, 0, target, resume, x.keys, 0, 0, 0, now, x.ledger⟩ (.slice a n cap)) (by simp [results, Tryz.results99, go_sem, Inst.val, c2]) rfl ⟨by rw [HE'.out]; rfl, ?_⟩
    exact Below.set12 (hqW.setCell (Nat.le_refl _) _) (by omega) _ _ _ _ _ _ _ _ _ _ _ _

end Go.Proofs.YtgcjlgaapiefiabGreat

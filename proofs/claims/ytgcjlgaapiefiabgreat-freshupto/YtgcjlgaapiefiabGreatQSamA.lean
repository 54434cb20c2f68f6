import Derived.Test.YtgcjlgaapiefiabGreatQAnsC

/-
  Walks of the laws' own filter: plain.
-/
namespace Go.Proofs.YtgcjlgaapiefiabGreat
open Go.RowKit

theorem Tryz.info43 : (Tryz.prog.info? 43).map (fun i => (i.zero, i.size, i.bytes)) = some (some (.agg #[.int .i64 0, .int .i64 0, .int .i64 0, .int .i64 0, .int .i64 0, .string ⟨#[]⟩, .bool false]), 7, 64) := by kernel_rfl

def cmdVals (l : List Cmd) : List Value := (l.map Cmd.cells).flatten
def plainStep (l : List Cmd) (c : Cmd) : List Cmd := if 1 ≤ c.kind ∧ c.kind ≤ 4 then l ++ [{ c with dry := false }] else l
def plainR (l : List Cmd) : List Cmd := l.foldl plainStep []
theorem plainR_len (l : List Cmd) : (plainR l).length ≤ l.length := by
  unfold plainR
  suffices h : ∀ z : List Cmd, (l.foldl plainStep z).length ≤ z.length + l.length by have := h []; simpa using this
  induction l with
  | nil => intro z; simp
  | cons c l ih =>
    intro z
    have := ih (plainStep z c)
    have h2 : (plainStep z c).length ≤ z.length + 1 := by unfold plainStep; split <;> simp
    simp only [List.foldl_cons, List.length_cons]
    omega

end Go.Proofs.YtgcjlgaapiefiabGreat

/-
  Walks of the laws' own comparisons: what is the same is found the same.
-/
namespace Go.Proofs.YtgcjlgaapiefiabGreat
open Go.RowKit

set_option maxRecDepth 100000 in
set_option maxHeartbeats 1000000 in
theorem sameEntries_eq (va vb : Value) (l : List Entry) (w : World) (ha : Ents w va l) (hb : Ents w vb l) :
    Calls Tryz.prog 50 #[va, vb] w fun e w' => e = .returned (.bool true) ∧ Quiet w w' := by
  obtain ⟨a, n, cap, rfl⟩ := ha.1.shape
  obtain ⟨b, m, cap', rfl⟩ := hb.1.shape
  obtain ⟨hn, hm⟩ := ha.len
  obtain ⟨hn', _⟩ := hb.len
  obtain rfl : m = n := by omega
  have HN : Hid (m = l.length) := hn
  clear hn hn'
  go_enter Tryz.func50, Tryz.ntmps50
  go_wp2
  go_loopw [5] (fun i wr => ∃ k : Nat, k ≤ m ∧ i = .int .i64 k ∧ Quiet w wr) (fun i _ => m - (intOf i).toNat)
  case atStart => exact ⟨0, Nat.zero_le _, rfl, Below.refl _ _⟩
  case round =>
    obtain ⟨k, hk, rfl, hq⟩ := hrel
    by_cases hlt : k < m
    · have hkl : k < l.length := by have := HN.out; omega
      obtain ⟨b1, o1, rfl, hb1, c0, c1, c2⟩ := (ha.quiet hq).cell k hkl
      obtain ⟨b2, o2, rfl, hb2, d0, d1, d2⟩ := (hb.quiet hq).cell k hkl
      have hki : (0 : Int) ≤ (k : Int) := by omega
      have hkj : (k : Int) < (m : Int) := by omega
      generalize l[k] = x at *
      have t0 : (x.kind != x.kind) = false := by simp
      have t1 : (x.step != x.step) = false := by simp
      have t2 : (x.ref != x.ref) = false := by simp
      go_wp2_with fail
      go_quiet (fail)
      go_wp2
      go_roundw
      case rel => exact ⟨k + 1, by omega, by go_num, hq.drewN⟩
      case measure => simp [intOf]; omega
    · go_wp2
      go_ret
      exact ⟨rfl, hq⟩

set_option maxRecDepth 100000 in
set_option maxHeartbeats 1000000 in
theorem sameInts_eq (va vb : Value) (l : List Int) (w : World) (ha : Ints w va l) (hb : Ints w vb l) :
    Calls Tryz.prog 51 #[va, vb] w fun e w' => e = .returned (.bool true) ∧ Quiet w w' := by
  obtain ⟨a, n, cap, rfl⟩ := Arr.shape ha
  obtain ⟨b, m, cap', rfl⟩ := Arr.shape hb
  obtain ⟨hn, hm⟩ := Arr.len ha
  obtain ⟨hn', _⟩ := Arr.len hb
  simp only [List.length_map] at hn hn'
  obtain rfl : m = n := by omega
  have HN : Hid (m = l.length) := hn
  clear hn hn'
  go_enter Tryz.func51, Tryz.ntmps51
  go_wp2
  go_loopw [5] (fun i wr => ∃ k : Nat, k ≤ m ∧ i = .int .i64 k ∧ Quiet w wr) (fun i _ => m - (intOf i).toNat)
  case atStart => exact ⟨0, Nat.zero_le _, rfl, Below.refl _ _⟩
  case round =>
    obtain ⟨k, hk, rfl, hq⟩ := hrel
    by_cases hlt : k < m
    · have hkl : k < l.length := by have := HN.out; omega
      obtain ⟨b1, o1, rfl, hb1, c0⟩ := (ha.quiet hq).cell k hkl
      obtain ⟨b2, o2, rfl, hb2, d0⟩ := (hb.quiet hq).cell k hkl
      have hki : (0 : Int) ≤ (k : Int) := by omega
      have hkj : (k : Int) < (m : Int) := by omega
      generalize l[k] = x at *
      have t0 : (x != x) = false := by simp
      go_wp2_with fail
      go_quiet (fail)
      go_wp2
      go_roundw
      case rel => exact ⟨k + 1, by omega, by go_num, hq.drewN⟩
      case measure => simp [intOf]; omega
    · go_wp2
      go_ret
      exact ⟨rfl, hq⟩

/-- A slice of answers. -/
def Answers (w : World) (v : Value) (l : List Answer) : Prop := Arr w 4 v (l.map Answer.cells)
theorem Answers.cell {w : World} {n cap : Nat} {a : Option Addr} {l : List Answer} (h : Answers w (.slice a n cap) l) (k : Nat) (hk : k < l.length) :
    ∃ b off, a = some ⟨b, off, none⟩ ∧ b < w.heap.size ∧
      w.cell? ⟨b, off + k * 4, none⟩ = some (.int .i64 l[k].code) ∧ w.cell? ⟨b, off + k * 4 + 1, none⟩ = some (.int .i64 l[k].number) ∧ w.cell? ⟨b, off + k * 4 + 2, none⟩ = some (.int .i64 l[k].step) ∧ w.cell? ⟨b, off + k * 4 + 3, none⟩ = some (.int .i64 l[k].what) := by
  obtain ⟨b, off, ha, hx⟩ := Arr.row h k (by simpa using hk)
  simp only [List.getElem_map] at hx
  exact ⟨b, off, ha, hx.lt, hx.four⟩

set_option maxRecDepth 100000 in
set_option maxHeartbeats 1000000 in
theorem sameAnswers_eq (va vb : Value) (l : List Answer) (w : World) (ha : Answers w va l) (hb : Answers w vb l) :
    Calls Tryz.prog 17 #[va, vb] w fun e w' => e = .returned (.bool true) ∧ Quiet w w' := by
  obtain ⟨a, n, cap, rfl⟩ := Arr.shape ha
  obtain ⟨b, m, cap', rfl⟩ := Arr.shape hb
  obtain ⟨hn, hm⟩ := Arr.len ha
  obtain ⟨hn', _⟩ := Arr.len hb
  simp only [List.length_map] at hn hn'
  obtain rfl : m = n := by omega
  have HN : Hid (m = l.length) := hn
  clear hn hn'
  go_enter Tryz.func17, Tryz.ntmps17
  go_wp2
  go_loopw [5] (fun i wr => ∃ k : Nat, k ≤ m ∧ i = .int .i64 k ∧ Quiet w wr) (fun i _ => m - (intOf i).toNat)
  case atStart => exact ⟨0, Nat.zero_le _, rfl, Below.refl _ _⟩
  case round =>
    obtain ⟨k, hk, rfl, hq⟩ := hrel
    by_cases hlt : k < m
    · have hkl : k < l.length := by have := HN.out; omega
      obtain ⟨b1, o1, rfl, hb1, c0, c1, c2, c3⟩ := Answers.cell (Arr.quiet ha hq) k hkl
      obtain ⟨b2, o2, rfl, hb2, d0, d1, d2, d3⟩ := Answers.cell (Arr.quiet hb hq) k hkl
      have hki : (0 : Int) ≤ (k : Int) := by omega
      have hkj : (k : Int) < (m : Int) := by omega
      generalize l[k] = x at *
      have t0 : (x.code != x.code) = false := by simp
      have t1 : (x.number != x.number) = false := by simp
      have t2 : (x.step != x.step) = false := by simp
      have t3 : (x.what != x.what) = false := by simp
      go_wp2_with (go_at_call 13; refine (num_any _ _).mono ?_; rintro e w' ⟨rfl, rfl⟩)
      go_quiet (fail)
      go_wp2
      go_roundw
      case rel => exact ⟨k + 1, by omega, by go_num, hq.drewN⟩
      case measure => simp [intOf]; omega
    · go_wp2
      go_ret
      exact ⟨rfl, hq⟩

end Go.Proofs.YtgcjlgaapiefiabGreat

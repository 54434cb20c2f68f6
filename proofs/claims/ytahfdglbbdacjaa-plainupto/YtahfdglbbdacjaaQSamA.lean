import Derived.Test.YtahfdglbbdacjaaQAnsC

/-
  Walks of the laws' own filter: plain.
-/
namespace Go.Proofs.Ytahfdglbbdacjaa
open Go.RowKit

theorem Try.info55 : (Try.prog.info? 55).map (fun i => (i.zero, i.size, i.bytes)) = some (some (.agg #[.int .i64 0, .int .i64 0, .int .i64 0, .int .i64 0, .int .i64 0, .string ⟨#[]⟩, .bool false]), 7, 64) := by kernel_rfl

def cmdVals (l : List Cmd) : List Value := (l.map Cmd.cells).flatten
def plainStep (l : List Cmd) (c : Cmd) : List Cmd := if 1 ≤ c.kind ∧ c.kind ≤ 4 then l ++ [{ c with dry := false }] else l
def plainR (l : List Cmd) : List Cmd := l.foldl plainStep []
theorem plainR_len (l : List Cmd) : (plainR l).length ≤ l.length := by
  unfold plainR
  suffices h : ∀ z : List Cmd, (l.foldl plainStep z).length ≤ z.length + l.length by have := h []; simpa using this
  induction l with
  | nil => intro z; simp
  | cons c l ih =>
    intro z
    have := ih (plainStep z c)
    have h2 : (plainStep z c).length ≤ z.length + 1 := by unfold plainStep; split <;> simp
    simp only [List.foldl_cons, List.length_cons]
    omega

set_option maxRecDepth 100000 in
set_option maxHeartbeats 1000000 in
theorem plain_any (v : Value) (l : List Cmd) (w : World) (h : Cmds w v l) (hl : l.length ≤ 1099511627776) :
    Calls Try.prog 16 #[v] w fun e w' => ∃ a n cap, e = .returned (.slice a n cap) ∧ w'.ownsRow w.heap.size 55 7 (.slice a n cap) n (cmdVals (plainR l)) ∧ n = (plainR l).length ∧ Quiet w w' := by
  obtain ⟨i0, hi, hz0, hz1, hz2⟩ := info_parts Try.info55
  obtain ⟨a, n, cap, rfl⟩ := h.1.shape
  obtain ⟨hn, hm⟩ := h.len
  have hn40 : n ≤ 1099511627776 := by omega
  have HN : Hid (n = l.length) := hn
  clear hn
  go_enter Try.func16, Try.ntmps16
  go_wp2
  go_loopw [3, 4] (fun v i wr => ∃ (k : Nat) (a' : Option Addr) (n' cap' : Nat), k ≤ n ∧ i = .int .i64 k ∧ v = .slice a' n' cap' ∧ Hid (n' = (plainR (l.take k)).length) ∧ wr.ownsRow w.heap.size 55 7 (.slice a' n' cap') n' (cmdVals (plainR (l.take k))) ∧ Quiet w wr) (fun _ i _ => n - (intOf i).toNat)
  case atStart => exact ⟨0, none, 0, 0, Nat.zero_le _, rfl, rfl, rfl, World.ownsRow_nil _ _ _ _, Below.refl _ _⟩
  case round =>
    obtain ⟨k, a', n', cap', hk, rfl, rfl, HL, hrow, hqr⟩ := hrel
    by_cases hlt : k < n
    · have hkl : k < l.length := by have := HN.out; omega
      obtain ⟨b, off, rfl, hb, c0, c1, c2, c3, c4, c5, c6⟩ := (h.quiet hqr).cell k hkl
      have hpl := plainR_len (l.take k)
      have hn' : n' ≤ 1099511627776 := by have := HL.out; simp at hpl; omega
      clear hpl
      have HS : Hid (plainR (l.take (k + 1)) = plainStep (plainR (l.take k)) l[k]) := foldl_take_succ _ _ _ _ hkl
      generalize l[k] = c at *
      by_cases u1 : 1 ≤ c.kind
      · by_cases u2 : c.kind ≤ 4
        · have HS' : Hid (plainR (l.take (k + 1)) = plainR (l.take k) ++ [{ c with dry := false }]) := by
            show plainR (l.take (k + 1)) = _
            rw [HS.out, plainStep, if_pos ⟨u1, u2⟩]
          clear HS
          go_wp2_with (at_builtin; refine wpList_append_own _ rfl _ _ 29 rfl w.heap.size 55 i0 (.agg #[.int .i64 0, .int .i64 0, .int .i64 0, .int .i64 0, .int .i64 0, .string ⟨#[]⟩, .bool false]) 7 64 Try.underlying29 hi hz0 hz1 hz2 rfl (by decide) _ _ _ rfl ((hrow.alloc _).alloc _) ⟨wr.heap.size + 1, 0, none⟩ 1 1 [.int .i64 c.kind, .int .i64 c.inst, .int .i64 c.a, .int .i64 c.b, .int .i64 c.who, .string c.reason, .bool false] rfl rfl ?c1 ?c2 ?c3 ?c4 ?c5 ?_)
          case c1 =>
            have := World.news_of_block (heap_alloc_new (wr.alloc (.cells #[.int .i64 c.kind, .int .i64 c.inst, .int .i64 c.a, .int .i64 c.b, .int .i64 c.who, .string c.reason, .bool false] 55)) (.cells #[.int .i64 c.kind, .int .i64 c.inst, .int .i64 c.a, .int .i64 c.b, .int .i64 c.who, .string c.reason, .bool false] 55))
            simpa using this
          case c2 => intro u hu; simp at hu; rcases hu with rfl | rfl | rfl | rfl | rfl | rfl | rfl <;> rfl
          case c3 => unfold maxLen; omega
          case c4 => omega
          case c5 => have := hqr.size; simp; omega
          intro v' w2 hown2 hgrow _
          obtain ⟨a2, cap2, rfl⟩ := own_shape hown2
          have hq2 : Quiet w w2 := Below.grown ((hqr.alloc hqr.size _).alloc (by have := hqr.size; simp; omega) _) hgrow (by have := hqr.size; simp; omega) (fun k hk => (own_ge hrow k hk).1)
          clear hgrow hrow hqr c0 c1 c2 c3 c4 c5 c6 hb
          go_wp2
          go_roundw
          case rel => exact ⟨k + 1, a2, n' + 1, cap2, by omega, by go_num, rfl, by rw [HS'.out]; have := HL.out; show n' + 1 = _; simp; omega, by rw [HS'.out]; simpa [cmdVals, Cmd.cells] using hown2, hq2⟩
          case measure => simp [intOf]; omega
        · have HS' : Hid (plainR (l.take (k + 1)) = plainR (l.take k)) := by
            show plainR (l.take (k + 1)) = _
            rw [HS.out, plainStep, if_neg (fun h => u2 h.2)]
          clear HS
          go_wp2
          go_roundw
          case rel => exact ⟨k + 1, a', n', cap', by omega, by go_num, rfl, by rw [HS'.out]; exact HL, by rw [HS'.out]; exact hrow.alloc _, hqr.alloc hqr.size _⟩
          case measure => simp [intOf]; omega
      · have HS' : Hid (plainR (l.take (k + 1)) = plainR (l.take k)) := by
          show plainR (l.take (k + 1)) = _
          rw [HS.out, plainStep, if_neg (fun h => u1 h.1)]
        clear HS
        have u1' : decide (1 ≤ c.kind) = false := by simpa using u1
        go_wp2
        go_roundw
        case rel => exact ⟨k + 1, a', n', cap', by omega, by go_num, rfl, by rw [HS'.out]; exact HL, by rw [HS'.out]; exact hrow.alloc _, hqr.alloc hqr.size _⟩
        case measure => simp [intOf]; omega
    · have hkn : l.take k = l := by have := HN.out; rw [List.take_of_length_le (by omega)]
      rw [hkn] at hrow HL
      go_wp2
      go_ret
      exact ⟨a', n', cap', rfl, hrow, HL.out, hqr⟩

end Go.Proofs.Ytahfdglbbdacjaa

/-
  Walks of the laws' own comparisons: what is the same is found the same.
-/
namespace Go.Proofs.Ytahfdglbbdacjaa
open Go.RowKit

set_option maxRecDepth 100000 in
set_option maxHeartbeats 1000000 in
theorem sameEntries_eq (va vb : Value) (l : List Entry) (w : World) (ha : Ents w va l) (hb : Ents w vb l) :
    Calls Try.prog 56 #[va, vb] w fun e w' => e = .returned (.bool true) ∧ Quiet w w' := by
  obtain ⟨a, n, cap, rfl⟩ := ha.1.shape
  obtain ⟨b, m, cap', rfl⟩ := hb.1.shape
  obtain ⟨hn, hm⟩ := ha.len
  obtain ⟨hn', _⟩ := hb.len
  obtain rfl : m = n := by omega
  have HN : Hid (m = l.length) := hn
  clear hn hn'
  go_enter Try.func56, Try.ntmps56
  go_wp2
  go_loopw [5] (fun i wr => ∃ k : Nat, k ≤ m ∧ i = .int .i64 k ∧ Quiet w wr) (fun i _ => m - (intOf i).toNat)
  case atStart => exact ⟨0, Nat.zero_le _, rfl, Below.refl _ _⟩
  case round =>
    obtain ⟨k, hk, rfl, hq⟩ := hrel
    by_cases hlt : k < m
    · have hkl : k < l.length := by have := HN.out; omega
      obtain ⟨b1, o1, rfl, hb1, c0, c1, c2⟩ := (ha.quiet hq).cell k hkl
      obtain ⟨b2, o2, rfl, hb2, d0, d1, d2⟩ := (hb.quiet hq).cell k hkl
      have hki : (0 : Int) ≤ (k : Int) := by omega
      have hkj : (k : Int) < (m : Int) := by omega
      generalize l[k] = x at *
      have t0 : (x.kind != x.kind) = false := by simp
      have t1 : (x.step != x.step) = false := by simp
      have t2 : (x.ref != x.ref) = false := by simp
      go_wp2_with fail
      go_quiet (fail)
      go_wp2
      go_roundw
      case rel => exact ⟨k + 1, by omega, by go_num, hq.drewN⟩
      case measure => simp [intOf]; omega
    · go_wp2
      go_ret
      exact ⟨rfl, hq⟩

set_option maxRecDepth 100000 in
set_option maxHeartbeats 1000000 in
theorem sameInts_eq (va vb : Value) (l : List Int) (w : World) (ha : Ints w va l) (hb : Ints w vb l) :
    Calls Try.prog 57 #[va, vb] w fun e w' => e = .returned (.bool true) ∧ Quiet w w' := by
  obtain ⟨a, n, cap, rfl⟩ := Arr.shape ha
  obtain ⟨b, m, cap', rfl⟩ := Arr.shape hb
  obtain ⟨hn, hm⟩ := Arr.len ha
  obtain ⟨hn', _⟩ := Arr.len hb
  simp only [List.length_map] at hn hn'
  obtain rfl : m = n := by omega
  have HN : Hid (m = l.length) := hn
  clear hn hn'
  go_enter Try.func57, Try.ntmps57
  go_wp2
  go_loopw [5] (fun i wr => ∃ k : Nat, k ≤ m ∧ i = .int .i64 k ∧ Quiet w wr) (fun i _ => m - (intOf i).toNat)
  case atStart => exact ⟨0, Nat.zero_le _, rfl, Below.refl _ _⟩
  case round =>
    obtain ⟨k, hk, rfl, hq⟩ := hrel
    by_cases hlt : k < m
    · have hkl : k < l.length := by have := HN.out; omega
      obtain ⟨b1, o1, rfl, hb1, c0⟩ := (ha.quiet hq).cell k hkl
      obtain ⟨b2, o2, rfl, hb2, d0⟩ := (hb.quiet hq).cell k hkl
      have hki : (0 : Int) ≤ (k : Int) := by omega
      have hkj : (k : Int) < (m : Int) := by omega
      generalize l[k] = x at *
      have t0 : (x != x) = false := by simp
      go_wp2_with fail
      go_quiet (fail)
      go_wp2
      go_roundw
      case rel => exact ⟨k + 1, by omega, by go_num, hq.drewN⟩
      case measure => simp [intOf]; omega
    · go_wp2
      go_ret
      exact ⟨rfl, hq⟩

/-- A slice of answers. -/
def Answers (w : World) (v : Value) (l : List Answer) : Prop := Arr w 4 v (l.map Answer.cells)
theorem Answers.cell {w : World} {n cap : Nat} {a : Option Addr} {l : List Answer} (h : Answers w (.slice a n cap) l) (k : Nat) (hk : k < l.length) :
    ∃ b off, a = some ⟨b, off, none⟩ ∧ b < w.heap.size ∧
      w.cell? ⟨b, off + k * 4, none⟩ = some (.int .i64 l[k].code) ∧ w.cell? ⟨b, off + k * 4 + 1, none⟩ = some (.int .i64 l[k].number) ∧ w.cell? ⟨b, off + k * 4 + 2, none⟩ = some (.int .i64 l[k].step) ∧ w.cell? ⟨b, off + k * 4 + 3, none⟩ = some (.int .i64 l[k].what) := by
  obtain ⟨b, off, ha, hx⟩ := Arr.row h k (by simpa using hk)
  simp only [List.getElem_map] at hx
  exact ⟨b, off, ha, hx.lt, hx.four⟩

set_option maxRecDepth 100000 in
set_option maxHeartbeats 1000000 in
theorem sameAnswers_eq (va vb : Value) (l : List Answer) (w : World) (ha : Answers w va l) (hb : Answers w vb l) :
    Calls Try.prog 20 #[va, vb] w fun e w' => e = .returned (.bool true) ∧ Quiet w w' := by
  obtain ⟨a, n, cap, rfl⟩ := Arr.shape ha
  obtain ⟨b, m, cap', rfl⟩ := Arr.shape hb
  obtain ⟨hn, hm⟩ := Arr.len ha
  obtain ⟨hn', _⟩ := Arr.len hb
  simp only [List.length_map] at hn hn'
  obtain rfl : m = n := by omega
  have HN : Hid (m = l.length) := hn
  clear hn hn'
  go_enter Try.func20, Try.ntmps20
  go_wp2
  go_loopw [5] (fun i wr => ∃ k : Nat, k ≤ m ∧ i = .int .i64 k ∧ Quiet w wr) (fun i _ => m - (intOf i).toNat)
  case atStart => exact ⟨0, Nat.zero_le _, rfl, Below.refl _ _⟩
  case round =>
    obtain ⟨k, hk, rfl, hq⟩ := hrel
    by_cases hlt : k < m
    · have hkl : k < l.length := by have := HN.out; omega
      obtain ⟨b1, o1, rfl, hb1, c0, c1, c2, c3⟩ := Answers.cell (Arr.quiet ha hq) k hkl
      obtain ⟨b2, o2, rfl, hb2, d0, d1, d2, d3⟩ := Answers.cell (Arr.quiet hb hq) k hkl
      have hki : (0 : Int) ≤ (k : Int) := by omega
      have hkj : (k : Int) < (m : Int) := by omega
      generalize l[k] = x at *
      have t0 : (x.code != x.code) = false := by simp
      have t1 : (x.number != x.number) = false := by simp
      have t2 : (x.step != x.step) = false := by simp
      have t3 : (x.what != x.what) = false := by simp
      go_wp2_with (go_at_call 15; refine (num_any _ _).mono ?_; rintro e w' ⟨rfl, rfl⟩)
      go_quiet (fail)
      go_wp2
      go_roundw
      case rel => exact ⟨k + 1, by omega, by go_num, hq.drewN⟩
      case measure => simp [intOf]; omega
    · go_wp2
      go_ret
      exact ⟨rfl, hq⟩

end Go.Proofs.Ytahfdglbbdacjaa

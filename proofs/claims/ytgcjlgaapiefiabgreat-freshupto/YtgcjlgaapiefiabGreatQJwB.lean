import Derived.Test.YtgcjlgaapiefiabGreatQJwA
import Derived.Lib.AppendStr
import Derived.BigRegion

/-
  Walks of the program: a record's body, its sum.
-/
namespace Go.Proofs.YtgcjlgaapiefiabGreat
open Go.RowKit Go.Lib

theorem strCells_nums (s : ByteArray) : strCells s = (nums s).map (Value.int .u8) := by
  unfold strCells nums; rw [List.map_map]; rfl
theorem bodyL_length (c : Cmd) : (bodyL c).length = 5 + c.reason.size := by unfold bodyL; simp [nums_length]; omega
theorem bodyL_bd (c : Cmd) : ∀ x ∈ bodyL c, 0 ≤ x ∧ x ≤ 255 := by
  intro x hx
  unfold bodyL at hx
  rcases List.mem_append.1 hx with hx | hx
  · simp only [List.mem_cons, List.not_mem_nil, or_false] at hx
    rcases hx with rfl | rfl | rfl | rfl | rfl <;> omega
  · exact nums_bd _ x hx

set_option maxRecDepth 100000 in
set_option maxHeartbeats 4000000 in
theorem body_any (c : Cmd) (w : World) (hr : (namC c).reason.size ≤ 250) :
    Calls Tryz.prog 95 #[c.val] w fun e w' => ∃ v, e = .returned v ∧ w'.ownsRow w.heap.size 5 1 v (5 + (namC c).reason.size) ((bodyL (namC c)).map (Value.int .u8)) ∧ Quiet w w' := by
  obtain ⟨i0, hi, hz0, hz1, hz2⟩ := info_parts Tryz.info5
  have hq0 : ∀ (w : World) o, Quiet w (w.alloc o) := fun w o => (Below.refl _ _).alloc (Nat.le_refl _) _
  have HN : Hid (∀ V, Calls Tryz.prog 113 #[.agg #[.int .i64 c.kind, .int .i64 c.inst, .int .i64 c.a, .int .i64 c.b, .int .i64 c.who, .string c.reason, .bool c.dry]] V fun e w' => e = .returned (namC c).val ∧ Quiet V w') := fun V => named_any c V
  generalize namC c = n at *
  unfold Cmd.val
  go_enter Tryz.func95, Tryz.ntmps95
  go_wp2_with fail
  refine calls_gen (fun V => Quiet w V) (hq0 _ _) ?_
  intro V hqV
  refine (HN.out V).mono ?_
  rintro e w1 ⟨rfl, hq1⟩
  replace hq1 : Quiet w w1 := hqV.after hq1
  clear hqV
  unfold Cmd.val
  have hown : ∀ o o2, o2 = .cells #[.int .u8 (n.kind % 256), .int .u8 (n.inst % 256), .int .u8 (n.a % 256), .int .u8 (n.b % 256), .int .u8 (n.who % 256)] 5 → ((w1.alloc o).alloc o2).ownsRow w.heap.size 5 1 (.slice (some ⟨w1.heap.size + 1, 0, none⟩) 5 5) 5 ([n.kind % 256, n.inst % 256, n.a % 256, n.b % 256, n.who % 256].map (Value.int .u8)) := by
    rintro o o2 rfl
    exact ⟨rfl, .inr ⟨w1.heap.size + 1, 5, _, rfl, by have := hq1.size; omega, Blk.new' (by simp), by omega, by unfold maxLen; omega, rfl, rfl⟩⟩
  go_wp2_with (at_builtin; refine wpList_append_own_string _ rfl _ _ 71 9 rfl w.heap.size 5 i0 Tryz.underlying71 Tryz.underlying9 hi hz0 hz1 hz2 _ 5 _ rfl (hown _ _ rfl) n.reason rfl ?c3 ?c4 ?c5 ?_)
  case c3 => unfold maxLen; omega
  case c4 => omega
  case c5 => have := hq1.size; simp; omega
  intro v' w2 hown2 hgrow _
  have hq2 : Quiet w w2 := Below.grown ((hq1.after (hq0 _ _)).after (hq0 _ _)) hgrow (by have := hq1.size; simp; omega) (fun k hk => by have := hq1.size; simp [Value.ownBlock] at hk; omega)
  have hown3 : w2.ownsRow w.heap.size 5 1 v' (5 + n.reason.size) ((bodyL n).map (Value.int .u8)) := by
    unfold bodyL; rw [List.map_append, ← strCells_nums]; exact hown2
  clear hown hown2 hgrow
  go_wp2
  go_ret
  exact ⟨_, rfl, hown3, hq2⟩

set_option maxRecDepth 100000 in
set_option maxHeartbeats 4000000 in
theorem sum_any (w : World) (g n cap : Nat) (xs : List Int) (hl : xs.length = n) (hn : n ≤ 255) (hb : ∀ x ∈ xs, 0 ≤ x ∧ x ≤ 255) (h : ∀ i, i < n → w.cell? ⟨g, i, none⟩ = some (.int .u8 (xs.getD i 0))) :
    Calls Tryz.prog 96 #[.slice (some ⟨g, 0, none⟩) n cap] w fun e w' => e = .returned (.int .i64 (recSum xs)) ∧ w' = w := by
  have HXB : Hid (∀ x ∈ xs, 0 ≤ x ∧ x ≤ 255) := hb
  have HXL : Hid (xs.length = n) := hl
  have HCell : Hid (∀ i, i < n → w.cell? ⟨g, i, none⟩ = some (.int .u8 (xs.getD i 0))) := h
  clear hb hl h
  go_enter Tryz.func96, Tryz.ntmps96
  go_wp2
  go_loop [3, 4] (fun s i => ∃ k : Nat, k ≤ n ∧ i = .int .i64 k ∧ s = .int .i64 (7 * n + sumTo xs k - 7 * k)) (fun _ i => n - (intOf i).toNat)
  case atStart => exact ⟨0, Nat.zero_le _, rfl, by simp [sumTo]⟩
  case round =>
    obtain ⟨k, hk, rfl, rfl⟩ := hrel
    obtain ⟨s0, s1⟩ := sumTo_bd HXB.out k (by omega)
    by_cases hlt : k < n
    · have ck := HCell.out k hlt
      have hb := getD_bd HXB.out k
      have HS : Hid (sumTo xs (k + 1) = sumTo xs k + 7 + (k + 1) * xs.getD k 0) := rfl
      generalize xs.getD k 0 = x at *
      obtain ⟨hb0, hb1⟩ := hb
      have m0 : 0 ≤ ((k : Int) + 1) * x := Int.mul_nonneg (by omega) hb0
      have m1 : ((k : Int) + 1) * x ≤ 256 * 255 := Int.mul_le_mul (by omega) hb1 hb0 (by omega)
      have hki : (0 : Int) ≤ (k : Int) := by omega
      generalize sumTo xs k = s at *
      go_wp2
      go_round
      case rel => exact ⟨k + 1, by omega, by go_num, by rw [HS.out]; congr 1; omega⟩
      case measure => simp [intOf]; omega
    · have hkn : k = n := by omega
      subst hkn
      have HF : Hid (recSum xs = sumTo xs k % 65521) := by show recSum xs = _; unfold recSum; rw [HXL.out]
      generalize sumTo xs k = s at *
      go_wp2
      go_ret
      refine ⟨?_, rfl⟩
      rw [HF.out]
      have e : 7 * (k : Int) + s - 7 * k = s := by omega
      rw [e]
      rfl

end Go.Proofs.YtgcjlgaapiefiabGreat

/-
  Walks of the program: a record.
-/
namespace Go.Proofs.YtgcjlgaapiefiabGreat
open Go.RowKit Go.Lib

theorem recP_length (c : Cmd) : (recP c).length = 8 + (namC c).reason.size := by unfold recP; rw [recL_len, bodyL_length]; omega
theorem recP_bd (c : Cmd) : ∀ x ∈ recP c, 0 ≤ x ∧ x ≤ 255 := recL_bd (bodyL_bd _)
theorem recSum_bd (xs : List Int) : 0 ≤ recSum xs ∧ recSum xs < 65521 := by unfold recSum; omega

/-- Cells of one's own bytes, as news of an append. -/
theorem own_news {w : World} {g n : Nat} {xs : List Int} (hl : xs.length = n) (h : ∀ i, i < n → w.cell? ⟨g, i, none⟩ = some (.int .u8 (xs.getD i 0))) : ∀ j u, (xs.map (Value.int .u8))[j]? = some u → w.cell? ((⟨g, 0, none⟩ : Addr).add j) = some u := by
  intro j u hj
  have hjl : j < xs.length := by have := (List.getElem?_eq_some_iff.1 hj).1; simpa using this
  have h2 : (⟨g, 0, none⟩ : Addr).add j = ⟨g, j, none⟩ := by unfold Addr.add; split <;> simp_all
  rw [h2, h j (by omega), ← hj, List.getElem?_map, List.getElem?_eq_getElem hjl, List.getD, List.getElem?_eq_getElem hjl]
  rfl

set_option maxRecDepth 100000 in
set_option maxHeartbeats 4000000 in
theorem recordP_any (c : Cmd) (w : World) (hr : (namC c).reason.size ≤ 250) :
    Calls Tryz.prog 72 #[c.val] w fun e w' => ∃ v, e = .returned v ∧ w'.ownsRow w.heap.size 5 1 v (8 + (namC c).reason.size) ((recP c).map (Value.int .u8)) ∧ Quiet w w' := by
  obtain ⟨i0, hi, hz0, hz1, hz2⟩ := info_parts Tryz.info5
  have hq0 : ∀ (w : World) o, Quiet w (w.alloc o) := fun w o => (Below.refl _ _).alloc (Nat.le_refl _) _
  have HB : Hid (∀ V, Calls Tryz.prog 95 #[.agg #[.int .i64 c.kind, .int .i64 c.inst, .int .i64 c.a, .int .i64 c.b, .int .i64 c.who, .string c.reason, .bool c.dry]] V fun e w' => ∃ v, e = .returned v ∧ w'.ownsRow V.heap.size 5 1 v (5 + (namC c).reason.size) ((bodyL (namC c)).map (Value.int .u8)) ∧ Quiet V w') := fun V => body_any c V hr
  have HR : Hid (recP c = [((5 + (namC c).reason.size : Nat) : Int)] ++ bodyL (namC c) ++ [recSum (bodyL (namC c)) % 256, recSum (bodyL (namC c)) / 256]) := by
    show recP c = _
    have := recSum_bd (bodyL (namC c))
    unfold recP recL
    rw [bodyL_length, show ((5 + (namC c).reason.size : Nat) : Int) % 256 = ((5 + (namC c).reason.size : Nat) : Int) by omega, show recSum (bodyL (namC c)) / 256 % 256 = recSum (bodyL (namC c)) / 256 by omega]
  have HXB : Hid (∀ x ∈ bodyL (namC c), 0 ≤ x ∧ x ≤ 255) := bodyL_bd _
  have HXL : Hid ((bodyL (namC c)).length = 5 + (namC c).reason.size) := bodyL_length _
  rw [HR.out]
  clear HR
  generalize bodyL (namC c) = xs at *
  generalize (namC c).reason.size = m at *
  obtain ⟨s, HS⟩ : ∃ s, Hid (s = recSum xs) := ⟨_, rfl⟩
  rw [← HS.out]
  have hsb : 0 ≤ s ∧ s < 65521 := by rw [HS.out]; exact recSum_bd xs
  obtain ⟨s0, s1⟩ := hsb
  unfold Cmd.val
  go_enter Tryz.func72, Tryz.ntmps72
  go_wp2_with fail
  refine calls_gen (fun V => Quiet w V) (by first | exact Below.refl _ _ | exact hq0 _ _) ?_
  intro V hqV
  refine (HB.out V).mono ?_
  rintro e w1 ⟨v1, rfl, hown1, hq1⟩
  replace hown1 := own_base hown1 hqV.size
  replace hq1 : Quiet w w1 := hqV.after hq1
  clear hqV HB
  obtain ⟨g, cap, rfl, hg, hxl, hcell⟩ := own_bytes hown1 (by omega)
  have HCell : Hid (∀ i, i < 5 + m → w1.cell? ⟨g, i, none⟩ = some (.int .u8 (xs.getD i 0))) := hcell
  clear hcell hxl
  have HSum : Hid (∀ V, Quiet w1 V → Calls Tryz.prog 96 #[.slice (some ⟨g, 0, none⟩) (5 + m) cap] V fun e w' => e = .returned (.int .i64 s) ∧ w' = V) := fun V hV => by
    rw [HS.out]
    exact sum_any V g (5 + m) cap xs HXL.out (by omega) HXB.out (fun i hi => ((bcell hV).1 g i hg).trans (HCell.out i hi))
  go_wp2_with fail
  refine (HSum.out _ (by first | exact Below.refl _ _ | exact hq0 _ _)).mono ?_
  rintro e w2 ⟨rfl, hww⟩
  obtain rfl := hww.symm
  clear hww
  have hown2 : ∀ z, (w1.alloc (.cells #[.int .u8 z] 5)).ownsRow w.heap.size 5 1 (.slice (some ⟨w1.heap.size, 0, none⟩) 1 1) 1 ([z].map (Value.int .u8)) := fun z =>
    ⟨rfl, .inr ⟨w1.heap.size, 1, _, rfl, by have := hq1.size; omega, Blk.new' rfl, by omega, by unfold maxLen; omega, rfl, rfl⟩⟩
  go_wp2_with (at_builtin; refine wpList_append_own _ rfl _ _ 71 rfl w.heap.size 5 i0 (.int .u8 0) 1 1 Tryz.underlying71 hi hz0 hz1 hz2 rfl (by decide) _ _ _ rfl (hown2 _) ⟨g, 0, none⟩ (5 + m) _ (xs.map (Value.int .u8)) rfl ?c0 ?c1 ?c2 ?c3 ?c4 ?c5 ?_)
  case c0 => simp [HXL.out]
  case c1 => exact own_news HXL.out (fun i hi => ((bcell (hq0 w1 _)).1 g i hg).trans (HCell.out i hi))
  case c2 => intro u hu; simp at hu; obtain ⟨x, _, rfl⟩ := hu; rfl
  case c3 => unfold maxLen; omega
  case c4 => omega
  case c5 => have := hq1.size; simp; omega
  intro v3 w3 hown3 hgrow3 _
  have hq3 : Quiet w w3 := Below.grown (hq1.after (hq0 _ _)) hgrow3 (by have := hq1.size; simp; omega) (fun k hk => by have := hq1.size; simp [Value.ownBlock] at hk; omega)
  clear hgrow3 hown2 HSum
  obtain ⟨a3, cap3, rfl⟩ := own_shape hown3
  go_wp2_with (at_builtin; refine wpList_append_own _ rfl _ _ 71 rfl w.heap.size 5 i0 (.int .u8 0) 1 1 Tryz.underlying71 hi hz0 hz1 hz2 rfl (by decide) _ _ _ rfl (hown3.alloc _) ⟨w3.heap.size, 0, none⟩ 2 2 ([s % 256, s / 256].map (Value.int .u8)) rfl rfl ?c1 ?c2 ?c3 ?c4 ?c5 ?_)
  case c1 =>
    have := World.news_of_block (heap_alloc_new w3 (.cells #[.int .u8 (s % 256), .int .u8 (s / 256)] 5))
    simpa using this
  case c2 => intro u hu; simp at hu; rcases hu with rfl | rfl <;> rfl
  case c3 => unfold maxLen; omega
  case c4 => omega
  case c5 => have := hq3.size; simp; omega
  intro v4 w4 hown4 hgrow4 _
  have hq4 : Quiet w w4 := Below.grown (hq3.after (hq0 _ _)) hgrow4 (by have := hq3.size; simp; omega) (fun k hk => (own_ge hown3 k hk).1)
  have hown5 : w4.ownsRow w.heap.size 5 1 v4 (8 + m) ((((5 + m : Nat) : Int) :: (xs ++ [s % 256, s / 256])).map (Value.int .u8)) := by
    have e : 1 + (5 + m) + 2 = 8 + m := by omega
    rw [← e]
    simpa using hown4
  clear hown4 hown3 hgrow4
  go_wp2
  go_ret
  exact ⟨_, rfl, hown5, hq4⟩

end Go.Proofs.YtgcjlgaapiefiabGreat

/-
  Walks of the program: what bytes begin with.
-/
namespace Go.Proofs.YtgcjlgaapiefiabGreat
open Go.RowKit Go.Lib

theorem byteAt_get (r : ByteArray) (k : Nat) (h : k < r.size) : byteAt r k = ((r[k]'h).toNat : Int) := by
  unfold byteAt nums
  have h' : k < r.data.toList.length := by rw [Array.length_toList]; exact h
  rw [List.getD, List.getElem?_map, List.getElem?_eq_getElem h']
  rfl
theorem idx_byte (r : ByteArray) (k : Nat) (h : k < r.size) (U : World) : (Instr.index 9 (.string r) (.int .i64 k)).run Tryz.prog U = .ok (.int .u8 (byteAt r k)) U := by
  rw [run_index_string U 9 r .i64 k Tryz.underlying9, dif_pos ⟨by omega, by omega⟩, byteAt_get r k h]
  rfl
theorem toList_beq (a b : ByteArray) : (a.toList == b.toList) = decide (a = b) := by
  by_cases h : a = b
  · subst h; simp
  · have : a.toList ≠ b.toList := by
      intro e
      rw [ByteArray.toList_eq, ByteArray.toList_eq] at e
      exact h (ByteArray.ext (Array.toList_inj.1 e))
    simp [h, this]
theorem size_none (r : ByteArray) : r = ⟨#[]⟩ ↔ r.size = 0 := by
  constructor
  · rintro rfl; rfl
  · intro h; apply ByteArray.ext; exact Array.eq_empty_of_size_eq_zero h

theorem not_empty (r : ByteArray) (h0 : r.size ≠ 0) : r.toList.isEmpty = false := by
  rw [ByteArray.toList_eq, List.isEmpty_eq_false_iff]
  intro e
  have : r.data.toList.length = 0 := by rw [e]; rfl
  rw [Array.length_toList] at this
  exact h0 this

def wholeR (r : ByteArray) : Int := if r.size = 0 then 0 else if (r.size : Int) < byteAt r 0 + 3 then 0 else byteAt r 0 + 3

set_option maxRecDepth 100000 in
set_option maxHeartbeats 1000000 in
theorem whole_any (r : ByteArray) (w : World) (hr : r.size ≤ 9223372036854775807) :
    Calls Tryz.prog 73 #[.string r] w fun e w' => e = .returned (.int .i64 (wholeR r)) ∧ w' = w := by
  by_cases h0 : r.size = 0
  · have HW : Hid (wholeR r = 0) := by show wholeR r = 0; unfold wholeR; rw [if_pos h0]
    have he : r = ⟨#[]⟩ := (size_none r).2 h0
    rw [HW.out]
    subst he
    go_enter Tryz.func73, Tryz.ntmps73
    go_wp2
    go_ret
    exact ⟨rfl, rfl⟩
  · have hne : r.toList.isEmpty = false := not_empty r h0
    have h1 : ((r[0]'(by omega)).toNat : Int) = byteAt r 0 := (byteAt_get r 0 (by omega)).symm
    have hpos : 0 < r.size := by omega
    obtain ⟨b0, b1⟩ := byteAt_bd r 0
    have HW : Hid (wholeR r = if (r.size : Int) < byteAt r 0 + 3 then 0 else byteAt r 0 + 3) := by show wholeR r = _; unfold wholeR; rw [if_neg h0]
    rw [HW.out]
    generalize byteAt r 0 = x at *
    clear HW
    by_cases hs : (r.size : Int) < 1 + x + 2
    · rw [if_pos (by omega)]
      go_enter Tryz.func73, Tryz.ntmps73
      go_wp2
      go_ret
      exact ⟨rfl, rfl⟩
    · rw [if_neg (by omega)]
      go_enter Tryz.func73, Tryz.ntmps73
      go_wp2
      go_ret
      refine ⟨?_, rfl⟩
      first | rfl | (rw [show 1 + x + 2 = x + 3 by omega]; rfl)

end Go.Proofs.YtgcjlgaapiefiabGreat

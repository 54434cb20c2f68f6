import Derived.Test.YtgcjlgaapiefiabGreatQAnsA
import Derived.Test.YtgcjlgaapiefiabGreatQData
import Derived.Laws.BytesArg
import Derived.Lib.ConvBytes

/-
  Walks of the document's answer: Record.
-/
namespace Go.Proofs.YtgcjlgaapiefiabGreat
open Go.RowKit

theorem add_strs {P : Program} (xs ys : List Int) (w : World) (hx : xs.length ≤ 100000) (hy : ys.length ≤ 100000) : (Op.stringOp .add (strOfNums xs) (strOfNums ys)).run P w = .ok (.string (strOfNums xs ++ strOfNums ys)) w :=
  run_string_add_sum w _ _ (by rw [strOfNums_size, strOfNums_size]; omega)
theorem add_strs3 {P : Program} (xs ys zs : List Int) (w : World) (hx : xs.length ≤ 100000) (hy : ys.length ≤ 100000) (hz : zs.length ≤ 100000) : (Op.stringOp .add (strOfNums xs ++ strOfNums ys) (strOfNums zs)).run P w = .ok (.string (strOfNums xs ++ strOfNums ys ++ strOfNums zs)) w :=
  run_string_add_sum w _ _ (by rw [ByteArray.size_append, strOfNums_size, strOfNums_size, strOfNums_size]; omega)
/-- Bytes that lie there, as a string. -/
theorem conv_new1 (W : World) (z : Int) : (convert 71 9 (.slice (some ⟨W.heap.size, 0, none⟩) 1 1)).run Tryz.prog (W.alloc (.cells #[.int .u8 z] 5)) = .ok (.string (strOfNums [z])) (W.alloc (.cells #[.int .u8 z] 5)) :=
  run_convert_bytes_arg _ 71 5 Tryz.underlying71 Tryz.underlying5 W.heap.size 0 1 1 [z] rfl (fun i hi => by
    have : i = 0 := by omega
    subst this
    rw [(Blk.new W #[.int .u8 z] 5).cell]; rfl) 9 Tryz.underlying9
theorem conv_new2 (W : World) (z u : Int) : (convert 71 9 (.slice (some ⟨W.heap.size, 0, none⟩) 2 2)).run Tryz.prog (W.alloc (.cells #[.int .u8 z, .int .u8 u] 5)) = .ok (.string (strOfNums [z, u])) (W.alloc (.cells #[.int .u8 z, .int .u8 u] 5)) :=
  run_convert_bytes_arg _ 71 5 Tryz.underlying71 Tryz.underlying5 W.heap.size 0 2 2 [z, u] rfl (fun i hi => by
    rw [(Blk.new W #[.int .u8 z, .int .u8 u] 5).cell]
    match i, hi with
    | 0, _ => rfl
    | 1, _ => rfl) 9 Tryz.underlying9
theorem conv_old (W : World) (g n cap : Nat) (xs : List Int) (hl : xs.length = n) (hg : g < W.heap.size) (h : ∀ i, i < n → W.cell? ⟨g, i, none⟩ = some (.int .u8 (xs.getD i 0))) (o : Obj) :
    (convert 71 9 (.slice (some ⟨g, 0, none⟩) n cap)).run Tryz.prog (W.alloc o) = .ok (.string (strOfNums xs)) (W.alloc o) :=
  run_convert_bytes_arg _ 71 5 Tryz.underlying71 Tryz.underlying5 g 0 n cap xs hl (fun i hi => by
    rw [Nat.zero_add]
    exact (((Below.refl W.heap.size W).alloc (Nat.le_refl _) o).cell (p := ⟨g, i, none⟩) hg).trans (h i hi)) 9 Tryz.underlying9

set_option maxRecDepth 100000 in
set_option maxHeartbeats 4000000 in
theorem record_1 (c : Cmd) (w : World) (hk : c.kind = 1) :
    Calls Tryz.prog 44 #[c.val] w fun e w' => e = .returned (.string (recordR c)) ∧ Quiet w w' := by
  have HX : Hid ([c.kind % 256, c.inst % 256, 0, 0, 0] = recBody c) := by
    show _ = recBody c
    unfold recBody recHead
    rw [if_pos (by omega), if_neg (by omega), if_neg (by omega), if_neg (by omega), if_neg (by omega)]; rfl
  have t1 : (c.kind == 1) = true := by simp; omega
  have t2 : (c.kind == 2) = false := by simp; omega
  have t3 : (c.kind == 3) = false := by simp; omega
  have t5 : (c.kind == 5) = false := by simp; omega
  have t6 : ¬ 2 < c.kind := by omega
  have t7 : ¬ 4 < c.kind := by omega
  have HK : Hid (c.kind = 1) := hk
  clear hk
  unfold Cmd.val
  go_enter Tryz.func44, Tryz.ntmps44
  go_upto_region 13 with (fail)
  obtain ⟨xs, HXS⟩ : ∃ xs, Hid (xs = [c.kind % 256, c.inst % 256, 0, 0, 0]) := ⟨_, rfl⟩
  refine wp_gen (fun W => (∀ i, i < 5 → W.cell? ⟨w.heap.size + 1, i, none⟩ = some (.int .u8 (xs.getD i 0))) ∧ w.heap.size + 1 < W.heap.size ∧ Quiet w W) ⟨?_, by simp, ((Below.refl _ _).alloc (Nat.le_refl _) _).alloc (by simp) _⟩ ?_
  · intro i hi
    rw [HXS.out]
    rw [(Blk.new' (w := w.alloc _) (b := w.heap.size + 1) (by simp)).cell]
    match i, hi with
    | 0, _ => rfl
    | 1, _ => rfl
    | 2, _ => rfl
    | 3, _ => rfl
    | 4, _ => rfl
  rintro W ⟨hcell, hg, hqW⟩
  have HXB : Hid (∀ x ∈ xs, 0 ≤ x ∧ x ≤ 255) := by show ∀ x ∈ xs, _; rw [HXS.out, HX.out]; exact recBody_bd c
  have HXL : Hid (xs.length = 5) := by show xs.length = 5; rw [HXS.out]; rfl
  have HXR : Hid (xs = recBody c) := HXS.out.trans HX.out
  clear HXS HX
  generalize hgg : w.heap.size + 1 = g at *
  clear hgg
  have HCell : Hid (∀ i, i < 5 → W.cell? ⟨g, i, none⟩ = some (.int .u8 (xs.getD i 0))) := hcell
  clear hcell
  go_wp2
  go_loop [5, 6] (fun s i => ∃ k : Nat, k ≤ 5 ∧ i = .int .i64 k ∧ s = .int .i64 (sumTo xs k)) (fun _ i => 5 - (intOf i).toNat)
  case atStart => exact ⟨0, Nat.zero_le _, rfl, rfl⟩
  case round =>
    obtain ⟨k, hk, rfl, rfl⟩ := hrel
    obtain ⟨s0, s1⟩ := sumTo_bd HXB.out k (by omega)
    by_cases hlt : k < 5
    · have ck := HCell.out k hlt
      have hb := getD_bd HXB.out k
      have HS : Hid (sumTo xs (k + 1) = sumTo xs k + 7 + (k + 1) * xs.getD k 0) := rfl
      generalize xs.getD k 0 = x at *
      obtain ⟨hb0, hb1⟩ := hb
      have m0 : 0 ≤ ((k : Int) + 1) * x := Int.mul_nonneg (by omega) hb0
      have m1 : ((k : Int) + 1) * x ≤ 256 * 255 := Int.mul_le_mul (by omega) hb1 hb0 (by omega)
      have hki : (0 : Int) ≤ (k : Int) := by omega
      generalize sumTo xs k = s at *
      go_wp2
      go_round
      case rel => exact ⟨k + 1, by omega, by go_num, by rw [HS.out]⟩
      case measure => simp [intOf]; omega
    · have hkn : k = 5 := by omega
      subst hkn
      have fb := conv_old W g 5 5 xs HXL.out hg HCell.out
      have f1 := conv_new1 W
      have f2 := fun (o : Obj) z u => conv_new2 (W.alloc o) z u
      have a1 := fun z w => add_strs (P := Tryz.prog) [z] xs w (by simp) (by rw [HXL.out]; omega)
      have a2 := fun z y u w => add_strs3 (P := Tryz.prog) [z] xs [y, u] w (by simp) (by rw [HXL.out]; omega) (by simp)
      have HF : Hid (recordR c = strOfNums [5] ++ strOfNums xs ++ strOfNums [sumTo xs 5 % 65521 % 256, sumTo xs 5 % 65521 / 256]) := by
        show recordR c = _
        unfold recordR recSum
        rw [← HXR.out, HXL.out, show sumTo xs 5 % 65521 / 256 % 256 = sumTo xs 5 % 65521 / 256 by omega]
        rfl
      generalize sumTo xs 5 = s at *
      simp only [World.size_alloc] at f2
      go_wp2
      go_ret
      refine ⟨?_, hqW.alloc hqW.size _ |>.alloc (by have := hqW.size; simp; omega) _⟩
      rw [HF.out]
      rfl

set_option maxRecDepth 100000 in
set_option maxHeartbeats 4000000 in
theorem record_2 (c : Cmd) (w : World) (hk : c.kind = 2) :
    Calls Tryz.prog 44 #[c.val] w fun e w' => e = .returned (.string (recordR c)) ∧ Quiet w w' := by
  have HX : Hid ([c.kind % 256, c.inst % 256, 0, 0, 0] = recBody c) := by
    show _ = recBody c
    unfold recBody recHead
    rw [if_pos (by omega), if_neg (by omega), if_neg (by omega), if_neg (by omega), if_neg (by omega)]; rfl
  have t1 : (c.kind == 1) = false := by simp; omega
  have t2 : (c.kind == 2) = true := by simp; omega
  have t3 : (c.kind == 3) = false := by simp; omega
  have t5 : (c.kind == 5) = false := by simp; omega
  have t6 : ¬ 2 < c.kind := by omega
  have t7 : ¬ 4 < c.kind := by omega
  have HK : Hid (c.kind = 2) := hk
  clear hk
  unfold Cmd.val
  go_enter Tryz.func44, Tryz.ntmps44
  go_upto_region 13 with (fail)
  obtain ⟨xs, HXS⟩ : ∃ xs, Hid (xs = [c.kind % 256, c.inst % 256, 0, 0, 0]) := ⟨_, rfl⟩
  refine wp_gen (fun W => (∀ i, i < 5 → W.cell? ⟨w.heap.size + 1, i, none⟩ = some (.int .u8 (xs.getD i 0))) ∧ w.heap.size + 1 < W.heap.size ∧ Quiet w W) ⟨?_, by simp, ((Below.refl _ _).alloc (Nat.le_refl _) _).alloc (by simp) _⟩ ?_
  · intro i hi
    rw [HXS.out]
    rw [(Blk.new' (w := w.alloc _) (b := w.heap.size + 1) (by simp)).cell]
    match i, hi with
    | 0, _ => rfl
    | 1, _ => rfl
    | 2, _ => rfl
    | 3, _ => rfl
    | 4, _ => rfl
  rintro W ⟨hcell, hg, hqW⟩
  have HXB : Hid (∀ x ∈ xs, 0 ≤ x ∧ x ≤ 255) := by show ∀ x ∈ xs, _; rw [HXS.out, HX.out]; exact recBody_bd c
  have HXL : Hid (xs.length = 5) := by show xs.length = 5; rw [HXS.out]; rfl
  have HXR : Hid (xs = recBody c) := HXS.out.trans HX.out
  clear HXS HX
  generalize hgg : w.heap.size + 1 = g at *
  clear hgg
  have HCell : Hid (∀ i, i < 5 → W.cell? ⟨g, i, none⟩ = some (.int .u8 (xs.getD i 0))) := hcell
  clear hcell
  go_wp2
  go_loop [5, 6] (fun s i => ∃ k : Nat, k ≤ 5 ∧ i = .int .i64 k ∧ s = .int .i64 (sumTo xs k)) (fun _ i => 5 - (intOf i).toNat)
  case atStart => exact ⟨0, Nat.zero_le _, rfl, rfl⟩
  case round =>
    obtain ⟨k, hk, rfl, rfl⟩ := hrel
    obtain ⟨s0, s1⟩ := sumTo_bd HXB.out k (by omega)
    by_cases hlt : k < 5
    · have ck := HCell.out k hlt
      have hb := getD_bd HXB.out k
      have HS : Hid (sumTo xs (k + 1) = sumTo xs k + 7 + (k + 1) * xs.getD k 0) := rfl
      generalize xs.getD k 0 = x at *
      obtain ⟨hb0, hb1⟩ := hb
      have m0 : 0 ≤ ((k : Int) + 1) * x := Int.mul_nonneg (by omega) hb0
      have m1 : ((k : Int) + 1) * x ≤ 256 * 255 := Int.mul_le_mul (by omega) hb1 hb0 (by omega)
      have hki : (0 : Int) ≤ (k : Int) := by omega
      generalize sumTo xs k = s at *
      go_wp2
      go_round
      case rel => exact ⟨k + 1, by omega, by go_num, by rw [HS.out]⟩
      case measure => simp [intOf]; omega
    · have hkn : k = 5 := by omega
      subst hkn
      have fb := conv_old W g 5 5 xs HXL.out hg HCell.out
      have f1 := conv_new1 W
      have f2 := fun (o : Obj) z u => conv_new2 (W.alloc o) z u
      have a1 := fun z w => add_strs (P := Tryz.prog) [z] xs w (by simp) (by rw [HXL.out]; omega)
      have a2 := fun z y u w => add_strs3 (P := Tryz.prog) [z] xs [y, u] w (by simp) (by rw [HXL.out]; omega) (by simp)
      have HF : Hid (recordR c = strOfNums [5] ++ strOfNums xs ++ strOfNums [sumTo xs 5 % 65521 % 256, sumTo xs 5 % 65521 / 256]) := by
        show recordR c = _
        unfold recordR recSum
        rw [← HXR.out, HXL.out, show sumTo xs 5 % 65521 / 256 % 256 = sumTo xs 5 % 65521 / 256 by omega]
        rfl
      generalize sumTo xs 5 = s at *
      simp only [World.size_alloc] at f2
      go_wp2
      go_ret
      refine ⟨?_, hqW.alloc hqW.size _ |>.alloc (by have := hqW.size; simp; omega) _⟩
      rw [HF.out]
      rfl

set_option maxRecDepth 100000 in
set_option maxHeartbeats 4000000 in
theorem record_3w (c : Cmd) (w : World) (hk : c.kind = 3 ∧ c.b = 1) :
    Calls Tryz.prog 44 #[c.val] w fun e w' => e = .returned (.string (recordR c)) ∧ Quiet w w' := by
  have HX : Hid ([c.kind, c.inst % 256, c.a % 256, c.b % 256, 0] = recBody c) := by
    show _ = recBody c
    unfold recBody recHead
    rw [show c.kind % 256 = c.kind by omega]; rw [if_pos (by omega), if_pos (by omega), if_pos (by omega), if_neg (by omega), if_neg (by omega)]; rfl
  have t1 : (c.kind == 1) = false := by simp; omega
  have t2 : (c.kind == 2) = false := by simp; omega
  have t3 : (c.kind == 3) = true := by simp; omega
  have t5 : (c.kind == 5) = false := by simp; omega
  have t6 : 2 < c.kind := by omega
  have t7 : ¬ 4 < c.kind := by omega
  have tb : (c.b == 1) = true := by simp; omega
  have HK : Hid (c.kind = 3 ∧ c.b = 1) := hk
  clear hk
  unfold Cmd.val
  go_enter Tryz.func44, Tryz.ntmps44
  go_upto_region 13 with (fail)
  obtain ⟨xs, HXS⟩ : ∃ xs, Hid (xs = [c.kind, c.inst % 256, c.a % 256, c.b % 256, 0]) := ⟨_, rfl⟩
  refine wp_gen (fun W => (∀ i, i < 5 → W.cell? ⟨w.heap.size + 1, i, none⟩ = some (.int .u8 (xs.getD i 0))) ∧ w.heap.size + 1 < W.heap.size ∧ Quiet w W) ⟨?_, by simp, ((Below.refl _ _).alloc (Nat.le_refl _) _).alloc (by simp) _⟩ ?_
  · intro i hi
    rw [HXS.out]
    rw [(Blk.new' (w := w.alloc _) (b := w.heap.size + 1) (by simp)).cell]
    match i, hi with
    | 0, _ => rfl
    | 1, _ => rfl
    | 2, _ => rfl
    | 3, _ => rfl
    | 4, _ => rfl
  rintro W ⟨hcell, hg, hqW⟩
  have HXB : Hid (∀ x ∈ xs, 0 ≤ x ∧ x ≤ 255) := by show ∀ x ∈ xs, _; rw [HXS.out, HX.out]; exact recBody_bd c
  have HXL : Hid (xs.length = 5) := by show xs.length = 5; rw [HXS.out]; rfl
  have HXR : Hid (xs = recBody c) := HXS.out.trans HX.out
  clear HXS HX
  generalize hgg : w.heap.size + 1 = g at *
  clear hgg
  have HCell : Hid (∀ i, i < 5 → W.cell? ⟨g, i, none⟩ = some (.int .u8 (xs.getD i 0))) := hcell
  clear hcell
  go_wp2
  go_loop [5, 6] (fun s i => ∃ k : Nat, k ≤ 5 ∧ i = .int .i64 k ∧ s = .int .i64 (sumTo xs k)) (fun _ i => 5 - (intOf i).toNat)
  case atStart => exact ⟨0, Nat.zero_le _, rfl, rfl⟩
  case round =>
    obtain ⟨k, hk, rfl, rfl⟩ := hrel
    obtain ⟨s0, s1⟩ := sumTo_bd HXB.out k (by omega)
    by_cases hlt : k < 5
    · have ck := HCell.out k hlt
      have hb := getD_bd HXB.out k
      have HS : Hid (sumTo xs (k + 1) = sumTo xs k + 7 + (k + 1) * xs.getD k 0) := rfl
      generalize xs.getD k 0 = x at *
      obtain ⟨hb0, hb1⟩ := hb
      have m0 : 0 ≤ ((k : Int) + 1) * x := Int.mul_nonneg (by omega) hb0
      have m1 : ((k : Int) + 1) * x ≤ 256 * 255 := Int.mul_le_mul (by omega) hb1 hb0 (by omega)
      have hki : (0 : Int) ≤ (k : Int) := by omega
      generalize sumTo xs k = s at *
      go_wp2
      go_round
      case rel => exact ⟨k + 1, by omega, by go_num, by rw [HS.out]⟩
      case measure => simp [intOf]; omega
    · have hkn : k = 5 := by omega
      subst hkn
      have fb := conv_old W g 5 5 xs HXL.out hg HCell.out
      have f1 := conv_new1 W
      have f2 := fun (o : Obj) z u => conv_new2 (W.alloc o) z u
      have a1 := fun z w => add_strs (P := Tryz.prog) [z] xs w (by simp) (by rw [HXL.out]; omega)
      have a2 := fun z y u w => add_strs3 (P := Tryz.prog) [z] xs [y, u] w (by simp) (by rw [HXL.out]; omega) (by simp)
      have HF : Hid (recordR c = strOfNums [5] ++ strOfNums xs ++ strOfNums [sumTo xs 5 % 65521 % 256, sumTo xs 5 % 65521 / 256]) := by
        show recordR c = _
        unfold recordR recSum
        rw [← HXR.out, HXL.out, show sumTo xs 5 % 65521 / 256 % 256 = sumTo xs 5 % 65521 / 256 by omega]
        rfl
      generalize sumTo xs 5 = s at *
      simp only [World.size_alloc] at f2
      go_wp2
      go_ret
      refine ⟨?_, hqW.alloc hqW.size _ |>.alloc (by have := hqW.size; simp; omega) _⟩
      rw [HF.out]
      rfl

set_option maxRecDepth 100000 in
set_option maxHeartbeats 4000000 in
theorem record_3f (c : Cmd) (w : World) (hk : c.kind = 3 ∧ c.b ≠ 1) :
    Calls Tryz.prog 44 #[c.val] w fun e w' => e = .returned (.string (recordR c)) ∧ Quiet w w' := by
  have HX : Hid ([c.kind, c.inst % 256, c.a % 256, 0, 0] = recBody c) := by
    show _ = recBody c
    unfold recBody recHead
    rw [show c.kind % 256 = c.kind by omega]; rw [if_pos (by omega), if_pos (by omega), if_neg (by omega), if_neg (by omega), if_neg (by omega)]; rfl
  have t1 : (c.kind == 1) = false := by simp; omega
  have t2 : (c.kind == 2) = false := by simp; omega
  have t3 : (c.kind == 3) = true := by simp; omega
  have t5 : (c.kind == 5) = false := by simp; omega
  have t6 : 2 < c.kind := by omega
  have t7 : ¬ 4 < c.kind := by omega
  have tb : (c.b == 1) = false := by simp; omega
  have HK : Hid (c.kind = 3 ∧ c.b ≠ 1) := hk
  clear hk
  unfold Cmd.val
  go_enter Tryz.func44, Tryz.ntmps44
  go_upto_region 13 with (fail)
  obtain ⟨xs, HXS⟩ : ∃ xs, Hid (xs = [c.kind, c.inst % 256, c.a % 256, 0, 0]) := ⟨_, rfl⟩
  refine wp_gen (fun W => (∀ i, i < 5 → W.cell? ⟨w.heap.size + 1, i, none⟩ = some (.int .u8 (xs.getD i 0))) ∧ w.heap.size + 1 < W.heap.size ∧ Quiet w W) ⟨?_, by simp, ((Below.refl _ _).alloc (Nat.le_refl _) _).alloc (by simp) _⟩ ?_
  · intro i hi
    rw [HXS.out]
    rw [(Blk.new' (w := w.alloc _) (b := w.heap.size + 1) (by simp)).cell]
    match i, hi with
    | 0, _ => rfl
    | 1, _ => rfl
    | 2, _ => rfl
    | 3, _ => rfl
    | 4, _ => rfl
  rintro W ⟨hcell, hg, hqW⟩
  have HXB : Hid (∀ x ∈ xs, 0 ≤ x ∧ x ≤ 255) := by show ∀ x ∈ xs, _; rw [HXS.out, HX.out]; exact recBody_bd c
  have HXL : Hid (xs.length = 5) := by show xs.length = 5; rw [HXS.out]; rfl
  have HXR : Hid (xs = recBody c) := HXS.out.trans HX.out
  clear HXS HX
  generalize hgg : w.heap.size + 1 = g at *
  clear hgg
  have HCell : Hid (∀ i, i < 5 → W.cell? ⟨g, i, none⟩ = some (.int .u8 (xs.getD i 0))) := hcell
  clear hcell
  go_wp2
  go_loop [5, 6] (fun s i => ∃ k : Nat, k ≤ 5 ∧ i = .int .i64 k ∧ s = .int .i64 (sumTo xs k)) (fun _ i => 5 - (intOf i).toNat)
  case atStart => exact ⟨0, Nat.zero_le _, rfl, rfl⟩
  case round =>
    obtain ⟨k, hk, rfl, rfl⟩ := hrel
    obtain ⟨s0, s1⟩ := sumTo_bd HXB.out k (by omega)
    by_cases hlt : k < 5
    · have ck := HCell.out k hlt
      have hb := getD_bd HXB.out k
      have HS : Hid (sumTo xs (k + 1) = sumTo xs k + 7 + (k + 1) * xs.getD k 0) := rfl
      generalize xs.getD k 0 = x at *
      obtain ⟨hb0, hb1⟩ := hb
      have m0 : 0 ≤ ((k : Int) + 1) * x := Int.mul_nonneg (by omega) hb0
      have m1 : ((k : Int) + 1) * x ≤ 256 * 255 := Int.mul_le_mul (by omega) hb1 hb0 (by omega)
      have hki : (0 : Int) ≤ (k : Int) := by omega
      generalize sumTo xs k = s at *
      go_wp2
      go_round
      case rel => exact ⟨k + 1, by omega, by go_num, by rw [HS.out]⟩
      case measure => simp [intOf]; omega
    · have hkn : k = 5 := by omega
      subst hkn
      have fb := conv_old W g 5 5 xs HXL.out hg HCell.out
      have f1 := conv_new1 W
      have f2 := fun (o : Obj) z u => conv_new2 (W.alloc o) z u
      have a1 := fun z w => add_strs (P := Tryz.prog) [z] xs w (by simp) (by rw [HXL.out]; omega)
      have a2 := fun z y u w => add_strs3 (P := Tryz.prog) [z] xs [y, u] w (by simp) (by rw [HXL.out]; omega) (by simp)
      have HF : Hid (recordR c = strOfNums [5] ++ strOfNums xs ++ strOfNums [sumTo xs 5 % 65521 % 256, sumTo xs 5 % 65521 / 256]) := by
        show recordR c = _
        unfold recordR recSum
        rw [← HXR.out, HXL.out, show sumTo xs 5 % 65521 / 256 % 256 = sumTo xs 5 % 65521 / 256 by omega]
        rfl
      generalize sumTo xs 5 = s at *
      simp only [World.size_alloc] at f2
      go_wp2
      go_ret
      refine ⟨?_, hqW.alloc hqW.size _ |>.alloc (by have := hqW.size; simp; omega) _⟩
      rw [HF.out]
      rfl

set_option maxRecDepth 100000 in
set_option maxHeartbeats 4000000 in
theorem record_4 (c : Cmd) (w : World) (hk : c.kind = 4) :
    Calls Tryz.prog 44 #[c.val] w fun e w' => e = .returned (.string (recordR c)) ∧ Quiet w w' := by
  have HX : Hid ([c.kind, 0, c.a % 256, 0, 0] = recBody c) := by
    show _ = recBody c
    unfold recBody recHead
    rw [show c.kind % 256 = c.kind by omega]; rw [if_neg (by omega), if_pos (by omega), if_neg (by omega), if_neg (by omega), if_neg (by omega)]; rfl
  have t1 : (c.kind == 1) = false := by simp; omega
  have t2 : (c.kind == 2) = false := by simp; omega
  have t3 : (c.kind == 3) = false := by simp; omega
  have t5 : (c.kind == 5) = false := by simp; omega
  have t6 : 2 < c.kind := by omega
  have t7 : ¬ 4 < c.kind := by omega
  have HK : Hid (c.kind = 4) := hk
  clear hk
  unfold Cmd.val
  go_enter Tryz.func44, Tryz.ntmps44
  go_upto_region 13 with (fail)
  obtain ⟨xs, HXS⟩ : ∃ xs, Hid (xs = [c.kind, 0, c.a % 256, 0, 0]) := ⟨_, rfl⟩
  refine wp_gen (fun W => (∀ i, i < 5 → W.cell? ⟨w.heap.size + 1, i, none⟩ = some (.int .u8 (xs.getD i 0))) ∧ w.heap.size + 1 < W.heap.size ∧ Quiet w W) ⟨?_, by simp, ((Below.refl _ _).alloc (Nat.le_refl _) _).alloc (by simp) _⟩ ?_
  · intro i hi
    rw [HXS.out]
    rw [(Blk.new' (w := w.alloc _) (b := w.heap.size + 1) (by simp)).cell]
    match i, hi with
    | 0, _ => rfl
    | 1, _ => rfl
    | 2, _ => rfl
    | 3, _ => rfl
    | 4, _ => rfl
  rintro W ⟨hcell, hg, hqW⟩
  have HXB : Hid (∀ x ∈ xs, 0 ≤ x ∧ x ≤ 255) := by show ∀ x ∈ xs, _; rw [HXS.out, HX.out]; exact recBody_bd c
  have HXL : Hid (xs.length = 5) := by show xs.length = 5; rw [HXS.out]; rfl
  have HXR : Hid (xs = recBody c) := HXS.out.trans HX.out
  clear HXS HX
  generalize hgg : w.heap.size + 1 = g at *
  clear hgg
  have HCell : Hid (∀ i, i < 5 → W.cell? ⟨g, i, none⟩ = some (.int .u8 (xs.getD i 0))) := hcell
  clear hcell
  go_wp2
  go_loop [5, 6] (fun s i => ∃ k : Nat, k ≤ 5 ∧ i = .int .i64 k ∧ s = .int .i64 (sumTo xs k)) (fun _ i => 5 - (intOf i).toNat)
  case atStart => exact ⟨0, Nat.zero_le _, rfl, rfl⟩
  case round =>
    obtain ⟨k, hk, rfl, rfl⟩ := hrel
    obtain ⟨s0, s1⟩ := sumTo_bd HXB.out k (by omega)
    by_cases hlt : k < 5
    · have ck := HCell.out k hlt
      have hb := getD_bd HXB.out k
      have HS : Hid (sumTo xs (k + 1) = sumTo xs k + 7 + (k + 1) * xs.getD k 0) := rfl
      generalize xs.getD k 0 = x at *
      obtain ⟨hb0, hb1⟩ := hb
      have m0 : 0 ≤ ((k : Int) + 1) * x := Int.mul_nonneg (by omega) hb0
      have m1 : ((k : Int) + 1) * x ≤ 256 * 255 := Int.mul_le_mul (by omega) hb1 hb0 (by omega)
      have hki : (0 : Int) ≤ (k : Int) := by omega
      generalize sumTo xs k = s at *
      go_wp2
      go_round
      case rel => exact ⟨k + 1, by omega, by go_num, by rw [HS.out]⟩
      case measure => simp [intOf]; omega
    · have hkn : k = 5 := by omega
      subst hkn
      have fb := conv_old W g 5 5 xs HXL.out hg HCell.out
      have f1 := conv_new1 W
      have f2 := fun (o : Obj) z u => conv_new2 (W.alloc o) z u
      have a1 := fun z w => add_strs (P := Tryz.prog) [z] xs w (by simp) (by rw [HXL.out]; omega)
      have a2 := fun z y u w => add_strs3 (P := Tryz.prog) [z] xs [y, u] w (by simp) (by rw [HXL.out]; omega) (by simp)
      have HF : Hid (recordR c = strOfNums [5] ++ strOfNums xs ++ strOfNums [sumTo xs 5 % 65521 % 256, sumTo xs 5 % 65521 / 256]) := by
        show recordR c = _
        unfold recordR recSum
        rw [← HXR.out, HXL.out, show sumTo xs 5 % 65521 / 256 % 256 = sumTo xs 5 % 65521 / 256 by omega]
        rfl
      generalize sumTo xs 5 = s at *
      simp only [World.size_alloc] at f2
      go_wp2
      go_ret
      refine ⟨?_, hqW.alloc hqW.size _ |>.alloc (by have := hqW.size; simp; omega) _⟩
      rw [HF.out]
      rfl

set_option maxRecDepth 100000 in
set_option maxHeartbeats 4000000 in
theorem record_hi (c : Cmd) (w : World) (hk : 5 < c.kind) :
    Calls Tryz.prog 44 #[c.val] w fun e w' => e = .returned (.string (recordR c)) ∧ Quiet w w' := by
  have HX : Hid ([c.kind % 256, 0, c.a % 256, 0, c.who % 256] = recBody c) := by
    show _ = recBody c
    unfold recBody recHead
    rw [if_neg (by omega), if_pos (by omega), if_neg (by omega), if_pos (by omega), if_neg (by omega)]; rfl
  have t1 : (c.kind == 1) = false := by simp; omega
  have t2 : (c.kind == 2) = false := by simp; omega
  have t3 : (c.kind == 3) = false := by simp; omega
  have t5 : (c.kind == 5) = false := by simp; omega
  have t6 : 2 < c.kind := by omega
  have t7 : 4 < c.kind := by omega
  have HK : Hid (5 < c.kind) := hk
  clear hk
  unfold Cmd.val
  go_enter Tryz.func44, Tryz.ntmps44
  go_upto_region 13 with (fail)
  obtain ⟨xs, HXS⟩ : ∃ xs, Hid (xs = [c.kind % 256, 0, c.a % 256, 0, c.who % 256]) := ⟨_, rfl⟩
  refine wp_gen (fun W => (∀ i, i < 5 → W.cell? ⟨w.heap.size + 1, i, none⟩ = some (.int .u8 (xs.getD i 0))) ∧ w.heap.size + 1 < W.heap.size ∧ Quiet w W) ⟨?_, by simp, ((Below.refl _ _).alloc (Nat.le_refl _) _).alloc (by simp) _⟩ ?_
  · intro i hi
    rw [HXS.out]
    rw [(Blk.new' (w := w.alloc _) (b := w.heap.size + 1) (by simp)).cell]
    match i, hi with
    | 0, _ => rfl
    | 1, _ => rfl
    | 2, _ => rfl
    | 3, _ => rfl
    | 4, _ => rfl
  rintro W ⟨hcell, hg, hqW⟩
  have HXB : Hid (∀ x ∈ xs, 0 ≤ x ∧ x ≤ 255) := by show ∀ x ∈ xs, _; rw [HXS.out, HX.out]; exact recBody_bd c
  have HXL : Hid (xs.length = 5) := by show xs.length = 5; rw [HXS.out]; rfl
  have HXR : Hid (xs = recBody c) := HXS.out.trans HX.out
  clear HXS HX
  generalize hgg : w.heap.size + 1 = g at *
  clear hgg
  have HCell : Hid (∀ i, i < 5 → W.cell? ⟨g, i, none⟩ = some (.int .u8 (xs.getD i 0))) := hcell
  clear hcell
  go_wp2
  go_loop [5, 6] (fun s i => ∃ k : Nat, k ≤ 5 ∧ i = .int .i64 k ∧ s = .int .i64 (sumTo xs k)) (fun _ i => 5 - (intOf i).toNat)
  case atStart => exact ⟨0, Nat.zero_le _, rfl, rfl⟩
  case round =>
    obtain ⟨k, hk, rfl, rfl⟩ := hrel
    obtain ⟨s0, s1⟩ := sumTo_bd HXB.out k (by omega)
    by_cases hlt : k < 5
    · have ck := HCell.out k hlt
      have hb := getD_bd HXB.out k
      have HS : Hid (sumTo xs (k + 1) = sumTo xs k + 7 + (k + 1) * xs.getD k 0) := rfl
      generalize xs.getD k 0 = x at *
      obtain ⟨hb0, hb1⟩ := hb
      have m0 : 0 ≤ ((k : Int) + 1) * x := Int.mul_nonneg (by omega) hb0
      have m1 : ((k : Int) + 1) * x ≤ 256 * 255 := Int.mul_le_mul (by omega) hb1 hb0 (by omega)
      have hki : (0 : Int) ≤ (k : Int) := by omega
      generalize sumTo xs k = s at *
      go_wp2
      go_round
      case rel => exact ⟨k + 1, by omega, by go_num, by rw [HS.out]⟩
      case measure => simp [intOf]; omega
    · have hkn : k = 5 := by omega
      subst hkn
      have fb := conv_old W g 5 5 xs HXL.out hg HCell.out
      have f1 := conv_new1 W
      have f2 := fun (o : Obj) z u => conv_new2 (W.alloc o) z u
      have a1 := fun z w => add_strs (P := Tryz.prog) [z] xs w (by simp) (by rw [HXL.out]; omega)
      have a2 := fun z y u w => add_strs3 (P := Tryz.prog) [z] xs [y, u] w (by simp) (by rw [HXL.out]; omega) (by simp)
      have HF : Hid (recordR c = strOfNums [5] ++ strOfNums xs ++ strOfNums [sumTo xs 5 % 65521 % 256, sumTo xs 5 % 65521 / 256]) := by
        show recordR c = _
        unfold recordR recSum
        rw [← HXR.out, HXL.out, show sumTo xs 5 % 65521 / 256 % 256 = sumTo xs 5 % 65521 / 256 by omega]
        rfl
      generalize sumTo xs 5 = s at *
      simp only [World.size_alloc] at f2
      go_wp2
      go_ret
      refine ⟨?_, hqW.alloc hqW.size _ |>.alloc (by have := hqW.size; simp; omega) _⟩
      rw [HF.out]
      rfl

set_option maxRecDepth 100000 in
set_option maxHeartbeats 4000000 in
theorem record_lo (c : Cmd) (w : World) (hk : c.kind < 1) :
    Calls Tryz.prog 44 #[c.val] w fun e w' => e = .returned (.string (recordR c)) ∧ Quiet w w' := by
  have HX : Hid ([c.kind % 256, 0, 0, 0, 0] = recBody c) := by
    show _ = recBody c
    unfold recBody recHead
    rw [if_neg (by omega), if_neg (by omega), if_neg (by omega), if_neg (by omega), if_neg (by omega)]; rfl
  have t1 : (c.kind == 1) = false := by simp; omega
  have t2 : (c.kind == 2) = false := by simp; omega
  have t3 : (c.kind == 3) = false := by simp; omega
  have t5 : (c.kind == 5) = false := by simp; omega
  have t6 : ¬ 2 < c.kind := by omega
  have t7 : ¬ 4 < c.kind := by omega
  have HK : Hid (c.kind < 1) := hk
  clear hk
  unfold Cmd.val
  go_enter Tryz.func44, Tryz.ntmps44
  go_upto_region 13 with (fail)
  obtain ⟨xs, HXS⟩ : ∃ xs, Hid (xs = [c.kind % 256, 0, 0, 0, 0]) := ⟨_, rfl⟩
  refine wp_gen (fun W => (∀ i, i < 5 → W.cell? ⟨w.heap.size + 1, i, none⟩ = some (.int .u8 (xs.getD i 0))) ∧ w.heap.size + 1 < W.heap.size ∧ Quiet w W) ⟨?_, by simp, ((Below.refl _ _).alloc (Nat.le_refl _) _).alloc (by simp) _⟩ ?_
  · intro i hi
    rw [HXS.out]
    rw [(Blk.new' (w := w.alloc _) (b := w.heap.size + 1) (by simp)).cell]
    match i, hi with
    | 0, _ => rfl
    | 1, _ => rfl
    | 2, _ => rfl
    | 3, _ => rfl
    | 4, _ => rfl
  rintro W ⟨hcell, hg, hqW⟩
  have HXB : Hid (∀ x ∈ xs, 0 ≤ x ∧ x ≤ 255) := by show ∀ x ∈ xs, _; rw [HXS.out, HX.out]; exact recBody_bd c
  have HXL : Hid (xs.length = 5) := by show xs.length = 5; rw [HXS.out]; rfl
  have HXR : Hid (xs = recBody c) := HXS.out.trans HX.out
  clear HXS HX
  generalize hgg : w.heap.size + 1 = g at *
  clear hgg
  have HCell : Hid (∀ i, i < 5 → W.cell? ⟨g, i, none⟩ = some (.int .u8 (xs.getD i 0))) := hcell
  clear hcell
  go_wp2
  go_loop [5, 6] (fun s i => ∃ k : Nat, k ≤ 5 ∧ i = .int .i64 k ∧ s = .int .i64 (sumTo xs k)) (fun _ i => 5 - (intOf i).toNat)
  case atStart => exact ⟨0, Nat.zero_le _, rfl, rfl⟩
  case round =>
    obtain ⟨k, hk, rfl, rfl⟩ := hrel
    obtain ⟨s0, s1⟩ := sumTo_bd HXB.out k (by omega)
    by_cases hlt : k < 5
    · have ck := HCell.out k hlt
      have hb := getD_bd HXB.out k
      have HS : Hid (sumTo xs (k + 1) = sumTo xs k + 7 + (k + 1) * xs.getD k 0) := rfl
      generalize xs.getD k 0 = x at *
      obtain ⟨hb0, hb1⟩ := hb
      have m0 : 0 ≤ ((k : Int) + 1) * x := Int.mul_nonneg (by omega) hb0
      have m1 : ((k : Int) + 1) * x ≤ 256 * 255 := Int.mul_le_mul (by omega) hb1 hb0 (by omega)
      have hki : (0 : Int) ≤ (k : Int) := by omega
      generalize sumTo xs k = s at *
      go_wp2
      go_round
      case rel => exact ⟨k + 1, by omega, by go_num, by rw [HS.out]⟩
      case measure => simp [intOf]; omega
    · have hkn : k = 5 := by omega
      subst hkn
      have fb := conv_old W g 5 5 xs HXL.out hg HCell.out
      have f1 := conv_new1 W
      have f2 := fun (o : Obj) z u => conv_new2 (W.alloc o) z u
      have a1 := fun z w => add_strs (P := Tryz.prog) [z] xs w (by simp) (by rw [HXL.out]; omega)
      have a2 := fun z y u w => add_strs3 (P := Tryz.prog) [z] xs [y, u] w (by simp) (by rw [HXL.out]; omega) (by simp)
      have HF : Hid (recordR c = strOfNums [5] ++ strOfNums xs ++ strOfNums [sumTo xs 5 % 65521 % 256, sumTo xs 5 % 65521 / 256]) := by
        show recordR c = _
        unfold recordR recSum
        rw [← HXR.out, HXL.out, show sumTo xs 5 % 65521 / 256 % 256 = sumTo xs 5 % 65521 / 256 by omega]
        rfl
      generalize sumTo xs 5 = s at *
      simp only [World.size_alloc] at f2
      go_wp2
      go_ret
      refine ⟨?_, hqW.alloc hqW.size _ |>.alloc (by have := hqW.size; simp; omega) _⟩
      rw [HF.out]
      rfl


end Go.Proofs.YtgcjlgaapiefiabGreat

import Derived.Test.YtgcjlgaapiefiabGreatQRecA

/-
  Walks of the document's answer: Record, of ASK.
-/
namespace Go.Proofs.YtgcjlgaapiefiabGreat
open Go.RowKit Go.Lib

theorem Tryz.info5 : (Tryz.prog.info? 5).map (fun i => (i.zero, i.size, i.bytes)) = some (some (.int .u8 0), 1, 1) := by kernel_rfl

theorem quiet_bytes (W : World) (e : TypeId) (s : ByteArray) : Quiet W (bytesWorld W e s) :=
  ⟨rfl, rfl, rfl, by rw [bytesWorld_size]; omega, fun k hk => bytesWorld_at_old W e s k hk⟩
/-- Bytes of one's own, read. -/
theorem own_bytes {w : World} {base : Nat} {e : TypeId} {v : Value} {n : Nat} {xs : List Int} (h : w.ownsRow base e 1 v n (xs.map (Value.int .u8))) (h0 : 0 < n) :
    ∃ g cap, v = .slice (some ⟨g, 0, none⟩) n cap ∧ g < w.heap.size ∧ xs.length = n ∧ ∀ i, i < n → w.cell? ⟨g, i, none⟩ = some (.int .u8 (xs.getD i 0)) := by
  obtain ⟨h1, h2⟩ := h
  rcases h2 with ⟨_, h2⟩ | ⟨g, cap, cur, rfl, hb, hh, hc, _, hs, ht⟩
  · omega
  · refine ⟨g, cap, rfl, ?_, by simpa using h1, fun i hi => ?_⟩
    · by_cases hg : g < w.heap.size
      · exact hg
      · rw [Array.getElem?_eq_none (by omega)] at hh; simp at hh
    · have hl : xs.length = n := by simpa using h1
      have e1 : cur.toList[i]? = some (.int .u8 (xs.getD i 0)) := by
        have e2 : (cur.toList.take (n * 1))[i]? = cur.toList[i]? := List.getElem?_take_of_lt (by omega)
        rw [← e2, ht, List.getElem?_map, List.getElem?_eq_getElem (by omega), List.getD, List.getElem?_eq_getElem (by omega)]; rfl
      simp only [World.cell?, hh]
      simpa using e1

set_option maxRecDepth 100000 in
set_option maxHeartbeats 4000000 in
theorem record_5r (c : Cmd) (w : World) (hk : c.kind = 5 ∧ c.a = 5) (hr : c.reason.size ≤ 250) :
    Calls Tryz.prog 44 #[c.val] w fun e w' => e = .returned (.string (recordR c)) ∧ Quiet w w' := by
  have HX : Hid ([c.kind % 256, c.inst % 256, c.a % 256, c.b % 256, c.who % 256] ++ nums c.reason = recBody c) := by
    show _ = recBody c
    unfold recBody recHead
    rw [if_pos (by omega), if_pos (by omega), if_pos (by omega), if_pos (by omega), if_pos (by omega)]
  have t1 : (c.kind == 1) = false := by simp; omega
  have t2 : (c.kind == 2) = false := by simp; omega
  have t3 : (c.kind == 3) = false := by simp; omega
  have t5 : (c.kind == 5) = true := by simp; omega
  have t6 : 2 < c.kind := by omega
  have t7 : 4 < c.kind := by omega
  have tb : (c.a == 5) = true := by simp; omega
  have HK : Hid (c.kind = 5 ∧ c.a = 5) := hk
  clear hk
  obtain ⟨i0, hi, hz0, hz1, hz2⟩ := info_parts Tryz.info5
  unfold Cmd.val
  go_enter Tryz.func44, Tryz.ntmps44
  go_upto_region 12 with (fail)
  refine wp_gen (fun W => Blk W w.heap.size #[.int .i64 c.kind, .int .i64 c.inst, .int .i64 c.a, .int .i64 c.b, .int .i64 c.who, .string c.reason, .bool c.dry] 43 ∧ Blk W (w.heap.size + 1) ([c.kind % 256, c.inst % 256, c.a % 256, c.b % 256, c.who % 256].map (Value.int .u8)).toArray 5 ∧ Quiet w W) ⟨(Blk.new' rfl).alloc _, Blk.new' (by simp), ((Below.refl _ _).alloc (Nat.le_refl _) _).alloc (by simp) _⟩ ?_
  rintro W ⟨b0, b1, hqW⟩
  have g0 := b0.cell
  have hsz := hqW.size
  have fconv := Go.Lib.run_convert_string_bytes (P := Tryz.prog) W 9 71 5 c.reason Tryz.underlying9 Tryz.underlying71 Tryz.underlying5
  have hown : W.ownsRow w.heap.size 5 1 (.slice (some ⟨w.heap.size + 1, 0, none⟩) 5 5) 5 ([c.kind % 256, c.inst % 256, c.a % 256, c.b % 256, c.who % 256].map (Value.int .u8)) :=
    ⟨rfl, .inr ⟨w.heap.size + 1, 5, _, rfl, by omega, b1, by omega, by unfold maxLen; omega, rfl, rfl⟩⟩
  have hown2 := own_quiet hown (quiet_bytes W 5 c.reason)
  go_wp2_with (at_builtin; refine wpList_append_own _ rfl _ _ 71 rfl w.heap.size 5 i0 (.int .u8 0) 1 1 Tryz.underlying71 hi hz0 hz1 hz2 rfl (by decide) _ _ _ rfl hown2 ⟨W.heap.size, 0, none⟩ c.reason.size _ ((nums c.reason).map (Value.int .u8)) rfl ?c0 ?c1 ?c2 ?c3 ?c4 ?c5 ?_)
  case c0 => simp [nums_length]
  case c1 =>
    intro j u hj
    have hjl : j < c.reason.size := by have := (List.getElem?_eq_some_iff.1 hj).1; simpa [nums_length] using this
    have h1 := bytesWorld_cell W 5 c.reason j hjl
    have h2 : (⟨W.heap.size, 0, none⟩ : Addr).add j = ⟨W.heap.size, j, none⟩ := by unfold Addr.add; split <;> simp_all
    rw [h2, h1]
    rw [← hj]
    have hjd : j < c.reason.data.toList.length := by rw [Array.length_toList]; exact hjl
    unfold nums
    rw [List.getElem?_map, List.getElem?_map, List.getElem?_eq_getElem hjd, List.getD, List.getElem?_eq_getElem hjd]; rfl
  case c2 => intro u hu; simp at hu; obtain ⟨x, _, rfl⟩ := hu; rfl
  case c3 => unfold maxLen; omega
  case c4 => omega
  case c5 => rw [bytesWorld_size]; omega
  intro v' w1 hown' hgrow _
  have hq1 : Quiet w w1 := Below.grown (hqW.after (quiet_bytes W _ _)) hgrow (by rw [bytesWorld_size]; omega) (fun k hk => by simp [Value.ownBlock] at hk; omega)
  obtain ⟨xs, HXS⟩ : ∃ xs, Hid (xs = [c.kind % 256, c.inst % 256, c.a % 256, c.b % 256, c.who % 256] ++ nums c.reason) := ⟨_, rfl⟩
  have hown3 : w1.ownsRow w.heap.size 5 1 v' (5 + c.reason.size) (xs.map (Value.int .u8)) := by rw [HXS.out]; simpa using hown'
  obtain ⟨g, cap, rfl, hg, hxl, hcell⟩ := own_bytes hown3 (by omega)
  have HXR : Hid (xs = recBody c) := HXS.out.trans HX.out
  have HXB : Hid (∀ x ∈ xs, 0 ≤ x ∧ x ≤ 255) := by show ∀ x ∈ xs, _; rw [HXR.out]; exact recBody_bd c
  clear g0 fconv hown hown2 hown' hown3 hgrow HXS HX b0 b1 hsz
  generalize hn : 5 + c.reason.size = n at *
  have hn1 : n ≤ 255 := by omega
  clear hn hr
  have HXL : Hid (xs.length = n) := hxl
  have HCell : Hid (∀ i, i < n → w1.cell? ⟨g, i, none⟩ = some (.int .u8 (xs.getD i 0))) := hcell
  clear hcell hxl
  clear hqW
  have hqW := hq1
  go_wp2
  go_loop [5, 6] (fun s i => ∃ k : Nat, k ≤ n ∧ i = .int .i64 k ∧ s = .int .i64 (sumTo xs k)) (fun _ i => n - (intOf i).toNat)
  case atStart => exact ⟨0, Nat.zero_le _, rfl, rfl⟩
  case round =>
    obtain ⟨k, hk, rfl, rfl⟩ := hrel
    obtain ⟨s0, s1⟩ := sumTo_bd HXB.out k (by omega)
    by_cases hlt : k < n
    · have ck := HCell.out k hlt
      have hb := getD_bd HXB.out k
      have HS : Hid (sumTo xs (k + 1) = sumTo xs k + 7 + (k + 1) * xs.getD k 0) := rfl
      generalize xs.getD k 0 = x at *
      obtain ⟨hb0, hb1⟩ := hb
      have m0 : 0 ≤ ((k : Int) + 1) * x := Int.mul_nonneg (by omega) hb0
      have m1 : ((k : Int) + 1) * x ≤ 256 * 255 := Int.mul_le_mul (by omega) hb1 hb0 (by omega)
      have hki : (0 : Int) ≤ (k : Int) := by omega
      generalize sumTo xs k = s at *
      go_wp2
      go_round
      case rel => exact ⟨k + 1, by omega, by go_num, by rw [HS.out]⟩
      case measure => simp [intOf]; omega
    · have hkn : k = n := by omega
      subst hkn
      have fb := conv_old w1 g k cap xs HXL.out hg HCell.out
      have f1 := conv_new1 w1
      have f2 := fun (o : Obj) z u => conv_new2 (w1.alloc o) z u
      have a1 := fun z w => add_strs (P := Tryz.prog) [z] xs w (by simp) (by rw [HXL.out]; omega)
      have a2 := fun z y u w => add_strs3 (P := Tryz.prog) [z] xs [y, u] w (by simp) (by rw [HXL.out]; omega) (by simp)
      have HF : Hid (recordR c = strOfNums [(k : Int)] ++ strOfNums xs ++ strOfNums [sumTo xs k % 65521 % 256, sumTo xs k % 65521 / 256]) := by
        show recordR c = _
        unfold recordR recSum
        rw [← HXR.out, HXL.out, show sumTo xs k % 65521 / 256 % 256 = sumTo xs k % 65521 / 256 by omega]
        rw [show (k : Int) % 256 = k by omega]
      generalize sumTo xs k = s at *
      simp only [World.size_alloc] at f2
      go_wp2
      go_ret
      refine ⟨?_, hqW.alloc hqW.size _ |>.alloc (by have := hqW.size; simp; omega) _⟩
      rw [HF.out]
      rfl

set_option maxRecDepth 100000 in
set_option maxHeartbeats 4000000 in
theorem record_5n (c : Cmd) (w : World) (hk : c.kind = 5 ∧ c.a ≠ 5) (hr : c.reason.size ≤ 250) :
    Calls Tryz.prog 44 #[c.val] w fun e w' => e = .returned (.string (recordR c)) ∧ Quiet w w' := by
  have HX : Hid ([c.kind % 256, c.inst % 256, c.a % 256, 0, c.who % 256] ++ nums c.reason = recBody c) := by
    show _ = recBody c
    unfold recBody recHead
    rw [if_pos (by omega), if_pos (by omega), if_neg (by omega), if_pos (by omega), if_pos (by omega)]
  have t1 : (c.kind == 1) = false := by simp; omega
  have t2 : (c.kind == 2) = false := by simp; omega
  have t3 : (c.kind == 3) = false := by simp; omega
  have t5 : (c.kind == 5) = true := by simp; omega
  have t6 : 2 < c.kind := by omega
  have t7 : 4 < c.kind := by omega
  have tb : (c.a == 5) = false := by simp; omega
  have HK : Hid (c.kind = 5 ∧ c.a ≠ 5) := hk
  clear hk
  obtain ⟨i0, hi, hz0, hz1, hz2⟩ := info_parts Tryz.info5
  unfold Cmd.val
  go_enter Tryz.func44, Tryz.ntmps44
  go_upto_region 12 with (fail)
  refine wp_gen (fun W => Blk W w.heap.size #[.int .i64 c.kind, .int .i64 c.inst, .int .i64 c.a, .int .i64 c.b, .int .i64 c.who, .string c.reason, .bool c.dry] 43 ∧ Blk W (w.heap.size + 1) ([c.kind % 256, c.inst % 256, c.a % 256, 0, c.who % 256].map (Value.int .u8)).toArray 5 ∧ Quiet w W) ⟨(Blk.new' rfl).alloc _, Blk.new' (by simp), ((Below.refl _ _).alloc (Nat.le_refl _) _).alloc (by simp) _⟩ ?_
  rintro W ⟨b0, b1, hqW⟩
  have g0 := b0.cell
  have hsz := hqW.size
  have fconv := Go.Lib.run_convert_string_bytes (P := Tryz.prog) W 9 71 5 c.reason Tryz.underlying9 Tryz.underlying71 Tryz.underlying5
  have hown : W.ownsRow w.heap.size 5 1 (.slice (some ⟨w.heap.size + 1, 0, none⟩) 5 5) 5 ([c.kind % 256, c.inst % 256, c.a % 256, 0, c.who % 256].map (Value.int .u8)) :=
    ⟨rfl, .inr ⟨w.heap.size + 1, 5, _, rfl, by omega, b1, by omega, by unfold maxLen; omega, rfl, rfl⟩⟩
  have hown2 := own_quiet hown (quiet_bytes W 5 c.reason)
  go_wp2_with (at_builtin; refine wpList_append_own _ rfl _ _ 71 rfl w.heap.size 5 i0 (.int .u8 0) 1 1 Tryz.underlying71 hi hz0 hz1 hz2 rfl (by decide) _ _ _ rfl hown2 ⟨W.heap.size, 0, none⟩ c.reason.size _ ((nums c.reason).map (Value.int .u8)) rfl ?c0 ?c1 ?c2 ?c3 ?c4 ?c5 ?_)
  case c0 => simp [nums_length]
  case c1 =>
    intro j u hj
    have hjl : j < c.reason.size := by have := (List.getElem?_eq_some_iff.1 hj).1; simpa [nums_length] using this
    have h1 := bytesWorld_cell W 5 c.reason j hjl
    have h2 : (⟨W.heap.size, 0, none⟩ : Addr).add j = ⟨W.heap.size, j, none⟩ := by unfold Addr.add; split <;> simp_all
    rw [h2, h1]
    rw [← hj]
    have hjd : j < c.reason.data.toList.length := by rw [Array.length_toList]; exact hjl
    unfold nums
    rw [List.getElem?_map, List.getElem?_map, List.getElem?_eq_getElem hjd, List.getD, List.getElem?_eq_getElem hjd]; rfl
  case c2 => intro u hu; simp at hu; obtain ⟨x, _, rfl⟩ := hu; rfl
  case c3 => unfold maxLen; omega
  case c4 => omega
  case c5 => rw [bytesWorld_size]; omega
  intro v' w1 hown' hgrow _
  have hq1 : Quiet w w1 := Below.grown (hqW.after (quiet_bytes W _ _)) hgrow (by rw [bytesWorld_size]; omega) (fun k hk => by simp [Value.ownBlock] at hk; omega)
  obtain ⟨xs, HXS⟩ : ∃ xs, Hid (xs = [c.kind % 256, c.inst % 256, c.a % 256, 0, c.who % 256] ++ nums c.reason) := ⟨_, rfl⟩
  have hown3 : w1.ownsRow w.heap.size 5 1 v' (5 + c.reason.size) (xs.map (Value.int .u8)) := by rw [HXS.out]; simpa using hown'
  obtain ⟨g, cap, rfl, hg, hxl, hcell⟩ := own_bytes hown3 (by omega)
  have HXR : Hid (xs = recBody c) := HXS.out.trans HX.out
  have HXB : Hid (∀ x ∈ xs, 0 ≤ x ∧ x ≤ 255) := by show ∀ x ∈ xs, _; rw [HXR.out]; exact recBody_bd c
  clear g0 fconv hown hown2 hown' hown3 hgrow HXS HX b0 b1 hsz
  generalize hn : 5 + c.reason.size = n at *
  have hn1 : n ≤ 255 := by omega
  clear hn hr
  have HXL : Hid (xs.length = n) := hxl
  have HCell : Hid (∀ i, i < n → w1.cell? ⟨g, i, none⟩ = some (.int .u8 (xs.getD i 0))) := hcell
  clear hcell hxl
  clear hqW
  have hqW := hq1
  go_wp2
  go_loop [5, 6] (fun s i => ∃ k : Nat, k ≤ n ∧ i = .int .i64 k ∧ s = .int .i64 (sumTo xs k)) (fun _ i => n - (intOf i).toNat)
  case atStart => exact ⟨0, Nat.zero_le _, rfl, rfl⟩
  case round =>
    obtain ⟨k, hk, rfl, rfl⟩ := hrel
    obtain ⟨s0, s1⟩ := sumTo_bd HXB.out k (by omega)
    by_cases hlt : k < n
    · have ck := HCell.out k hlt
      have hb := getD_bd HXB.out k
      have HS : Hid (sumTo xs (k + 1) = sumTo xs k + 7 + (k + 1) * xs.getD k 0) := rfl
      generalize xs.getD k 0 = x at *
      obtain ⟨hb0, hb1⟩ := hb
      have m0 : 0 ≤ ((k : Int) + 1) * x := Int.mul_nonneg (by omega) hb0
      have m1 : ((k : Int) + 1) * x ≤ 256 * 255 := Int.mul_le_mul (by omega) hb1 hb0 (by omega)
      have hki : (0 : Int) ≤ (k : Int) := by omega
      generalize sumTo xs k = s at *
      go_wp2
      go_round
      case rel => exact ⟨k + 1, by omega, by go_num, by rw [HS.out]⟩
      case measure => simp [intOf]; omega
    · have hkn : k = n := by omega
      subst hkn
      have fb := conv_old w1 g k cap xs HXL.out hg HCell.out
      have f1 := conv_new1 w1
      have f2 := fun (o : Obj) z u => conv_new2 (w1.alloc o) z u
      have a1 := fun z w => add_strs (P := Tryz.prog) [z] xs w (by simp) (by rw [HXL.out]; omega)
      have a2 := fun z y u w => add_strs3 (P := Tryz.prog) [z] xs [y, u] w (by simp) (by rw [HXL.out]; omega) (by simp)
      have HF : Hid (recordR c = strOfNums [(k : Int)] ++ strOfNums xs ++ strOfNums [sumTo xs k % 65521 % 256, sumTo xs k % 65521 / 256]) := by
        show recordR c = _
        unfold recordR recSum
        rw [← HXR.out, HXL.out, show sumTo xs k % 65521 / 256 % 256 = sumTo xs k % 65521 / 256 by omega]
        rw [show (k : Int) % 256 = k by omega]
      generalize sumTo xs k = s at *
      simp only [World.size_alloc] at f2
      go_wp2
      go_ret
      refine ⟨?_, hqW.alloc hqW.size _ |>.alloc (by have := hqW.size; simp; omega) _⟩
      rw [HF.out]
      rfl

theorem record_any (c : Cmd) (w : World) (hr : c.kind = 5 → c.reason.size ≤ 250) :
    Calls Tryz.prog 44 #[c.val] w fun e w' => e = .returned (.string (recordR c)) ∧ Quiet w w' := by
  by_cases h1 : c.kind = 1
  · exact record_1 c w h1
  by_cases h2 : c.kind = 2
  · exact record_2 c w h2
  by_cases h3 : c.kind = 3
  · by_cases hb : c.b = 1
    · exact record_3w c w ⟨h3, hb⟩
    · exact record_3f c w ⟨h3, hb⟩
  by_cases h4 : c.kind = 4
  · exact record_4 c w h4
  by_cases h5 : c.kind = 5
  · by_cases ha : c.a = 5
    · exact record_5r c w ⟨h5, ha⟩ (hr h5)
    · exact record_5n c w ⟨h5, ha⟩ (hr h5)
  by_cases h6 : 5 < c.kind
  · exact record_hi c w h6
  · exact record_lo c w (by omega)

end Go.Proofs.YtgcjlgaapiefiabGreat

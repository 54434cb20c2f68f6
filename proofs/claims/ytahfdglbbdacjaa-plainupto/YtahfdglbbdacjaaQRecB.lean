import Derived.Test.YtahfdglbbdacjaaQRecA
import Derived.Test.YtahfdglbbdacjaaQLog
import Derived.Test.YtahfdglbbdacjaaQSame
import Derived.Test.YtahfdglbbdacjaaQWld
import Derived.Deep.AppendLies

/-
  Walks of the document's answer: Record, of ASK.
-/
namespace Go.Proofs.Ytahfdglbbdacjaa
open Go.RowKit Go.Lib

theorem Try.info5 : (Try.prog.info? 5).map (fun i => (i.zero, i.size, i.bytes)) = some (some (.int .u8 0), 1, 1) := by kernel_rfl

theorem quiet_bytes (W : World) (e : TypeId) (s : ByteArray) : Quiet W (bytesWorld W e s) :=
  ⟨rfl, rfl, rfl, by rw [bytesWorld_size]; omega, fun k hk => bytesWorld_at_old W e s k hk⟩
/-- Bytes of one's own, read. -/
theorem own_bytes {w : World} {base : Nat} {e : TypeId} {v : Value} {n : Nat} {xs : List Int} (h : w.ownsRow base e 1 v n (xs.map (Value.int .u8))) (h0 : 0 < n) :
    ∃ g cap, v = .slice (some ⟨g, 0, none⟩) n cap ∧ g < w.heap.size ∧ xs.length = n ∧ ∀ i, i < n → w.cell? ⟨g, i, none⟩ = some (.int .u8 (xs.getD i 0)) := by
  obtain ⟨h1, h2⟩ := h
  rcases h2 with ⟨_, h2⟩ | ⟨g, cap, cur, rfl, hb, hh, hc, _, hs, ht⟩
  · omega
  · refine ⟨g, cap, rfl, ?_, by simpa using h1, fun i hi => ?_⟩
    · by_cases hg : g < w.heap.size
      · exact hg
      · rw [Array.getElem?_eq_none (by omega)] at hh; simp at hh
    · have hl : xs.length = n := by simpa using h1
      have e1 : cur.toList[i]? = some (.int .u8 (xs.getD i 0)) := by
        have e2 : (cur.toList.take (n * 1))[i]? = cur.toList[i]? := List.getElem?_take_of_lt (by omega)
        rw [← e2, ht, List.getElem?_map, List.getElem?_eq_getElem (by omega), List.getD, List.getElem?_eq_getElem (by omega)]; rfl
      simp only [World.cell?, hh]
      simpa using e1

set_option maxRecDepth 100000 in
set_option maxHeartbeats 4000000 in
theorem record_5r (c : Cmd) (w : World) (hk : c.kind = 5 ∧ c.a = 5) (hr : c.reason.size ≤ 250) :
    Calls Try.prog 51 #[c.val] w fun e w' => e = .returned (.string (recordR c)) ∧ Quiet w w' := by
  have HX : Hid ([c.kind % 256, c.inst % 256, c.a % 256, c.b % 256, c.who % 256] ++ nums c.reason = recBody c) := by
    show _ = recBody c
    unfold recBody recHead
    rw [if_pos (by omega), if_pos (by omega), if_pos (by omega), if_pos (by omega), if_pos (by omega)]
  have t1 : (c.kind == 1) = false := by simp; omega
  have t2 : (c.kind == 2) = false := by simp; omega
  have t3 : (c.kind == 3) = false := by simp; omega
  have t5 : (c.kind == 5) = true := by simp; omega
  have t6 : 2 < c.kind := by omega
  have t7 : 4 < c.kind := by omega
  have tb : (c.a == 5) = true := by simp; omega
  have HK : Hid (c.kind = 5 ∧ c.a = 5) := hk
  clear hk
  obtain ⟨i0, hi, hz0, hz1, hz2⟩ := info_parts Try.info5
  unfold Cmd.val
  go_enter Try.func51, Try.ntmps51
  go_upto_region 12 with (fail)
  refine wp_gen (fun W => Blk W w.heap.size #[.int .i64 c.kind, .int .i64 c.inst, .int .i64 c.a, .int .i64 c.b, .int .i64 c.who, .string c.reason, .bool c.dry] 55 ∧ Blk W (w.heap.size + 1) ([c.kind % 256, c.inst % 256, c.a % 256, c.b % 256, c.who % 256].map (Value.int .u8)).toArray 5 ∧ Quiet w W) ⟨(Blk.new' rfl).alloc _, Blk.new' (by simp), ((Below.refl _ _).alloc (Nat.le_refl _) _).alloc (by simp) _⟩ ?_
  rintro W ⟨b0, b1, hqW⟩
  have g0 := b0.cell
  have hsz := hqW.size
  have fconv := Go.Lib.run_convert_string_bytes (P := Try.prog) W 9 105 5 c.reason Try.underlying9 Try.underlying105 Try.underlying5
  have hown : W.ownsRow w.heap.size 5 1 (.slice (some ⟨w.heap.size + 1, 0, none⟩) 5 5) 5 ([c.kind % 256, c.inst % 256, c.a % 256, c.b % 256, c.who % 256].map (Value.int .u8)) :=
    ⟨rfl, .inr ⟨w.heap.size + 1, 5, _, rfl, by omega, b1, by omega, by unfold maxLen; omega, rfl, rfl⟩⟩
  have hown2 := own_quiet hown (quiet_bytes W 5 c.reason)
  go_wp2_with (at_builtin; refine wpList_append_own _ rfl _ _ 105 rfl w.heap.size 5 i0 (.int .u8 0) 1 1 Try.underlying105 hi hz0 hz1 hz2 rfl (by decide) _ _ _ rfl hown2 ⟨W.heap.size, 0, none⟩ c.reason.size _ ((nums c.reason).map (Value.int .u8)) rfl ?c0 ?c1 ?c2 ?c3 ?c4 ?c5 ?_)
  case c0 => simp [nums_length]
  case c1 =>
    intro j u hj
    have hjl : j < c.reason.size := by have := (List.getElem?_eq_some_iff.1 hj).1; simpa [nums_length] using this
    have h1 := bytesWorld_cell W 5 c.reason j hjl
    have h2 : (⟨W.heap.size, 0, none⟩ : Addr).add j = ⟨W.heap.size, j, none⟩ := by unfold Addr.add; split <;> simp_all
    rw [h2, h1]
    rw [← hj]
    have hjd : j < c.reason.data.toList.length := by rw [Array.length_toList]; exact hjl
    unfold nums
    rw [List.getElem?_map, List.getElem?_map, List.getElem?_eq_getElem hjd, List.getD, List.getElem?_eq_getElem hjd]; rfl
  case c2 => intro u hu; simp at hu; obtain ⟨x, _, rfl⟩ := hu; rfl
  case c3 => unfold maxLen; omega
  case c4 => omega
  case c5 => rw [bytesWorld_size]; omega
  intro v' w1 hown' hgrow _
  have hq1 : Quiet w w1 := Below.grown (hqW.after (quiet_bytes W _ _)) hgrow (by rw [bytesWorld_size]; omega) (fun k hk => by simp [Value.ownBlock] at hk; omega)
  obtain ⟨xs, HXS⟩ : ∃ xs, Hid (xs = [c.kind % 256, c.inst % 256, c.a % 256, c.b % 256, c.who % 256] ++ nums c.reason) := ⟨_, rfl⟩
  have hown3 : w1.ownsRow w.heap.size 5 1 v' (5 + c.reason.size) (xs.map (Value.int .u8)) := by rw [HXS.out]; simpa using hown'
  obtain ⟨g, cap, rfl, hg, hxl, hcell⟩ := own_bytes hown3 (by omega)
  have HXR : Hid (xs = recBody c) := HXS.out.trans HX.out
  have HXB : Hid (∀ x ∈ xs, 0 ≤ x ∧ x ≤ 255) := by show ∀ x ∈ xs, _; rw [HXR.out]; exact recBody_bd c
  clear g0 fconv hown hown2 hown' hown3 hgrow HXS HX b0 b1 hsz
  generalize hn : 5 + c.reason.size = n at *
  have hn1 : n ≤ 255 := by omega
  clear hn hr
  have HXL : Hid (xs.length = n) := hxl
  have HCell : Hid (∀ i, i < n → w1.cell? ⟨g, i, none⟩ = some (.int .u8 (xs.getD i 0))) := hcell
  clear hcell hxl
  clear hqW
  have hqW := hq1
  go_wp2
  go_loop [5, 6] (fun s i => ∃ k : Nat, k ≤ n ∧ i = .int .i64 k ∧ s = .int .i64 (sumTo xs k)) (fun _ i => n - (intOf i).toNat)
  case atStart => exact ⟨0, Nat.zero_le _, rfl, rfl⟩
  case round =>
    obtain ⟨k, hk, rfl, rfl⟩ := hrel
    obtain ⟨s0, s1⟩ := sumTo_bd HXB.out k (by omega)
    by_cases hlt : k < n
    · have ck := HCell.out k hlt
      have hb := getD_bd HXB.out k
      have HS : Hid (sumTo xs (k + 1) = sumTo xs k + 7 + (k + 1) * xs.getD k 0) := rfl
      generalize xs.getD k 0 = x at *
      obtain ⟨hb0, hb1⟩ := hb
      have m0 : 0 ≤ ((k : Int) + 1) * x := Int.mul_nonneg (by omega) hb0
      have m1 : ((k : Int) + 1) * x ≤ 256 * 255 := Int.mul_le_mul (by omega) hb1 hb0 (by omega)
      have hki : (0 : Int) ≤ (k : Int) := by omega
      generalize sumTo xs k = s at *
      go_wp2
      go_round
      case rel => exact ⟨k + 1, by omega, by go_num, by rw [HS.out]⟩
      case measure => simp [intOf]; omega
    · have hkn : k = n := by omega
      subst hkn
      have fb := conv_old w1 g k cap xs HXL.out hg HCell.out
      have f1 := conv_new1 w1
      have f2 := fun (o : Obj) z u => conv_new2 (w1.alloc o) z u
      have a1 := fun z w => add_strs (P := Try.prog) [z] xs w (by simp) (by rw [HXL.out]; omega)
      have a2 := fun z y u w => add_strs3 (P := Try.prog) [z] xs [y, u] w (by simp) (by rw [HXL.out]; omega) (by simp)
      have HF : Hid (recordR c = strOfNums [(k : Int)] ++ strOfNums xs ++ strOfNums [sumTo xs k % 65521 % 256, sumTo xs k % 65521 / 256]) := by
        show recordR c = _
        unfold recordR recSum
        rw [← HXR.out, HXL.out, show sumTo xs k % 65521 / 256 % 256 = sumTo xs k % 65521 / 256 by omega]
        rw [show (k : Int) % 256 = k by omega]
      generalize sumTo xs k = s at *
      simp only [World.size_alloc] at f2
      go_wp2
      go_ret
      refine ⟨?_, hqW.alloc hqW.size _ |>.alloc (by have := hqW.size; simp; omega) _⟩
      rw [HF.out]
      rfl

set_option maxRecDepth 100000 in
set_option maxHeartbeats 4000000 in
theorem record_5n (c : Cmd) (w : World) (hk : c.kind = 5 ∧ c.a ≠ 5) (hr : c.reason.size ≤ 250) :
    Calls Try.prog 51 #[c.val] w fun e w' => e = .returned (.string (recordR c)) ∧ Quiet w w' := by
  have HX : Hid ([c.kind % 256, c.inst % 256, c.a % 256, 0, c.who % 256] ++ nums c.reason = recBody c) := by
    show _ = recBody c
    unfold recBody recHead
    rw [if_pos (by omega), if_pos (by omega), if_neg (by omega), if_pos (by omega), if_pos (by omega)]
  have t1 : (c.kind == 1) = false := by simp; omega
  have t2 : (c.kind == 2) = false := by simp; omega
  have t3 : (c.kind == 3) = false := by simp; omega
  have t5 : (c.kind == 5) = true := by simp; omega
  have t6 : 2 < c.kind := by omega
  have t7 : 4 < c.kind := by omega
  have tb : (c.a == 5) = false := by simp; omega
  have HK : Hid (c.kind = 5 ∧ c.a ≠ 5) := hk
  clear hk
  obtain ⟨i0, hi, hz0, hz1, hz2⟩ := info_parts Try.info5
  unfold Cmd.val
  go_enter Try.func51, Try.ntmps51
  go_upto_region 12 with (fail)
  refine wp_gen (fun W => Blk W w.heap.size #[.int .i64 c.kind, .int .i64 c.inst, .int .i64 c.a, .int .i64 c.b, .int .i64 c.who, .string c.reason, .bool c.dry] 55 ∧ Blk W (w.heap.size + 1) ([c.kind % 256, c.inst % 256, c.a % 256, 0, c.who % 256].map (Value.int .u8)).toArray 5 ∧ Quiet w W) ⟨(Blk.new' rfl).alloc _, Blk.new' (by simp), ((Below.refl _ _).alloc (Nat.le_refl _) _).alloc (by simp) _⟩ ?_
  rintro W ⟨b0, b1, hqW⟩
  have g0 := b0.cell
  have hsz := hqW.size
  have fconv := Go.Lib.run_convert_string_bytes (P := Try.prog) W 9 105 5 c.reason Try.underlying9 Try.underlying105 Try.underlying5
  have hown : W.ownsRow w.heap.size 5 1 (.slice (some ⟨w.heap.size + 1, 0, none⟩) 5 5) 5 ([c.kind % 256, c.inst % 256, c.a % 256, 0, c.who % 256].map (Value.int .u8)) :=
    ⟨rfl, .inr ⟨w.heap.size + 1, 5, _, rfl, by omega, b1, by omega, by unfold maxLen; omega, rfl, rfl⟩⟩
  have hown2 := own_quiet hown (quiet_bytes W 5 c.reason)
  go_wp2_with (at_builtin; refine wpList_append_own _ rfl _ _ 105 rfl w.heap.size 5 i0 (.int .u8 0) 1 1 Try.underlying105 hi hz0 hz1 hz2 rfl (by decide) _ _ _ rfl hown2 ⟨W.heap.size, 0, none⟩ c.reason.size _ ((nums c.reason).map (Value.int .u8)) rfl ?c0 ?c1 ?c2 ?c3 ?c4 ?c5 ?_)
  case c0 => simp [nums_length]
  case c1 =>
    intro j u hj
    have hjl : j < c.reason.size := by have := (List.getElem?_eq_some_iff.1 hj).1; simpa [nums_length] using this
    have h1 := bytesWorld_cell W 5 c.reason j hjl
    have h2 : (⟨W.heap.size, 0, none⟩ : Addr).add j = ⟨W.heap.size, j, none⟩ := by unfold Addr.add; split <;> simp_all
    rw [h2, h1]
    rw [← hj]
    have hjd : j < c.reason.data.toList.length := by rw [Array.length_toList]; exact hjl
    unfold nums
    rw [List.getElem?_map, List.getElem?_map, List.getElem?_eq_getElem hjd, List.getD, List.getElem?_eq_getElem hjd]; rfl
  case c2 => intro u hu; simp at hu; obtain ⟨x, _, rfl⟩ := hu; rfl
  case c3 => unfold maxLen; omega
  case c4 => omega
  case c5 => rw [bytesWorld_size]; omega
  intro v' w1 hown' hgrow _
  have hq1 : Quiet w w1 := Below.grown (hqW.after (quiet_bytes W _ _)) hgrow (by rw [bytesWorld_size]; omega) (fun k hk => by simp [Value.ownBlock] at hk; omega)
  obtain ⟨xs, HXS⟩ : ∃ xs, Hid (xs = [c.kind % 256, c.inst % 256, c.a % 256, 0, c.who % 256] ++ nums c.reason) := ⟨_, rfl⟩
  have hown3 : w1.ownsRow w.heap.size 5 1 v' (5 + c.reason.size) (xs.map (Value.int .u8)) := by rw [HXS.out]; simpa using hown'
  obtain ⟨g, cap, rfl, hg, hxl, hcell⟩ := own_bytes hown3 (by omega)
  have HXR : Hid (xs = recBody c) := HXS.out.trans HX.out
  have HXB : Hid (∀ x ∈ xs, 0 ≤ x ∧ x ≤ 255) := by show ∀ x ∈ xs, _; rw [HXR.out]; exact recBody_bd c
  clear g0 fconv hown hown2 hown' hown3 hgrow HXS HX b0 b1 hsz
  generalize hn : 5 + c.reason.size = n at *
  have hn1 : n ≤ 255 := by omega
  clear hn hr
  have HXL : Hid (xs.length = n) := hxl
  have HCell : Hid (∀ i, i < n → w1.cell? ⟨g, i, none⟩ = some (.int .u8 (xs.getD i 0))) := hcell
  clear hcell hxl
  clear hqW
  have hqW := hq1
  go_wp2
  go_loop [5, 6] (fun s i => ∃ k : Nat, k ≤ n ∧ i = .int .i64 k ∧ s = .int .i64 (sumTo xs k)) (fun _ i => n - (intOf i).toNat)
  case atStart => exact ⟨0, Nat.zero_le _, rfl, rfl⟩
  case round =>
    obtain ⟨k, hk, rfl, rfl⟩ := hrel
    obtain ⟨s0, s1⟩ := sumTo_bd HXB.out k (by omega)
    by_cases hlt : k < n
    · have ck := HCell.out k hlt
      have hb := getD_bd HXB.out k
      have HS : Hid (sumTo xs (k + 1) = sumTo xs k + 7 + (k + 1) * xs.getD k 0) := rfl
      generalize xs.getD k 0 = x at *
      obtain ⟨hb0, hb1⟩ := hb
      have m0 : 0 ≤ ((k : Int) + 1) * x := Int.mul_nonneg (by omega) hb0
      have m1 : ((k : Int) + 1) * x ≤ 256 * 255 := Int.mul_le_mul (by omega) hb1 hb0 (by omega)
      have hki : (0 : Int) ≤ (k : Int) := by omega
      generalize sumTo xs k = s at *
      go_wp2
      go_round
      case rel => exact ⟨k + 1, by omega, by go_num, by rw [HS.out]⟩
      case measure => simp [intOf]; omega
    · have hkn : k = n := by omega
      subst hkn
      have fb := conv_old w1 g k cap xs HXL.out hg HCell.out
      have f1 := conv_new1 w1
      have f2 := fun (o : Obj) z u => conv_new2 (w1.alloc o) z u
      have a1 := fun z w => add_strs (P := Try.prog) [z] xs w (by simp) (by rw [HXL.out]; omega)
      have a2 := fun z y u w => add_strs3 (P := Try.prog) [z] xs [y, u] w (by simp) (by rw [HXL.out]; omega) (by simp)
      have HF : Hid (recordR c = strOfNums [(k : Int)] ++ strOfNums xs ++ strOfNums [sumTo xs k % 65521 % 256, sumTo xs k % 65521 / 256]) := by
        show recordR c = _
        unfold recordR recSum
        rw [← HXR.out, HXL.out, show sumTo xs k % 65521 / 256 % 256 = sumTo xs k % 65521 / 256 by omega]
        rw [show (k : Int) % 256 = k by omega]
      generalize sumTo xs k = s at *
      simp only [World.size_alloc] at f2
      go_wp2
      go_ret
      refine ⟨?_, hqW.alloc hqW.size _ |>.alloc (by have := hqW.size; simp; omega) _⟩
      rw [HF.out]
      rfl

theorem record_any (c : Cmd) (w : World) (hr : c.kind = 5 → c.reason.size ≤ 250) :
    Calls Try.prog 51 #[c.val] w fun e w' => e = .returned (.string (recordR c)) ∧ Quiet w w' := by
  by_cases h1 : c.kind = 1
  · exact record_1 c w h1
  by_cases h2 : c.kind = 2
  · exact record_2 c w h2
  by_cases h3 : c.kind = 3
  · by_cases hb : c.b = 1
    · exact record_3w c w ⟨h3, hb⟩
    · exact record_3f c w ⟨h3, hb⟩
  by_cases h4 : c.kind = 4
  · exact record_4 c w h4
  by_cases h5 : c.kind = 5
  · by_cases ha : c.a = 5
    · exact record_5r c w ⟨h5, ha⟩ (hr h5)
    · exact record_5n c w ⟨h5, ha⟩ (hr h5)
  by_cases h6 : 5 < c.kind
  · exact record_hi c w h6
  · exact record_lo c w (by omega)

end Go.Proofs.Ytahfdglbbdacjaa

/-
  Walks of the document's answer: bytes, cut.
-/
namespace Go.Proofs.Ytahfdglbbdacjaa
open Go.RowKit

set_option maxRecDepth 100000 in
set_option maxHeartbeats 1000000 in
theorem bytes_any (v : Value) (l : List Cmd) (w : World) (h : Cmds w v l) (hr : RecsOk l) :
    Calls Try.prog 48 #[v] w fun e w' => e = .returned (.string (bytesR l)) ∧ Quiet w w' := by
  obtain ⟨a, n, cap, rfl⟩ := h.1.shape
  obtain ⟨hn, hm⟩ := h.len
  have HN : Hid (n = l.length) := hn
  clear hn
  go_enter Try.func48, Try.ntmps48
  go_wp2
  go_loopw [3, 4] (fun s i wr => ∃ k : Nat, k ≤ n ∧ i = .int .i64 k ∧ s = .string (bytesR (l.take k)) ∧ Quiet w wr) (fun _ i _ => n - (intOf i).toNat)
  case atStart => exact ⟨0, Nat.zero_le _, rfl, rfl, Below.refl _ _⟩
  case round =>
    obtain ⟨k, hk, rfl, rfl, hq⟩ := hrel
    by_cases hlt : k < n
    · have hkl : k < l.length := by have := HN.out; omega
      obtain ⟨b, off, rfl, hb, c0, c1, c2, c3, c4, c5, c6⟩ := (h.quiet hq).cell k hkl
      have HB : Hid (bytesR (l.take (k + 1)) = bytesR (l.take k) ++ recordR l[k]) := bytesR_take l k hkl
      have hsz := bytesN_le l hr k (by omega)
      have hrec := recordR_le l[k] (hr _ (List.getElem_mem hkl))
      have hr5 := hr l[k] (List.getElem_mem hkl)
      have hadd : ∀ U, (Op.stringOp .add (bytesR (l.take k)) (recordR l[k])).run Try.prog U = .ok (.string (bytesR (l.take k) ++ recordR l[k])) U := fun U =>
        run_string_add_sum U _ _ (by unfold bytesN at hsz; omega)
      clear hsz hrec
      have HR5 : Hid (l[k].kind = 5 → l[k].reason.size ≤ 250) := hr5
      clear hr5
      generalize l[k] = c at *
      generalize bytesR (l.take k) = s at *
      have hki : (0 : Int) ≤ (k : Int) := by omega
      go_wp2_with fail
      refine (record_any c _ HR5.out).mono ?_
      rintro e w1 ⟨rfl, hq1⟩
      generalize recordR c = r at *
      go_wp2
      go_roundw
      case rel => exact ⟨k + 1, by omega, by go_num, by rw [HB.out], hq.after hq1⟩
      case measure => simp [intOf]; omega
    · have hkn : l.take k = l := by have := HN.out; rw [List.take_of_length_le (by omega)]
      rw [hkn]
      go_wp2
      go_ret
      exact ⟨rfl, hq⟩

set_option maxRecDepth 100000 in
set_option maxHeartbeats 2000000 in
theorem cut_any (v : Value) (l : List Cmd) (x : Int) (w : World) (h : Cmds w v l) (hr : RecsOk l) (hx0 : 0 ≤ x) (hx1 : x ≤ 1000000000000000) (hl : l.length ≤ 1099511627776) :
    Calls Try.prog 49 #[v, .int .i64 x] w fun e w' => ∃ v, e = .returned v ∧ w'.ownsRow w.heap.size 55 7 v (cutR l x).length (cmdVals (cutR l x)) ∧ Quiet w w' := by
  obtain ⟨i0, hi, hz0, hz1, hz2⟩ := info_parts Try.info55
  obtain ⟨a, n, cap, rfl⟩ := h.1.shape
  obtain ⟨hn, hm⟩ := h.len
  have HN : Hid (n = l.length) := hn
  have hnl : n ≤ 1099511627776 := by omega
  clear hn
  go_enter Try.func49, Try.ntmps49
  go_wp2
  go_loopw [1, 5, 6] (fun s p i wr => ∃ k : Nat, k ≤ n ∧ i = .int .i64 k ∧ s = .int .i64 (x - bytesN (l.take k)) ∧ (bytesN (l.take k) : Int) ≤ x ∧ wr.ownsRow w.heap.size 55 7 p k (cmdVals (l.take k)) ∧ Quiet w wr) (fun _ _ i _ => n - (intOf i).toNat)
  case atStart => exact ⟨0, Nat.zero_le _, rfl, by simp [bytesN_nil], by simp [bytesN_nil]; exact hx0, World.ownsRow_nil _ _ _ _, Below.refl _ _⟩
  case round =>
    obtain ⟨k, hk, rfl, rfl, hle, hown, hq⟩ := hrel
    have HLE : Hid ((bytesN (l.take k) : Int) ≤ x) := hle
    by_cases hlt : k < n
    · have hkl : k < l.length := by have := HN.out; omega
      obtain ⟨b, off, rfl, hb, c0, c1, c2, c3, c4, c5, c6⟩ := (h.quiet hq).cell k hkl
      have HB : Hid (bytesN (l.take (k + 1)) = bytesN (l.take k) + (recordR l[k]).size) := bytesN_take l k hkl
      have hrec := recordR_le l[k] (hr _ (List.getElem_mem hkl))
      have HR5 : Hid (l[k].kind = 5 → l[k].reason.size ≤ 250) := hr l[k] (List.getElem_mem hkl)
      have HT : Hid (cmdVals (l.take (k + 1)) = cmdVals (l.take k) ++ l[k].cells) := by
        show cmdVals (l.take (k + 1)) = _
        unfold cmdVals; rw [List.take_succ_eq_append_getElem hkl, List.map_append, List.flatten_append]
        simp only [List.map_cons, List.map_nil, List.flatten_cons, List.flatten_nil, List.append_nil]
      have HStop : Hid (¬ (bytesN (l.take (k + 1)) : Int) ≤ x → cutR l x = l.take k) := fun hne => cut_stop l x k hkl (.inr HLE.out) hne
      generalize l[k] = c at *
      generalize bytesN (l.take k) = s at *
      have hki : (0 : Int) ≤ (k : Int) := by omega
      go_wp2_with fail
      refine (record_any c _ HR5.out).mono ?_
      rintro e w1 ⟨rfl, hq1⟩
      have HRS : Hid ((recordR c).size = (recordR c).size) := rfl
      generalize hrr : recordR c = r at *
      clear hrr
      have hat := (At.quiet (cs := c.cells) (b := b) (o := off + k * 7) (w := wr) (fun j u hj => by
        match j, hj with
        | 0, hj => simp [Cmd.cells] at hj; subst hj; exact c0
        | 1, hj => simp [Cmd.cells] at hj; subst hj; exact c1
        | 2, hj => simp [Cmd.cells] at hj; subst hj; exact c2
        | 3, hj => simp [Cmd.cells] at hj; subst hj; exact c3
        | 4, hj => simp [Cmd.cells] at hj; subst hj; exact c4
        | 5, hj => simp [Cmd.cells] at hj; subst hj; exact c5
        | 6, hj => simp [Cmd.cells] at hj; subst hj; exact c6
        | j + 7, hj => simp [Cmd.cells] at hj) hq1).seven
      obtain ⟨e0, e1, e2, e3, e4, e5, e6⟩ := hat
      have hown1 := own_quiet hown hq1
      replace hq1 : Quiet w w1 := hq.after hq1
      have hrs : (r.size : Int) ≤ 258 := by omega
      by_cases hneg : x - (s : Int) - r.size < 0
      · have HE : Hid (cutR l x = l.take k) := HStop.out (by rw [HB.out]; omega)
        go_wp2
        go_ret
        refine ⟨_, rfl, ?_, hq1⟩
        rw [HE.out]
        have : (l.take k).length = k := by have := HN.out; simp; omega
        rw [this]; exact hown1
      · go_wp2_with (at_builtin; refine wpList_append_own _ rfl _ _ 29 rfl w.heap.size 55 i0 (.agg #[.int .i64 0, .int .i64 0, .int .i64 0, .int .i64 0, .int .i64 0, .string ⟨#[]⟩, .bool false]) 7 64 Try.underlying29 hi hz0 hz1 hz2 rfl (by decide) _ _ _ rfl (hown1.alloc _) ⟨w1.heap.size, 0, none⟩ 1 1 c.cells rfl rfl ?c1 ?c2 ?c3 ?c4 ?c5 ?_)
        case c1 =>
          have := World.news_of_block (heap_alloc_new w1 (.cells #[.int .i64 c.kind, .int .i64 c.inst, .int .i64 c.a, .int .i64 c.b, .int .i64 c.who, .string c.reason, .bool c.dry] 55))
          simpa [Cmd.cells] using this
        case c2 => intro u hu; simp [Cmd.cells] at hu; rcases hu with rfl | rfl | rfl | rfl | rfl | rfl | rfl <;> rfl
        case c3 => unfold maxLen; omega
        case c4 => omega
        case c5 => have := hq1.size; simp; omega
        intro v' w2 hown2 hgrow _
        have hq2 : Quiet w w2 := hq1.app hown1 hgrow
        go_wp2
        go_roundw
        case rel => exact ⟨k + 1, by omega, by go_num, by rw [HB.out]; congr 1; omega, by rw [HB.out]; omega, by rw [HT.out]; exact hown2, hq2⟩
        case measure => simp [intOf]; omega
    · have hkn : l.take k = l := by have := HN.out; rw [List.take_of_length_le (by omega)]
      have HE : Hid (cutR l x = l) := cut_all l x (.inr (by have := HLE.out; rw [hkn] at this; exact this))
      rw [hkn] at hown
      go_wp2
      go_ret
      refine ⟨_, rfl, ?_, hq⟩
      rw [HE.out]
      have : l.length = k := by have := HN.out; omega
      rw [this]; exact hown

end Go.Proofs.Ytahfdglbbdacjaa

/-
  Walks of the document's answer: a script played.
-/
namespace Go.Proofs.Ytahfdglbbdacjaa
open Go.RowKit

theorem Try.info57 : (Try.prog.info? 57).map (fun i => (i.zero, i.size, i.bytes)) = some (some (.agg #[.int .i64 0, .int .i64 0, .int .i64 0, .int .i64 0]), 4, 32) := by kernel_rfl

def ansVals (l : List Answer) : List Value := (l.map Answer.cells).flatten
theorem own_cmds {w : World} {base : Nat} {v : Value} {n : Nat} {l : List Cmd} (h : w.ownsRow base 55 7 v n (cmdVals l)) (hn : n = l.length) (hl : l.length ≤ 2199023255552) : Cmds w v l :=
  ⟨own_arr (base := base) (e := 55) (n := n) h (by simpa using hn) (by intro x hx; obtain ⟨c, _, rfl⟩ := List.mem_map.1 hx; rfl), hl⟩
theorem own_answers {w : World} {base : Nat} {v : Value} {n : Nat} {l : List Answer} (h : w.ownsRow base 57 4 v n (ansVals l)) (hn : n = l.length) : Answers w v l :=
  own_arr (base := base) (e := 57) (n := n) h (by simpa using hn) (by intro x hx; obtain ⟨c, _, rfl⟩ := List.mem_map.1 hx; rfl)
theorem undrewR {w w' : World} {row : Option Nat} (h : w.drew.grownBy w' row) : w.grownBy w' row := ⟨h.os, h.tape, h.output, h.size, h.block⟩

theorem answer_new (W : World) (a b c d : Value) : ∀ j u, [a, b, c, d][j]? = some u → (W.alloc (.cells #[a, b, c, d] 57)).cell? ((⟨W.heap.size, 0, none⟩ : Addr).add j) = some u := by
  have := World.news_of_block (heap_alloc_new W (.cells #[a, b, c, d] 57))
  simpa using this

/-- The tape in memory, with what the loop holds. -/
structure PlayAt (w wr : World) (T : TapeR) (la : Option Addr) (L lc : Nat) (aa : Option Addr) (k ac : Nat) (dcs : Array Value) : Prop where
  tape : Blk wr (w.heap.size + 1) #[.slice la L lc, .int .i64 T.safe, .slice aa k ac] 73
  defn : Blk wr w.heap.size dcs 24
  log : wr.ownsRow w.heap.size 55 7 (.slice la L lc) L (cmdVals T.log)
  len : L = T.log.length
  ans : wr.ownsRow w.heap.size 57 4 (.slice aa k ac) k (ansVals T.answers)
  cnt : k = T.answers.length
  quiet : Quiet w wr
theorem PlayAt.hush {w wr w' : World} {T : TapeR} {la : Option Addr} {L lc : Nat} {aa : Option Addr} {k ac : Nat} {dcs : Array Value} (h : PlayAt w wr T la L lc aa k ac dcs) (hq : Quiet wr w') : PlayAt w w' T la L lc aa k ac dcs :=
  ⟨h.tape.quiet hq, h.defn.quiet hq, own_quiet h.log hq, h.len, own_quiet h.ans hq, h.cnt, h.quiet.after hq⟩
/-- The tape's own cell is written into. -/
theorem PlayAt.safeSet {w wr : World} {T : TapeR} {la : Option Addr} {L lc : Nat} {aa : Option Addr} {k ac : Nat} {dcs : Array Value} (h : PlayAt w wr T la L lc aa k ac dcs) (x : Int) : PlayAt w (wr.setCell ⟨w.heap.size + 1, 1, none⟩ (.int .i64 x)) ⟨T.log, x, T.answers⟩ la L lc aa k ac dcs :=
  ⟨by simpa using h.tape.set 1 (.int .i64 x), h.defn.other _ (by show w.heap.size ≠ w.heap.size + 1; omega), ownsRow_setCell_other h.log (own_ne h.log h.tape (by decide)) _, h.len, ownsRow_setCell_other h.ans (own_ne h.ans h.tape (by decide)) _, h.cnt, Below.setCell h.quiet (p := ⟨w.heap.size + 1, 1, none⟩) (by show w.heap.size ≤ w.heap.size + 1; omega) _⟩
/-- A block beside it is written into. -/
theorem PlayAt.beside {w wr : World} {T : TapeR} {la : Option Addr} {L lc : Nat} {aa : Option Addr} {k ac : Nat} {dcs : Array Value} (h : PlayAt w wr T la L lc aa k ac dcs) {b : Nat} (hb : w.heap.size + 1 < b) (hl : (Value.slice la L lc).ownBlock ≠ some b) (ha : (Value.slice aa k ac).ownBlock ≠ some b) (j : Nat) (v : Value) : PlayAt w (wr.setCell ⟨b, j, none⟩ v) T la L lc aa k ac dcs :=
  ⟨h.tape.other _ (by show w.heap.size + 1 ≠ b; omega), h.defn.other _ (by show w.heap.size ≠ b; omega), ownsRow_setCell_other h.log hl _, h.len, ownsRow_setCell_other h.ans ha _, h.cnt, Below.setCell h.quiet (p := ⟨b, j, none⟩) (by show w.heap.size ≤ b; omega) _⟩


theorem play_snoc {w U w4 : World} {lg : List Cmd} {sf : Int} {an : List Answer} {la : Option Addr} {L lc : Nat} {aa : Option Addr} {k ac : Nat} {dcs : Array Value} {o : Obj} {g2 cap2 : Nat} {A : Answer} (h : PlayAt w U ⟨lg, sf, an⟩ la L lc aa k ac dcs)
    (hown : w4.ownsRow w.heap.size 57 4 (.slice (some ⟨g2, 0, none⟩) (k + 1) cap2) (k + 1) (ansVals an ++ A.cells)) (hg : (U.alloc o).grownBy w4 (Value.slice aa k ac).ownBlock) :
    PlayAt w (w4.setCell ⟨w.heap.size + 1, 2, none⟩ (.slice (some ⟨g2, 0, none⟩) (k + 1) cap2)) ⟨lg, sf, an ++ [A]⟩ la L lc (some ⟨g2, 0, none⟩) (k + 1) cap2 dcs := by
  have ht := (h.tape.alloc o).grown hg (fun e => own_ne h.ans h.tape (by decide) e.symm)
  have hlog := own_other h.log h.ans (by decide) hg
  have hcnt : k = an.length := h.cnt
  refine ⟨by simpa using ht.set 2 _, ((h.defn.alloc o).grown hg (fun e => own_ne h.ans h.defn (by decide) e.symm)).other _ (by show w.heap.size ≠ w.heap.size + 1; omega), ownsRow_setCell_other hlog (own_ne hlog ht (by decide)) _, h.len, ?_, by simp [hcnt], ?_⟩
  · refine ownsRow_setCell_other ?_ (own_ne hown ht (by decide)) _
    have e : ansVals (an ++ [A]) = ansVals an ++ A.cells := by unfold ansVals; simp
    rw [e]; exact hown
  · exact Below.setCell (Below.grown (h.quiet.alloc h.quiet.size _) hg (by have := h.quiet.size; simp; omega) (fun j hj => (own_ge h.ans j hj).1)) (p := ⟨w.heap.size + 1, 2, none⟩) (by show w.heap.size ≤ w.heap.size + 1; omega) _
theorem play_log {w U w4 : World} {lg : List Cmd} {sf : Int} {an : List Answer} {la : Option Addr} {L lc : Nat} {aa : Option Addr} {k ac : Nat} {dcs : Array Value} {o : Obj} {g2 cap2 : Nat} {c : Cmd} (h : PlayAt w U ⟨lg, sf, an⟩ la L lc aa k ac dcs)
    (hown : w4.ownsRow w.heap.size 55 7 (.slice (some ⟨g2, 0, none⟩) (L + 1) cap2) (L + 1) (cmdVals lg ++ c.cells)) (hg : (U.alloc o).grownBy w4 (Value.slice la L lc).ownBlock) :
    PlayAt w (w4.setCell ⟨w.heap.size + 1, 0, none⟩ (.slice (some ⟨g2, 0, none⟩) (L + 1) cap2)) ⟨lg ++ [c], sf, an⟩ (some ⟨g2, 0, none⟩) (L + 1) cap2 aa k ac dcs := by
  have ht := (h.tape.alloc o).grown hg (fun e => own_ne h.log h.tape (by decide) e.symm)
  have hans := own_other h.ans h.log (by decide) hg
  have hlen : L = lg.length := h.len
  refine ⟨by simpa using ht.set 0 _, ((h.defn.alloc o).grown hg (fun e => own_ne h.log h.defn (by decide) e.symm)).other _ (by show w.heap.size ≠ w.heap.size + 1; omega), ?_, by simp [hlen], ownsRow_setCell_other hans (own_ne hans ht (by decide)) _, h.cnt, ?_⟩
  · refine ownsRow_setCell_other ?_ (own_ne hown ht (by decide)) _
    have e : cmdVals (lg ++ [c]) = cmdVals lg ++ c.cells := by unfold cmdVals; simp
    rw [e]; exact hown
  · exact Below.setCell (Below.grown (h.quiet.alloc h.quiet.size _) hg (by have := h.quiet.size; simp; omega) (fun j hj => (own_ge h.log j hj).1)) (p := ⟨w.heap.size + 1, 0, none⟩) (by show w.heap.size ≤ w.heap.size + 1; omega) _
theorem play_cut {w U : World} {lg lg2 : List Cmd} {sf : Int} {an : List Answer} {la la2 : Option Addr} {L lc L2 lc2 : Nat} {aa : Option Addr} {k ac : Nat} {dcs : Array Value} (h : PlayAt w U ⟨lg, sf, an⟩ la L lc aa k ac dcs)
    (hown : U.ownsRow w.heap.size 55 7 (.slice la2 L2 lc2) L2 (cmdVals lg2)) (hl : L2 = lg2.length) :
    PlayAt w (U.setCell ⟨w.heap.size + 1, 0, none⟩ (.slice la2 L2 lc2)) ⟨lg2, sf, an⟩ la2 L2 lc2 aa k ac dcs :=
  ⟨by simpa using h.tape.set 0 (.slice la2 L2 lc2), h.defn.other _ (by show w.heap.size ≠ w.heap.size + 1; omega), ownsRow_setCell_other hown (own_ne hown h.tape (by decide)) _, hl, ownsRow_setCell_other h.ans (own_ne h.ans h.tape (by decide)) _, h.cnt, Below.setCell h.quiet (p := ⟨w.heap.size + 1, 0, none⟩) (by show w.heap.size ≤ w.heap.size + 1; omega) _⟩

end Go.Proofs.Ytahfdglbbdacjaa

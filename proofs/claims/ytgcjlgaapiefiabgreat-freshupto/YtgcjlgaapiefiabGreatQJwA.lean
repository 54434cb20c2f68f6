import Derived.Test.YtgcjlgaapiefiabGreatQRecB
import Derived.Test.YtgcjlgaapiefiabGreatQLog

/-
  Walks of the program: what a command names.
-/
namespace Go.Proofs.YtgcjlgaapiefiabGreat
open Go.RowKit

set_option maxRecDepth 100000 in
set_option maxHeartbeats 4000000 in
theorem named_1 (c : Cmd) (w : World) (hk : c.kind = 1)  :
    Calls Tryz.prog 113 #[c.val] w fun e w' => e = .returned (namC c).val ∧ Quiet w w' := by
  have HE : Hid ((namC c).val = .agg #[.int .i64 c.kind, .int .i64 c.inst, .int .i64 0, .int .i64 0, .int .i64 0, .string ⟨#[]⟩, .bool false]) := by
    show (namC c).val = _
    simp [namC, Cmd.val, hk]
    try rfl
  have t1 : (c.kind == 1) = true := by simp; omega
  have t2 : (c.kind == 2) = false := by simp; omega
  have t3 : (c.kind == 3) = false := by simp; omega
  have t4 : (c.kind == 4) = false := by simp; omega
  have t5 : (c.kind == 5) = false := by simp; omega
  have t6 : (c.kind == 6) = false := by simp; omega
  have t7 : (c.kind == 7) = false := by simp; omega
  have hq0 : ∀ (w : World) o, Quiet w (w.alloc o) := fun w o => (Below.refl _ _).alloc (Nat.le_refl _) _
  clear hk
  rw [HE.out]
  unfold Cmd.val
  go_enter Tryz.func113, Tryz.ntmps113
  go_wp2
  refine bodyPost_ret (v := .agg #[.int .i64 c.kind, .int .i64 c.inst, .int .i64 0, .int .i64 0, .int .i64 0, .string ⟨#[]⟩, .bool false]) (by simp [results, Tryz.results113, go_sem]) rfl ⟨rfl, ?_⟩
  first | exact ((hq0 _ _).after (hq0 _ _)).after (hq0 _ _) | exact (hq0 _ _).after (hq0 _ _)

set_option maxRecDepth 100000 in
set_option maxHeartbeats 4000000 in
theorem named_2 (c : Cmd) (w : World) (hk : c.kind = 2)  :
    Calls Tryz.prog 113 #[c.val] w fun e w' => e = .returned (namC c).val ∧ Quiet w w' := by
  have HE : Hid ((namC c).val = .agg #[.int .i64 c.kind, .int .i64 c.inst, .int .i64 0, .int .i64 0, .int .i64 0, .string ⟨#[]⟩, .bool false]) := by
    show (namC c).val = _
    simp [namC, Cmd.val, hk]
    try rfl
  have t1 : (c.kind == 1) = false := by simp; omega
  have t2 : (c.kind == 2) = true := by simp; omega
  have t3 : (c.kind == 3) = false := by simp; omega
  have t4 : (c.kind == 4) = false := by simp; omega
  have t5 : (c.kind == 5) = false := by simp; omega
  have t6 : (c.kind == 6) = false := by simp; omega
  have t7 : (c.kind == 7) = false := by simp; omega
  have hq0 : ∀ (w : World) o, Quiet w (w.alloc o) := fun w o => (Below.refl _ _).alloc (Nat.le_refl _) _
  clear hk
  rw [HE.out]
  unfold Cmd.val
  go_enter Tryz.func113, Tryz.ntmps113
  go_wp2
  refine bodyPost_ret (v := .agg #[.int .i64 c.kind, .int .i64 c.inst, .int .i64 0, .int .i64 0, .int .i64 0, .string ⟨#[]⟩, .bool false]) (by simp [results, Tryz.results113, go_sem]) rfl ⟨rfl, ?_⟩
  first | exact ((hq0 _ _).after (hq0 _ _)).after (hq0 _ _) | exact (hq0 _ _).after (hq0 _ _)

set_option maxRecDepth 100000 in
set_option maxHeartbeats 4000000 in
theorem named_3y (c : Cmd) (w : World) (hk : c.kind = 3) (hb : (c.b == 1) = true) :
    Calls Tryz.prog 113 #[c.val] w fun e w' => e = .returned (namC c).val ∧ Quiet w w' := by
  have HE : Hid ((namC c).val = .agg #[.int .i64 c.kind, .int .i64 c.inst, .int .i64 c.a, .int .i64 1, .int .i64 0, .string ⟨#[]⟩, .bool false]) := by
    show (namC c).val = _
    have hb2 := hb
    simp at hb2
    simp [namC, Cmd.val, hk, hb2]
    try rfl
  have t1 : (c.kind == 1) = false := by simp; omega
  have t2 : (c.kind == 2) = false := by simp; omega
  have t3 : (c.kind == 3) = true := by simp; omega
  have t4 : (c.kind == 4) = false := by simp; omega
  have t5 : (c.kind == 5) = false := by simp; omega
  have t6 : (c.kind == 6) = false := by simp; omega
  have t7 : (c.kind == 7) = false := by simp; omega
  have hq0 : ∀ (w : World) o, Quiet w (w.alloc o) := fun w o => (Below.refl _ _).alloc (Nat.le_refl _) _
  clear hk
  rw [HE.out]
  unfold Cmd.val
  go_enter Tryz.func113, Tryz.ntmps113
  go_wp2
  refine bodyPost_ret (v := .agg #[.int .i64 c.kind, .int .i64 c.inst, .int .i64 c.a, .int .i64 1, .int .i64 0, .string ⟨#[]⟩, .bool false]) (by simp [results, Tryz.results113, go_sem]) rfl ⟨rfl, ?_⟩
  first | exact ((hq0 _ _).after (hq0 _ _)).after (hq0 _ _) | exact (hq0 _ _).after (hq0 _ _)

set_option maxRecDepth 100000 in
set_option maxHeartbeats 4000000 in
theorem named_3n (c : Cmd) (w : World) (hk : c.kind = 3) (hb : (c.b == 1) = false) :
    Calls Tryz.prog 113 #[c.val] w fun e w' => e = .returned (namC c).val ∧ Quiet w w' := by
  have HE : Hid ((namC c).val = .agg #[.int .i64 c.kind, .int .i64 c.inst, .int .i64 c.a, .int .i64 0, .int .i64 0, .string ⟨#[]⟩, .bool false]) := by
    show (namC c).val = _
    have hb2 := hb
    simp at hb2
    simp [namC, Cmd.val, hk, hb2]
    try rfl
  have t1 : (c.kind == 1) = false := by simp; omega
  have t2 : (c.kind == 2) = false := by simp; omega
  have t3 : (c.kind == 3) = true := by simp; omega
  have t4 : (c.kind == 4) = false := by simp; omega
  have t5 : (c.kind == 5) = false := by simp; omega
  have t6 : (c.kind == 6) = false := by simp; omega
  have t7 : (c.kind == 7) = false := by simp; omega
  have hq0 : ∀ (w : World) o, Quiet w (w.alloc o) := fun w o => (Below.refl _ _).alloc (Nat.le_refl _) _
  clear hk
  rw [HE.out]
  unfold Cmd.val
  go_enter Tryz.func113, Tryz.ntmps113
  go_wp2
  refine bodyPost_ret (v := .agg #[.int .i64 c.kind, .int .i64 c.inst, .int .i64 c.a, .int .i64 0, .int .i64 0, .string ⟨#[]⟩, .bool false]) (by simp [results, Tryz.results113, go_sem]) rfl ⟨rfl, ?_⟩
  first | exact ((hq0 _ _).after (hq0 _ _)).after (hq0 _ _) | exact (hq0 _ _).after (hq0 _ _)

set_option maxRecDepth 100000 in
set_option maxHeartbeats 4000000 in
theorem named_4 (c : Cmd) (w : World) (hk : c.kind = 4)  :
    Calls Tryz.prog 113 #[c.val] w fun e w' => e = .returned (namC c).val ∧ Quiet w w' := by
  have HE : Hid ((namC c).val = .agg #[.int .i64 c.kind, .int .i64 0, .int .i64 c.a, .int .i64 0, .int .i64 0, .string ⟨#[]⟩, .bool false]) := by
    show (namC c).val = _
    simp [namC, Cmd.val, hk]
    try rfl
  have t1 : (c.kind == 1) = false := by simp; omega
  have t2 : (c.kind == 2) = false := by simp; omega
  have t3 : (c.kind == 3) = false := by simp; omega
  have t4 : (c.kind == 4) = true := by simp; omega
  have t5 : (c.kind == 5) = false := by simp; omega
  have t6 : (c.kind == 6) = false := by simp; omega
  have t7 : (c.kind == 7) = false := by simp; omega
  have hq0 : ∀ (w : World) o, Quiet w (w.alloc o) := fun w o => (Below.refl _ _).alloc (Nat.le_refl _) _
  clear hk
  rw [HE.out]
  unfold Cmd.val
  go_enter Tryz.func113, Tryz.ntmps113
  go_wp2
  refine bodyPost_ret (v := .agg #[.int .i64 c.kind, .int .i64 0, .int .i64 c.a, .int .i64 0, .int .i64 0, .string ⟨#[]⟩, .bool false]) (by simp [results, Tryz.results113, go_sem]) rfl ⟨rfl, ?_⟩
  first | exact ((hq0 _ _).after (hq0 _ _)).after (hq0 _ _) | exact (hq0 _ _).after (hq0 _ _)

set_option maxRecDepth 100000 in
set_option maxHeartbeats 4000000 in
theorem named_5y (c : Cmd) (w : World) (hk : c.kind = 5) (hb : (c.a == 5) = true) :
    Calls Tryz.prog 113 #[c.val] w fun e w' => e = .returned (namC c).val ∧ Quiet w w' := by
  have HE : Hid ((namC c).val = .agg #[.int .i64 c.kind, .int .i64 c.inst, .int .i64 c.a, .int .i64 c.b, .int .i64 c.who, .string c.reason, .bool false]) := by
    show (namC c).val = _
    have hb2 := hb
    simp at hb2
    simp [namC, Cmd.val, hk, hb2]
    try rfl
  have t1 : (c.kind == 1) = false := by simp; omega
  have t2 : (c.kind == 2) = false := by simp; omega
  have t3 : (c.kind == 3) = false := by simp; omega
  have t4 : (c.kind == 4) = false := by simp; omega
  have t5 : (c.kind == 5) = true := by simp; omega
  have t6 : (c.kind == 6) = false := by simp; omega
  have t7 : (c.kind == 7) = false := by simp; omega
  have hq0 : ∀ (w : World) o, Quiet w (w.alloc o) := fun w o => (Below.refl _ _).alloc (Nat.le_refl _) _
  clear hk
  rw [HE.out]
  unfold Cmd.val
  go_enter Tryz.func113, Tryz.ntmps113
  go_wp2
  refine bodyPost_ret (v := .agg #[.int .i64 c.kind, .int .i64 c.inst, .int .i64 c.a, .int .i64 c.b, .int .i64 c.who, .string c.reason, .bool false]) (by simp [results, Tryz.results113, go_sem]) rfl ⟨rfl, ?_⟩
  first | exact ((hq0 _ _).after (hq0 _ _)).after (hq0 _ _) | exact (hq0 _ _).after (hq0 _ _)

set_option maxRecDepth 100000 in
set_option maxHeartbeats 4000000 in
theorem named_5n (c : Cmd) (w : World) (hk : c.kind = 5) (hb : (c.a == 5) = false) :
    Calls Tryz.prog 113 #[c.val] w fun e w' => e = .returned (namC c).val ∧ Quiet w w' := by
  have HE : Hid ((namC c).val = .agg #[.int .i64 c.kind, .int .i64 c.inst, .int .i64 c.a, .int .i64 0, .int .i64 c.who, .string c.reason, .bool false]) := by
    show (namC c).val = _
    have hb2 := hb
    simp at hb2
    simp [namC, Cmd.val, hk, hb2]
    try rfl
  have t1 : (c.kind == 1) = false := by simp; omega
  have t2 : (c.kind == 2) = false := by simp; omega
  have t3 : (c.kind == 3) = false := by simp; omega
  have t4 : (c.kind == 4) = false := by simp; omega
  have t5 : (c.kind == 5) = true := by simp; omega
  have t6 : (c.kind == 6) = false := by simp; omega
  have t7 : (c.kind == 7) = false := by simp; omega
  have hq0 : ∀ (w : World) o, Quiet w (w.alloc o) := fun w o => (Below.refl _ _).alloc (Nat.le_refl _) _
  clear hk
  rw [HE.out]
  unfold Cmd.val
  go_enter Tryz.func113, Tryz.ntmps113
  go_wp2
  refine bodyPost_ret (v := .agg #[.int .i64 c.kind, .int .i64 c.inst, .int .i64 c.a, .int .i64 0, .int .i64 c.who, .string c.reason, .bool false]) (by simp [results, Tryz.results113, go_sem]) rfl ⟨rfl, ?_⟩
  first | exact ((hq0 _ _).after (hq0 _ _)).after (hq0 _ _) | exact (hq0 _ _).after (hq0 _ _)

set_option maxRecDepth 100000 in
set_option maxHeartbeats 4000000 in
theorem named_6 (c : Cmd) (w : World) (hk : c.kind = 6)  :
    Calls Tryz.prog 113 #[c.val] w fun e w' => e = .returned (namC c).val ∧ Quiet w w' := by
  have HE : Hid ((namC c).val = .agg #[.int .i64 c.kind, .int .i64 0, .int .i64 c.a, .int .i64 0, .int .i64 c.who, .string ⟨#[]⟩, .bool false]) := by
    show (namC c).val = _
    simp [namC, Cmd.val, hk]
    try rfl
  have t1 : (c.kind == 1) = false := by simp; omega
  have t2 : (c.kind == 2) = false := by simp; omega
  have t3 : (c.kind == 3) = false := by simp; omega
  have t4 : (c.kind == 4) = false := by simp; omega
  have t5 : (c.kind == 5) = false := by simp; omega
  have t6 : (c.kind == 6) = true := by simp; omega
  have t7 : (c.kind == 7) = false := by simp; omega
  have hq0 : ∀ (w : World) o, Quiet w (w.alloc o) := fun w o => (Below.refl _ _).alloc (Nat.le_refl _) _
  clear hk
  rw [HE.out]
  unfold Cmd.val
  go_enter Tryz.func113, Tryz.ntmps113
  go_wp2
  refine bodyPost_ret (v := .agg #[.int .i64 c.kind, .int .i64 0, .int .i64 c.a, .int .i64 0, .int .i64 c.who, .string ⟨#[]⟩, .bool false]) (by simp [results, Tryz.results113, go_sem]) rfl ⟨rfl, ?_⟩
  first | exact ((hq0 _ _).after (hq0 _ _)).after (hq0 _ _) | exact (hq0 _ _).after (hq0 _ _)

set_option maxRecDepth 100000 in
set_option maxHeartbeats 4000000 in
theorem named_7 (c : Cmd) (w : World) (hk : c.kind = 7)  :
    Calls Tryz.prog 113 #[c.val] w fun e w' => e = .returned (namC c).val ∧ Quiet w w' := by
  have HE : Hid ((namC c).val = .agg #[.int .i64 c.kind, .int .i64 0, .int .i64 c.a, .int .i64 0, .int .i64 c.who, .string ⟨#[]⟩, .bool false]) := by
    show (namC c).val = _
    simp [namC, Cmd.val, hk]
    try rfl
  have t1 : (c.kind == 1) = false := by simp; omega
  have t2 : (c.kind == 2) = false := by simp; omega
  have t3 : (c.kind == 3) = false := by simp; omega
  have t4 : (c.kind == 4) = false := by simp; omega
  have t5 : (c.kind == 5) = false := by simp; omega
  have t6 : (c.kind == 6) = false := by simp; omega
  have t7 : (c.kind == 7) = true := by simp; omega
  have hq0 : ∀ (w : World) o, Quiet w (w.alloc o) := fun w o => (Below.refl _ _).alloc (Nat.le_refl _) _
  clear hk
  rw [HE.out]
  unfold Cmd.val
  go_enter Tryz.func113, Tryz.ntmps113
  go_wp2
  refine bodyPost_ret (v := .agg #[.int .i64 c.kind, .int .i64 0, .int .i64 c.a, .int .i64 0, .int .i64 c.who, .string ⟨#[]⟩, .bool false]) (by simp [results, Tryz.results113, go_sem]) rfl ⟨rfl, ?_⟩
  first | exact ((hq0 _ _).after (hq0 _ _)).after (hq0 _ _) | exact (hq0 _ _).after (hq0 _ _)

set_option maxRecDepth 100000 in
set_option maxHeartbeats 4000000 in
theorem named_x (c : Cmd) (w : World) (hk : c.kind < 1 ∨ 7 < c.kind)  :
    Calls Tryz.prog 113 #[c.val] w fun e w' => e = .returned (namC c).val ∧ Quiet w w' := by
  have HE : Hid ((namC c).val = .agg #[.int .i64 c.kind, .int .i64 0, .int .i64 0, .int .i64 0, .int .i64 0, .string ⟨#[]⟩, .bool false]) := by
    show (namC c).val = _
    unfold namC Cmd.val
    rw [if_neg (by omega), if_neg (by omega), if_neg (by omega), if_neg (by omega), if_neg (by omega), if_neg (by omega)]
    try rfl
  have t1 : (c.kind == 1) = false := by simp; omega
  have t2 : (c.kind == 2) = false := by simp; omega
  have t3 : (c.kind == 3) = false := by simp; omega
  have t4 : (c.kind == 4) = false := by simp; omega
  have t5 : (c.kind == 5) = false := by simp; omega
  have t6 : (c.kind == 6) = false := by simp; omega
  have t7 : (c.kind == 7) = false := by simp; omega
  have hq0 : ∀ (w : World) o, Quiet w (w.alloc o) := fun w o => (Below.refl _ _).alloc (Nat.le_refl _) _
  clear hk
  rw [HE.out]
  unfold Cmd.val
  go_enter Tryz.func113, Tryz.ntmps113
  go_wp2
  refine bodyPost_ret (v := .agg #[.int .i64 c.kind, .int .i64 0, .int .i64 0, .int .i64 0, .int .i64 0, .string ⟨#[]⟩, .bool false]) (by simp [results, Tryz.results113, go_sem]) rfl ⟨rfl, ?_⟩
  first | exact ((hq0 _ _).after (hq0 _ _)).after (hq0 _ _) | exact (hq0 _ _).after (hq0 _ _)

theorem named_any (c : Cmd) (w : World) : Calls Tryz.prog 113 #[c.val] w fun e w' => e = .returned (namC c).val ∧ Quiet w w' := by
  by_cases h1 : c.kind = 1
  · exact named_1 c w h1
  by_cases h2 : c.kind = 2
  · exact named_2 c w h2
  by_cases h3 : c.kind = 3
  · cases hb : c.b == 1
    · exact named_3n c w h3 hb
    · exact named_3y c w h3 hb
  by_cases h4 : c.kind = 4
  · exact named_4 c w h4
  by_cases h5 : c.kind = 5
  · cases hb : c.a == 5
    · exact named_5n c w h5 hb
    · exact named_5y c w h5 hb
  by_cases h6 : c.kind = 6
  · exact named_6 c w h6
  by_cases h7 : c.kind = 7
  · exact named_7 c w h7
  exact named_x c w (by omega)

end Go.Proofs.YtgcjlgaapiefiabGreat

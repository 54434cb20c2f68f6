import Derived.Test.YtgcjlgaapiefiabGreatQJwB

/-
  Walks of the program: the first record.
-/
namespace Go.Proofs.YtgcjlgaapiefiabGreat
open Go.RowKit Go.Lib

def IsRecP (r : ByteArray) : Prop := 0 < r.size ∧ 5 ≤ byteAt r 0 ∧ byteAt r 0 + 3 ≤ r.size ∧ strOfNums (recP (cmdOf r)) = r.extract 0 ((byteAt r 0).toNat + 3)
theorem cmdOf_reason (r : ByteArray) : (namC (cmdOf r)).reason.size ≤ 250 := by
  have hb := byteAt_bd r 0
  have h : (cmdOf r).reason.size ≤ 250 := by
    show (r.extract 6 ((byteAt r 0).toNat + 1)).size ≤ 250
    rw [ByteArray.size_extract]; omega
  simp only [namC]
  split
  · exact h
  · decide

theorem Below.set7 {B : Nat} {w0 w : World} (h : Below B w0 w) {b : Nat} (hb : B ≤ b) (v0 v1 v2 v3 v4 v5 v6 : Value) :
    Below B w0 (((((((w.setCell ⟨b, 0, none⟩ v0).setCell ⟨b, 1, none⟩ v1).setCell ⟨b, 2, none⟩ v2).setCell ⟨b, 3, none⟩ v3).setCell ⟨b, 4, none⟩ v4).setCell ⟨b, 5, none⟩ v5).setCell ⟨b, 6, none⟩ v6) :=
  ((((((h.setCell hb v0).setCell hb v1).setCell hb v2).setCell hb v3).setCell hb v4).setCell hb v5).setCell hb v6
theorem conv_own (W : World) (g n cap : Nat) (xs : List Int) (hl : xs.length = n) (h : ∀ i, i < n → W.cell? ⟨g, i, none⟩ = some (.int .u8 (xs.getD i 0))) :
    (convert 71 9 (.slice (some ⟨g, 0, none⟩) n cap)).run Tryz.prog W = .ok (.string (strOfNums xs)) W :=
  run_convert_bytes_arg _ 71 5 Tryz.underlying71 Tryz.underlying5 g 0 n cap xs hl (fun i hi => by
    rw [Nat.zero_add]
    exact h i hi) 9 Tryz.underlying9

set_option maxRecDepth 100000 in
set_option maxHeartbeats 4000000 in
theorem first_any (r : ByteArray) (w : World) (hr : r.size ≤ 9223372036854775807) :
    Calls Tryz.prog 55 #[.string r] w fun e w' => Quiet w w' ∧ ((IsRecP r ∧ e = .returned (.tuple #[(cmdOf r).val, .int .i64 (byteAt r 0 + 3)])) ∨ (¬ IsRecP r ∧ e = .returned (.tuple #[.agg #[.int .i64 0, .int .i64 0, .int .i64 0, .int .i64 0, .int .i64 0, .string ⟨#[]⟩, .bool false], .int .i64 0]))) := by
  have hq0 : ∀ (w : World) o, Quiet w (w.alloc o) := fun w o => (Below.refl _ _).alloc (Nat.le_refl _) _
  have HW : Hid (∀ V, Calls Tryz.prog 73 #[.string r] V fun e w' => e = .returned (.int .i64 (wholeR r)) ∧ w' = V) := fun V => whole_any r V hr
  by_cases hbig : wholeR r < 8
  · have HNo : Hid (¬ IsRecP r) := by
      rintro ⟨q1, q2, q3, _⟩
      unfold wholeR at hbig
      rw [if_neg (by omega), if_neg (by omega)] at hbig
      omega
    generalize wholeR r = z at *
    go_enter Tryz.func55, Tryz.ntmps55
    go_wp2_with fail
    refine calls_gen (fun V => Blk V w.heap.size #[.int .i64 0, .int .i64 0, .int .i64 0, .int .i64 0, .int .i64 0, .string ⟨#[]⟩, .bool false] 43 ∧ Quiet w V) ⟨Blk.new' rfl, hq0 _ _⟩ ?_
    rintro V ⟨b0, hqV⟩
    refine (HW.out V).mono ?_
    rintro e w2 ⟨rfl, hww⟩
    obtain rfl := hww.symm
    clear hww
    have g0 := b0.cell
    have f0 := b0.frozen
    have z0 := b0.lt
    go_wp2
    refine bodyPost_ret (v := .tuple #[.agg #[.int .i64 0, .int .i64 0, .int .i64 0, .int .i64 0, .int .i64 0, .string ⟨#[]⟩, .bool false], .int .i64 0]) (by simp [results, Tryz.results55, go_sem, g0]) rfl ⟨?_, .inr ⟨HNo.out, rfl⟩⟩
    exact Below.set7 hqV (Nat.le_refl _) _ _ _ _ _ _ _
  · have hsz : r.size ≠ 0 := by intro e; apply hbig; unfold wholeR; rw [if_pos e]; decide
    have hx3 : ¬ (r.size : Int) < byteAt r 0 + 3 := by intro e; apply hbig; unfold wholeR; rw [if_neg hsz, if_pos e]; decide
    have hwr : wholeR r = byteAt r 0 + 3 := by unfold wholeR; rw [if_neg hsz, if_neg hx3]
    rw [hwr] at HW hbig
    have hb := byteAt_bd r 0
    have hs8 : 8 ≤ r.size := by omega
    have HRE : Hid (r.extract 6 (byteAt r 0 + 3 - 2).toNat = (cmdOf r).reason) := by
      show r.extract 6 (byteAt r 0 + 3 - 2).toNat = r.extract 6 ((byteAt r 0).toNat + 1)
      congr 1; omega
    have h1 : ((r[1]'(by omega)).toNat : Int) = (cmdOf r).kind := (byteAt_get r 1 (by omega)).symm
    have h2 : ((r[2]'(by omega)).toNat : Int) = (cmdOf r).inst := (byteAt_get r 2 (by omega)).symm
    have h3 : ((r[3]'(by omega)).toNat : Int) = (cmdOf r).a := (byteAt_get r 3 (by omega)).symm
    have h4 : ((r[4]'(by omega)).toNat : Int) = (cmdOf r).b := (byteAt_get r 4 (by omega)).symm
    have h5 : ((r[5]'(by omega)).toNat : Int) = (cmdOf r).who := (byteAt_get r 5 (by omega)).symm
    have hb1 : 0 ≤ (cmdOf r).kind ∧ (cmdOf r).kind ≤ 255 := byteAt_bd r 1
    have hb2 : 0 ≤ (cmdOf r).inst ∧ (cmdOf r).inst ≤ 255 := byteAt_bd r 2
    have hb3 : 0 ≤ (cmdOf r).a ∧ (cmdOf r).a ≤ 255 := byteAt_bd r 3
    have hb4 : 0 ≤ (cmdOf r).b ∧ (cmdOf r).b ≤ 255 := byteAt_bd r 4
    have hb5 : 0 ≤ (cmdOf r).who ∧ (cmdOf r).who ≤ 255 := byteAt_bd r 5
    obtain ⟨hb1a, hb1b⟩ := hb1
    obtain ⟨hb2a, hb2b⟩ := hb2
    obtain ⟨hb3a, hb3b⟩ := hb3
    obtain ⟨hb4a, hb4b⟩ := hb4
    obtain ⟨hb5a, hb5b⟩ := hb5
    have h6 : ∀ U, (Instr.slice 9 (.string r) (some (.int .i64 6)) (some (.int .i64 (byteAt r 0 + 3 - 2))) none).run Tryz.prog U = .ok (.string (cmdOf r).reason) U := fun U => by
      rw [run_slice_string U 9 r .i64 .i64 6 (byteAt r 0 + 3 - 2) Tryz.underlying9 (by omega) (by omega) (by omega), ← HRE.out]; rfl
    have HDry : Hid ((cmdOf r).dry = false) := rfl
    have HREC : Hid (∀ V, Calls Tryz.prog 72 #[.agg #[.int .i64 (cmdOf r).kind, .int .i64 (cmdOf r).inst, .int .i64 (cmdOf r).a, .int .i64 (cmdOf r).b, .int .i64 (cmdOf r).who, .string (cmdOf r).reason, .bool false]] V fun e w' => ∃ v, e = .returned v ∧ w'.ownsRow V.heap.size 5 1 v (8 + (namC (cmdOf r)).reason.size) ((recP (cmdOf r)).map (Value.int .u8)) ∧ Quiet V w') := fun V => recordP_any (cmdOf r) V (cmdOf_reason r)
    have HEQ : Hid (IsRecP r ↔ strOfNums (recP (cmdOf r)) = r.extract 0 (byteAt r 0 + 3).toNat) := by
      show _ ↔ _
      unfold IsRecP
      rw [show (byteAt r 0 + 3).toNat = (byteAt r 0).toNat + 3 by omega]
      exact ⟨fun q => q.2.2.2, fun q => ⟨by omega, by omega, by omega, q⟩⟩
    have HV : Hid ((cmdOf r).val = .agg #[.int .i64 (cmdOf r).kind, .int .i64 (cmdOf r).inst, .int .i64 (cmdOf r).a, .int .i64 (cmdOf r).b, .int .i64 (cmdOf r).who, .string (cmdOf r).reason, .bool false]) := rfl
    have hrl := recP_length (cmdOf r)
    rw [HV.out]
    have HXB : Hid (∀ x ∈ recP (cmdOf r), 0 ≤ x ∧ x ≤ 255) := recP_bd _
    generalize recP (cmdOf r) = xs at *
    generalize (namC (cmdOf r)).reason.size = m at *
    clear HV hwr HDry
    generalize cmdOf r = c at *
    generalize byteAt r 0 = x at *
    go_enter Tryz.func55, Tryz.ntmps55
    go_wp2_with fail
    refine calls_gen (fun V => Blk V w.heap.size #[.int .i64 0, .int .i64 0, .int .i64 0, .int .i64 0, .int .i64 0, .string ⟨#[]⟩, .bool false] 43 ∧ Quiet w V) ⟨Blk.new' rfl, hq0 _ _⟩ ?_
    rintro V ⟨b0, hqV⟩
    refine (HW.out V).mono ?_
    rintro e w2 ⟨rfl, hww⟩
    obtain rfl := hww.symm
    clear hww
    go_wp2_with fail
    go_region
    go_wp2_with fail
    refine calls_gen (fun U => Blk U w.heap.size #[.int .i64 0, .int .i64 0, .int .i64 0, .int .i64 0, .int .i64 0, .string ⟨#[]⟩, .bool false] 43 ∧ Blk U V.heap.size #[.int .i64 c.kind, .int .i64 c.inst, .int .i64 c.a, .int .i64 c.b, .int .i64 c.who, .string c.reason, .bool false] 43 ∧ Quiet w U) ⟨(b0.alloc _).drew, (Blk.new' rfl).drew, Below.drew (hqV.after (hq0 _ _))⟩ ?_
    rintro U ⟨b0, b1, hqU⟩
    refine (HREC.out U).mono ?_
    rintro e w3 ⟨v3, rfl, hown, hq3⟩
    replace b0 := b0.quiet hq3
    replace b1 := b1.quiet hq3
    replace hq3 : Quiet w w3 := hqU.after hq3
    obtain ⟨g, cap, rfl, hg, hxl, hcell⟩ := own_bytes hown (by omega)
    have fb := conv_own w3 g (8 + m) cap xs hxl hcell
    have fb' := conv_own w3.drew g (8 + m) cap xs hxl hcell
    have h7 : ∀ U, (Instr.slice 9 (.string r) none (some (.int .i64 (x + 3))) none).run Tryz.prog U = .ok (.string (r.extract 0 (x + 3).toNat)) U := fun U => by
      rw [run_slice_string_to_if U 9 r .i64 (x + 3) Tryz.underlying9, if_pos ⟨by omega, by omega⟩]
    clear hown hcell hqU HREC HW h1 h2 h3 h4 h5 h6 HRE
    have g0 := b0.cell
    have f0 := b0.frozen
    have z0 := b0.lt
    have g1 := b1.cell
    have z1 := b1.lt
    have HE2 : Hid (∀ s1 s2 : ByteArray, s1 = strOfNums xs → s2 = r.extract 0 (x + 3).toNat → (IsRecP r ↔ s1 = s2)) := fun s1 s2 e1 e2 => by rw [e1, e2]; exact HEQ.out
    obtain ⟨s1, HS1⟩ : ∃ s1, Hid (s1 = strOfNums xs) := ⟨_, rfl⟩
    obtain ⟨s2, HS2⟩ : ∃ s2, Hid (s2 = r.extract 0 (x + 3).toNat) := ⟨_, rfl⟩
    rw [← HS1.out] at fb fb'
    rw [← HS2.out] at h7
    have HI : Hid (IsRecP r ↔ s1 = s2) := HE2.out s1 s2 HS1.out HS2.out
    clear HE2 HS1 HS2 HEQ
    by_cases heq : s1 = s2
    · have ht : (s1.toList == s2.toList) = true := by rw [toList_beq]; exact decide_eq_true heq
      have HYes : Hid (IsRecP r) := HI.out.2 heq
      clear heq HI
      go_wp2_with fail
      go_region
      go_wp2_with fail
      refine bodyPost_ret (v := .tuple #[.agg #[.int .i64 c.kind, .int .i64 c.inst, .int .i64 c.a, .int .i64 c.b, .int .i64 c.who, .string c.reason, .bool false], .int .i64 (x + 3)]) (by simp [results, Tryz.results55, go_sem, g0]) rfl ⟨?_, .inl ⟨HYes.out, rfl⟩⟩
      exact Below.drew (Below.set7 hq3 (Nat.le_refl _) _ _ _ _ _ _ _)
    · have ht : (s1.toList == s2.toList) = false := by rw [toList_beq]; exact decide_eq_false heq
      have HNo : Hid (¬ IsRecP r) := fun q => heq (HI.out.1 q)
      clear heq HI
      go_wp2_with fail
      go_region
      go_wp2
      refine bodyPost_ret (v := .tuple #[.agg #[.int .i64 0, .int .i64 0, .int .i64 0, .int .i64 0, .int .i64 0, .string ⟨#[]⟩, .bool false], .int .i64 0]) (by simp [results, Tryz.results55, go_sem, g0]) rfl ⟨?_, .inr ⟨HNo.out, rfl⟩⟩
      exact Below.drew (Below.set7 hq3 (Nat.le_refl _) _ _ _ _ _ _ _)

end Go.Proofs.YtgcjlgaapiefiabGreat

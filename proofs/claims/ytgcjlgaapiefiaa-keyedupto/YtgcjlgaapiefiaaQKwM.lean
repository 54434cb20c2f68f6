import Derived.Test.YtgcjlgaapiefiaaQSame

/-
  Walks of the statements' own comparisons of instances, requests: as decisions.
-/
namespace Go.Proofs.Ytgcjlgaapiefiaa
open Go.RowKit Go.Sort

noncomputable def eqB (p : Prop) : Bool := @decide p (Classical.propDecidable p)
theorem eqB_true {p : Prop} (h : p) : eqB p = true := by unfold eqB; simp [h]
theorem eqB_false {p : Prop} (h : ¬p) : eqB p = false := by unfold eqB; simp [h]
theorem eqB_iff {p : Prop} : eqB p = true ↔ p := ⟨fun h => by unfold eqB at h; simpa using h, eqB_true⟩

theorem bne_ne {α : Type} [BEq α] [LawfulBEq α] {a b : α} (h : (a != b) = true) : a ≠ b := by simpa using h
theorem bne_eq' {α : Type} [BEq α] [LawfulBEq α] {a b : α} (h : (a != b) = false) : a = b := by simpa using h
theorem reason_eq {a b : ByteArray} (h : a.toList = b.toList) : a = b := by
  have h' : a.data.toList = b.data.toList := by rw [ByteArray.toList_eq, ByteArray.toList_eq] at h; exact h
  cases a; cases b; congr 1; exact Array.ext' h'
theorem take_step {α : Type} {l m : List α} {k : Nat} (h1 : k < l.length) (h2 : k < m.length) (h : l.take k = m.take k) (he : l[k] = m[k]) : l.take (k + 1) = m.take (k + 1) := by
  rw [List.take_succ_eq_append_getElem h1, List.take_succ_eq_append_getElem h2, h, he]
theorem getElem_of_eq' {α : Type} {l m : List α} {k : Nat} (h1 : k < l.length) (h2 : k < m.length) (h : l = m) : l[k] = m[k] := by subst h; rfl

set_option maxRecDepth 100000 in
set_option maxHeartbeats 8000000 in
theorem sameInst_any (x y : Inst) (a a' : Option Addr) (n n' cap cap' : Nat) (w : World) (ha : Ents w (.slice a n cap) x.ledger) (hb : Ents w (.slice a' n' cap') y.ledger) :
    Calls Try.prog 34 #[x.val (.slice a n cap), y.val (.slice a' n' cap')] w fun e w' => e = .returned (.bool (eqB (x = y))) ∧ Quiet w w' := by
  have hq0 : ∀ (w : World) o, Quiet w (w.alloc o) := fun w o => (Below.refl _ _).alloc (Nat.le_refl _) _
  unfold Inst.val
  obtain ⟨id, mode, stuck, settled, target, resume, keys, key, due, tries, wake, ledger⟩ := x
  obtain ⟨id2, mode2, stuck2, settled2, target2, resume2, keys2, key2, due2, tries2, wake2, ledger2⟩ := y
  have hlx : Hid (n = ledger.length) := (ha.len).1
  have hly : Hid (n' = ledger2.length) := (hb.len).1
  go_enter Try.func34, Try.ntmps34
  cases t0 : (id != id2)
  rotate_left
  · rw [eqB_false (fun q => bne_ne t0 (by injection q))]
    go_wp2
    go_ret
    exact ⟨rfl, (hq0 _ _).after (hq0 _ _)⟩
  obtain rfl := bne_eq' t0
  cases t1 : (mode != mode2)
  rotate_left
  · rw [eqB_false (fun q => bne_ne t1 (by injection q))]
    go_wp2
    go_ret
    exact ⟨rfl, (hq0 _ _).after (hq0 _ _)⟩
  obtain rfl := bne_eq' t1
  cases t2 : (stuck != stuck2)
  rotate_left
  · rw [eqB_false (fun q => bne_ne t2 (by injection q))]
    cases stuck <;> cases stuck2 <;> simp at t2
    · go_wp2
      go_ret
      exact ⟨rfl, (hq0 _ _).after (hq0 _ _)⟩
    · go_wp2
      go_ret
      exact ⟨rfl, (hq0 _ _).after (hq0 _ _)⟩
  obtain rfl := bne_eq' t2
  cases t3 : (settled != settled2)
  rotate_left
  · rw [eqB_false (fun q => bne_ne t3 (by injection q))]
    go_wp2
    go_ret
    exact ⟨rfl, (hq0 _ _).after (hq0 _ _)⟩
  obtain rfl := bne_eq' t3
  cases t4 : (target != target2)
  rotate_left
  · rw [eqB_false (fun q => bne_ne t4 (by injection q))]
    go_wp2
    go_ret
    exact ⟨rfl, (hq0 _ _).after (hq0 _ _)⟩
  obtain rfl := bne_eq' t4
  cases t5 : (resume != resume2)
  rotate_left
  · rw [eqB_false (fun q => bne_ne t5 (by injection q))]
    cases resume <;> cases resume2 <;> simp at t5
    · go_wp2
      go_ret
      exact ⟨rfl, (hq0 _ _).after (hq0 _ _)⟩
    · go_wp2
      go_ret
      exact ⟨rfl, (hq0 _ _).after (hq0 _ _)⟩
  obtain rfl := bne_eq' t5
  cases t6 : (keys != keys2)
  rotate_left
  · rw [eqB_false (fun q => bne_ne t6 (by injection q))]
    go_wp2
    go_ret
    exact ⟨rfl, (hq0 _ _).after (hq0 _ _)⟩
  obtain rfl := bne_eq' t6
  cases t7 : (key != key2)
  rotate_left
  · rw [eqB_false (fun q => bne_ne t7 (by injection q))]
    go_wp2
    go_ret
    exact ⟨rfl, (hq0 _ _).after (hq0 _ _)⟩
  obtain rfl := bne_eq' t7
  cases t8 : (due != due2)
  rotate_left
  · rw [eqB_false (fun q => bne_ne t8 (by injection q))]
    go_wp2
    go_ret
    exact ⟨rfl, (hq0 _ _).after (hq0 _ _)⟩
  obtain rfl := bne_eq' t8
  cases t9 : (tries != tries2)
  rotate_left
  · rw [eqB_false (fun q => bne_ne t9 (by injection q))]
    go_wp2
    go_ret
    exact ⟨rfl, (hq0 _ _).after (hq0 _ _)⟩
  obtain rfl := bne_eq' t9
  cases t10 : (wake != wake2)
  rotate_left
  · rw [eqB_false (fun q => bne_ne t10 (by injection q))]
    go_wp2
    go_ret
    exact ⟨rfl, (hq0 _ _).after (hq0 _ _)⟩
  obtain rfl := bne_eq' t10
  cases t11 : ((n : Int) != (n' : Int))
  rotate_left
  · rw [eqB_false (fun q => bne_ne t11 (by rw [hlx.out, hly.out]; injection q; congr 2))]
    go_wp2
    go_ret
    exact ⟨rfl, (hq0 _ _).after (hq0 _ _)⟩
  obtain rfl : n = n' := by have := bne_eq' t11; omega
  have hnm := (ha.len).2
  go_wp2
  go_loopw [5] (fun i wr => ∃ k : Nat, k ≤ n ∧ i = .int .i64 k ∧ Hid (ledger.take k = ledger2.take k) ∧ Blk wr w.heap.size #[.int .i64 id, .int .i64 mode, .bool stuck, .int .i64 settled, .int .i64 target, .bool resume, .int .i64 keys, .int .i64 key, .int .i64 due, .int .i64 tries, .int .i64 wake, .slice a n cap] 46 ∧ Blk wr (w.heap.size + 1) #[.int .i64 id, .int .i64 mode, .bool stuck, .int .i64 settled, .int .i64 target, .bool resume, .int .i64 keys, .int .i64 key, .int .i64 due, .int .i64 tries, .int .i64 wake, .slice a' n cap'] 46 ∧ Quiet w wr) (fun i _ => n - (intOf i).toNat)
  case atStart => exact ⟨0, Nat.zero_le _, rfl, by show _ = _; rfl, (Blk.new' rfl).alloc _, Blk.new' (by simp), (hq0 _ _).after (hq0 _ _)⟩
  case round =>
    obtain ⟨k, hk, rfl, hsm, b0, b1, hq⟩ := hrel
    have g0 := b0.cell
    have z0 := b0.lt
    have g1 := b1.cell
    have z1 := b1.lt
    by_cases hlt : k < n
    · have hkx : k < ledger.length := by have := hlx.out; omega
      have hky : k < ledger2.length := by have := hly.out; omega
      obtain ⟨b, o, rfl, hb1, c0, c1, c2⟩ := (ha.quiet hq).cell k hkx
      obtain ⟨b', o', rfl, hb2, d0, d1, d2⟩ := (hb.quiet hq).cell k hky
      have HT : Hid (ledger[k] = ledger2[k] → ledger.take (k + 1) = ledger2.take (k + 1)) := fun q => take_step hkx hky hsm.out q
      have HF : Hid ((⟨id, mode, stuck, settled, target, resume, keys, key, due, tries, wake, ledger⟩ : Inst) = ⟨id, mode, stuck, settled, target, resume, keys, key, due, tries, wake, ledger2⟩ → ledger[k] = ledger2[k]) := fun q => getElem_of_eq' hkx hky (by injection q)
      have hki : (0 : Int) ≤ (k : Int) := by omega
      have hkj : (k : Int) < (n : Int) := by omega
      generalize ledger[k] = e at *
      generalize ledger2[k] = f at *
      cases s0 : (e.kind != f.kind)
      rotate_left
      · have HZ := eqB_false (fun q => bne_ne s0 (by rw [HF.out q]))
        go_wp2_with fail
        go_quiet (fail)
        go_wp2
        go_ret
        exact ⟨ret_bool HZ.symm, hq.drewN⟩
      cases s1 : (e.step != f.step)
      rotate_left
      · have HZ := eqB_false (fun q => bne_ne s1 (by rw [HF.out q]))
        go_wp2_with fail
        go_quiet (fail)
        go_wp2
        go_ret
        exact ⟨ret_bool HZ.symm, hq.drewN⟩
      cases s2 : (e.ref != f.ref)
      rotate_left
      · have HZ := eqB_false (fun q => bne_ne s2 (by rw [HF.out q]))
        go_wp2_with fail
        go_quiet (fail)
        go_wp2
        go_ret
        exact ⟨ret_bool HZ.symm, hq.drewN⟩
      have hef : Hid (e = f) := by
        show e = f
        have e0 := bne_eq' s0; have e1 := bne_eq' s1; have e2 := bne_eq' s2
        cases e; cases f; simp_all
      go_wp2_with fail
      go_quiet (fail)
      go_wp2
      go_roundw
      case rel => exact ⟨k + 1, by omega, by go_num, HT.out hef.out, b0.quiet (Below.refl _ _).drewN, b1.quiet (Below.refl _ _).drewN, hq.drewN⟩
      case measure => simp [intOf]; omega
    · have HZ : Hid (eqB ((⟨id, mode, stuck, settled, target, resume, keys, key, due, tries, wake, ledger⟩ : Inst) = ⟨id, mode, stuck, settled, target, resume, keys, key, due, tries, wake, ledger2⟩) = true) := eqB_true (congrArg (fun z => (⟨id, mode, stuck, settled, target, resume, keys, key, due, tries, wake, z⟩ : Inst)) (by
        have q := hsm.out
        have h1 := hlx.out
        have h2 := hly.out
        rwa [List.take_of_length_le (by omega), List.take_of_length_le (by omega)] at q))
      go_wp2
      go_ret
      exact ⟨ret_bool HZ.out.symm, hq⟩

end Go.Proofs.Ytgcjlgaapiefiaa

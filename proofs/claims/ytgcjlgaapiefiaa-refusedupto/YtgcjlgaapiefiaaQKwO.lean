import Derived.Test.YtgcjlgaapiefiaaQKpD
import Derived.Test.YtgcjlgaapiefiaaQKwE
import Derived.Test.YtgcjlgaapiefiaaQJwH

/-
  sagakeep.last: walked.
-/
namespace Go.Proofs.Ytgcjlgaapiefiaa
open Go.RowKit Go.Sort

set_option maxRecDepth 100000 in
set_option maxHeartbeats 2000000 in
theorem last_any (dv v : Value) (d : Def) (hok : d.ok = true) (l : List Cmd) (c : Cmd) (w : World) (hd : DefIs w dv d) (h : Cmds w v (l ++ [c])) (hl : l.length + 1 ≤ 1048576) (hcr : ∀ x ∈ l ++ [c], x.reason.size ≤ 9223372036854775807) :
    Calls Try.prog 29 #[dv, v] w fun e w' => e = .returned (.tuple #[(ansK d (playR d l) c).val, .bool true]) ∧ Quiet w w' := by
  have hq0 : ∀ (w : World) o, Quiet w (w.alloc o) := fun w o => (Below.refl _ _).alloc (Nat.le_refl _) _
  obtain ⟨a, n, cap, rfl⟩ := h.1.shape
  obtain ⟨hn, hm⟩ := h.len
  have HN : Hid (n = (l ++ [c]).length) := hn
  have HN1 : Hid (n = l.length + 1) := by show n = l.length + 1; simpa using hn
  have hnb : (n : Int) ≤ 1048576 := by have := HN1.out; omega
  clear hn
  have hd0 := hd
  obtain ⟨da, dn, dcap, rfl, hst⟩ := hd
  clear hst
  go_enter Try.func29, Try.ntmps29
  go_wp2_with fail
  refine calls_gen (fun V => Blk V w.heap.size #[.slice da dn dcap, .int .i64 d.quorum, .int .i64 d.expiry] 24 ∧ Blk V (w.heap.size + 1) #[.int .i64 0, .int .i64 0, .int .i64 0, .int .i64 0] 56 ∧ Quiet w V) ⟨(Blk.new' rfl).alloc _, Blk.new' (by simp), (hq0 _ _).after (hq0 _ _)⟩ ?_
  rintro V ⟨bd, br, hqV⟩
  refine (runM_any _ _ d (l ++ [c]) V (hd0.quiet hqV) (h.quiet hqV) (by simp; omega) hcr).mono ?_
  rintro e w1 ⟨hq1, hc⟩
  rcases hc with ⟨q, _⟩ | ⟨_, aa, ac, rfl, hown⟩
  · rw [hok] at q; simp at q
  have hal : (playR d (l ++ [c])).answers.length = (l ++ [c]).length := by have := (playFold d (l ++ [c]) (l ++ [c]).length (Nat.le_refl _)).2.2; rwa [List.take_length] at this
  have hans : (playR d (l ++ [c])).answers = (playR d l).answers ++ [ansK d (playR d l) c] := by rw [playR_snocK, play_ansK]
  have hA := own_answers hown hal.symm
  have hkl : l.length < (playR d (l ++ [c])).answers.length := by rw [hal]; simp
  have HG : Hid ((playR d (l ++ [c])).answers[l.length] = ansK d (playR d l) c) := by
    show _ = _
    have hpl : (playR d l).answers.length = l.length := by have := (playFold d l l.length (Nat.le_refl _)).2.2; rwa [List.take_length] at this
    simp only [hans]
    rw [List.getElem_append_right (by omega)]
    simp [hpl]
  obtain ⟨ab, aoff, rfl, hab, a0, a1, a2, a3⟩ := Answers.cell hA l.length hkl
  obtain ⟨A, HA⟩ : ∃ A, Hid (ansK d (playR d l) c = A) := ⟨_, rfl⟩
  rw [HG.out, HA.out] at a0 a1 a2 a3
  have hqw : Quiet w w1 := hqV.after hq1
  have hne : ab ≠ w.heap.size + 1 := by
    have h1 := own_ge hown ab (by simp [Value.ownBlock])
    have := br.lt
    omega
  replace br := br.quiet hq1
  obtain ⟨k, HKl⟩ : ∃ k, Hid (k = l.length) := ⟨_, rfl⟩
  rw [← HKl.out] at a0 a1 a2 a3
  rw [← HN.out]
  have HK : Hid (n = k + 1) := by show n = k + 1; have := HKl.out; have := HN1.out; omega
  clear hown hA hal hans bd HG hkl hq1 HKl hl
  have hkn : (k : Int) < (n : Int) := by have := HK.out; omega
  have hki : (0 : Int) ≤ (k : Int) := by omega
  have t0 : ((n : Int) != (n : Int)) = false := by simp
  have t1 : ((n : Int) == 0) = false := by have := HK.out; simp; omega
  have hw1 : IntKind.i64.wrap ((n : Int) - 1) = (k : Int) := by have := HK.out; rw [IntKind.wrap_i64]; omega
  have gr := br.cell
  have fr := br.frozen
  have zr := br.lt
  go_wp2
  refine bodyPost_ret (v := .tuple #[.agg #[.int .i64 A.code, .int .i64 A.number, .int .i64 A.step, .int .i64 A.what], .bool true]) (by simp [results, Try.results29, go_sem, gr]) rfl ⟨by rw [HA.out]; rfl, ?_⟩
  exact (((hqw.setCell (p := ⟨w.heap.size + 1, 0, none⟩) (Nat.le_succ _) _).setCell (p := ⟨w.heap.size + 1, 1, none⟩) (Nat.le_succ _) _).setCell (p := ⟨w.heap.size + 1, 2, none⟩) (Nat.le_succ _) _).setCell (p := ⟨w.heap.size + 1, 3, none⟩) (Nat.le_succ _) _

end Go.Proofs.Ytgcjlgaapiefiaa

import Derived.Test.YtgcjlgaapiefiaaQKpF
import Derived.Test.YtgcjlgaapiefiaaQKwM
import Derived.Test.YtgcjlgaapiefiaaQJwH

/-
  sagakeep.gave, sagakeep.once: walked (made by mkkw20.py).
-/
namespace Go.Proofs.Ytgcjlgaapiefiaa
open Go.RowKit Go.Sort

set_option maxRecDepth 100000 in
set_option maxHeartbeats 2000000 in
theorem gave_any (v : Value) (aa : Option Addr) (an ac : Nat) (s : List Cmd) (ans : List Answer) (hlen : ans.length = s.length) (hl : s.length ≤ 1048576) (id key step what : Int) (j : Nat) (hp : PickAt s ans id j ⟨0, key, step, what⟩) (w : World) (h : Cmds w v s) (hA : Answers w (.slice aa an ac) ans) :
    Calls Try.prog 27 #[v, .slice aa an ac, .int .i64 id, .int .i64 key, .int .i64 step, .int .i64 what] w fun e w' => e = .returned (.bool true) ∧ Quiet w w' := by
  have hq0 : ∀ (w : World) o, Quiet w (w.alloc o) := fun w o => (Below.refl _ _).alloc (Nat.le_refl _) _
  obtain ⟨a, n, cap, rfl⟩ := h.1.shape
  have HN : Hid (n = s.length) := h.len.1
  have HAN : Hid (an = ans.length) := (by show _ = _; have := (Arr.len hA).1; simpa using this)
  have hn1 : n ≤ 1048576 := by have := HN.out; omega
  obtain ⟨pj, pj', p1, p2, p3, p4, _⟩ := hp
  have hjn : j < n := by have := HN.out; omega
  go_enter Try.func27, Try.ntmps27
  go_wp2
  go_loopw [13, 14] (fun i c wr => ∃ k : Nat, k ≤ j ∧ i = .int .i64 k ∧ Quiet w wr) (fun i _ _ => n - (intOf i).toNat)
  case atStart => exact ⟨0, Nat.zero_le _, rfl, Below.refl _ _⟩
  case round =>
    obtain ⟨k, hk, rfl, hqr⟩ := hrel
    have hkl : k < s.length := by have := HN.out; omega
    have hka : k < ans.length := by omega
    obtain ⟨b, off, rfl, hb, c0, c1, c2, c3, c4, c5, c6⟩ := (h.quiet hqr).cell k hkl
    obtain ⟨ab, aoff, rfl, hab, a0, a1, a2, a3⟩ := Answers.cell (Arr.quiet hA hqr) k hka
    have HJ : Hid (k = j → (s[k].kind == 2) = true ∧ s[k].dry = false ∧ (s[k].inst == id) = true ∧ (ans[k].code == 0) = true ∧ (ans[k].number == key) = true ∧ (ans[k].step == step) = true ∧ (ans[k].what == what) = true) := fun e => by
      subst e
      rw [p1, p2, p3, p4]
      simp
    generalize s[k] = c at *
    generalize ans[k] = A at *
    have hki : (0 : Int) ≤ (k : Int) := by omega
    have hkj : (k : Int) < (n : Int) := by omega
    have hkan : (k : Int) < (an : Int) := by have := HAN.out; omega
    have hd1 : ab ≠ wr.heap.size := by omega
    clear p1 p2 p3 p4
    cases t0 : (c.kind == 2)
    · have hne : k ≠ j := fun e => by have := (HJ.out e).1; rw [t0] at this; simp at this
      go_wp2
      go_roundw
      case rel => exact ⟨k + 1, by omega, by go_num, hqr.after (hq0 _ _)⟩
      case measure => simp [intOf]; omega
    · cases t1 : c.dry
      · cases t2 : (c.inst == id)
        · have hne : k ≠ j := fun e => by have := (HJ.out e).2.2.1; rw [t2] at this; simp at this
          go_wp2
          go_roundw
          case rel => exact ⟨k + 1, by omega, by go_num, hqr.after (hq0 _ _)⟩
          case measure => simp [intOf]; omega
        · cases t3 : (A.code == 0)
          · have hne : k ≠ j := fun e => by have := (HJ.out e).2.2.2.1; rw [t3] at this; simp at this
            go_wp2
            go_roundw
            case rel => exact ⟨k + 1, by omega, by go_num, hqr.after (hq0 _ _)⟩
            case measure => simp [intOf]; omega
          · cases t4 : (A.number == key)
            · have hne : k ≠ j := fun e => by have := (HJ.out e).2.2.2.2.1; rw [t4] at this; simp at this
              go_wp2
              go_roundw
              case rel => exact ⟨k + 1, by omega, by go_num, hqr.after (hq0 _ _)⟩
              case measure => simp [intOf]; omega
            · cases t5 : (A.step == step)
              · have hne : k ≠ j := fun e => by have := (HJ.out e).2.2.2.2.2.1; rw [t5] at this; simp at this
                go_wp2
                go_roundw
                case rel => exact ⟨k + 1, by omega, by go_num, hqr.after (hq0 _ _)⟩
                case measure => simp [intOf]; omega
              · cases t6 : (A.what == what)
                · have hne : k ≠ j := fun e => by have := (HJ.out e).2.2.2.2.2.2; rw [t6] at this; simp at this
                  go_wp2
                  go_roundw
                  case rel => exact ⟨k + 1, by omega, by go_num, hqr.after (hq0 _ _)⟩
                  case measure => simp [intOf]; omega
                · go_wp2
                  go_ret
                  exact ⟨rfl, hqr.after (hq0 _ _)⟩
      · have hne : k ≠ j := fun e => by have := (HJ.out e).2.1; rw [t1] at this; simp at this
        go_wp2
        go_roundw
        case rel => exact ⟨k + 1, by omega, by go_num, hqr.after (hq0 _ _)⟩
        case measure => simp [intOf]; omega

set_option maxRecDepth 100000 in
set_option maxHeartbeats 4000000 in
theorem once_any (v : Value) (aa : Option Addr) (an ac : Nat) (s : List Cmd) (ans : List Answer) (hlen : ans.length = s.length) (hl : s.length ≤ 1048576) (hone : ∀ (i k : Nat) (a b : Answer) (id : Int), PickAt s ans id i a → PickAt s ans id k b → a.number = b.number → a.step = b.step ∧ a.what = b.what) (w : World) (h : Cmds w v s) (hA : Answers w (.slice aa an ac) ans) :
    Calls Try.prog 28 #[v, .slice aa an ac] w fun e w' => e = .returned (.bool true) ∧ Quiet w w' := by
  have hq0 : ∀ (w : World) o, Quiet w (w.alloc o) := fun w o => (Below.refl _ _).alloc (Nat.le_refl _) _
  obtain ⟨a, n, cap, rfl⟩ := h.1.shape
  have HN : Hid (n = s.length) := h.len.1
  have HAN : Hid (an = ans.length) := (by show _ = _; have := (Arr.len hA).1; simpa using this)
  have hn1 : n ≤ 1048576 := by have := HN.out; omega
  go_enter Try.func28, Try.ntmps28
  go_wp2
  go_loopw [5, 6, 7, 8, 9] (fun i k x y z wr => ∃ m : Nat, m ≤ n ∧ i = .int .i64 m ∧ Quiet w wr) (fun i _ _ _ _ _ => n - (intOf i).toNat)
  case atStart => exact ⟨0, Nat.zero_le _, rfl, Below.refl _ _⟩
  case round =>
    obtain ⟨i, hi, rfl, hqi⟩ := hrel
    by_cases hlt : i < n
    · have hki : (0 : Int) ≤ (i : Int) := by omega
      have hkj : (i : Int) < (n : Int) := by omega
      go_wp2
      go_loopw [6, 7, 8, 9] (fun k x y z wx => ∃ m : Nat, m ≤ i ∧ k = .int .i64 m ∧ Quiet w wx) (fun k _ _ _ _ => i - (intOf k).toNat)
      case atStart => exact ⟨0, Nat.zero_le _, rfl, hqi⟩
      case round =>
        clear hqi
        obtain ⟨k, hk, rfl, hqr⟩ := hrel
        by_cases hlt2 : k < i
        · have hil : i < s.length := by have := HN.out; omega
          have hia : i < ans.length := by omega
          have hkl : k < s.length := by omega
          have hka : k < ans.length := by omega
          obtain ⟨b, off, rfl, hb, c0, c1, c2, c3, c4, c5, c6⟩ := (h.quiet hqr).cell i hil
          obtain ⟨b', off', hbe, hb', d0, d1, d2, d3, d4, d5, d6⟩ := (h.quiet hqr).cell k hkl
          obtain ⟨rfl, rfl⟩ : b = b' ∧ off = off' := by simpa using hbe
          obtain ⟨ab, aoff, rfl, hab, a0, a1, a2, a3⟩ := Answers.cell (Arr.quiet hA hqr) i hia
          obtain ⟨ab', aoff', habe, hab', e0, e1, e2, e3⟩ := Answers.cell (Arr.quiet hA hqr) k hka
          obtain ⟨rfl, rfl⟩ : ab = ab' ∧ aoff = aoff' := by simpa using habe
          have HO : Hid (s[i].kind = 2 → s[k].kind = 2 → s[i].inst = s[k].inst → s[i].dry = false → s[k].dry = false → ans[i].code = 0 → ans[k].code = 0 → ans[i].number = ans[k].number → ans[i].step = ans[k].step ∧ ans[i].what = ans[k].what) := fun q1 q2 q3 q4 q5 q6 q7 q8 =>
            hone i k ans[i] ans[k] s[k].inst ⟨hil, hia, q1, q4, q3, rfl, q6⟩ ⟨hkl, hka, q2, q5, rfl, rfl, q7⟩ q8
          generalize s[i] = x at *
          generalize s[k] = y at *
          generalize ans[i] = A at *
          generalize ans[k] = E at *
          clear hbe habe hb' hab'
          have hkk : (0 : Int) ≤ (k : Int) := by omega
          have hkkj : (k : Int) < (n : Int) := by omega
          have hki2 : (k : Int) < (i : Int) := by omega
          have hkan : (k : Int) < (an : Int) := by have := HAN.out; omega
          have hian : (i : Int) < (an : Int) := by have := HAN.out; omega
          go_upto_region 9 with (fail)
          refine wp_gen (fun U => Blk U wr.heap.size #[.int .i64 x.kind, .int .i64 x.inst, .int .i64 x.a, .int .i64 x.b, .int .i64 x.who, .string x.reason, .bool x.dry] 54 ∧ Blk U (wr.heap.size + 1) #[.int .i64 y.kind, .int .i64 y.inst, .int .i64 y.a, .int .i64 y.b, .int .i64 y.who, .string y.reason, .bool y.dry] 54 ∧ Quiet wr U) ⟨(Blk.new' rfl).alloc _, Blk.new' (by simp), (hq0 _ _).after (hq0 _ _)⟩ ?_
          rintro U ⟨bx, by1, hqU⟩
          have gx := bx.cell
          have zx := bx.lt
          have gy := by1.cell
          have zy := by1.lt
          have a0' := ((bcell hqU).1 _ _ hab).trans a0
          have a1' := ((bcell hqU).1 _ _ hab).trans a1
          have a2' := ((bcell hqU).1 _ _ hab).trans a2
          have a3' := ((bcell hqU).1 _ _ hab).trans a3
          have e0' := ((bcell hqU).1 _ _ hab).trans e0
          have e1' := ((bcell hqU).1 _ _ hab).trans e1
          have e2' := ((bcell hqU).1 _ _ hab).trans e2
          have e3' := ((bcell hqU).1 _ _ hab).trans e3
          have zab : ab < U.heap.size := Nat.lt_of_lt_of_le hab hqU.size
          replace hqr : Quiet w U := hqr.after hqU
          clear c0 c1 c2 c3 c4 c5 c6 d0 d1 d2 d3 d4 d5 d6 a0 a1 a2 a3 e0 e1 e2 e3 hb hab
          obtain ⟨B, HB⟩ : ∃ B, Hid (((x.kind == 2) && ((y.kind == 2) && ((x.inst == y.inst) && (!x.dry && (!y.dry && ((A.code == 0) && (E.code == 0))))))) = B) := ⟨_, rfl⟩
          go_cut [9] (fun z wc => z = .bool B ∧ wc = U)
          case first =>
            cases t0 : (x.kind == 2)
            · go_wp2
              go_meet
              case rel => exact ⟨by rw [← HB.out]; simp [t0], rfl⟩
            · cases t1 : (y.kind == 2)
              · go_wp2
                go_meet
                case rel => exact ⟨by rw [← HB.out]; simp [t0, t1], rfl⟩
              · cases t2 : (x.inst == y.inst)
                · go_wp2
                  go_meet
                  case rel => exact ⟨by rw [← HB.out]; simp [t0, t1, t2], rfl⟩
                · cases t3 : x.dry
                  · cases t4 : y.dry
                    · cases t5 : (A.code == 0)
                      · go_wp2
                        go_meet
                        case rel => exact ⟨by rw [← HB.out]; simp [t0, t1, t2, t3, t4, t5], rfl⟩
                      · cases t6 : (E.code == 0)
                        · go_wp2
                          go_meet
                          case rel => exact ⟨by rw [← HB.out]; simp [t0, t1, t2, t3, t4, t5, t6], rfl⟩
                        · go_wp2
                          go_meet
                          case rel => exact ⟨by rw [← HB.out]; simp [t0, t1, t2, t3, t4, t5, t6], rfl⟩
                    · go_wp2
                      go_meet
                      case rel => exact ⟨by rw [← HB.out]; simp [t0, t1, t2, t3, t4], rfl⟩
                  · go_wp2
                    go_meet
                    case rel => exact ⟨by rw [← HB.out]; simp [t0, t1, t2, t3], rfl⟩
          case rest =>
            obtain ⟨rfl, rfl⟩ := hcut
            cases B
            · go_wp2_with fail
              go_quiet (fail)
              go_wp2
              go_roundw
              case rel => exact ⟨k + 1, by omega, by go_num, hqr.after (Below.refl _ _).drewN⟩
              case measure => simp [intOf]; omega
            · cases tn : (A.number == E.number)
              · go_wp2_with fail
                go_quiet (fail)
                go_wp2
                go_roundw
                case rel => exact ⟨k + 1, by omega, by go_num, hqr.after (Below.refl _ _).drewN⟩
                case measure => simp [intOf]; omega
              · have hB := HB.out
                simp only [Bool.and_eq_true, beq_iff_eq, Bool.not_eq_true'] at hB
                obtain ⟨s1, s2⟩ := HO.out hB.1 hB.2.1 hB.2.2.1 hB.2.2.2.1 hB.2.2.2.2.1 hB.2.2.2.2.2.1 hB.2.2.2.2.2.2 (by simpa using tn)
                have u1 : (A.step != E.step) = false := by rw [s1]; simp
                have u2 : (A.what != E.what) = false := by rw [s2]; simp
                clear s1 s2 hB
                go_wp2_with fail
                go_quiet (fail)
                go_wp2
                go_roundw
                case rel => exact ⟨k + 1, by omega, by go_num, hqr.after (Below.refl _ _).drewN⟩
                case measure => simp [intOf]; omega
        · go_wp2
          go_roundw
          case rel => exact ⟨i + 1, by omega, by go_num, hqr⟩
          case measure => simp [intOf]; omega
    · go_wp2
      go_ret
      exact ⟨rfl, hqi⟩

end Go.Proofs.Ytgcjlgaapiefiaa

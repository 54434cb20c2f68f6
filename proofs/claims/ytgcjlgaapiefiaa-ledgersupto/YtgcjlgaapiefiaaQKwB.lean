import Derived.Test.YtgcjlgaapiefiaaQKwA
import Derived.Test.YtgcjlgaapiefiaaQKpA
import Derived.Lib.QuietBelow

/-
  The statement Ledgers: walked.
-/
namespace Go.Proofs.Ytgcjlgaapiefiaa
open Go.RowKit Go.Sort

set_option maxRecDepth 100000 in
set_option maxHeartbeats 8000000 in
theorem ledgers_walk (dv sv : Value) (d : Def) (s : List Cmd) (w : World) (hd : DefIs w dv d) (h : Cmds w sv s) (hl : s.length ≤ 1048576) (hcr : ∀ c ∈ s, c.reason.size ≤ 9223372036854775807) :
    Calls Try.prog 6 #[dv, sv] w fun e w' => e = .returned (.bool true) ∧ Quiet w w' := by
  have hq0 : ∀ (w : World) o, Quiet w (w.alloc o) := fun w o => (Below.refl _ _).alloc (Nat.le_refl _) _
  have hd0 := hd
  obtain ⟨da, dn, dcap, rfl, hst⟩ := hd
  clear hst
  go_enter Try.func6, Try.ntmps6
  go_wp2_with fail
  refine calls_gen (fun V => Blk V w.heap.size #[.slice da dn dcap, .int .i64 d.quorum, .int .i64 d.expiry] 24 ∧ Quiet w V) ⟨Blk.new' rfl, hq0 _ _⟩ ?_
  rintro V ⟨bd, hqV⟩
  refine (awake_any V).mono ?_
  rintro e w1 ⟨rfl, hq1⟩
  replace bd := bd.quiet hq1
  replace hqV : Quiet w w1 := hqV.after hq1
  have gd := bd.cell
  have zd := bd.lt
  go_wp2_with fail
  refine (valid_any _ d w1 (hd0.quiet hqV)).mono ?_
  rintro e w2 ⟨rfl, hq2⟩
  replace bd := bd.quiet hq2
  replace hqV : Quiet w w2 := hqV.after hq2
  clear gd zd hq1 V
  have gd := bd.cell
  have zd := bd.lt
  cases hok : d.ok
  · go_wp2_with fail
    refine (refuses_any _ sv d s w2 (hd0.quiet hqV) hok (h.quiet hqV) hl hcr).mono ?_
    rintro e w3 ⟨rfl, hq3⟩
    go_wp2
    go_ret
    exact ⟨rfl, hqV.after hq3⟩
  have hW : InstsOk d (worldR d (playR d s).log).insts := worldR_instsOk hok (play_logOk d s)
  go_wp2_with fail
  refine (stateM_any _ sv d s w2 (hd0.quiet hqV) (h.quiet hqV) hl hcr).mono ?_
  rintro e w3 ⟨hq3, hc⟩
  rcases hc with ⟨q, _⟩ | ⟨_, ia, n, ic, ra, m, rc, rfl, hI, _⟩
  · rw [hok] at q; simp at q
  replace bd := bd.quiet hq3
  replace hqV : Quiet w w3 := hqV.after hq3
  clear gd zd hq2 hq3
  generalize worldR d (playR d s).log = WW at *
  obtain ⟨ck, xs, rs⟩ := WW
  obtain ⟨hn, hnm⟩ := hI.len
  have HN : Hid (n = xs.length) := hn
  have HW : Hid (InstsOk d xs) := hW
  clear hn hW
  go_wp2
  go_loopw [5, 9, 10] (fun ok i j wr => ∃ k : Nat, k ≤ n ∧ i = .int .i64 k ∧ Blk wr w.heap.size #[.slice da dn dcap, .int .i64 d.quorum, .int .i64 d.expiry] 24 ∧ Blk wr w3.heap.size #[.int .i64 ck, .slice ia n ic, .slice ra m rc] 38 ∧ Quiet w3 wr) (fun _ i _ _ => n - (intOf i).toNat)
  case atStart => exact ⟨0, Nat.zero_le _, rfl, bd.alloc _, Blk.new' rfl, hq0 _ _⟩
  case round =>
    obtain ⟨k, hk, rfl, b0, b1, hq⟩ := hrel
    have g0 := b0.cell
    have z0 := b0.lt
    have g1 := b1.cell
    have z1 := b1.lt
    by_cases hlt : k < n
    · have hkl : k < xs.length := by have := HN.out; omega
      obtain ⟨b, off, la, ln, lc, rfl, hb, hx, he⟩ := (hI.quiet hq).get k hkl
      obtain ⟨f1, f2, f3⟩ := HW.out.each k hkl
      have hids : ∀ (q : Nat) (hq : q < xs.length), q < k → (xs[q].id == xs[k].id) = false := fun q hq => HW.out.ids k q hkl hq
      generalize xs[k] = x at *
      simp only [Inst.cells] at hx
      have x0 : ∀ d os, (grow (redrawn wr d) os).cell? ⟨b, off + k * 12, none⟩ = some (.int .i64 x.id) := fun d os => (At.quiet hx (below_regrown wr d os)) 0 _ rfl
      have x1 := fun d os => (At.quiet hx (below_regrown wr d os)) 1 _ rfl
      have x2 := fun d os => (At.quiet hx (below_regrown wr d os)) 2 _ rfl
      have x3 := fun d os => (At.quiet hx (below_regrown wr d os)) 3 _ rfl
      have x4 := fun d os => (At.quiet hx (below_regrown wr d os)) 4 _ rfl
      have x5 := fun d os => (At.quiet hx (below_regrown wr d os)) 5 _ rfl
      have x6 := fun d os => (At.quiet hx (below_regrown wr d os)) 6 _ rfl
      have x7 := fun d os => (At.quiet hx (below_regrown wr d os)) 7 _ rfl
      have x8 := fun d os => (At.quiet hx (below_regrown wr d os)) 8 _ rfl
      have x9 := fun d os => (At.quiet hx (below_regrown wr d os)) 9 _ rfl
      have x10 := fun d os => (At.quiet hx (below_regrown wr d os)) 10 _ rfl
      have x11 := fun d os => (At.quiet hx (below_regrown wr d os)) 11 _ rfl
      have k0 := fun d os => (b0.quiet (below_regrown wr d os)).cell
      have k1 := fun d os => (b1.quiet (below_regrown wr d os)).cell
      have HCI : Hid (∀ dd os, Calls Try.prog 25 #[.agg #[.slice da dn dcap, .int .i64 d.quorum, .int .i64 d.expiry], .agg #[.int .i64 x.id, .int .i64 x.mode, .bool x.stuck, .int .i64 x.settled, .int .i64 x.target, .bool x.resume, .int .i64 x.keys, .int .i64 x.key, .int .i64 x.due, .int .i64 x.tries, .int .i64 x.wake, .slice la ln lc]] (grow (redrawn wr dd) os) fun e w'' => e = .returned (.bool true) ∧ ∃ p : Regrown, w'' = grow (redrawn wr p.d) p.os) := fun dd os =>
        Calls.regrown_of (turned_any _ d _ ((hd0.quiet (hqV.after hq)).quiet (below_regrown wr dd os)) hok x la ln lc (he.quiet (below_regrown wr dd os)) f1 f2 f3)
      clear f1 f2 f3
      have hki : (0 : Int) ≤ (k : Int) := by omega
      have hkj : (k : Int) < (n : Int) := by omega
      go_wp2_with fail
      refine wp_region_quiet_below mixed (by kernel_rfl) ?_
      repeat (quiet_step (exact HCI.out _ _))
      refine wpQuiet_nil ?_
      intro _ hw'
      obtain ⟨⟨dq, osq⟩, hw''⟩ := hw'
      subst hw''
      have hbq := below_regrown wr dq osq
      replace b0 := b0.quiet hbq
      replace b1 := b1.quiet hbq
      replace hx := hx.quiet hbq
      replace hq : Quiet w3 _ := hq.after hbq
      replace hb := Nat.lt_of_lt_of_le hb hbq.size
      clear x0 x1 x2 x3 x4 x5 x6 x7 x8 x9 x10 x11 k0 k1 g0 g1 z0 z1 HCI
      generalize grow (redrawn wr dq) osq = wr at *
      go_wp2
      go_loopw [10] (fun j wr' => ∃ q : Nat, q ≤ k ∧ j = .int .i64 q ∧ Quiet wr wr') (fun j _ => k - (intOf j).toNat)
      case atStart => exact ⟨0, Nat.zero_le _, rfl, Below.refl _ _⟩
      case round =>
        obtain ⟨q, hqk, rfl, hqi2⟩ := hrel
        replace b0 := b0.quiet hqi2
        replace b1 := b1.quiet hqi2
        replace hx := hx.quiet hqi2
        replace hq : Quiet w3 _ := hq.after hqi2
        have g0 := b0.cell
        have z0 := b0.lt
        have g1 := b1.cell
        have z1 := b1.lt
        by_cases hlt2 : q < k
        · have hql : q < xs.length := by omega
          obtain ⟨b', off', la', ln', lc', hbe, hb', hx', _⟩ := (hI.quiet hq).get q hql
          obtain ⟨rfl, rfl⟩ : b = b' ∧ off = off' := by simpa using hbe
          have hne := hids q hql hlt2
          generalize xs[q] = y at *
          simp only [Inst.cells] at hx'
          have y0 := hx' 0 _ rfl
          have x0 := hx 0 _ rfl
          simp at y0 x0
          have hqi : (0 : Int) ≤ (q : Int) := by omega
          have hqj : (q : Int) < (n : Int) := by omega
          have hqj' : (q : Int) < (k : Int) := by omega
          go_wp2_with fail
          go_quiet (fail)
          go_wp2
          go_roundw
          case rel => exact ⟨q + 1, by omega, by go_num, hqi2.after (Below.refl _ _).drewN⟩
          case measure => simp [intOf]; omega
        · go_wp2
          go_roundw
          case rel => exact ⟨k + 1, by omega, by go_num, b0, b1, hq⟩
          case measure => simp [intOf]; omega
    · go_wp2
      go_ret
      exact ⟨rfl, hqV.after hq⟩

end Go.Proofs.Ytgcjlgaapiefiaa

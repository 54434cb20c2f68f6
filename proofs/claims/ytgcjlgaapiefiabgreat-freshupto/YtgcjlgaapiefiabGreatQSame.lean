import Derived.Test.YtgcjlgaapiefiabGreatQSamA
import Derived.Test.YtgcjlgaapiefiabGreatQWld
import Derived.Lib.QuietBelow

/-
  Walks of the laws' own comparisons of instances and requests: what is the same is found the same.
-/
namespace Go.Proofs.YtgcjlgaapiefiabGreat
open Go.RowKit

set_option maxRecDepth 100000 in
set_option maxHeartbeats 1000000 in
theorem sameInstance_eq (x : Inst) (a a' : Option Addr) (n n' cap cap' : Nat) (w : World) (ha : Ents w (.slice a n cap) x.ledger) (hb : Ents w (.slice a' n' cap') x.ledger) :
    Calls Tryz.prog 32 #[x.val (.slice a n cap), x.val (.slice a' n' cap')] w fun e w' => e = .returned (.bool true) ∧ Quiet w w' := by
  have hq0 : ∀ o o', Quiet w ((w.alloc o).alloc o') := fun o o' => ((Below.refl _ _).alloc (Nat.le_refl _) _).alloc (by simp) _
  unfold Inst.val
  have t0 : (x.id != x.id) = false := by simp
  have t1 : (x.mode != x.mode) = false := by simp
  have t2 : (x.stuck != x.stuck) = false := by simp
  have t3 : (x.settled != x.settled) = false := by simp
  have t4 : (x.target != x.target) = false := by simp
  have t5 : (x.resume != x.resume) = false := by simp
  have t6 : (x.keys != x.keys) = false := by simp
  have t7 : (x.key != x.key) = false := by simp
  have t8 : (x.due != x.due) = false := by simp
  have t9 : (x.tries != x.tries) = false := by simp
  have t10 : (x.wake != x.wake) = false := by simp
  go_enter Tryz.func32, Tryz.ntmps32
  go_wp2_with (go_at_call 50; refine (sameEntries_eq _ _ x.ledger _ (ha.quiet (hq0 _ _)) (hb.quiet (hq0 _ _))).mono ?_; rintro e w1 ⟨rfl, hq1⟩)
  go_ret
  exact ⟨rfl, (hq0 _ _).after hq1⟩

set_option maxRecDepth 100000 in
set_option maxHeartbeats 1000000 in
theorem sameRequest_eq (r : Req) (a a' : Option Addr) (n n' cap cap' : Nat) (w : World) (ha : Ints w (.slice a n cap) r.bys) (hb : Ints w (.slice a' n' cap') r.bys) :
    Calls Tryz.prog 34 #[r.val (.slice a n cap), r.val (.slice a' n' cap')] w fun e w' => e = .returned (.bool true) ∧ Quiet w w' := by
  have hq0 : ∀ o o', Quiet w ((w.alloc o).alloc o') := fun o o' => ((Below.refl _ _).alloc (Nat.le_refl _) _).alloc (by simp) _
  unfold Req.val
  have t0 : (r.number != r.number) = false := by simp
  have t1 : (r.inst != r.inst) = false := by simp
  have t2 : (r.what != r.what) = false := by simp
  have t3 : (r.target != r.target) = false := by simp
  have t4 : (r.who != r.who) = false := by simp
  have t6 : (r.upto != r.upto) = false := by simp
  have t7 : (r.closed != r.closed) = false := by simp
  have t5 : (r.reason.data.toList != r.reason.data.toList) = false := by simp
  go_enter Tryz.func34, Tryz.ntmps34
  go_wp2_with (go_at_call 51; refine (sameInts_eq _ _ r.bys _ (ha.quiet (hq0 _ _)) (hb.quiet (hq0 _ _))).mono ?_; rintro e w1 ⟨rfl, hq1⟩)
  go_ret
  exact ⟨rfl, (hq0 _ _).after hq1⟩

end Go.Proofs.YtgcjlgaapiefiabGreat

/-
  The walk of the laws' own comparison of worlds: what is the same is found the same.
-/
namespace Go.Proofs.YtgcjlgaapiefiabGreat
open Go.RowKit Go.Sort

/-- A slice of instances. -/
def InstsAt (w : World) (v : Value) (xs : List Inst) : Prop :=
  ∃ ps : List (Inst × Value), ps.map (·.1) = xs ∧ Arr w 12 v (instVals ps) ∧ ∀ p ∈ ps, ∃ a n cap, p.2 = .slice a n cap ∧ Ents w (.slice a n cap) p.1.ledger
/-- A slice of requests. -/
def ReqsAt (w : World) (v : Value) (rs : List Req) : Prop :=
  ∃ ps : List (Req × Value), ps.map (·.1) = rs ∧ Arr w 9 v (reqVals ps) ∧ ∀ p ∈ ps, ∃ a n cap, p.2 = .slice a n cap ∧ Ints w (.slice a n cap) p.1.bys

theorem InstsAt.quiet {w w' : World} {v : Value} {xs : List Inst} (h : InstsAt w v xs) (hq : Quiet w w') : InstsAt w' v xs := by
  obtain ⟨ps, h1, h2, h3⟩ := h
  exact ⟨ps, h1, h2.quiet hq, fun p hp => by obtain ⟨a, n, cap, e1, e2⟩ := h3 p hp; exact ⟨a, n, cap, e1, e2.quiet hq⟩⟩
theorem ReqsAt.quiet {w w' : World} {v : Value} {xs : List Req} (h : ReqsAt w v xs) (hq : Quiet w w') : ReqsAt w' v xs := by
  obtain ⟨ps, h1, h2, h3⟩ := h
  exact ⟨ps, h1, h2.quiet hq, fun p hp => by obtain ⟨a, n, cap, e1, e2⟩ := h3 p hp; exact ⟨a, n, cap, e1, e2.quiet hq⟩⟩

theorem InstsAt.get {w : World} {a : Option Addr} {n cap : Nat} {xs : List Inst} (h : InstsAt w (.slice a n cap) xs) (k : Nat) (hk : k < xs.length) :
    ∃ b off la ln lc, a = some ⟨b, off, none⟩ ∧ b < w.heap.size ∧ At w b (off + k * 12) (xs[k].cells (.slice la ln lc)) ∧ Ents w (.slice la ln lc) xs[k].ledger := by
  obtain ⟨ps, rfl, h2, h3⟩ := h
  simp only [List.length_map] at hk
  obtain ⟨b, off, ha, hx⟩ := h2.row k (by simpa [instVals] using hk)
  obtain ⟨la, ln, lc, e1, e2⟩ := h3 ps[k] (List.getElem_mem hk)
  simp only [instVals, List.getElem_map] at hx
  rw [e1] at hx
  refine ⟨b, off, la, ln, lc, ha, hx.lt, ?_, ?_⟩
  · simpa using hx
  · simpa using e2
theorem ReqsAt.get {w : World} {a : Option Addr} {n cap : Nat} {xs : List Req} (h : ReqsAt w (.slice a n cap) xs) (k : Nat) (hk : k < xs.length) :
    ∃ b off la ln lc, a = some ⟨b, off, none⟩ ∧ b < w.heap.size ∧ At w b (off + k * 9) (xs[k].cells (.slice la ln lc)) ∧ Ints w (.slice la ln lc) xs[k].bys := by
  obtain ⟨ps, rfl, h2, h3⟩ := h
  simp only [List.length_map] at hk
  obtain ⟨b, off, ha, hx⟩ := h2.row k (by simpa [reqVals] using hk)
  obtain ⟨la, ln, lc, e1, e2⟩ := h3 ps[k] (List.getElem_mem hk)
  simp only [reqVals, List.getElem_map] at hx
  rw [e1] at hx
  refine ⟨b, off, la, ln, lc, ha, hx.lt, ?_, ?_⟩
  · simpa using hx
  · simpa using e2
theorem InstsAt.len {w : World} {a : Option Addr} {n cap : Nat} {xs : List Inst} (h : InstsAt w (.slice a n cap) xs) : n = xs.length ∧ n ≤ 9223372036854775807 := by
  obtain ⟨ps, rfl, h2, _⟩ := h
  have := h2.len
  simpa [instVals] using this
theorem ReqsAt.len {w : World} {a : Option Addr} {n cap : Nat} {xs : List Req} (h : ReqsAt w (.slice a n cap) xs) : n = xs.length ∧ n ≤ 9223372036854775807 := by
  obtain ⟨ps, rfl, h2, _⟩ := h
  have := h2.len
  simpa [reqVals] using this
theorem InstsAt.shape {w : World} {v : Value} {xs : List Inst} (h : InstsAt w v xs) : ∃ a n cap, v = .slice a n cap := by obtain ⟨_, _, h2, _⟩ := h; exact h2.shape
theorem ReqsAt.shape {w : World} {v : Value} {xs : List Req} (h : ReqsAt w v xs) : ∃ a n cap, v = .slice a n cap := by obtain ⟨_, _, h2, _⟩ := h; exact h2.shape

theorem mixed : Tryz.prog.follows .mixedOrders = true := by kernel_rfl

set_option maxRecDepth 100000 in
set_option maxHeartbeats 2000000 in
theorem sameWorlds_eq (ck : Int) (iv jv rv sv : Value) (xs : List Inst) (rs : List Req) (w : World) (h1 : InstsAt w iv xs) (h2 : InstsAt w jv xs) (h3 : ReqsAt w rv rs) (h4 : ReqsAt w sv rs) :
    Calls Tryz.prog 39 #[.agg #[.int .i64 ck, iv, rv], .agg #[.int .i64 ck, jv, sv]] w fun e w' => e = .returned (.bool true) ∧ Quiet w w' := by
  obtain ⟨ia, n, ic, rfl⟩ := h1.shape
  obtain ⟨ja, n', jc, rfl⟩ := h2.shape
  obtain ⟨ra, m, rc, rfl⟩ := h3.shape
  obtain ⟨sa, m', sc, rfl⟩ := h4.shape
  obtain ⟨hn, hnm⟩ := h1.len
  obtain ⟨hn', _⟩ := h2.len
  obtain ⟨hm, hmm⟩ := h3.len
  obtain ⟨hm', _⟩ := h4.len
  obtain rfl : n' = n := by omega
  obtain rfl : m' = m := by omega
  have HN : Hid (n' = xs.length) := hn
  have HM : Hid (m' = rs.length) := hm
  clear hn hm hn' hm'
  have t0 : (ck != ck) = false := by simp
  have t1 : ((n' : Int) != (n' : Int)) = false := by simp
  have t2 : ((m' : Int) != (m' : Int)) = false := by simp
  go_enter Tryz.func39, Tryz.ntmps39
  go_wp2
  go_loopw [5] (fun i wr => ∃ k : Nat, k ≤ n' ∧ i = .int .i64 k ∧ Blk wr w.heap.size #[.int .i64 ck, .slice ia n' ic, .slice ra m' rc] 47 ∧ Blk wr (w.heap.size + 1) #[.int .i64 ck, .slice ja n' jc, .slice sa m' sc] 47 ∧ Quiet w wr) (fun i _ => n' - (intOf i).toNat)
  case atStart =>
    refine ⟨0, Nat.zero_le _, rfl, ?_, Blk.new' (by simp), ((Below.refl _ _).alloc (Nat.le_refl _) _).alloc (by simp) _⟩
    repeat (first | (refine Blk.new' ?_; simp; done) | refine Blk.alloc ?_ _)
  case round =>
    obtain ⟨k, hk, rfl, b0, b1, hq⟩ := hrel
    have g0 := b0.cell
    have g1 := b1.cell
    by_cases hlt : k < n'
    · have hkl : k < xs.length := by have := HN.out; omega
      obtain ⟨b, off, la, ln, lc, rfl, hb, hx, he⟩ := (h1.quiet hq).get k hkl
      obtain ⟨b', off', la', ln', lc', rfl, hb', hx', he'⟩ := (h2.quiet hq).get k hkl
      generalize xs[k] = x at *
      simp only [Inst.cells] at hx hx'
      have x0 : ∀ d os, (grow (redrawn wr d) os).cell? ⟨b, off + k * 12, none⟩ = some (.int .i64 x.id) := fun d os => (At.quiet hx (below_regrown wr d os)) 0 _ rfl
      have x1 := fun d os => (At.quiet hx (below_regrown wr d os)) 1 _ rfl
      have x2 := fun d os => (At.quiet hx (below_regrown wr d os)) 2 _ rfl
      have x3 := fun d os => (At.quiet hx (below_regrown wr d os)) 3 _ rfl
      have x4 := fun d os => (At.quiet hx (below_regrown wr d os)) 4 _ rfl
      have x5 := fun d os => (At.quiet hx (below_regrown wr d os)) 5 _ rfl
      have x6 := fun d os => (At.quiet hx (below_regrown wr d os)) 6 _ rfl
      have x7 := fun d os => (At.quiet hx (below_regrown wr d os)) 7 _ rfl
      have x8 := fun d os => (At.quiet hx (below_regrown wr d os)) 8 _ rfl
      have x9 := fun d os => (At.quiet hx (below_regrown wr d os)) 9 _ rfl
      have x10 := fun d os => (At.quiet hx (below_regrown wr d os)) 10 _ rfl
      have x11 := fun d os => (At.quiet hx (below_regrown wr d os)) 11 _ rfl
      have y0 : ∀ d os, (grow (redrawn wr d) os).cell? ⟨b', off' + k * 12, none⟩ = some (.int .i64 x.id) := fun d os => (At.quiet hx' (below_regrown wr d os)) 0 _ rfl
      have y1 := fun d os => (At.quiet hx' (below_regrown wr d os)) 1 _ rfl
      have y2 := fun d os => (At.quiet hx' (below_regrown wr d os)) 2 _ rfl
      have y3 := fun d os => (At.quiet hx' (below_regrown wr d os)) 3 _ rfl
      have y4 := fun d os => (At.quiet hx' (below_regrown wr d os)) 4 _ rfl
      have y5 := fun d os => (At.quiet hx' (below_regrown wr d os)) 5 _ rfl
      have y6 := fun d os => (At.quiet hx' (below_regrown wr d os)) 6 _ rfl
      have y7 := fun d os => (At.quiet hx' (below_regrown wr d os)) 7 _ rfl
      have y8 := fun d os => (At.quiet hx' (below_regrown wr d os)) 8 _ rfl
      have y9 := fun d os => (At.quiet hx' (below_regrown wr d os)) 9 _ rfl
      have y10 := fun d os => (At.quiet hx' (below_regrown wr d os)) 10 _ rfl
      have y11 := fun d os => (At.quiet hx' (below_regrown wr d os)) 11 _ rfl
      have k0 := fun d os => (b0.quiet (below_regrown wr d os)).cell
      have k1 := fun d os => (b1.quiet (below_regrown wr d os)).cell
      have cI : ∀ d os, Calls Tryz.prog 32 #[x.val (.slice la ln lc), x.val (.slice la' ln' lc')] (grow (redrawn wr d) os) fun e w'' => e = .returned (.bool true) ∧ ∃ p : Regrown, w'' = grow (redrawn wr p.d) p.os := fun d os => Calls.regrown_of (sameInstance_eq x la la' ln ln' lc lc' _ (he.quiet (below_regrown wr d os)) (he'.quiet (below_regrown wr d os)))
      have HCI : Hid (∀ d os, Calls Tryz.prog 32 #[x.val (.slice la ln lc), x.val (.slice la' ln' lc')] (grow (redrawn wr d) os) fun e w'' => e = .returned (.bool true) ∧ ∃ p : Regrown, w'' = grow (redrawn wr p.d) p.os) := cI
      clear cI
      have hki : (0 : Int) ≤ (k : Int) := by omega
      have hkj : (k : Int) < (n' : Int) := by omega
      go_wp2_with fail
      refine wp_region_quiet_below mixed (by kernel_rfl) ?_
      repeat (quiet_step (exact HCI.out _ _))
      refine wpQuiet_nil ?_
      intro _ hw'
      obtain ⟨⟨dq, osq⟩, hw''⟩ := hw'
      subst hw''
      have hbq := below_regrown wr dq osq
      replace b0 := b0.quiet hbq
      replace b1 := b1.quiet hbq
      replace hq : Quiet w _ := hq.after hbq
      go_wp2
      go_roundw
      case rel => exact ⟨k + 1, by omega, by go_num, b0, b1, hq⟩
      case measure => simp [intOf]; omega
    · go_wp2
      go_loopw [7] (fun i wr => ∃ k : Nat, k ≤ m' ∧ i = .int .i64 k ∧ Blk wr w.heap.size #[.int .i64 ck, .slice ia n' ic, .slice ra m' rc] 47 ∧ Blk wr (w.heap.size + 1) #[.int .i64 ck, .slice ja n' jc, .slice sa m' sc] 47 ∧ Quiet w wr) (fun i _ => m' - (intOf i).toNat)
      case atStart => exact ⟨0, Nat.zero_le _, rfl, b0, b1, hq⟩
      case round =>
        clear b0 b1 hq g0 g1 hk hlt
        obtain ⟨k, hk, rfl, b0, b1, hq⟩ := hrel
        have g0 := b0.cell
        have g1 := b1.cell
        by_cases hlt : k < m'
        · have hkl : k < rs.length := by have := HM.out; omega
          obtain ⟨b, off, la, ln, lc, rfl, hb, hx, he⟩ := (h3.quiet hq).get k hkl
          obtain ⟨b', off', la', ln', lc', rfl, hb', hx', he'⟩ := (h4.quiet hq).get k hkl
          generalize rs[k] = r at *
          simp only [Req.cells] at hx hx'
          have x0 : ∀ d os, (grow (redrawn wr d) os).cell? ⟨b, off + k * 9, none⟩ = some (.int .i64 r.number) := fun d os => (At.quiet hx (below_regrown wr d os)) 0 _ rfl
          have x1 := fun d os => (At.quiet hx (below_regrown wr d os)) 1 _ rfl
          have x2 := fun d os => (At.quiet hx (below_regrown wr d os)) 2 _ rfl
          have x3 := fun d os => (At.quiet hx (below_regrown wr d os)) 3 _ rfl
          have x4 := fun d os => (At.quiet hx (below_regrown wr d os)) 4 _ rfl
          have x5 := fun d os => (At.quiet hx (below_regrown wr d os)) 5 _ rfl
          have x6 := fun d os => (At.quiet hx (below_regrown wr d os)) 6 _ rfl
          have x7 := fun d os => (At.quiet hx (below_regrown wr d os)) 7 _ rfl
          have x8 := fun d os => (At.quiet hx (below_regrown wr d os)) 8 _ rfl
          have y0 : ∀ d os, (grow (redrawn wr d) os).cell? ⟨b', off' + k * 9, none⟩ = some (.int .i64 r.number) := fun d os => (At.quiet hx' (below_regrown wr d os)) 0 _ rfl
          have y1 := fun d os => (At.quiet hx' (below_regrown wr d os)) 1 _ rfl
          have y2 := fun d os => (At.quiet hx' (below_regrown wr d os)) 2 _ rfl
          have y3 := fun d os => (At.quiet hx' (below_regrown wr d os)) 3 _ rfl
          have y4 := fun d os => (At.quiet hx' (below_regrown wr d os)) 4 _ rfl
          have y5 := fun d os => (At.quiet hx' (below_regrown wr d os)) 5 _ rfl
          have y6 := fun d os => (At.quiet hx' (below_regrown wr d os)) 6 _ rfl
          have y7 := fun d os => (At.quiet hx' (below_regrown wr d os)) 7 _ rfl
          have y8 := fun d os => (At.quiet hx' (below_regrown wr d os)) 8 _ rfl
          have k0 := fun d os => (b0.quiet (below_regrown wr d os)).cell
          have k1 := fun d os => (b1.quiet (below_regrown wr d os)).cell
          have cI : ∀ d os, Calls Tryz.prog 34 #[r.val (.slice la ln lc), r.val (.slice la' ln' lc')] (grow (redrawn wr d) os) fun e w'' => e = .returned (.bool true) ∧ ∃ p : Regrown, w'' = grow (redrawn wr p.d) p.os := fun d os => Calls.regrown_of (sameRequest_eq r la la' ln ln' lc lc' _ (he.quiet (below_regrown wr d os)) (he'.quiet (below_regrown wr d os)))
          have HCI : Hid (∀ d os, Calls Tryz.prog 34 #[r.val (.slice la ln lc), r.val (.slice la' ln' lc')] (grow (redrawn wr d) os) fun e w'' => e = .returned (.bool true) ∧ ∃ p : Regrown, w'' = grow (redrawn wr p.d) p.os) := cI
          clear cI
          have hki : (0 : Int) ≤ (k : Int) := by omega
          have hkj : (k : Int) < (m' : Int) := by omega
          go_wp2_with fail
          refine wp_region_quiet_below mixed (by kernel_rfl) ?_
          repeat (quiet_step (exact HCI.out _ _))
          refine wpQuiet_nil ?_
          intro _ hw'
          obtain ⟨⟨dq, osq⟩, hw''⟩ := hw'
          subst hw''
          have hbq := below_regrown wr dq osq
          replace b0 := b0.quiet hbq
          replace b1 := b1.quiet hbq
          replace hq : Quiet w _ := hq.after hbq
          go_wp2
          go_roundw
          case rel => exact ⟨k + 1, by omega, by go_num, b0, b1, hq⟩
          case measure => simp [intOf]; omega
        · go_wp2
          go_ret
          exact ⟨rfl, hq⟩

end Go.Proofs.YtgcjlgaapiefiabGreat

/-
  What a call made is a slice of instances, of requests, of answers, as the laws' comparisons want it.
-/
namespace Go.Proofs.YtgcjlgaapiefiabGreat
open Go.RowKit

theorem InstsOwn.at {base : Nat} {w : World} {v : Value} {xs : List Inst} (h : InstsOwn base w v xs) (hb : ∀ x ∈ xs, x.ledger.length ≤ 2199023255552) : InstsAt w v xs := by
  obtain ⟨ps, rfl, h2, h3⟩ := h
  refine ⟨ps, rfl, own_arr (base := base) (e := 78) (n := ps.length) h2 (by simp [instVals]) (by intro x hx; simp [instVals] at hx; obtain ⟨a, b, _, rfl⟩ := hx; rfl), fun p hp => ?_⟩
  obtain ⟨a, n, cap, e1, e2, e3⟩ := h3 p hp
  rw [e1] at e3
  exact ⟨a, n, cap, e1, own_ents e3 e2 (hb p.1 (List.mem_map_of_mem hp))⟩
theorem ReqsOwn.at {base : Nat} {w : World} {v : Value} {rs : List Req} (h : ReqsOwn base w v rs) : ReqsAt w v rs := by
  obtain ⟨ps, rfl, h2, h3⟩ := h
  refine ⟨ps, rfl, own_reqs h2 rfl, fun p hp => ?_⟩
  obtain ⟨a, n, cap, e1, e2, e3⟩ := h3 p hp
  rw [e1] at e3
  exact ⟨a, n, cap, e1, own_ints (by rw [← e2]; exact e3)⟩


/-- The world of a log, its ledgers bounded. -/
theorem worldR_bound (d : Def) (l : List Cmd) (hl : l.length ≤ 549755813888) : ∀ x ∈ (worldR d l).insts, x.ledger.length ≤ 2199023255552 := by
  intro x hx
  simp only [worldR, List.mem_map] at hx
  obtain ⟨id, _, rfl⟩ := hx
  have := (inst_keys d l id hl).2.2
  omega

end Go.Proofs.YtgcjlgaapiefiabGreat

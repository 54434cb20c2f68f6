import Derived.Test.YtgcjlgaapiefiabGreatQPrwD
import Derived.Test.YtgcjlgaapiefiabGreatQPrwC

/-
  Walks of the program: what was asked for is carried out.
-/
namespace Go.Proofs.YtgcjlgaapiefiabGreat
open Go.RowKit Go.Sort

set_option maxRecDepth 100000 in
set_option maxHeartbeats 4000000 in
theorem grant_any (w0 : Bas) (w : World) (hq : Quiet w0 w) (hzz : w0.heap.size ≤ w.heap.size) (dv : Value) (d : Def) (hd : DefIs w0 dv d) (b o : Nat) (cs : Array Value) (x : Inst) (a : Option Addr) (n cap : Nat) (clock : Int) (h : InstIn w0.heap.size w b o cs x a n cap)
    (h0 : -1000 < x.settled) (h1 : x.settled ≤ 1000) (hlen : x.ledger.length < 1099511627776) (rb ro : Nat) (r : Req) (hr : ReqAt w rb ro r) (h5 : 1 ≤ r.what) (h6 : r.what ≤ 5) :
    Calls Tryz.prog 125 #[dv, .int .i64 clock, .pointer (some ⟨b, o, none⟩), .pointer (some ⟨rb, ro, none⟩)] w fun e w' => ∃ v, e = .returned v ∧ Makes w0.heap.size w b o (Value.slice a n cap).ownBlock (grantP d clock x r.what r.target r.number) w' := by
  have hq0 : ∀ o, Quiet w (w.alloc o) := fun o => (Below.refl _ _).alloc (Nat.le_refl _) _
  have hd1 := hd.quiet hq
  have hd0 := hd1
  obtain ⟨da, dn, dcap, rfl, hst⟩ := hd1
  clear hst hd
  have hqA := hq0 (.cells #[.slice da dn dcap, .int .i64 d.quorum, .int .i64 d.expiry] 24)
  have hA := h.quiet hqA
  obtain ⟨ba, bn, bcap, hx, _⟩ := hr.quiet hqA
  obtain ⟨r0, r1, r2, r3, r4, r5, r6, r7, r8⟩ := hx.nine9
  have bdA : Blk (w.alloc (.cells #[.slice da dn dcap, .int .i64 d.quorum, .int .i64 d.expiry] 24)) w.heap.size #[.slice da dn dcap, .int .i64 d.quorum, .int .i64 d.expiry] 24 := Blk.new' rfl
  rcases Bool.eq_false_or_eq_true (r.what == 1) with w1 | w1
  · have HG : Hid (grantP d clock x r.what r.target r.number = anewP clock x) := by show grantP d clock x r.what r.target r.number = _; simp at w1; unfold grantP; rw [if_pos w1]
    go_enter Tryz.func125, Tryz.ntmps125
    go_wp2_with fail
    refine (beginAnew_any w0.heap.size _ b o cs x a n cap clock hA).mono ?_
    rintro e w4 ⟨v, rfl, hM⟩
    go_wp2
    refine bodyPost_end (v := .tuple #[]) (by simp [results, Tryz.results125, go_sem]) rfl ⟨_, rfl, ?_⟩
    rw [HG.out]
    exact Makes.quiet hqA hM
  rcases Bool.eq_false_or_eq_true (r.what == 2) with w2 | w2
  · have HG : Hid (grantP d clock x r.what r.target r.number = settleP d clock x 2 r.number) := by show grantP d clock x r.what r.target r.number = _; simp at w1 w2; unfold grantP; rw [if_neg w1, if_pos w2]
    have HC : Hid (∀ W, Quiet w W → Calls Tryz.prog 111 #[.agg #[.slice da dn dcap, .int .i64 d.quorum, .int .i64 d.expiry], .int .i64 clock, .pointer (some ⟨b, o, none⟩), .int .i64 2, .int .i64 r.number] W fun e w' => ∃ v, e = .returned v ∧ Makes w0.heap.size W b o (Value.slice a n cap).ownBlock (settleP d clock x 2 r.number) w') := fun W hW =>
      settle_any _ d w0.heap.size W b o cs x a n cap clock 2 r.number (hd0.quiet hW) (h.quiet hW) (Nat.le_trans hzz hW.size) h0 h1 hlen
    go_enter Tryz.func125, Tryz.ntmps125
    go_wp2_with fail
    go_region_with (first | (go_at_call 111; refine (HC.out _ ?_).mono ?_; exact Below.drew hqA; rintro e w4 ⟨v, rfl, hM⟩))
    all_goals (try go_wp2)
    all_goals
      refine bodyPost_end (v := .tuple #[]) (by simp [results, Tryz.results125, go_sem]) rfl ⟨_, rfl, ?_⟩
      rw [HG.out]
      exact Makes.quiet (Below.drew hqA) hM
  rcases Bool.eq_false_or_eq_true (r.what == 3) with w3 | w3
  · have HG : Hid (grantP d clock x r.what r.target r.number = takeBackP clock x 4 r.number) := by show grantP d clock x r.what r.target r.number = _; simp at w1 w2 w3; unfold grantP; rw [if_neg w1, if_neg w2, if_pos w3]
    go_enter Tryz.func125, Tryz.ntmps125
    go_wp2_with fail
    refine (takeBack_any w0.heap.size _ b o cs x a n cap clock 4 r.number hA (by simp; omega) h0 h1 hlen).mono ?_
    rintro e w4 ⟨v, rfl, hM⟩
    go_wp2
    refine bodyPost_end (v := .tuple #[]) (by simp [results, Tryz.results125, go_sem]) rfl ⟨_, rfl, ?_⟩
    rw [HG.out]
    exact Makes.quiet hqA hM
  rcases Bool.eq_false_or_eq_true (r.what == 4) with w4 | w4
  · have HG : Hid (grantP d clock x r.what r.target r.number = abortP clock x) := by show grantP d clock x r.what r.target r.number = _; simp at w1 w2 w3 w4; unfold grantP; rw [if_neg w1, if_neg w2, if_neg w3, if_pos w4]
    go_enter Tryz.func125, Tryz.ntmps125
    go_wp2_with fail
    refine (abort_any w0.heap.size _ b o cs x a n cap clock hA).mono ?_
    rintro e w5 ⟨v, rfl, hM⟩
    go_wp2
    refine bodyPost_end (v := .tuple #[]) (by simp [results, Tryz.results125, go_sem]) rfl ⟨_, rfl, ?_⟩
    rw [HG.out]
    exact Makes.quiet hqA hM
  · have w5 : (r.what == 5) = true := by simp at w1 w2 w3 w4 ⊢; omega
    have HG : Hid (grantP d clock x r.what r.target r.number = goBackP clock x r.target true) := by show grantP d clock x r.what r.target r.number = _; simp at w1 w2 w3 w4 w5; unfold grantP; rw [if_neg w1, if_neg w2, if_neg w3, if_neg w4, if_pos w5]
    go_enter Tryz.func125, Tryz.ntmps125
    go_wp2_with fail
    refine (goBack_any w0.heap.size _ b o cs x a n cap clock r.target true hA).mono ?_
    rintro e w6 ⟨v, rfl, hM⟩
    go_wp2
    refine bodyPost_end (v := .tuple #[]) (by simp [results, Tryz.results125, go_sem]) rfl ⟨_, rfl, ?_⟩
    rw [HG.out]
    exact Makes.quiet hqA hM

end Go.Proofs.YtgcjlgaapiefiabGreat

/-
  A slice of rows of one's own, each with a slice of its own: one row is written into.
-/
namespace Go.Proofs.YtgcjlgaapiefiabGreat
open Go.RowKit

theorem own_same {w w' : World} {base : Nat} {e : TypeId} {size : Nat} {v : Value} {n : Nat} {xs : List Value} (h : w.ownsRow base e size v n xs) (hs : ∀ k, v.ownBlock = some k → w'.heap[k]? = w.heap[k]?) : w'.ownsRow base e size v n xs := by
  obtain ⟨h1, h2⟩ := h
  refine ⟨h1, ?_⟩
  rcases h2 with h2 | ⟨g, cap, cur, rfl, hb, hh, r⟩
  · exact .inl h2
  · exact .inr ⟨g, cap, cur, rfl, hb, by rw [hs g rfl]; exact hh, r⟩
theorem own_blk {w : World} {base : Nat} {e : TypeId} {size : Nat} {v : Value} {n : Nat} {xs : List Value} (h : w.ownsRow base e size v n xs) {k : Nat} (hk : v.ownBlock = some k) : ∃ cs, Blk w k cs e := by
  obtain ⟨h1, h2⟩ := h
  rcases h2 with ⟨rfl, _⟩ | ⟨g, cap, cur, rfl, hb, hh, r⟩
  · simp [Value.ownBlock] at hk
  · simp [Value.ownBlock] at hk
    subst hk
    exact ⟨cur, hh⟩

theorem flat_get (rows : List (List Value)) (m : Nat) (hm : ∀ r ∈ rows, r.length = m) (i j : Nat) (hi : i < rows.length) (hj : j < m) : rows.flatten[i * m + j]? = rows[i][j]? := by
  induction rows generalizing i with
  | nil => simp at hi
  | cons y ys ih =>
    have hy : y.length = m := hm y (List.mem_cons_self ..)
    cases i with
    | zero =>
      simp only [List.flatten_cons, Nat.zero_mul, Nat.zero_add, List.getElem_cons_zero]
      rw [List.getElem?_append_left (by omega)]
    | succ i =>
      simp only [List.flatten_cons, List.getElem_cons_succ]
      rw [List.getElem?_append_right (by rw [hy, Nat.succ_mul]; omega), hy, show (i + 1) * m + j - m = i * m + j by rw [Nat.succ_mul]; omega]
      exact ih (fun x hx => hm x (List.mem_cons_of_mem _ hx)) i (by simpa using hi)
theorem flat_len (rows : List (List Value)) (m : Nat) (hm : ∀ r ∈ rows, r.length = m) : rows.flatten.length = rows.length * m := by
  induction rows with
  | nil => simp
  | cons y ys ih =>
    have hy : y.length = m := hm y (List.mem_cons_self ..)
    simp only [List.flatten_cons, List.length_append, List.length_cons, hy, ih (fun x hx => hm x (List.mem_cons_of_mem _ hx)), Nat.succ_mul]
    omega

section
variable {α : Type} (t e : TypeId) (m s : Nat) (cells : α → Value → List Value) (inner : α → List Value) (len : α → Nat)

/-- One row, with its inner slice. -/
structure RowIn (base : Nat) (w : World) (b o : Nat) (cs : Array Value) (x : α) (a : Option Addr) (n cap : Nat) : Prop where
  row : Row w b o t cs (cells x (.slice a n cap))
  own : w.ownsRow base e s (.slice a n cap) n (inner x)
  len : n = len x
/-- What a call makes of a row. -/
def MakesG (base : Nat) (w : World) (b o : Nat) (row : Option Nat) (y : α) (w' : World) : Prop :=
  ∃ cs a n cap, RowIn t e s cells inner len base w' b o cs y a n cap ∧ Turned w w' b o m row ∧ ((Value.slice a n cap).ownBlock = row ∨ ∀ k, (Value.slice a n cap).ownBlock = some k → w.heap.size ≤ k)

def InnerOwn (base : Nat) (w : World) (p : α × Value) : Prop := ∃ a k c, p.2 = .slice a k c ∧ k = len p.1 ∧ w.ownsRow base e s p.2 k (inner p.1)
/-- A slice of rows. -/
structure RowsOf (base : Nat) (w : World) (ia : Option Addr) (n ic : Nat) (ps : List (α × Value)) : Prop where
  count : n = ps.length
  own : w.ownsRow base t m (.slice ia n ic) n (ps.map fun p => cells p.1 p.2).flatten
  each : ∀ p ∈ ps, InnerOwn e s inner len base w p
  apart : ∀ (i j : Nat) (p q : α × Value), ps[i]? = some p → ps[j]? = some q → i ≠ j → ∀ k, p.2.ownBlock = some k → q.2.ownBlock ≠ some k
def RowsMem (base : Nat) (w : World) (ia : Option Addr) (n ic : Nat) (xs : List α) : Prop := ∃ ps : List (α × Value), ps.map (·.1) = xs ∧ RowsOf t e m s cells inner len base w ia n ic ps

theorem RowsMem.frame {base : Nat} {w w' : World} {ia : Option Addr} {n ic : Nat} {xs : List α} (h : RowsMem t e m s cells inner len base w ia n ic xs) (h1 : ∀ k cs, Blk w k cs t → w'.heap[k]? = w.heap[k]?) (h2 : ∀ k cs, Blk w k cs e → w'.heap[k]? = w.heap[k]?) : RowsMem t e m s cells inner len base w' ia n ic xs := by
  obtain ⟨ps, e1, e2⟩ := h
  refine ⟨ps, e1, e2.count, own_same e2.own (fun k hk => ?_), fun p hp => ?_, e2.apart⟩
  · obtain ⟨cs, hb⟩ := own_blk e2.own hk; exact h1 k cs hb
  · obtain ⟨a, k, c, q1, q2, q3⟩ := e2.each p hp
    exact ⟨a, k, c, q1, q2, own_same q3 (fun j hj => by obtain ⟨cs, hb⟩ := own_blk q3 hj; exact h2 j cs hb)⟩
theorem RowsMem.quiet {base : Nat} {w w' : World} {ia : Option Addr} {n ic : Nat} {xs : List α} (h : RowsMem t e m s cells inner len base w ia n ic xs) (hq : Quiet w w') : RowsMem t e m s cells inner len base w' ia n ic xs :=
  h.frame (h1 := fun k _ hb => hq.block k hb.lt) (h2 := fun k _ hb => hq.block k hb.lt)

theorem RowsMem.at (hm : ∀ x v, (cells x v).length = m) (hm0 : 0 < m) (hte : t ≠ e) {base : Nat} {w : World} {ia : Option Addr} {n ic : Nat} {xs : List α} (h : RowsMem t e m s cells inner len base w ia n ic xs) (k : Nat) (hk : k < xs.length) :
    ∃ g cs a' n' cap', ia = some ⟨g, 0, none⟩ ∧ base ≤ g ∧ RowIn t e s cells inner len base w g (k * m) cs xs[k] a' n' cap' ∧
      ∀ w' y, MakesG t e m s cells inner len base w g (k * m) (Value.slice a' n' cap').ownBlock y w' → RowsMem t e m s cells inner len base w' ia n ic (xs.set k y) := by
  obtain ⟨ps, rfl, hr⟩ := h
  rw [List.length_map] at hk
  have hall : ∀ ps : List (α × Value), ∀ r ∈ ps.map (fun p => cells p.1 p.2), r.length = m := by intro ps r hr; obtain ⟨p, _, rfl⟩ := List.mem_map.1 hr; exact hm _ _
  have hlenr := hall ps
  have hown := hr.own
  obtain ⟨hl, h2⟩ := hown
  rcases h2 with ⟨_, h0⟩ | ⟨g, cap, cur, hv, hg, hh, hc, hcm, hs, ht⟩
  · have := hr.count; omega
  obtain ⟨rfl, rfl⟩ : ia = some ⟨g, 0, none⟩ ∧ cap = ic := by simp at hv; exact ⟨hv.1, hv.2.symm⟩
  obtain ⟨a', n', cap', q1, q2, q3⟩ := hr.each ps[k] (List.getElem_mem hk)
  have hcur : ∀ i (hi : i < ps.length) j, j < m → cur[i * m + j]? = (cells ps[i].1 ps[i].2)[j]? := by
    intro i hi j hj
    have e1 := flat_get (ps.map fun p => cells p.1 p.2) m hlenr i j (by simpa using hi) hj
    rw [← ht, List.getElem?_take_of_lt, List.getElem_map] at e1
    · rw [← e1]; simp
    · have : (i + 1) * m ≤ n * m := Nat.mul_le_mul_right m (by rw [hr.count]; omega)
      rw [Nat.succ_mul] at this; omega
  refine ⟨g, cur, a', n', cap', rfl, hg, ⟨⟨hh, fun j hj => ?_⟩, ?_, ?_⟩, fun w' y hM => ?_⟩
  · rw [hm] at hj
    rw [hcur k hk j hj, q1]; simp
  · rw [← q1]; simpa using q3
  · simpa using q2
  · obtain ⟨cs2, a2, n2, cap2, hI, hT, hR⟩ := hM
    obtain ⟨cs3, b3, s3, e3⟩ := hT.here cur t hh
    obtain rfl : cs3 = cs2 := by have := hI.row.1; unfold Blk at this b3; rw [this] at b3; simp at b3; exact b3.symm
    have hgr : some g ≠ (Value.slice a' n' cap').ownBlock := by
      rw [← q1]; intro e; obtain ⟨c, hb⟩ := own_blk q3 e.symm; exact Blk.ne hb hh (Ne.symm hte) rfl
    refine ⟨ps.set k (y, .slice a2 n2 cap2), by rw [List.map_set], by rw [List.length_set]; exact hr.count, ?_, ?_, ?_⟩
    · refine ⟨?_, .inr ⟨g, cap, cs3, rfl, hg, b3, hc, hcm, by rw [s3]; exact hs, ?_⟩⟩
      · rw [flat_len _ m (hall _)]
        simp [hr.count]
      · apply List.ext_getElem?
        intro j
        by_cases hj : j < n * m
        · rw [List.getElem?_take_of_lt hj]
          have hdm : j = (j / m) * m + j % m := by rw [Nat.mul_comm]; exact (Nat.div_add_mod j m).symm
          have hjm : j % m < m := Nat.mod_lt _ hm0
          have hjd : j / m < n := Nat.div_lt_of_lt_mul (by rw [Nat.mul_comm]; exact hj)
          have hjd' : j / m < ps.length := by rw [← hr.count]; exact hjd
          have e1 := flat_get ((ps.set k (y, Value.slice a2 n2 cap2)).map fun p => cells p.1 p.2) m (hall _) (j / m) (j % m) (by simpa using hjd') hjm
          rw [← hdm] at e1
          rw [e1, List.getElem_map, List.getElem_set]
          have e2 : cs3.toList[j]? = cs3[j]? := by simp
          rw [e2]
          by_cases hjk : k = j / m
          · rw [if_pos hjk]
            have := hI.row.2 (j % m) (by rw [hm]; exact hjm)
            rw [hjk, ← hdm] at this
            exact this
          · rw [if_neg hjk]
            rw [e3 j (by
              intro ⟨h1, h2⟩
              apply hjk
              have h3 : k * m ≤ (j / m) * m + j % m := by rw [← hdm]; exact h1
              have h4 : (j / m) * m + j % m < k * m + m := by rw [← hdm]; exact h2
              have h5 : k ≤ j / m := by rw [Nat.le_div_iff_mul_le hm0]; exact h1
              have h6 : j / m < k + 1 := by rw [Nat.div_lt_iff_lt_mul hm0, Nat.succ_mul]; exact h2
              omega)]
            have := hcur (j / m) hjd' (j % m) hjm
            rw [← hdm] at this
            exact this
        · rw [List.getElem?_eq_none (by rw [List.length_take]; omega), List.getElem?_eq_none]
          rw [flat_len _ m (hall _)]
          simp only [List.length_map, List.length_set, ← hr.count]; omega
    · intro p hp
      obtain ⟨i, hi, rfl⟩ := List.getElem_of_mem hp
      rw [List.length_set] at hi
      rw [List.getElem_set]
      by_cases hik : k = i
      · rw [if_pos hik]; exact ⟨a2, n2, cap2, rfl, hI.len, hI.own⟩
      · rw [if_neg hik]
        obtain ⟨a3, n3, cap3, r1, r2, r3⟩ := hr.each ps[i] (List.getElem_mem hi)
        refine ⟨a3, n3, cap3, r1, r2, own_same r3 (fun z hz => ?_)⟩
        obtain ⟨c, hb⟩ := own_blk r3 hz
        refine hT.block z hb.lt (Blk.ne hh hb hte) ?_
        rw [← q1]
        intro e
        exact hr.apart i k ps[i] ps[k] (by simp [hi]) (by simp [hk]) (fun e => hik e.symm) z hz e.symm
    · intro i j p q hp hq hij z hz hz2
      have hold : ∀ i p, i ≠ k → (ps.set k (y, Value.slice a2 n2 cap2))[i]? = some p → ps[i]? = some p := by
        intro i p hik hp; rw [List.getElem?_set_ne (Ne.symm hik)] at hp; exact hp
      have hlt : ∀ (i : Nat) (p : α × Value), ps[i]? = some p → ∀ z, p.2.ownBlock = some z → z < w.heap.size := by
        intro i p hp z hz
        obtain ⟨_, _, _, _, _, r3⟩ := hr.each p (List.mem_of_getElem? hp)
        exact (own_ge r3 z hz).2
      have hnew : ∀ p, (ps.set k (y, Value.slice a2 n2 cap2))[k]? = some p → p = (y, Value.slice a2 n2 cap2) := by
        intro p hp; rw [List.getElem?_set_self (by simpa using hk)] at hp; exact (Option.some.inj hp).symm
      by_cases hik : i = k
      · subst hik
        obtain rfl := hnew p hp
        have hqj := hold j q (Ne.symm hij) hq
        rcases hR with hR | hR
        · simp only at hz
          rw [hR, ← q1] at hz
          exact hr.apart i j ps[i] q (by simp [hk]) hqj hij z hz hz2
        · have h1 := hR z hz
          have h2 := hlt j q hqj z hz2
          omega
      · have hpi := hold i p hik hp
        by_cases hjk : j = k
        · subst hjk
          obtain rfl := hnew q hq
          rcases hR with hR | hR
          · simp only at hz2
            rw [hR, ← q1] at hz2
            exact hr.apart i j p ps[j] hpi (by simp [hk]) hij z hz hz2
          · have h1 := hR z hz2
            have h2 := hlt i p hpi z hz
            omega
        · exact hr.apart i j p q hpi (hold j q hjk hq) hij z hz hz2
end

end Go.Proofs.YtgcjlgaapiefiabGreat

/-
  The program's world, as it lies in memory.
-/
namespace Go.Proofs.YtgcjlgaapiefiabGreat
open Go.RowKit

abbrev InstsMem (base : Nat) (w : World) (ia : Option Addr) (n ic : Nat) (xs : List Inst) : Prop := RowsMem 78 92 12 3 Inst.cells (fun x => ents x.ledger) (fun x => x.ledger.length) base w ia n ic xs
abbrev ReqsMem (base : Nat) (w : World) (ia : Option Addr) (n ic : Nat) (rs : List Req) : Prop := RowsMem 83 3 9 1 Req.cells (fun r => ints r.bys) (fun r => r.bys.length) base w ia n ic rs

/-- Types that no part of a world has. -/
def Aside (tw : TypeId) : Prop := tw ≠ 78 ∧ tw ≠ 92 ∧ tw ≠ 83 ∧ tw ≠ 3

/-- Of the blocks that are neither frozen nor of these types nothing has turned. -/
def Frame (ts : List TypeId) (w w' : World) : Prop := w.heap.size ≤ w'.heap.size ∧ ∀ k cs t, Blk w k cs t → t ∉ ts → w'.heap[k]? = w.heap[k]?
theorem Frame.refl (ts : List TypeId) (w : World) : Frame ts w w := ⟨Nat.le_refl _, fun _ _ _ _ _ => rfl⟩
theorem Frame.quiet {w w' : World} (ts : List TypeId) (h : Quiet w w') : Frame ts w w' := ⟨h.size, fun k _ _ hb _ => h.block k hb.lt⟩
theorem Frame.trans {ts : List TypeId} {w w1 w2 : World} (h : Frame ts w w1) (h2 : Frame ts w1 w2) : Frame ts w w2 :=
  ⟨Nat.le_trans h.1 h2.1, fun k cs t hb ht => by
    have e := h.2 k cs t hb ht
    rw [h2.2 k cs t (e.trans hb) ht, e]⟩
theorem Frame.blk {ts : List TypeId} {w w' : World} (h : Frame ts w w') {k : Nat} {cs : Array Value} {t : TypeId} (hb : Blk w k cs t) (ht : t ∉ ts) : Blk w' k cs t := (h.2 k cs t hb ht).trans hb
theorem Frame.own {ts : List TypeId} {w w' : World} (h : Frame ts w w') {base : Nat} {e : TypeId} {size : Nat} {v : Value} {n : Nat} {xs : List Value} (ho : w.ownsRow base e size v n xs) (he : e ∉ ts) : w'.ownsRow base e size v n xs :=
  own_same ho fun k hk => by obtain ⟨cs, hb⟩ := own_blk ho hk; exact h.2 k cs e hb he
theorem Frame.set {ts : List TypeId} {w : World} {p : Addr} {cs : Array Value} {t : TypeId} (hb : Blk w p.block cs t) (ht : t ∈ ts) (v : Value) : Frame ts w (w.setCell p v) :=
  ⟨by simp [World.setCell], fun k c t' hk ht' => Below.heap_setCell w p v k (by rintro rfl; unfold Blk at hb hk; rw [hb] at hk; simp at hk; exact ht' (hk.2 ▸ ht))⟩
theorem Turned.frame {w w' : World} {b o n : Nat} {row : Option Nat} (h : Turned w w' b o n row) {ts : List TypeId} {cb : Array Value} {tb e : TypeId} (hb : Blk w b cb tb) (htb : tb ∈ ts) (hr : ∀ k, row = some k → ∃ c, Blk w k c e) (he : e ∈ ts) : Frame ts w w' :=
  ⟨h.size, fun k cs t hk ht => h.block k hk.lt (by rintro rfl; unfold Blk at hb hk; rw [hb] at hk; simp at hk; exact ht (hk.2 ▸ htb)) (fun e' => by
    obtain ⟨c, hc⟩ := hr k e'.symm
    unfold Blk at hc hk; rw [hc] at hk; simp at hk; exact ht (hk.2 ▸ he))⟩

def worldTypes (tw : TypeId) : List TypeId := [tw, 78, 92, 83, 3]

/-- Beneath the world's own rows nothing has turned but the block that bears it. -/
structure High (w0 : Bas) (pb : Nat) (w : World) : Prop where
  size : w0.heap.size ≤ w.heap.size
  block : ∀ k, k < w0.heap.size → k ≠ pb → w.heap[k]? = w0.heap[k]?
theorem High.step {w0 : Bas} {pb : Nat} {w w' : World} (h : High w0 pb w) (hs : w.heap.size ≤ w'.heap.size) (hb : ∀ k, k < w0.heap.size → k ≠ pb → w'.heap[k]? = w.heap[k]?) : High w0 pb w' :=
  ⟨Nat.le_trans h.size hs, fun k hk hp => (hb k hk hp).trans (h.block k hk hp)⟩
theorem High.quiet {w0 : Bas} {pb : Nat} {w w' : World} (h : High w0 pb w) (hq : Quiet w w') : High w0 pb w' :=
  h.step hq.size (fun k hk _ => hq.block k (Nat.lt_of_lt_of_le hk h.size))
theorem High.set {w0 : Bas} {pb : Nat} {w : World} (h : High w0 pb w) (j : Nat) (v : Value) : High w0 pb (w.setCell ⟨pb, j, none⟩ v) :=
  h.step (by simp [World.setCell]) (fun k _ hp => Below.heap_setCell w _ v k hp)
theorem High.aside {w0 : Bas} {pb : Nat} {w : World} (h : High w0 pb w) {b : Nat} (hb : w0.heap.size ≤ b) (j : Nat) (v : Value) : High w0 pb (w.setCell ⟨b, j, none⟩ v) :=
  h.step (by simp [World.setCell]) (fun k hk _ => Below.heap_setCell w _ v k (by show k ≠ b; omega))
theorem High.turned {w0 : Bas} {pb : Nat} {w w' : World} {b o n : Nat} {row : Option Nat} (h : High w0 pb w) (hT : Turned w w' b o n row) (hb : w0.heap.size ≤ b) (hr : ∀ k, row = some k → w0.heap.size ≤ k) : High w0 pb w' :=
  h.step hT.size (fun k hk _ => hT.block k (Nat.lt_of_lt_of_le hk h.size) (by rintro rfl; omega) (fun e => by have := hr k e.symm; omega))
theorem High.grown {w0 : Bas} {pb : Nat} {w w' : World} {row : Option Nat} (h : High w0 pb w) (hg : w.grownBy w' row) (hr : ∀ k, row = some k → w0.heap.size ≤ k) : High w0 pb w' :=
  h.step hg.size (fun k hk _ => hg.block k (Nat.lt_of_lt_of_le hk h.size) (fun e => by have := hr k e.symm; omega))
/-- The cells beside the world's three. -/
def Rest (row : Array Value) (po : Nat) (pcs : Array Value) : Prop := pcs.size = row.size ∧ ∀ j, (j < po ∨ po + 3 ≤ j) → pcs[j]? = row[j]?
theorem Rest.refl (row : Array Value) (po : Nat) : Rest row po row := ⟨rfl, fun _ _ => rfl⟩
theorem Rest.set {row : Array Value} {po : Nat} {pcs : Array Value} (h : Rest row po pcs) (j : Nat) (hj : j < 3) (v : Value) : Rest row po (pcs.setIfInBounds (po + j) v) :=
  ⟨by rw [Array.size_setIfInBounds]; exact h.1, fun i hi => by rw [Array.getElem?_setIfInBounds_ne (by omega)]; exact h.2 i hi⟩

/-- The program's world. -/
structure PW (w0 : Bas) (w : World) (pb po : Nat) (tw : TypeId) (pcs : Array Value) (W : WorldR) (ia : Option Addr) (n ic : Nat) (ra : Option Addr) (m rc : Nat) : Prop where
  row : Row w pb po tw pcs [.int .i64 W.clock, .slice ia n ic, .slice ra m rc]
  insts : InstsMem w0.heap.size w ia n ic W.insts
  reqs : ReqsMem w0.heap.size w ra m rc W.reqs
  quiet : Quiet w0 w
  above : w0.lo.heap.size ≤ pb
  aside : Aside tw
  high : High w0 pb w
  rest : Rest w0.row po pcs

section
variable {w0 : Bas} {w : World} {pb po : Nat} {tw : TypeId} {pcs : Array Value} {W : WorldR} {ia : Option Addr} {n ic : Nat} {ra : Option Addr} {m rc : Nat}

theorem PW.hush (h : PW w0 w pb po tw pcs W ia n ic ra m rc) {w' : World} (hq : Quiet w w') : PW w0 w' pb po tw pcs W ia n ic ra m rc :=
  ⟨h.row.quiet hq, h.insts.quiet (hq := hq), h.reqs.quiet (hq := hq), h.quiet.after hq, h.above, h.aside, h.high.quiet hq, h.rest⟩

theorem PW.view (h : PW w0 w pb po tw pcs W ia n ic ra m rc) : WView w pb po W ia n ic ra m rc := by
  refine ⟨h.row.at, ?_, ?_⟩
  · obtain ⟨ps, e1, e2⟩ := h.insts
    refine ⟨ps, e1, own_arr (base := w0.heap.size) (e := 78) (n := n) e2.own (by simpa using e2.count) ?_⟩
    intro x hx; obtain ⟨p, _, rfl⟩ := List.mem_map.1 hx; rfl
  · obtain ⟨ps, e1, e2⟩ := h.reqs
    refine ⟨ps, e1, own_arr (base := w0.heap.size) (e := 83) (n := m) e2.own (by simpa using e2.count) ?_, fun p hp => ?_⟩
    · intro x hx; obtain ⟨p, _, rfl⟩ := List.mem_map.1 hx; rfl
    · obtain ⟨a, k, c, q1, q2, q3⟩ := e2.each p hp
      refine ⟨a, k, c, q1, ?_⟩
      rw [q1] at q3
      have q2' : k = p.1.bys.length := q2
      exact own_ints (base := w0.heap.size) (e := 3) (by rw [← q2']; exact q3)

theorem PW.ilen (h : PW w0 w pb po tw pcs W ia n ic ra m rc) : n = W.insts.length := h.view.insts.len.1
theorem PW.rlen (h : PW w0 w pb po tw pcs W ia n ic ra m rc) : m = W.reqs.length := h.view.reqs.len.1

/-- One instance, and the world when it has been written into. -/
theorem PW.inst (h : PW w0 w pb po tw pcs W ia n ic ra m rc) (k : Nat) (hk : k < W.insts.length) :
    ∃ g cs a' n' cap', ia = some ⟨g, 0, none⟩ ∧ w0.heap.size ≤ g ∧ InstIn w0.heap.size w g (k * 12) cs W.insts[k] a' n' cap' ∧
      ∀ w' y, Makes w0.heap.size w g (k * 12) (Value.slice a' n' cap').ownBlock y w' → PW w0 w' pb po tw pcs ⟨W.clock, W.insts.set k y, W.reqs⟩ ia n ic ra m rc ∧ Frame (worldTypes tw) w w' := by
  obtain ⟨g, cs, a', n', cap', e1, hg, hI, hput⟩ := RowsMem.at _ _ _ _ _ _ _ (by intros; rfl) (by decide) (by decide) h.insts k hk
  refine ⟨g, cs, a', n', cap', e1, hg, ⟨hI.row, hI.own, hI.len⟩, fun w' y hM => ?_⟩
  obtain ⟨cs2, a2, n2, cap2, q1, hT, q3⟩ := hM
  have hF : Frame (worldTypes tw) w w' := hT.frame hI.row.1 (by simp [worldTypes]) (fun k hk => own_blk hI.own hk) (by simp [worldTypes])
  have hF2 : Frame [78, 92] w w' := hT.frame hI.row.1 (by simp) (fun k hk => own_blk hI.own hk) (by simp)
  refine ⟨⟨⟨hF2.blk h.row.1 (by simp [h.aside.1, h.aside.2.1]), h.row.2⟩, hput w' y ⟨cs2, a2, n2, cap2, ⟨q1.row, q1.own, q1.len⟩, hT, q3⟩, ?_, ?_, h.above, h.aside, h.high.turned hT hg (fun k hk => (own_ge hI.own k hk).1), h.rest⟩, hF⟩
  · exact h.reqs.frame (h1 := fun k c hb => hF2.2 k c _ hb (by decide)) (h2 := fun k c hb => hF2.2 k c _ hb (by decide))
  · exact hT.after h.quiet (Nat.le_trans w0.le hg) (fun k hk => Nat.le_trans w0.le (own_ge hI.own k hk).1)

/-- A request, as it lies in memory. -/
abbrev ReqIn (base : Nat) (w : World) (b o : Nat) (cs : Array Value) (r : Req) (a : Option Addr) (n cap : Nat) : Prop := RowIn 83 3 1 Req.cells (fun r => ints r.bys) (fun r => r.bys.length) base w b o cs r a n cap
abbrev MakesR (base : Nat) (w : World) (b o : Nat) (row : Option Nat) (r : Req) (w' : World) : Prop := MakesG 83 3 9 1 Req.cells (fun r => ints r.bys) (fun r => r.bys.length) base w b o row r w'

theorem PW.req (h : PW w0 w pb po tw pcs W ia n ic ra m rc) (k : Nat) (hk : k < W.reqs.length) :
    ∃ g cs a' n' cap', ra = some ⟨g, 0, none⟩ ∧ w0.heap.size ≤ g ∧ ReqIn w0.heap.size w g (k * 9) cs W.reqs[k] a' n' cap' ∧
      ∀ w' y, MakesR w0.heap.size w g (k * 9) (Value.slice a' n' cap').ownBlock y w' → PW w0 w' pb po tw pcs ⟨W.clock, W.insts, W.reqs.set k y⟩ ia n ic ra m rc ∧ Frame (worldTypes tw) w w' := by
  obtain ⟨g, cs, a', n', cap', e1, hg, hI, hput⟩ := RowsMem.at _ _ _ _ _ _ _ (by intros; rfl) (by decide) (by decide) h.reqs k hk
  refine ⟨g, cs, a', n', cap', e1, hg, hI, fun w' y hM => ?_⟩
  have hM' := hM
  obtain ⟨cs2, a2, n2, cap2, q1, hT, q3⟩ := hM'
  have hF : Frame (worldTypes tw) w w' := hT.frame hI.row.1 (by simp [worldTypes]) (fun k hk => own_blk hI.own hk) (by simp [worldTypes])
  have hF2 : Frame [83, 3] w w' := hT.frame hI.row.1 (by simp) (fun k hk => own_blk hI.own hk) (by simp)
  refine ⟨⟨⟨hF2.blk h.row.1 (by simp [h.aside.2.2.1, h.aside.2.2.2]), h.row.2⟩, ?_, hput w' y hM, ?_, h.above, h.aside, h.high.turned hT hg (fun k hk => (own_ge hI.own k hk).1), h.rest⟩, hF⟩
  · exact h.insts.frame (h1 := fun k c hb => hF2.2 k c _ hb (by decide)) (h2 := fun k c hb => hF2.2 k c _ hb (by decide))
  · exact hT.after h.quiet (Nat.le_trans w0.le hg) (fun k hk => Nat.le_trans w0.le (own_ge hI.own k hk).1)

theorem ReqIn.at {base b o a' n' cap'} {cs : Array Value} {r : Req} (h : ReqIn base w b o cs r a' n' cap') : ReqAt w b o r :=
  have q : n' = r.bys.length := h.len
  ⟨a', n', cap', h.row.at, own_ints (base := base) (e := 3) (by rw [← q]; exact h.own)⟩

/-- The clock is set. -/
theorem PW.tick (h : PW w0 w pb po tw pcs W ia n ic ra m rc) (c : Int) : PW w0 (w.setCell ⟨pb, po, none⟩ (.int .i64 c)) pb po tw (pcs.setIfInBounds po (.int .i64 c)) ⟨c, W.insts, W.reqs⟩ ia n ic ra m rc ∧ Frame (worldTypes tw) w (w.setCell ⟨pb, po, none⟩ (.int .i64 c)) := by
  have hs : ∀ k cs t, Blk w k cs t → t ≠ tw → (w.setCell ⟨pb, po, none⟩ (.int .i64 c)).heap[k]? = w.heap[k]? := fun k cs t hb ht => Below.heap_setCell w _ _ k (Blk.ne h.row.1 hb (Ne.symm ht))
  have hr := h.row.set 0 (.int .i64 c) (by simp)
  obtain ⟨a1, a2, a3, a4⟩ := h.aside
  exact ⟨⟨hr, h.insts.frame (h1 := fun k cs hb => hs k cs _ hb (Ne.symm a1)) (h2 := fun k cs hb => hs k cs _ hb (Ne.symm a2)), h.reqs.frame (h1 := fun k cs hb => hs k cs _ hb (Ne.symm a3)) (h2 := fun k cs hb => hs k cs _ hb (Ne.symm a4)),
    Below.setCell h.quiet (p := ⟨pb, po, none⟩) h.above _, h.above, h.aside, h.high.set _ _, by simpa using h.rest.set 0 (by omega) (.int .i64 c)⟩, Frame.set (p := ⟨pb, po, none⟩) h.row.1 (by simp [worldTypes]) _⟩
end

/-- What every world that comes about is bounded by. -/
structure WBd (W : WorldR) : Prop where
  clock : 0 ≤ W.clock ∧ W.clock ≤ 10000
  insts : ∀ x ∈ W.insts, -1000 < x.settled ∧ x.settled ≤ 1000 ∧ 0 ≤ x.keys ∧ x.keys ≤ 1000000 ∧ 0 ≤ x.tries ∧ x.tries ≤ 1000000 ∧ x.ledger.length < 1099511627776
  count : W.reqs.length ≤ 1000
  reqs : ∀ r ∈ W.reqs, r.bys.length ≤ 1000 ∧ 1 ≤ r.what ∧ r.what ≤ 5

end Go.Proofs.YtgcjlgaapiefiabGreat

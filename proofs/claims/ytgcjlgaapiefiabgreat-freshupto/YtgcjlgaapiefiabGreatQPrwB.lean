import Derived.Test.YtgcjlgaapiefiabGreatQPrwA
import Derived.Test.YtgcjlgaapiefiabGreatQRefA
import Derived.Lib.QuietBelow

/-
  Walks of the program: what reads a world.
-/
namespace Go.Proofs.YtgcjlgaapiefiabGreat
open Go.RowKit

/-- A slice of instances, of whose ledgers nothing is said. -/
def InstsRow (w : World) (v : Value) (xs : List Inst) : Prop := ∃ ps : List (Inst × Value), ps.map (·.1) = xs ∧ Arr w 12 v (ps.map fun p => p.1.cells p.2)
/-- A request lies there. -/
def ReqAt (w : World) (b o : Nat) (r : Req) : Prop := ∃ a n cap, At w b o (r.cells (.slice a n cap)) ∧ Ints w (.slice a n cap) r.bys
def ReqsRow (w : World) (v : Value) (rs : List Req) : Prop := ∃ ps : List (Req × Value), ps.map (·.1) = rs ∧ Arr w 9 v (ps.map fun p => p.1.cells p.2) ∧ ∀ p ∈ ps, ∃ a n cap, p.2 = .slice a n cap ∧ Ints w (.slice a n cap) p.1.bys

theorem InstsRow.quiet {w w' : World} {v : Value} {xs : List Inst} (h : InstsRow w v xs) (hq : Quiet w w') : InstsRow w' v xs := by
  obtain ⟨ps, h1, h2⟩ := h; exact ⟨ps, h1, h2.quiet hq⟩
theorem ReqAt.quiet {w w' : World} {b o : Nat} {r : Req} (h : ReqAt w b o r) (hq : Quiet w w') : ReqAt w' b o r := by
  obtain ⟨a, n, cap, h1, h2⟩ := h; exact ⟨a, n, cap, h1.quiet hq, h2.quiet hq⟩
theorem ReqsRow.quiet {w w' : World} {v : Value} {rs : List Req} (h : ReqsRow w v rs) (hq : Quiet w w') : ReqsRow w' v rs := by
  obtain ⟨ps, h1, h2, h3⟩ := h
  exact ⟨ps, h1, h2.quiet hq, fun p hp => by obtain ⟨a, n, cap, e1, e2⟩ := h3 p hp; exact ⟨a, n, cap, e1, e2.quiet hq⟩⟩
theorem InstsRow.get {w : World} {a : Option Addr} {n cap : Nat} {xs : List Inst} (h : InstsRow w (.slice a n cap) xs) (k : Nat) (hk : k < xs.length) :
    ∃ b off, a = some ⟨b, off, none⟩ ∧ b < w.heap.size ∧ InstAt w b (off + k * 12) xs[k] := by
  obtain ⟨ps, rfl, h2⟩ := h
  simp only [List.length_map] at hk
  obtain ⟨b, off, ha, hx⟩ := h2.row k (by simpa using hk)
  simp only [List.getElem_map] at hx
  exact ⟨b, off, ha, hx.lt, ps[k].2, by simpa using hx⟩
theorem ReqsRow.get {w : World} {a : Option Addr} {n cap : Nat} {rs : List Req} (h : ReqsRow w (.slice a n cap) rs) (k : Nat) (hk : k < rs.length) :
    ∃ b off, a = some ⟨b, off, none⟩ ∧ b < w.heap.size ∧ ReqAt w b (off + k * 9) rs[k] := by
  obtain ⟨ps, rfl, h2, h3⟩ := h
  simp only [List.length_map] at hk
  obtain ⟨b, off, ha, hx⟩ := h2.row k (by simpa using hk)
  obtain ⟨la, ln, lc, e1, e2⟩ := h3 ps[k] (List.getElem_mem hk)
  simp only [List.getElem_map] at hx
  rw [e1] at hx
  exact ⟨b, off, ha, hx.lt, la, ln, lc, by simpa using hx, by simpa using e2⟩
theorem InstsRow.len {w : World} {a : Option Addr} {n cap : Nat} {xs : List Inst} (h : InstsRow w (.slice a n cap) xs) : n = xs.length ∧ n ≤ 9223372036854775807 := by
  obtain ⟨ps, rfl, h2⟩ := h
  have := h2.len
  simpa using this
theorem ReqsRow.len {w : World} {a : Option Addr} {n cap : Nat} {rs : List Req} (h : ReqsRow w (.slice a n cap) rs) : n = rs.length ∧ n ≤ 9223372036854775807 := by
  obtain ⟨ps, rfl, h2, _⟩ := h
  have := h2.len
  simpa using this

/-- A world as it lies in memory, to be read. -/
structure WView (w : World) (pb po : Nat) (W : WorldR) (ia : Option Addr) (n ic : Nat) (ra : Option Addr) (m rc : Nat) : Prop where
  cells : At w pb po [.int .i64 W.clock, .slice ia n ic, .slice ra m rc]
  insts : InstsRow w (.slice ia n ic) W.insts
  reqs : ReqsRow w (.slice ra m rc) W.reqs
theorem WView.quiet {w w' : World} {pb po : Nat} {W : WorldR} {ia : Option Addr} {n ic : Nat} {ra : Option Addr} {m rc : Nat} (h : WView w pb po W ia n ic ra m rc) (hq : Quiet w w') : WView w' pb po W ia n ic ra m rc :=
  ⟨h.cells.quiet hq, h.insts.quiet hq, h.reqs.quiet hq⟩

def placeI (xs : List Inst) (id : Int) : Int := match placeP xs id with
  | some k => (k : Int)
  | none => -1
theorem placeI_some {xs : List Inst} {id : Int} {k : Nat} (h : placeP xs id = some k) : placeI xs id = k := by unfold placeI; rw [h]
theorem placeI_minus {xs : List Inst} {id : Int} (h : placeP xs id = none) : placeI xs id = -1 := by unfold placeI; rw [h]
theorem placeI_at (xs : List Inst) (id : Int) (k : Nat) (hk : k < xs.length) (he : xs[k].id = id) (hno : ∀ j (hj : j < k), xs[j].id ≠ id) : placeP xs id = some k := by
  unfold placeP
  rw [List.findIdx?_eq_some_iff_getElem]
  exact ⟨hk, by simpa using he, fun j hj => by simpa using hno j hj⟩
theorem placeI_none (xs : List Inst) (id : Int) (hno : ∀ j (hj : j < xs.length), xs[j].id ≠ id) : placeP xs id = none := by
  unfold placeP
  rw [List.findIdx?_eq_none_iff]
  intro x hx
  obtain ⟨j, hj, rfl⟩ := List.getElem_of_mem hx
  simpa using hno j hj

set_option maxHeartbeats 1000000 in
theorem place_any (w : World) (pb po : Nat) (W : WorldR) (ia : Option Addr) (n ic : Nat) (ra : Option Addr) (m rc : Nat) (id : Int) (hv : WView w pb po W ia n ic ra m rc) :
    Calls Tryz.prog 100 #[.pointer (some ⟨pb, po, none⟩), .int .i64 id] w fun e w' => e = .returned (.int .i64 (placeI W.insts id)) ∧ w' = w := by
  obtain ⟨hn, hm⟩ := hv.insts.len
  have HN : Hid (n = W.insts.length) := hn
  clear hn
  obtain ⟨p0, p1, p2⟩ := hv.cells.three
  go_enter Tryz.func100, Tryz.ntmps100
  go_wp2
  go_loop [5] (fun i => ∃ k : Nat, k ≤ n ∧ i = .int .i64 k ∧ (∀ j (hj : j < W.insts.length), j < k → W.insts[j].id ≠ id)) (fun i => n - (intOf i).toNat)
  case atStart => exact ⟨0, Nat.zero_le _, rfl, fun j _ hj => by omega⟩
  case round =>
    obtain ⟨k, hk, rfl, hno⟩ := hrel
    have HO : Hid (∀ j (hj : j < W.insts.length), j < k → W.insts[j].id ≠ id) := hno
    clear hno
    by_cases hlt : k < n
    · have hkl : k < W.insts.length := by have := HN.out; omega
      obtain ⟨b, off, rfl, hb, lv, hx⟩ := hv.insts.get k hkl
      obtain ⟨c0, _⟩ := hx.twelve
      have HY : Hid (W.insts[k].id = id → placeI W.insts id = k) := by
        intro he
        exact placeI_some (placeI_at W.insts id k hkl he (fun j hj => HO.out j (by omega) hj))
      have HZ : Hid (W.insts[k].id ≠ id → ∀ j (hj : j < W.insts.length), j < k + 1 → W.insts[j].id ≠ id) := by
        intro hne j hj hjk
        by_cases e : j = k
        · subst e; exact hne
        · exact HO.out j hj (by omega)
      generalize W.insts[k] = x at *
      have hki : (0 : Int) ≤ (k : Int) := by omega
      cases he : x.id == id
      · have he' : x.id ≠ id := by simpa using he
        have HZ' := HZ.out he'
        have HZ2 : Hid (∀ j (hj : j < W.insts.length), j < k + 1 → W.insts[j].id ≠ id) := HZ'
        clear HZ' he'
        go_wp2
        go_round
        case rel => exact ⟨k + 1, by omega, by go_num, HZ2.out⟩
        case measure => simp [intOf]; omega
      · have he' : x.id = id := by simpa using he
        have HY2 : Hid (placeI W.insts id = k) := HY.out he'
        clear he'
        go_wp2
        go_ret
        exact ⟨ret_int HY2.out.symm, rfl⟩
    · have HE : Hid (placeI W.insts id = -1) := by
        exact placeI_minus (placeI_none W.insts id (fun j hj => HO.out j hj (by have := HN.out; omega)))
      go_wp2
      go_ret
      exact ⟨ret_int HE.out.symm, rfl⟩

theorem isWho_any (who : Int) (w : World) :
    Calls Tryz.prog 116 #[.int .i64 who] w fun e w' => e = .returned (.bool (isWhoP who)) ∧ w' = w := by
  by_cases h : 0 ≤ who
  · have hd : decide (0 ≤ who) = true := by simpa using h
    go_enter Tryz.func116, Tryz.ntmps116
    go_wp2
    go_ret
    exact ⟨ret_bool (by simp [isWhoP, h]), rfl⟩
  · have hd : decide (0 ≤ who) = false := by simpa using h
    go_enter Tryz.func116, Tryz.ntmps116
    go_wp2
    go_ret
    exact ⟨ret_bool (by unfold isWhoP; rw [hd]; rfl), rfl⟩

set_option maxHeartbeats 400000 in
theorem isAmong_any (v : Value) (l : List Int) (x : Int) (w : World) (h : Ints w v l) :
    Calls Tryz.prog 118 #[v, .int .i64 x] w fun e w' => e = .returned (.bool (l.any (· == x))) ∧ w' = w := by
  obtain ⟨a, n, cap, rfl⟩ := Arr.shape h
  obtain ⟨hn, hm⟩ := Arr.len h
  simp only [List.length_map] at hn
  have HN : Hid (n = l.length) := hn
  clear hn
  have HR : Hid (∀ y, l.any (· == x) = y → hasR l x = y) := fun y hy => hy
  have HR2 : Hid (l.any (· == x) = hasR l x) := rfl
  go_enter Tryz.func118, Tryz.ntmps118
  go_wp2
  go_loop [5] (fun i => ∃ k : Nat, k ≤ n ∧ i = .int .i64 k ∧ hasR (l.take k) x = false) (fun i => n - (intOf i).toNat)
  case atStart => exact ⟨0, Nat.zero_le _, rfl, by simp [hasR]⟩
  case round =>
    obtain ⟨k, hk, rfl, hno⟩ := hrel
    have HO : Hid (hasR (l.take k) x = false) := hno
    clear hno
    by_cases hlt : k < n
    · have hkl : k < l.length := by have := HN.out; omega
      obtain ⟨b, off, rfl, hb, c0⟩ := h.cell k hkl
      have hc' : hasR (l.take (k + 1)) x = (hasR (l.take k) x || (l[k] == x)) := by
        unfold hasR; rw [List.take_succ_eq_append_getElem hkl, List.any_append]; simp
      have HC : Hid (hasR (l.take (k + 1)) x = (hasR (l.take k) x || (l[k] == x))) := hc'
      clear hc'
      have HM : Hid ((l[k] == x) = true → hasR l x = true) := by
        intro hx; unfold hasR; rw [List.any_eq_true]; exact ⟨l[k], List.getElem_mem hkl, hx⟩
      generalize l[k] = c at *
      cases h1 : c == x
      · go_wp2
        go_round
        case rel => exact ⟨k + 1, by omega, by go_num, by rw [HC.out, HO.out, h1]; rfl⟩
        case measure => simp [intOf]; omega
      · go_wp2
        go_ret
        exact ⟨ret_bool (by rw [HR2.out, HM.out h1]), rfl⟩
    · have hkn : l.take k = l := by have := HN.out; rw [List.take_of_length_le (by omega)]
      go_wp2
      go_ret
      exact ⟨ret_bool (by have := HO.out; rw [hkn] at this; rw [HR2.out, this]), rfl⟩

end Go.Proofs.YtgcjlgaapiefiabGreat

/-
  Walks of the program: the codes of START, REPLY, TICK, APPROVE and WITHDRAW.
-/
namespace Go.Proofs.YtgcjlgaapiefiabGreat
open Go.RowKit Go.Sort

theorem mixedP : Tryz.prog.follows .mixedOrders = true := by kernel_rfl

theorem At.nine9 {w : World} {b o : Nat} {x0 x1 x2 x3 x4 x5 x6 x7 x8 : Value} (h : At w b o [x0, x1, x2, x3, x4, x5, x6, x7, x8]) :
    w.cell? ⟨b, o, none⟩ = some x0 ∧ w.cell? ⟨b, o + 1, none⟩ = some x1 ∧ w.cell? ⟨b, o + 2, none⟩ = some x2 ∧ w.cell? ⟨b, o + 3, none⟩ = some x3 ∧ w.cell? ⟨b, o + 4, none⟩ = some x4 ∧ w.cell? ⟨b, o + 5, none⟩ = some x5 ∧
    w.cell? ⟨b, o + 6, none⟩ = some x6 ∧ w.cell? ⟨b, o + 7, none⟩ = some x7 ∧ w.cell? ⟨b, o + 8, none⟩ = some x8 :=
  ⟨h 0 x0 rfl, h 1 x1 rfl, h 2 x2 rfl, h 3 x3 rfl, h 4 x4 rfl, h 5 x5 rfl, h 6 x6 rfl, h 7 x7 rfl, h 8 x8 rfl⟩

theorem mayApprove_any (b o : Nat) (r : Req) (who : Int) (w : World) (hr : ReqAt w b o r) :
    Calls Tryz.prog 106 #[.pointer (some ⟨b, o, none⟩), .int .i64 who] w fun e w' => e = .returned (.bool (mayP r who)) ∧ w' = w := by
  obtain ⟨a, n, cap, hx, hb⟩ := hr
  obtain ⟨c0, c1, c2, c3, c4, c5, c6, c7, c8⟩ := hx.nine9
  cases h1 : isWhoP who
  · have HM : Hid (mayP r who = false) := by show mayP r who = _; unfold mayP; rw [if_pos (.inl h1)]
    go_enter Tryz.func106, Tryz.ntmps106
    go_wp2_with (go_at_call 116; refine (isWho_any who _).mono ?_; rintro e w1 ⟨rfl, rfl⟩)
    go_ret
    exact ⟨ret_bool HM.out.symm, rfl⟩
  cases h2 : who == r.who
  · have HM : Hid (mayP r who = !(r.bys.any (· == who))) := by show mayP r who = _; simp at h2; unfold mayP; rw [if_neg (by rw [h1]; simp [h2])]; rfl
    go_enter Tryz.func106, Tryz.ntmps106
    go_wp2_with (first | (go_at_call 116; refine (isWho_any who _).mono ?_; rintro e w1 ⟨rfl, rfl⟩) | (go_at_call 118; refine (isAmong_any _ r.bys who _ hb).mono ?_; rintro e w1 ⟨rfl, rfl⟩))
    go_ret
    exact ⟨ret_bool HM.out.symm, rfl⟩
  · have HM : Hid (mayP r who = false) := by show mayP r who = _; simp at h2; unfold mayP; rw [if_pos (.inr h2)]
    go_enter Tryz.func106, Tryz.ntmps106
    go_wp2_with (go_at_call 116; refine (isWho_any who _).mono ?_; rintro e w1 ⟨rfl, rfl⟩)
    go_ret
    exact ⟨ret_bool HM.out.symm, rfl⟩

section
variable (w : World) (pb po : Nat) (W : WorldR) (ia : Option Addr) (n ic : Nat) (ra : Option Addr) (m rc : Nat)

theorem nextRequest_any (hv : WView w pb po W ia n ic ra m rc) (hm : m ≤ 1000000) :
    Calls Tryz.prog 104 #[.pointer (some ⟨pb, po, none⟩)] w fun e w' => e = .returned (.int .i64 ((m : Int) + 1)) ∧ w' = w := by
  obtain ⟨p0, p1, p2⟩ := hv.cells.three
  go_enter Tryz.func104, Tryz.ntmps104
  go_wp2
  go_ret
  exact ⟨rfl, rfl⟩

theorem tickCode_any (a : Int) (hv : WView w pb po W ia n ic ra m rc) (h0 : 0 ≤ W.clock) (h1 : W.clock ≤ 1000000) :
    Calls Tryz.prog 85 #[.pointer (some ⟨pb, po, none⟩), .int .i64 a] w fun e w' => e = .returned (.int .i64 (tickCodeP W a)) ∧ w' = w := by
  obtain ⟨p0, p1, p2⟩ := hv.cells.three
  by_cases t1 : a < 1
  · have HT : Hid (tickCodeP W a = 3) := by show tickCodeP W a = _; unfold tickCodeP; rw [if_pos (.inl t1)]
    go_enter Tryz.func85, Tryz.ntmps85
    go_wp2
    go_ret
    exact ⟨ret_int HT.out.symm, rfl⟩
  by_cases t2 : 100 < a
  · have HT : Hid (tickCodeP W a = 3) := by show tickCodeP W a = _; unfold tickCodeP; rw [if_pos (.inr t2)]
    go_enter Tryz.func85, Tryz.ntmps85
    go_wp2
    go_ret
    exact ⟨ret_int HT.out.symm, rfl⟩
  by_cases t3 : 10000 < W.clock + a
  · have HT : Hid (tickCodeP W a = 16) := by show tickCodeP W a = _; unfold tickCodeP; rw [if_neg (by omega), if_pos t3]
    go_enter Tryz.func85, Tryz.ntmps85
    go_wp2
    go_ret
    exact ⟨ret_int HT.out.symm, rfl⟩
  · have HT : Hid (tickCodeP W a = 0) := by show tickCodeP W a = _; unfold tickCodeP; rw [if_neg (by omega), if_neg t3]
    go_enter Tryz.func85, Tryz.ntmps85
    go_wp2
    go_ret
    exact ⟨ret_int HT.out.symm, rfl⟩

theorem startCode_any (id : Int) (hv : WView w pb po W ia n ic ra m rc) :
    Calls Tryz.prog 82 #[.pointer (some ⟨pb, po, none⟩), .int .i64 id] w fun e w' => e = .returned (.int .i64 (startCodeP W id)) ∧ w' = w := by
  obtain ⟨p0, p1, p2⟩ := hv.cells.three
  obtain ⟨hn, hnm⟩ := hv.insts.len
  have HN : Hid (n = W.insts.length) := hn
  clear hn
  by_cases t1 : id < 0
  · have HT : Hid (startCodeP W id = 3) := by show startCodeP W id = _; unfold startCodeP; rw [if_pos (.inl t1)]
    go_enter Tryz.func82, Tryz.ntmps82
    go_wp2
    go_ret
    exact ⟨ret_int HT.out.symm, rfl⟩
  by_cases t2 : 255 < id
  · have HT : Hid (startCodeP W id = 3) := by show startCodeP W id = _; unfold startCodeP; rw [if_pos (.inr t2)]
    go_enter Tryz.func82, Tryz.ntmps82
    go_wp2
    go_ret
    exact ⟨ret_int HT.out.symm, rfl⟩
  have HP : Hid (startCodeP W id = if (placeP W.insts id).isSome then 4 else if 4 ≤ (n : Int) then 5 else 0) := by
    show startCodeP W id = _; unfold startCodeP; rw [if_neg (by omega), HN.out]
  have HI : Hid (∀ w, WView w pb po W ia n ic ra m rc → Calls Tryz.prog 100 #[.pointer (some ⟨pb, po, none⟩), .int .i64 id] w fun e w' => e = .returned (.int .i64 (placeI W.insts id)) ∧ w' = w) := fun w hv => place_any w pb po W ia n ic ra m rc id hv
  cases hp : placeP W.insts id with
  | some k =>
    rw [placeI_some hp] at HI
    have HT : Hid (startCodeP W id = 4) := by show startCodeP W id = _; rw [HP.out, hp]; rfl
    clear HP
    have hki : (0 : Int) ≤ (k : Int) := by omega
    go_enter Tryz.func82, Tryz.ntmps82
    go_wp2_with (go_at_call 100; refine (HI.out _ hv).mono ?_; rintro e w1 ⟨rfl, rfl⟩)
    go_ret
    exact ⟨ret_int HT.out.symm, rfl⟩
  | none =>
    rw [placeI_minus hp] at HI
    have HT : Hid (startCodeP W id = if 4 ≤ (n : Int) then 5 else 0) := by show startCodeP W id = _; rw [HP.out, hp]; rfl
    clear HP
    by_cases t3 : 4 ≤ (n : Int)
    · have HT2 : Hid (startCodeP W id = 5) := by show startCodeP W id = _; rw [HT.out, if_pos t3]
      go_enter Tryz.func82, Tryz.ntmps82
      go_wp2_with (go_at_call 100; refine (HI.out _ hv).mono ?_; rintro e w1 ⟨rfl, rfl⟩)
      go_ret
      exact ⟨ret_int HT2.out.symm, rfl⟩
    · have HT2 : Hid (startCodeP W id = 0) := by show startCodeP W id = _; rw [HT.out, if_neg t3]
      go_enter Tryz.func82, Tryz.ntmps82
      go_wp2_with (go_at_call 100; refine (HI.out _ hv).mono ?_; rintro e w1 ⟨rfl, rfl⟩)
      go_ret
      exact ⟨ret_int HT2.out.symm, rfl⟩

/-- The code of a REPLY. -/
def replyCodeW (W : WorldR) (id key : Int) : Int := match instP W.insts id with
  | none => 4
  | some x => replyCodeP x key

theorem place_inst {xs : List Inst} {id : Int} {k : Nat} (h : placeP xs id = some k) : ∃ hk : k < xs.length, instP xs id = some xs[k] ∧ xs[k].id = id := by
  have h' := h
  unfold placeP at h
  rw [List.findIdx?_eq_some_iff_getElem] at h
  obtain ⟨hk, he, _⟩ := h
  refine ⟨hk, ?_, by simpa using he⟩
  unfold instP
  rw [h']
  simp [hk]
theorem place_none {xs : List Inst} {id : Int} (h : placeP xs id = none) : instP xs id = none := by unfold instP; rw [h]

theorem replyCode_any (id key : Int) (hv : WView w pb po W ia n ic ra m rc) :
    Calls Tryz.prog 84 #[.pointer (some ⟨pb, po, none⟩), .int .i64 id, .int .i64 key] w fun e w' => e = .returned (.int .i64 (replyCodeW W id key)) ∧ w' = w := by
  obtain ⟨p0, p1, p2⟩ := hv.cells.three
  obtain ⟨hn, hnm⟩ := hv.insts.len
  have HN : Hid (n = W.insts.length) := hn
  clear hn
  have HI : Hid (∀ w, WView w pb po W ia n ic ra m rc → Calls Tryz.prog 100 #[.pointer (some ⟨pb, po, none⟩), .int .i64 id] w fun e w' => e = .returned (.int .i64 (placeI W.insts id)) ∧ w' = w) := fun w hv => place_any w pb po W ia n ic ra m rc id hv
  cases hp : placeP W.insts id with
  | none =>
    rw [placeI_minus hp] at HI
    have HT : Hid (replyCodeW W id key = 4) := by show replyCodeW W id key = _; unfold replyCodeW; rw [place_none hp]
    go_enter Tryz.func84, Tryz.ntmps84
    go_wp2_with (go_at_call 100; refine (HI.out _ hv).mono ?_; rintro e w1 ⟨rfl, rfl⟩)
    go_ret
    exact ⟨ret_int HT.out.symm, rfl⟩
  | some k =>
    rw [placeI_some hp] at HI
    obtain ⟨hk, hin, _⟩ := place_inst hp
    obtain ⟨b, off, rfl, hb, lv, hx⟩ := hv.insts.get k hk
    have HT : Hid (replyCodeW W id key = replyCodeP W.insts[k] key) := by show replyCodeW W id key = _; unfold replyCodeW; rw [hin]
    generalize W.insts[k] = x at *
    obtain ⟨c0, c1, c2, c3, c4, c5, c6, c7, c8, c9, c10, c11⟩ := hx.twelve
    have hki : (0 : Int) ≤ (k : Int) := by omega
    have hkn : (k : Int) < (n : Int) := by have := HN.out; omega
    cases h0 : x.key == 0
    · cases h1 : x.key != key
      · have HC : Hid (replyCodeW W id key = 0) := by show replyCodeW W id key = _; rw [HT.out]; simp at h0 h1; unfold replyCodeP; rw [if_neg (fun q => q.elim h0 (fun q => q h1))]
        go_enter Tryz.func84, Tryz.ntmps84
        go_wp2_with (go_at_call 100; refine (HI.out _ hv).mono ?_; rintro e w1 ⟨rfl, rfl⟩)
        go_ret
        exact ⟨ret_int HC.out.symm, rfl⟩
      · have HC : Hid (replyCodeW W id key = 11) := by show replyCodeW W id key = _; rw [HT.out]; simp at h0 h1; unfold replyCodeP; rw [if_pos (.inr h1)]
        go_enter Tryz.func84, Tryz.ntmps84
        go_wp2_with (go_at_call 100; refine (HI.out _ hv).mono ?_; rintro e w1 ⟨rfl, rfl⟩)
        go_ret
        exact ⟨ret_int HC.out.symm, rfl⟩
    · have HC : Hid (replyCodeW W id key = 11) := by show replyCodeW W id key = _; rw [HT.out]; simp at h0; unfold replyCodeP; rw [if_pos (.inl h0)]
      go_enter Tryz.func84, Tryz.ntmps84
      go_wp2_with (go_at_call 100; refine (HI.out _ hv).mono ?_; rintro e w1 ⟨rfl, rfl⟩)
      go_ret
      exact ⟨ret_int HC.out.symm, rfl⟩
end

end Go.Proofs.YtgcjlgaapiefiabGreat

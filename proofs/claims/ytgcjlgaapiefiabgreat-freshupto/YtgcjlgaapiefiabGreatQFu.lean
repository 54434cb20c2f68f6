import Derived.Test.YtgcjlgaapiefiabGreatQFt

/-
  The book of marks; Marked.still: walked (made by mkfs7.py).
-/
namespace Go.Proofs.YtgcjlgaapiefiabGreat
open Go.RowKit Go.Sort

theorem rep_get (r : List Value) (n k c : Nat) (u : Value) (hk : k < n) (hc : r[c]? = some u) : (rep r n)[k * r.length + c]? = some u := by
  unfold rep
  exact flat_getA (m := r.length) (List.replicate n r) (fun x hx => by rw [List.eq_of_mem_replicate hx]) k c r u (by simp [hk]) hc
theorem addr_add {w : World} {g j : Nat} {u : Value} (h : w.cell? ((⟨g, 0, none⟩ : Addr).add j) = some u) : w.cell? ⟨g, j, none⟩ = some u := by
  unfold Addr.add at h
  split at h
  · rename_i h0; rw [h0]; exact h
  · simpa using h
/-- A cell of a row of a full list. -/
theorem Full.cell {t : TypeId} {r : List Value} {w : World} {v : Value} (h : Full t r w v) : ∃ a n cap, v = .slice a n cap ∧ n ≤ 9223372036854775807 ∧ ∀ k, k < n → ∃ g, a = some ⟨g, 0, none⟩ ∧ g < w.heap.size ∧ ∀ c u, r[c]? = some u → w.cell? ⟨g, k * r.length + c, none⟩ = some u := by
  obtain ⟨a, n, cap, rfl, ho⟩ := h
  refine ⟨a, n, cap, rfl, ?_, fun k hk => ?_⟩
  · rcases ho.2 with ⟨_, h0⟩ | ⟨g, c, cur, hv, _, _, h5, h6, _⟩
    · omega
    · unfold maxLen at h6; omega
  · rcases ho.2 with ⟨_, h0⟩ | ⟨g, c', cur, hv, _, h4, _⟩
    · omega
    · simp only [Value.slice.injEq] at hv
      refine ⟨g, hv.1, (Blk.lt (cs := cur) (t := t) h4), fun c u hc => ?_⟩
      subst_vars
      obtain ⟨rfl, _, _⟩ := hv
      exact addr_add (ho.cells (g := g) rfl _ u (rep_get r n k c u hk hc))
/-- An element of a list of one-cell rows. -/
theorem own_one {w : World} {t : TypeId} {a : Option Addr} {n cap : Nat} {vals : List Value} (h : w.ownsRow 0 t 1 (.slice a n cap) n vals) (k : Nat) (hk : k < n) : ∃ g, a = some ⟨g, 0, none⟩ ∧ g < w.heap.size ∧ ∃ hv : k < vals.length, w.cell? ⟨g, k, none⟩ = some vals[k] := by
  have hl := h.1
  rcases h.2 with ⟨_, h0⟩ | ⟨g, c', cur, hv, _, h4, _⟩
  · omega
  · simp only [Value.slice.injEq] at hv
    obtain ⟨rfl, _, _⟩ := hv
    exact ⟨g, rfl, Blk.lt (cs := cur) (t := t) h4, by omega, addr_add (h.cells (g := g) rfl k _ (List.getElem?_eq_getElem (by omega)))⟩

theorem own_three {w : World} {t : TypeId} {a : Option Addr} {n cap : Nat} {ws : List (Int × Value × Value)} (h : w.ownsRow 0 t 3 (.slice a n cap) n (ws.map fun x => [Value.int .i64 x.1, x.2.1, x.2.2]).flatten) (k : Nat) (hk : k < n) : ∃ g, a = some ⟨g, 0, none⟩ ∧ g < w.heap.size ∧ ∃ hv : k < ws.length, w.cell? ⟨g, k * 3 + 1, none⟩ = some ws[k].2.1 ∧ w.cell? ⟨g, k * 3 + 2, none⟩ = some ws[k].2.2 := by
  have hm : ∀ x ∈ ws.map (fun x : Int × Value × Value => [Value.int .i64 x.1, x.2.1, x.2.2]), x.length = 3 := by intro x hx; obtain ⟨y, _, rfl⟩ := List.mem_map.1 hx; rfl
  have hl := h.1
  rw [flat_lenA _ hm, List.length_map] at hl
  have hkw : k < ws.length := by omega
  rcases h.2 with ⟨_, h0⟩ | ⟨g, c', cur, hv, _, h4, _⟩
  · omega
  · simp only [Value.slice.injEq] at hv
    obtain ⟨rfl, _, _⟩ := hv
    have hx : (ws.map fun x : Int × Value × Value => [Value.int .i64 x.1, x.2.1, x.2.2])[k]? = some [Value.int .i64 ws[k].1, ws[k].2.1, ws[k].2.2] := by simp [hkw]
    exact ⟨g, rfl, Blk.lt (cs := cur) (t := t) h4, hkw, addr_add (h.cells (g := g) rfl _ _ (flat_getA _ hm k 1 _ _ hx rfl)), addr_add (h.cells (g := g) rfl _ _ (flat_getA _ hm k 2 _ _ hx rfl))⟩

def instMark (K : Int) : List Value := [.int .i64 K, .int .i64 0, .bool false, .int .i64 0, .int .i64 0, .bool false, .int .i64 0, .int .i64 0, .int .i64 0, .int .i64 0, .int .i64 0, .slice none 0 0]
def reqMark (K : Int) : List Value := [.int .i64 K, .int .i64 0, .int .i64 0, .int .i64 0, .int .i64 0, .string ⟨#[]⟩, .slice none 0 0, .int .i64 0, .bool false]

/-- The book: every list in it is full of its mark. -/
structure Book (w : World) (pb : Nat) (la : Option Addr) (NL lc : Nat) (lvals : List Value) (ba : Option Addr) (NB bc : Nat) (bvals : List Value) (aa : Option Addr) (NA ac : Nat) (avals : List Value) (wa : Option Addr) (NW wc : Nat) (ws : List (Int × Value × Value)) : Prop where
  blk : Blk w pb #[.slice la NL lc, .slice ba NB bc, .slice aa NA ac, .slice wa NW wc] 34
  lown : w.ownsRow 0 76 1 (.slice la NL lc) NL lvals
  bown : w.ownsRow 0 81 1 (.slice ba NB bc) NB bvals
  aown : w.ownsRow 0 53 1 (.slice aa NA ac) NA avals
  wown : w.ownsRow 0 47 3 (.slice wa NW wc) NW (ws.map fun x => [Value.int .i64 x.1, x.2.1, x.2.2]).flatten
  lfull : ∀ (i : Nat) (h : i < lvals.length), Full 92 [.int .i64 (77 + (i : Int) / 4), .int .i64 (77 + (i : Int) / 4), .int .i64 (77 + (i : Int) / 4)] w lvals[i]
  bfull : ∀ (i : Nat) (h : i < bvals.length), Full 3 [.int .i64 (77 + (i : Int) / 4)] w bvals[i]
  afull : ∀ (i : Nat) (h : i < avals.length), Full 86 [.int .i64 0, .int .i64 (77 + (i : Int) / 4), .int .i64 0, .int .i64 0] w avals[i]
  wfull : ∀ (i : Nat) (h : i < ws.length), Full 78 (instMark (77 + (i : Int) / 4)) w ws[i].2.1 ∧ Full 83 (reqMark (77 + (i : Int) / 4)) w ws[i].2.2
  small : NL ≤ 100000000 ∧ NB ≤ 100000000 ∧ NA ≤ 100000000 ∧ NW ≤ 100000000

set_option maxRecDepth 100000 in
set_option maxHeartbeats 4000000 in
theorem still_any (w : World) (pb : Nat) (la : Option Addr) (NL lc : Nat) (lvals : List Value) (ba : Option Addr) (NB bc : Nat) (bvals : List Value) (aa : Option Addr) (NA ac : Nat) (avals : List Value) (wa : Option Addr) (NW wc : Nat) (ws : List (Int × Value × Value)) (h : Book w pb la NL lc lvals ba NB bc bvals aa NA ac avals wa NW wc ws) :
    Calls Tryz.prog 21 #[.pointer (some ⟨pb, 0, none⟩)] w fun e w' => e = .returned (.bool true) ∧ w' = w := by
  have gb := h.blk.cell
  have zb := h.blk.lt
  obtain ⟨sm1, sm2, sm3, sm4⟩ := h.small
  go_enter Tryz.func21, Tryz.ntmps21
  go_wp2
  go_loopw [3, 4] (fun i k wr => ∃ q : Nat, q ≤ NL ∧ i = .int .i64 q ∧ Hid (wr = w)) (fun i _ _ => NL - (intOf i).toNat)
  case atStart => exact ⟨0, Nat.zero_le _, rfl, rfl⟩
  case round =>
    obtain ⟨i, hi, rfl, hw⟩ := hrel
    have hw' := hw.out.symm
    subst hw'
    clear hw
    by_cases hlt : i < NL
    · obtain ⟨g, hg, hgl, hiv, hcv⟩ := own_one h.lown i hlt
      subst hg
      obtain ⟨va, vn, vc, hve, hvn, hrow⟩ := (h.lfull i hiv).cell
      rw [hve] at hcv
      have hii : (0 : Int) ≤ (i : Int) := by omega
      have hij : (i : Int) < (NL : Int) := by omega
      have hiN : (i : Int) ≤ 100000000 := by omega
      have hvi : (vn : Int) ≤ 9223372036854775807 := by omega
      go_wp2
      go_loopw [4] (fun k wx => ∃ q : Nat, q ≤ vn ∧ k = .int .i64 q ∧ Hid (wx = w)) (fun k _ => vn - (intOf k).toNat)
      case atStart => exact ⟨0, Nat.zero_le _, rfl, rfl⟩
      case round =>
        obtain ⟨k, hk, rfl, hw⟩ := hrel
        have hw' := hw.out.symm
        subst hw'
        clear hw
        by_cases hlt2 : k < vn
        · obtain ⟨g2, hg2, hg2l, hcell⟩ := hrow k hlt2
          subst hg2
          have y0 := hcell 0 _ rfl
          have y2 := hcell 2 _ rfl
          have hki : (0 : Int) ≤ (k : Int) := by omega
          have hkj : (k : Int) < (vn : Int) := by omega
          have t0 : ((77 + (i : Int) / 4) != (77 + (i : Int) / 4)) = false := by simp
          simp only [List.length_cons, List.length_nil, Nat.zero_add, Nat.reduceAdd, Nat.add_zero] at y0 y2
          go_wp2
          go_roundw
          case rel => exact ⟨k + 1, by omega, by go_num, by first | rfl | trivial⟩
          case measure => simp [intOf]; omega
        · go_wp2
          go_roundw
          case rel => exact ⟨i + 1, by omega, by go_num, by first | rfl | trivial⟩
          case measure => simp [intOf]; omega
    · go_wp2
      go_loopw [5, 6] (fun i k wr => ∃ q : Nat, q ≤ NB ∧ i = .int .i64 q ∧ Hid (wr = w)) (fun i _ _ => NB - (intOf i).toNat)
      case atStart => exact ⟨0, Nat.zero_le _, rfl, rfl⟩
      case round =>
        obtain ⟨i, hi, rfl, hw⟩ := hrel
        have hw' := hw.out.symm
        subst hw'
        clear hw
        by_cases hlt : i < NB
        · obtain ⟨g, hg, hgl, hiv, hcv⟩ := own_one h.bown i hlt
          subst hg
          obtain ⟨va, vn, vc, hve, hvn, hrow⟩ := (h.bfull i hiv).cell
          rw [hve] at hcv
          have hii : (0 : Int) ≤ (i : Int) := by omega
          have hij : (i : Int) < (NB : Int) := by omega
          have hiN : (i : Int) ≤ 100000000 := by omega
          have hvi : (vn : Int) ≤ 9223372036854775807 := by omega
          go_wp2
          go_loopw [6] (fun k wx => ∃ q : Nat, q ≤ vn ∧ k = .int .i64 q ∧ Hid (wx = w)) (fun k _ => vn - (intOf k).toNat)
          case atStart => exact ⟨0, Nat.zero_le _, rfl, rfl⟩
          case round =>
            obtain ⟨k, hk, rfl, hw⟩ := hrel
            have hw' := hw.out.symm
            subst hw'
            clear hw
            by_cases hlt2 : k < vn
            · obtain ⟨g2, hg2, hg2l, hcell⟩ := hrow k hlt2
              subst hg2
              have y0 := hcell 0 _ rfl
              have hki : (0 : Int) ≤ (k : Int) := by omega
              have hkj : (k : Int) < (vn : Int) := by omega
              have t0 : ((77 + (i : Int) / 4) != (77 + (i : Int) / 4)) = false := by simp
              simp only [List.length_cons, List.length_nil, Nat.zero_add, Nat.mul_one, Nat.add_zero] at y0
              go_wp2
              go_roundw
              case rel => exact ⟨k + 1, by omega, by go_num, by first | rfl | trivial⟩
              case measure => simp [intOf]; omega
            · go_wp2
              go_roundw
              case rel => exact ⟨i + 1, by omega, by go_num, by first | rfl | trivial⟩
              case measure => simp [intOf]; omega
        · go_wp2
          go_loopw [7, 8] (fun i k wr => ∃ q : Nat, q ≤ NA ∧ i = .int .i64 q ∧ Hid (wr = w)) (fun i _ _ => NA - (intOf i).toNat)
          case atStart => exact ⟨0, Nat.zero_le _, rfl, rfl⟩
          case round =>
            obtain ⟨i, hi, rfl, hw⟩ := hrel
            have hw' := hw.out.symm
            subst hw'
            clear hw
            by_cases hlt : i < NA
            · obtain ⟨g, hg, hgl, hiv, hcv⟩ := own_one h.aown i hlt
              subst hg
              obtain ⟨va, vn, vc, hve, hvn, hrow⟩ := (h.afull i hiv).cell
              rw [hve] at hcv
              have hii : (0 : Int) ≤ (i : Int) := by omega
              have hij : (i : Int) < (NA : Int) := by omega
              have hiN : (i : Int) ≤ 100000000 := by omega
              have hvi : (vn : Int) ≤ 9223372036854775807 := by omega
              go_wp2
              go_loopw [8] (fun k wx => ∃ q : Nat, q ≤ vn ∧ k = .int .i64 q ∧ Hid (wx = w)) (fun k _ => vn - (intOf k).toNat)
              case atStart => exact ⟨0, Nat.zero_le _, rfl, rfl⟩
              case round =>
                obtain ⟨k, hk, rfl, hw⟩ := hrel
                have hw' := hw.out.symm
                subst hw'
                clear hw
                by_cases hlt2 : k < vn
                · obtain ⟨g2, hg2, hg2l, hcell⟩ := hrow k hlt2
                  subst hg2
                  have y1 := hcell 1 _ rfl
                  have hki : (0 : Int) ≤ (k : Int) := by omega
                  have hkj : (k : Int) < (vn : Int) := by omega
                  have t1 : ((77 + (i : Int) / 4) != (77 + (i : Int) / 4)) = false := by simp
                  simp only [List.length_cons, List.length_nil, Nat.zero_add, Nat.reduceAdd] at y1
                  go_wp2
                  go_roundw
                  case rel => exact ⟨k + 1, by omega, by go_num, by first | rfl | trivial⟩
                  case measure => simp [intOf]; omega
                · go_wp2
                  go_roundw
                  case rel => exact ⟨i + 1, by omega, by go_num, by first | rfl | trivial⟩
                  case measure => simp [intOf]; omega
            · go_wp2
              go_loopw [9, 10, 11] (fun i k l wr => ∃ q : Nat, q ≤ NW ∧ i = .int .i64 q ∧ Hid (wr = w)) (fun i _ _ _ => NW - (intOf i).toNat)
              case atStart => exact ⟨0, Nat.zero_le _, rfl, rfl⟩
              case round =>
                obtain ⟨i, hi, rfl, hw⟩ := hrel
                have hw' := hw.out.symm
                subst hw'
                clear hw
                by_cases hlt : i < NW
                · obtain ⟨g, hg, hgl, hiv, hcv1, hcv2⟩ := own_three h.wown i hlt
                  subst hg
                  obtain ⟨va, vn, vc, hve, hvn, hrow⟩ := (h.wfull i hiv).1.cell
                  obtain ⟨xa, xn, xc, hxe, hxn, hxrow⟩ := (h.wfull i hiv).2.cell
                  rw [hve] at hcv1
                  rw [hxe] at hcv2
                  have hii : (0 : Int) ≤ (i : Int) := by omega
                  have hij : (i : Int) < (NW : Int) := by omega
                  have hiN : (i : Int) ≤ 100000000 := by omega
                  have hvi : (vn : Int) ≤ 9223372036854775807 := by omega
                  have hxi : (xn : Int) ≤ 9223372036854775807 := by omega
                  have t0 : ((77 + (i : Int) / 4) != (77 + (i : Int) / 4)) = false := by simp
                  go_wp2
                  go_loopw [10] (fun k wx => ∃ q : Nat, q ≤ vn ∧ k = .int .i64 q ∧ Hid (wx = w)) (fun k _ => vn - (intOf k).toNat)
                  case atStart => exact ⟨0, Nat.zero_le _, rfl, rfl⟩
                  case round =>
                    obtain ⟨k, hk, rfl, hw⟩ := hrel
                    have hw' := hw.out.symm
                    subst hw'
                    clear hw
                    by_cases hlt2 : k < vn
                    · obtain ⟨g2, hg2, hg2l, hcell⟩ := hrow k hlt2
                      subst hg2
                      have y0 := hcell 0 _ rfl
                      have hki : (0 : Int) ≤ (k : Int) := by omega
                      have hkj : (k : Int) < (vn : Int) := by omega
                      simp only [instMark, List.length_cons, List.length_nil, Nat.zero_add, Nat.reduceAdd, Nat.add_zero] at y0
                      go_wp2
                      go_roundw
                      case rel => exact ⟨k + 1, by omega, by go_num, by first | rfl | trivial⟩
                      case measure => simp [intOf]; omega
                    · go_wp2
                      go_loopw [11] (fun k wx => ∃ q : Nat, q ≤ xn ∧ k = .int .i64 q ∧ Hid (wx = w)) (fun k _ => xn - (intOf k).toNat)
                      case atStart => exact ⟨0, Nat.zero_le _, rfl, rfl⟩
                      case round =>
                        obtain ⟨l, hl, rfl, hw⟩ := hrel
                        have hw' := hw.out.symm
                        subst hw'
                        clear hw
                        by_cases hlt3 : l < xn
                        · obtain ⟨g2, hg2, hg2l, hcell⟩ := hxrow l hlt3
                          subst hg2
                          have y0 := hcell 0 _ rfl
                          have hki : (0 : Int) ≤ (l : Int) := by omega
                          have hkj : (l : Int) < (xn : Int) := by omega
                          simp only [reqMark, List.length_cons, List.length_nil, Nat.zero_add, Nat.reduceAdd, Nat.add_zero] at y0
                          go_wp2
                          go_roundw
                          case rel => exact ⟨l + 1, by omega, by go_num, by first | rfl | trivial⟩
                          case measure => simp [intOf]; omega
                        · go_wp2
                          go_roundw
                          case rel => exact ⟨i + 1, by omega, by go_num, by first | rfl | trivial⟩
                          case measure => simp [intOf]; omega
                · go_wp2
                  go_ret
                  exact ⟨rfl, rfl⟩

end Go.Proofs.YtgcjlgaapiefiabGreat

/-
  The book with four lists more; what marking one list leaves of the others.
-/
namespace Go.Proofs.YtgcjlgaapiefiabGreat
open Go.RowKit

theorem marks_add {t : TypeId} (mk : Int → List Value) {w w' : World} {vals : List Value} (h4 : vals.length % 4 = 0) (hf : ∀ (i : Nat) (h : i < vals.length), Full t (mk (77 + (i : Int) / 4)) w' vals[i]) {v v1 v2 v3 : Value} (F : Four t (mk (77 + (vals.length : Int) / 4)) w w' v v1 v2 v3) :
    ∀ (i : Nat) (h : i < (vals ++ [v, v1, v2, v3]).length), Full t (mk (77 + (i : Int) / 4)) w' (vals ++ [v, v1, v2, v3])[i] := by
  intro i h
  by_cases hi : i < vals.length
  · rw [List.getElem_append_left hi]; exact hf i hi
  · simp only [List.length_append, List.length_cons, List.length_nil] at h
    rw [List.getElem_append_right (by omega)]
    have hd : (i : Int) / 4 = (vals.length : Int) / 4 := by omega
    rw [hd]
    obtain hj | hj | hj | hj : i - vals.length = 0 ∨ i - vals.length = 1 ∨ i - vals.length = 2 ∨ i - vals.length = 3 := by omega
    · simp only [hj, List.getElem_cons_zero]; exact F.f0
    · simp only [hj, List.getElem_cons_succ, List.getElem_cons_zero]; exact F.f1
    · simp only [hj, List.getElem_cons_succ, List.getElem_cons_zero]; exact F.f2
    · simp only [hj, List.getElem_cons_succ, List.getElem_cons_zero]; exact F.f3

/-- The lists of a book, and a list that is none of them. -/
def Off (vals : List Value) (v : Value) : Prop := ∀ u ∈ vals, ∀ j, u.ownBlock = some j → v.ownBlock ≠ some j
theorem Off.keep {t : TypeId} (mk : Int → List Value) {w w' : World} {vals : List Value} {v : Value} (ho : Off vals v) (hf : ∀ (i : Nat) (h : i < vals.length), Full t (mk (77 + (i : Int) / 4)) w vals[i]) {bt : TypeId} {ba : Option Addr} {N bc m pb : Nat} {cs : Array Value} {pt : TypeId} {bs : List Value} (hb : w.ownsRow 0 bt m (.slice ba N bc) N bs) (hp : Blk w pb cs pt) (h1 : t ≠ bt) (h2 : t ≠ pt)
    (hfr : ∀ j, j < w.heap.size → some j ≠ v.ownBlock → some j ≠ (Value.slice ba N bc).ownBlock → j ≠ pb → w'.heap[j]? = w.heap[j]?) : ∀ (i : Nat) (h : i < vals.length), Full t (mk (77 + (i : Int) / 4)) w' vals[i] := by
  intro i h
  have hi := hf i h
  have ho' := ho vals[i] (List.getElem_mem h)
  generalize vals[i] = u at *
  obtain ⟨a, n, cap, rfl, hown⟩ := hi
  refine Full.keep (Full.of hown) (fun j hj => hfr j (own_ge hown j hj).2 (fun e => ho' j hj e.symm) (fun e => ?_) (fun e => ?_))
  · obtain ⟨c1, k1⟩ := own_blk hown hj
    obtain ⟨c2, k2⟩ := own_blk hb e.symm
    exact absurd rfl (Blk.ne k1 k2 h1)
  · obtain ⟨c1, k1⟩ := own_blk hown hj
    subst e
    exact absurd rfl (Blk.ne k1 hp h2)
theorem Off.add {w w' : World} {t : TypeId} {r : List Value} {vals : List Value} {v v1 v2 v3 u : Value} (ho : Off vals u) (F : Four t r w w' v v1 v2 v3) (hv : ∀ j, v.ownBlock = some j → u.ownBlock ≠ some j) (hu : ∀ j, u.ownBlock = some j → j < w.heap.size) : Off (vals ++ [v, v1, v2, v3]) u := by
  have key : ∀ x : Value, (∀ j, x.ownBlock = some j → v.ownBlock = some j ∨ w.heap.size ≤ j) → ∀ j, x.ownBlock = some j → u.ownBlock ≠ some j := fun x hx j hj q => by
    rcases hx j hj with h | h
    · exact hv j h q
    · have := hu j q; omega
  intro x hx j hj
  rcases List.mem_append.1 hx with hx | hx
  · exact ho x hx j hj
  · simp at hx
    rcases hx with rfl | rfl | rfl | rfl
    · exact hv j hj
    · exact key _ F.b1 j hj
    · exact key _ F.b2 j hj
    · exact key _ F.b3 j hj

end Go.Proofs.YtgcjlgaapiefiabGreat

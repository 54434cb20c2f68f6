import Derived.Test.YtgcjlgaapiefiabGreatQFu
import Derived.Test.YtgcjlgaapiefiabGreatQSame
import Derived.Deep.RegionHeld

/-
  The book as one predicate: its blocks, and a bound of its lists (made by mkfs10.py).
-/
namespace Go.Proofs.YtgcjlgaapiefiabGreat
open Go.RowKit Go.Sort

/-- The lists of a book lie in S. -/
def InS (S : Nat → Prop) (v : Value) : Prop := ∀ j, v.ownBlock = some j → S j
theorem InS.mono {S T : Nat → Prop} {v : Value} (h : InS S v) (hst : ∀ j, S j → T j) : InS T v := fun j hj => hst j (h j hj)

/-- A book: all that belongs to it lies in the blocks of S; no list of it is longer than K. -/
def Shelf (S : Nat → Prop) (K : Nat) (w : World) (pb : Nat) : Prop :=
  ∃ (la : Option Addr) (NL lc : Nat) (lvals : List Value) (ba : Option Addr) (NB bc : Nat) (bvals : List Value) (aa : Option Addr) (NA ac : Nat) (avals : List Value) (wa : Option Addr) (NW wc : Nat) (ws : List (Int × Value × Value)),
    Book w pb la NL lc lvals ba NB bc bvals aa NA ac avals wa NW wc ws ∧ (NL % 4 = 0 ∧ NB % 4 = 0 ∧ NA % 4 = 0 ∧ NW % 4 = 0) ∧ (NL ≤ K ∧ NB ≤ K ∧ NA ≤ K ∧ NW ≤ K) ∧
    (S pb ∧ InS S (.slice la NL lc) ∧ InS S (.slice ba NB bc) ∧ InS S (.slice aa NA ac) ∧ InS S (.slice wa NW wc)) ∧
    ((∀ v ∈ lvals, InS S v) ∧ (∀ v ∈ bvals, InS S v) ∧ (∀ v ∈ avals, InS S v) ∧ (∀ x ∈ ws, InS S x.2.1 ∧ InS S x.2.2)) ∧ ∀ j, S j → j < w.heap.size

theorem Full.same {t : TypeId} {r : List Value} {S : Nat → Prop} {w w' : World} {v : Value} (h : Full t r w v) (hS : InS S v) (hk : ∀ j, S j → w'.heap[j]? = w.heap[j]?) : Full t r w' v := Full.keep h fun j hj => hk j (hS j hj)

theorem Book.same {w w' : World} {pb : Nat} {la : Option Addr} {NL lc : Nat} {lvals : List Value} {ba : Option Addr} {NB bc : Nat} {bvals : List Value} {aa : Option Addr} {NA ac : Nat} {avals : List Value} {wa : Option Addr} {NW wc : Nat} {ws : List (Int × Value × Value)} (h : Book w pb la NL lc lvals ba NB bc bvals aa NA ac avals wa NW wc ws) (S : Nat → Prop) (hk : ∀ j, S j → w'.heap[j]? = w.heap[j]?)
    (hs : S pb ∧ InS S (.slice la NL lc) ∧ InS S (.slice ba NB bc) ∧ InS S (.slice aa NA ac) ∧ InS S (.slice wa NW wc))
    (hv : (∀ v ∈ lvals, InS S v) ∧ (∀ v ∈ bvals, InS S v) ∧ (∀ v ∈ avals, InS S v) ∧ (∀ x ∈ ws, InS S x.2.1 ∧ InS S x.2.2)) : Book w' pb la NL lc lvals ba NB bc bvals aa NA ac avals wa NW wc ws :=
  ⟨(hk pb hs.1).trans h.blk, own_same h.lown fun j hj => hk j (hs.2.1 j hj), own_same h.bown fun j hj => hk j (hs.2.2.1 j hj), own_same h.aown fun j hj => hk j (hs.2.2.2.1 j hj), own_same h.wown fun j hj => hk j (hs.2.2.2.2 j hj),
    fun i hi => (h.lfull i hi).same (hv.1 _ (List.getElem_mem hi)) hk, fun i hi => (h.bfull i hi).same (hv.2.1 _ (List.getElem_mem hi)) hk, fun i hi => (h.afull i hi).same (hv.2.2.1 _ (List.getElem_mem hi)) hk,
    fun i hi => ⟨(h.wfull i hi).1.same (hv.2.2.2 _ (List.getElem_mem hi)).1 hk, (h.wfull i hi).2.same (hv.2.2.2 _ (List.getElem_mem hi)).2 hk⟩, h.small⟩

theorem Shelf.same {S : Nat → Prop} {K : Nat} {w w' : World} {pb : Nat} (h : Shelf S K w pb) (hk : ∀ j, S j → w'.heap[j]? = w.heap[j]?) (hsz : w.heap.size ≤ w'.heap.size) : Shelf S K w' pb := by
  obtain ⟨la, NL, lc, lvals, ba, NB, bc, bvals, aa, NA, ac, avals, wa, NW, wc, ws, hb, h4, hK, hs, hv, hlt⟩ := h
  exact ⟨la, NL, lc, lvals, ba, NB, bc, bvals, aa, NA, ac, avals, wa, NW, wc, ws, hb.same S hk hs hv, h4, hK, hs, hv, fun j hj => Nat.lt_of_lt_of_le (hlt j hj) hsz⟩
theorem Shelf.lt {S : Nat → Prop} {K : Nat} {w : World} {pb : Nat} (h : Shelf S K w pb) : ∀ j, S j → j < w.heap.size := by
  obtain ⟨la, NL, lc, lvals, ba, NB, bc, bvals, aa, NA, ac, avals, wa, NW, wc, ws, hb, h4, hK, hs, hv, hlt⟩ := h
  exact hlt
theorem Shelf.quiet {S : Nat → Prop} {K : Nat} {w w' : World} {pb : Nat} (h : Shelf S K w pb) (hq : Quiet w w') : Shelf S K w' pb := h.same (fun j hj => hq.block j (h.lt j hj)) hq.size
theorem Shelf.pb {S : Nat → Prop} {K : Nat} {w : World} {pb : Nat} (h : Shelf S K w pb) : S pb := by
  obtain ⟨la, NL, lc, lvals, ba, NB, bc, bvals, aa, NA, ac, avals, wa, NW, wc, ws, hb, h4, hK, hs, hv, hlt⟩ := h
  exact hs.1

/-- What is left as it was by the marking of one list. -/
theorem keepO {S : Nat → Prop} {w w' : World} {v0 : Value} {ba : Option Addr} {N bc : Nat} {bt pt : TypeId} {bvs : List Value} {pb bm : Nat} {cs : Array Value} (hfr : ∀ j, j < w.heap.size → some j ≠ v0.ownBlock → some j ≠ (Value.slice ba N bc).ownBlock → j ≠ pb → w'.heap[j]? = w.heap[j]?)
    (hb : w.ownsRow 0 bt bm (.slice ba N bc) N bvs) (hp : Blk w pb cs pt) (h0 : ∀ k, v0.ownBlock = some k → ¬ S k) {t : TypeId} {m n : Nat} {v : Value} {xs : List Value} (h : w.ownsRow 0 t m v n xs) (hS : InS S v) (h1 : t ≠ bt) (h2 : t ≠ pt) : w'.ownsRow 0 t m v n xs :=
  own_same h fun j hj => by
    obtain ⟨c1, k1⟩ := own_blk h hj
    refine hfr j k1.lt (fun e => h0 j e.symm (hS j hj)) (fun e => ?_) (fun e => ?_)
    · obtain ⟨c2, k2⟩ := own_blk hb e.symm
      exact absurd rfl (Blk.ne k1 k2 h1)
    · subst e
      exact absurd rfl (Blk.ne k1 hp h2)
theorem keepF {S : Nat → Prop} {w w' : World} {v0 : Value} {ba : Option Addr} {N bc : Nat} {bt pt : TypeId} {bvs : List Value} {pb bm : Nat} {cs : Array Value} (hfr : ∀ j, j < w.heap.size → some j ≠ v0.ownBlock → some j ≠ (Value.slice ba N bc).ownBlock → j ≠ pb → w'.heap[j]? = w.heap[j]?)
    (hb : w.ownsRow 0 bt bm (.slice ba N bc) N bvs) (hp : Blk w pb cs pt) (h0 : ∀ k, v0.ownBlock = some k → ¬ S k) {t : TypeId} {r : List Value} {v : Value} (h : Full t r w v) (hS : InS S v) (h1 : t ≠ bt) (h2 : t ≠ pt) : Full t r w' v := by
  obtain ⟨a, n, cap, rfl, ho⟩ := h
  exact Full.of (keepO hfr hb hp h0 ho hS h1 h2)

theorem four_in {t : TypeId} {r : List Value} {S : Nat → Prop} {w w' : World} {v v1 v2 v3 : Value} {vals : List Value} (F : Four t r w w' v v1 v2 v3) (hv : ∀ u ∈ vals, InS S u) : ∀ u ∈ vals ++ [v, v1, v2, v3], InS (fun j => S j ∨ v.ownBlock = some j ∨ (w.heap.size ≤ j ∧ j < w'.heap.size)) u := by
  have hlt : ∀ {u : Value}, Full t r w' u → ∀ j, u.ownBlock = some j → j < w'.heap.size := fun {u} hu j hj => by
    obtain ⟨a, n, cap, rfl, ho⟩ := hu
    exact (own_ge ho j hj).2
  intro u hu
  rcases List.mem_append.1 hu with hu | hu
  · exact (hv u hu).mono fun j hj => .inl hj
  · simp at hu
    rcases hu with rfl | rfl | rfl | rfl
    · exact fun j hj => .inr (.inl hj)
    · exact fun j hj => (F.b1 j hj).elim (fun h => .inr (.inl h)) (fun h => .inr (.inr ⟨h, hlt F.f1 j hj⟩))
    · exact fun j hj => (F.b2 j hj).elim (fun h => .inr (.inl h)) (fun h => .inr (.inr ⟨h, hlt F.f2 j hj⟩))
    · exact fun j hj => (F.b3 j hj).elim (fun h => .inr (.inl h)) (fun h => .inr (.inr ⟨h, hlt F.f3 j hj⟩))

/-- What marking a list makes of the book and of all else. -/
structure Shelved (S S' : Nat → Prop) (K : Nat) (w w' : World) (pb : Nat) (v : Value) : Prop where
  shelf : Shelf S' (K + 4) w' pb
  grow : ∀ j, S j → S' j
  here : ∀ j, v.ownBlock = some j → S' j
  only : ∀ j, S' j → S j ∨ v.ownBlock = some j ∨ w.heap.size ≤ j
  same : ∀ j, j < w.heap.size → ¬ S' j → w'.heap[j]? = w.heap[j]?
  size : w.heap.size ≤ w'.heap.size

theorem still_sh (w : World) (pb K : Nat) (S : Nat → Prop) (h : Shelf S K w pb) : Calls Tryz.prog 21 #[.pointer (some ⟨pb, 0, none⟩)] w fun e w' => e = .returned (.bool true) ∧ w' = w := by
  obtain ⟨la, NL, lc, lvals, ba, NB, bc, bvals, aa, NA, ac, avals, wa, NW, wc, ws, hb, _⟩ := h
  exact still_any w pb la NL lc lvals ba NB bc bvals aa NA ac avals wa NW wc ws hb

set_option maxRecDepth 100000 in
theorem ledger_sh (w0 w : World) (B0 pb K : Nat) (S : Nat → Prop) (h : Shelf S K w pb) (hK : K + 4 ≤ 100000000) (a : Option Addr) (n cap : Nat) (xs : List Value) (hl : w.ownsRow 0 92 3 (.slice a n cap) n xs) (hn : n ≤ 2199023255552) (hB : Below B0 w0 w) (hS0 : ∀ j, S j → B0 ≤ j)
    (hl0 : ∀ k, (Value.slice a n cap).ownBlock = some k → B0 ≤ k ∧ ¬ S k) :
    Calls Tryz.prog 33 #[.pointer (some ⟨pb, 0, none⟩), .slice a n cap] w fun e w' => e = .returned (.tuple #[]) ∧ (∃ S', Shelved S S' K w w' pb (.slice a n cap)) ∧ Below B0 w0 w' := by
  obtain ⟨la, NL, lc, lvals, ba, NB, bc, bvals, aa, NA, ac, avals, wa, NW, wc, ws, hb, ⟨m1, m2, m3, m4⟩, ⟨k1, k2, k3, k4⟩, ⟨s0, s1, s2, s3, s4⟩, ⟨v1, v2, v3, v4⟩, hlt⟩ := h
  refine (ledger_any w0 w B0 pb (.slice ba NB bc) (.slice aa NA ac) (.slice wa NW wc) la NL lc lvals hb.blk hb.lown a n cap xs hl hn (by omega) hB (hS0 _ s0) (fun k hk => (hl0 k hk).1) (fun k hk => hS0 k (s1 k hk))).mono ?_
  rintro e w' ⟨x1, x2, x3, ba', bc', rfl, F, hb', hown', hsp, hfr, hsz, hB'⟩
  refine ⟨rfl, ⟨fun j => S j ∨ (Value.slice a n cap).ownBlock = some j ∨ (w.heap.size ≤ j ∧ j < w'.heap.size), ?_, fun j hj => .inl hj, fun j hj => .inr (.inl hj), fun j hj => hj.imp id (fun h => h.imp id (fun h => h.1)), fun j hj hn => hfr j hj (fun e => hn (.inr (.inl e.symm))) (fun e => hn (.inl (s1 j e.symm))) (fun e => hn (.inl (e ▸ s0))), hsz⟩, hB'⟩
  have h0 : ∀ k, (Value.slice a n cap).ownBlock = some k → ¬ S k := fun k hk => (hl0 k hk).2
  have hlen : lvals.length = NL := by have := hb.lown.1; omega
  have up : ∀ {v : Value}, InS S v → InS (fun j => S j ∨ (Value.slice a n cap).ownBlock = some j ∨ (w.heap.size ≤ j ∧ j < w'.heap.size)) v := fun hv => hv.mono fun j hj => .inl hj
  have spn : InS (fun j => S j ∨ (Value.slice a n cap).ownBlock = some j ∨ (w.heap.size ≤ j ∧ j < w'.heap.size)) (.slice ba' (NL + 4) bc') := fun j hj => (hsp j hj).elim (fun h => .inl (s1 j h)) (fun h => .inr (.inr ⟨h, (own_ge hown' j hj).2⟩))
  refine ⟨ba', NL + 4, bc', lvals ++ [.slice a n cap, x1, x2, x3], ba, NB, bc, bvals, aa, NA, ac, avals, wa, NW, wc, ws, ?_, ⟨by omega, by omega, by omega, by omega⟩, ⟨by omega, by omega, by omega, by omega⟩, ⟨.inl s0, spn, up s2, up s3, up s4⟩, ⟨four_in F v1, fun u hu => up (v2 u hu), fun u hu => up (v3 u hu), fun u hu => ⟨up (v4 u hu).1, up (v4 u hu).2⟩⟩, fun j hj => ?_⟩
  · refine ⟨hb', hown', keepO hfr hb.lown hb.blk h0 hb.bown s2 (by decide) (by decide), keepO hfr hb.lown hb.blk h0 hb.aown s3 (by decide) (by decide), keepO hfr hb.lown hb.blk h0 hb.wown s4 (by decide) (by decide), marks_add (fun K => [.int .i64 K, .int .i64 K, .int .i64 K]) (by rw [hlen]; exact m1) (fun i hi => keepF hfr hb.lown hb.blk h0 (hb.lfull i hi) (v1 _ (List.getElem_mem hi)) (by decide) (by decide)) (by rw [hlen]; exact F), fun i hi => keepF hfr hb.lown hb.blk h0 (hb.bfull i hi) (v2 _ (List.getElem_mem hi)) (by decide) (by decide), fun i hi => keepF hfr hb.lown hb.blk h0 (hb.afull i hi) (v3 _ (List.getElem_mem hi)) (by decide) (by decide), fun i hi => ⟨keepF hfr hb.lown hb.blk h0 (hb.wfull i hi).1 (v4 _ (List.getElem_mem hi)).1 (by decide) (by decide), keepF hfr hb.lown hb.blk h0 (hb.wfull i hi).2 (v4 _ (List.getElem_mem hi)).2 (by decide) (by decide)⟩, ⟨by omega, by omega, by omega, by omega⟩⟩
  · rcases hj with h | h | h
    · exact Nat.lt_of_lt_of_le (hlt j h) hsz
    · exact Nat.lt_of_lt_of_le (own_ge hl j h).2 hsz
    · exact h.2

set_option maxRecDepth 100000 in
theorem by_sh (w0 w : World) (B0 pb K : Nat) (S : Nat → Prop) (h : Shelf S K w pb) (hK : K + 4 ≤ 100000000) (a : Option Addr) (n cap : Nat) (xs : List Value) (hl : w.ownsRow 0 3 1 (.slice a n cap) n xs) (hn : n ≤ 2199023255552) (hB : Below B0 w0 w) (hS0 : ∀ j, S j → B0 ≤ j)
    (hl0 : ∀ k, (Value.slice a n cap).ownBlock = some k → B0 ≤ k ∧ ¬ S k) :
    Calls Tryz.prog 35 #[.pointer (some ⟨pb, 0, none⟩), .slice a n cap] w fun e w' => e = .returned (.tuple #[]) ∧ (∃ S', Shelved S S' K w w' pb (.slice a n cap)) ∧ Below B0 w0 w' := by
  obtain ⟨la, NL, lc, lvals, ba, NB, bc, bvals, aa, NA, ac, avals, wa, NW, wc, ws, hb, ⟨m1, m2, m3, m4⟩, ⟨k1, k2, k3, k4⟩, ⟨s0, s1, s2, s3, s4⟩, ⟨v1, v2, v3, v4⟩, hlt⟩ := h
  refine (by_any w0 w B0 pb (.slice la NL lc) (.slice aa NA ac) (.slice wa NW wc) ba NB bc bvals hb.blk hb.bown a n cap xs hl hn (by omega) hB (hS0 _ s0) (fun k hk => (hl0 k hk).1) (fun k hk => hS0 k (s2 k hk))).mono ?_
  rintro e w' ⟨x1, x2, x3, ba', bc', rfl, F, hb', hown', hsp, hfr, hsz, hB'⟩
  refine ⟨rfl, ⟨fun j => S j ∨ (Value.slice a n cap).ownBlock = some j ∨ (w.heap.size ≤ j ∧ j < w'.heap.size), ?_, fun j hj => .inl hj, fun j hj => .inr (.inl hj), fun j hj => hj.imp id (fun h => h.imp id (fun h => h.1)), fun j hj hn => hfr j hj (fun e => hn (.inr (.inl e.symm))) (fun e => hn (.inl (s2 j e.symm))) (fun e => hn (.inl (e ▸ s0))), hsz⟩, hB'⟩
  have h0 : ∀ k, (Value.slice a n cap).ownBlock = some k → ¬ S k := fun k hk => (hl0 k hk).2
  have hlen : bvals.length = NB := by have := hb.bown.1; omega
  have up : ∀ {v : Value}, InS S v → InS (fun j => S j ∨ (Value.slice a n cap).ownBlock = some j ∨ (w.heap.size ≤ j ∧ j < w'.heap.size)) v := fun hv => hv.mono fun j hj => .inl hj
  have spn : InS (fun j => S j ∨ (Value.slice a n cap).ownBlock = some j ∨ (w.heap.size ≤ j ∧ j < w'.heap.size)) (.slice ba' (NB + 4) bc') := fun j hj => (hsp j hj).elim (fun h => .inl (s2 j h)) (fun h => .inr (.inr ⟨h, (own_ge hown' j hj).2⟩))
  refine ⟨la, NL, lc, lvals, ba', NB + 4, bc', bvals ++ [.slice a n cap, x1, x2, x3], aa, NA, ac, avals, wa, NW, wc, ws, ?_, ⟨by omega, by omega, by omega, by omega⟩, ⟨by omega, by omega, by omega, by omega⟩, ⟨.inl s0, up s1, spn, up s3, up s4⟩, ⟨fun u hu => up (v1 u hu), four_in F v2, fun u hu => up (v3 u hu), fun u hu => ⟨up (v4 u hu).1, up (v4 u hu).2⟩⟩, fun j hj => ?_⟩
  · refine ⟨hb', keepO hfr hb.bown hb.blk h0 hb.lown s1 (by decide) (by decide), hown', keepO hfr hb.bown hb.blk h0 hb.aown s3 (by decide) (by decide), keepO hfr hb.bown hb.blk h0 hb.wown s4 (by decide) (by decide), fun i hi => keepF hfr hb.bown hb.blk h0 (hb.lfull i hi) (v1 _ (List.getElem_mem hi)) (by decide) (by decide), marks_add (fun K => [.int .i64 K]) (by rw [hlen]; exact m2) (fun i hi => keepF hfr hb.bown hb.blk h0 (hb.bfull i hi) (v2 _ (List.getElem_mem hi)) (by decide) (by decide)) (by rw [hlen]; exact F), fun i hi => keepF hfr hb.bown hb.blk h0 (hb.afull i hi) (v3 _ (List.getElem_mem hi)) (by decide) (by decide), fun i hi => ⟨keepF hfr hb.bown hb.blk h0 (hb.wfull i hi).1 (v4 _ (List.getElem_mem hi)).1 (by decide) (by decide), keepF hfr hb.bown hb.blk h0 (hb.wfull i hi).2 (v4 _ (List.getElem_mem hi)).2 (by decide) (by decide)⟩, ⟨by omega, by omega, by omega, by omega⟩⟩
  · rcases hj with h | h | h
    · exact Nat.lt_of_lt_of_le (hlt j h) hsz
    · exact Nat.lt_of_lt_of_le (own_ge hl j h).2 hsz
    · exact h.2

set_option maxRecDepth 100000 in
theorem answers_sh (w0 w : World) (B0 pb K : Nat) (S : Nat → Prop) (h : Shelf S K w pb) (hK : K + 4 ≤ 100000000) (a : Option Addr) (n cap : Nat) (xs : List Value) (hl : w.ownsRow 0 86 4 (.slice a n cap) n xs) (hn : n ≤ 2199023255552) (hB : Below B0 w0 w) (hS0 : ∀ j, S j → B0 ≤ j)
    (hl0 : ∀ k, (Value.slice a n cap).ownBlock = some k → B0 ≤ k ∧ ¬ S k) :
    Calls Tryz.prog 18 #[.pointer (some ⟨pb, 0, none⟩), .slice a n cap] w fun e w' => e = .returned (.tuple #[]) ∧ (∃ S', Shelved S S' K w w' pb (.slice a n cap)) ∧ Below B0 w0 w' := by
  obtain ⟨la, NL, lc, lvals, ba, NB, bc, bvals, aa, NA, ac, avals, wa, NW, wc, ws, hb, ⟨m1, m2, m3, m4⟩, ⟨k1, k2, k3, k4⟩, ⟨s0, s1, s2, s3, s4⟩, ⟨v1, v2, v3, v4⟩, hlt⟩ := h
  refine (answersB_any w0 w B0 pb (.slice la NL lc) (.slice ba NB bc) (.slice wa NW wc) aa NA ac avals hb.blk hb.aown a n cap xs hl hn (by omega) hB (hS0 _ s0) (fun k hk => (hl0 k hk).1) (fun k hk => hS0 k (s3 k hk))).mono ?_
  rintro e w' ⟨x1, x2, x3, ba', bc', rfl, F, hb', hown', hsp, hfr, hsz, hB'⟩
  refine ⟨rfl, ⟨fun j => S j ∨ (Value.slice a n cap).ownBlock = some j ∨ (w.heap.size ≤ j ∧ j < w'.heap.size), ?_, fun j hj => .inl hj, fun j hj => .inr (.inl hj), fun j hj => hj.imp id (fun h => h.imp id (fun h => h.1)), fun j hj hn => hfr j hj (fun e => hn (.inr (.inl e.symm))) (fun e => hn (.inl (s3 j e.symm))) (fun e => hn (.inl (e ▸ s0))), hsz⟩, hB'⟩
  have h0 : ∀ k, (Value.slice a n cap).ownBlock = some k → ¬ S k := fun k hk => (hl0 k hk).2
  have hlen : avals.length = NA := by have := hb.aown.1; omega
  have up : ∀ {v : Value}, InS S v → InS (fun j => S j ∨ (Value.slice a n cap).ownBlock = some j ∨ (w.heap.size ≤ j ∧ j < w'.heap.size)) v := fun hv => hv.mono fun j hj => .inl hj
  have spn : InS (fun j => S j ∨ (Value.slice a n cap).ownBlock = some j ∨ (w.heap.size ≤ j ∧ j < w'.heap.size)) (.slice ba' (NA + 4) bc') := fun j hj => (hsp j hj).elim (fun h => .inl (s3 j h)) (fun h => .inr (.inr ⟨h, (own_ge hown' j hj).2⟩))
  refine ⟨la, NL, lc, lvals, ba, NB, bc, bvals, ba', NA + 4, bc', avals ++ [.slice a n cap, x1, x2, x3], wa, NW, wc, ws, ?_, ⟨by omega, by omega, by omega, by omega⟩, ⟨by omega, by omega, by omega, by omega⟩, ⟨.inl s0, up s1, up s2, spn, up s4⟩, ⟨fun u hu => up (v1 u hu), fun u hu => up (v2 u hu), four_in F v3, fun u hu => ⟨up (v4 u hu).1, up (v4 u hu).2⟩⟩, fun j hj => ?_⟩
  · refine ⟨hb', keepO hfr hb.aown hb.blk h0 hb.lown s1 (by decide) (by decide), keepO hfr hb.aown hb.blk h0 hb.bown s2 (by decide) (by decide), hown', keepO hfr hb.aown hb.blk h0 hb.wown s4 (by decide) (by decide), fun i hi => keepF hfr hb.aown hb.blk h0 (hb.lfull i hi) (v1 _ (List.getElem_mem hi)) (by decide) (by decide), fun i hi => keepF hfr hb.aown hb.blk h0 (hb.bfull i hi) (v2 _ (List.getElem_mem hi)) (by decide) (by decide), marks_add (fun K => [.int .i64 0, .int .i64 K, .int .i64 0, .int .i64 0]) (by rw [hlen]; exact m3) (fun i hi => keepF hfr hb.aown hb.blk h0 (hb.afull i hi) (v3 _ (List.getElem_mem hi)) (by decide) (by decide)) (by rw [hlen]; exact F), fun i hi => ⟨keepF hfr hb.aown hb.blk h0 (hb.wfull i hi).1 (v4 _ (List.getElem_mem hi)).1 (by decide) (by decide), keepF hfr hb.aown hb.blk h0 (hb.wfull i hi).2 (v4 _ (List.getElem_mem hi)).2 (by decide) (by decide)⟩, ⟨by omega, by omega, by omega, by omega⟩⟩
  · rcases hj with h | h | h
    · exact Nat.lt_of_lt_of_le (hlt j h) hsz
    · exact Nat.lt_of_lt_of_le (own_ge hl j h).2 hsz
    · exact h.2

end Go.Proofs.YtgcjlgaapiefiabGreat

/-
  A sweep over the rows of a world: list after list goes into the book.
-/
namespace Go.Proofs.YtgcjlgaapiefiabGreat
open Go.RowKit Go.Sort

/-- A row of a slice of rows, in every world that has the slice's block as it was. -/
theorem rows_at {α : Type} {t e : TypeId} {m s : Nat} {cells : α → Value → List Value} {inner : α → List Value} {len : α → Nat} (hm : ∀ x v, (cells x v).length = m) {base : Nat} {w : World} {ia : Option Addr} {n ic : Nat} {ps : List (α × Value)} (hr : RowsOf t e m s cells inner len base w ia n ic ps) (k : Nat) (hk : k < ps.length) :
    ∃ g a' n' cap', ia = some ⟨g, 0, none⟩ ∧ base ≤ g ∧ (∃ cs, Blk w g cs t) ∧ ps[k].2 = .slice a' n' cap' ∧ n' = len ps[k].1 ∧ w.ownsRow base e s (.slice a' n' cap') n' (inner ps[k].1) ∧
      ∀ w' : World, w'.heap[g]? = w.heap[g]? → At w' g (k * m) (cells ps[k].1 (.slice a' n' cap')) := by
  have hall : ∀ r ∈ ps.map (fun p => cells p.1 p.2), r.length = m := by intro r hr; obtain ⟨p, _, rfl⟩ := List.mem_map.1 hr; exact hm _ _
  have hown := hr.own
  obtain ⟨a', n', cap', q1, q2, q3⟩ := hr.each ps[k] (List.getElem_mem hk)
  rcases hown.2 with ⟨_, h0⟩ | ⟨g, cap, cur, hv, hg, hh, hc, hcm, hs, ht⟩
  · have := hr.count; omega
  obtain ⟨rfl, rfl⟩ : ia = some ⟨g, 0, none⟩ ∧ cap = ic := by simp at hv; exact ⟨hv.1, hv.2.symm⟩
  refine ⟨g, a', n', cap', rfl, hg, ⟨cur, hh⟩, q1, q2, by rw [← q1]; exact q3, fun w' hw' => ?_⟩
  intro j u hj
  have hb : Blk w' g cur t := hw'.trans hh
  rw [hb.cell]
  have hjm : j < m := by rw [← hm ps[k].1 (.slice a' n' cap')]; exact (List.getElem?_eq_some_iff.1 hj).1
  have e1 := flat_get (ps.map fun p => cells p.1 p.2) m hall k j (by simpa using hk) hjm
  rw [← ht, List.getElem?_take_of_lt, List.getElem_map, q1, hj] at e1
  · rw [← e1]; simp
  · have : (k + 1) * m ≤ n * m := Nat.mul_le_mul_right m (by rw [hr.count]; omega)
    rw [Nat.succ_mul] at this; omega

theorem RowsOf.same {α : Type} {t e : TypeId} {m s : Nat} {cells : α → Value → List Value} {inner : α → List Value} {len : α → Nat} {base : Nat} {w w' : World} {ia : Option Addr} {n ic : Nat} {ps : List (α × Value)} (h : RowsOf t e m s cells inner len base w ia n ic ps) (h1 : ∀ k cs, base ≤ k → Blk w k cs t → w'.heap[k]? = w.heap[k]?) (h2 : ∀ k cs, base ≤ k → Blk w k cs e → w'.heap[k]? = w.heap[k]?) : RowsOf t e m s cells inner len base w' ia n ic ps := by
  refine ⟨h.count, own_same h.own (fun k hk => ?_), fun p hp => ?_, h.apart⟩
  · obtain ⟨cs, hb⟩ := own_blk h.own hk; exact h1 k cs (own_ge h.own k hk).1 hb
  · obtain ⟨a, k, c, q1, q2, q3⟩ := h.each p hp
    exact ⟨a, k, c, q1, q2, own_same q3 (fun j hj => by obtain ⟨cs, hb⟩ := own_blk q3 hj; exact h2 j cs (own_ge q3 j hj).1 hb)⟩

/-- The first k lists of a slice of rows are in the book; of the rest nothing has turned. -/
def Sweep {α : Type} (ps : List (α × Value)) (S : Nat → Prop) (K : Nat) (V : World) (pb B0 : Nat) (w0 : World) (k : Nat) (wr : World) : Prop :=
  ∃ S' : Nat → Prop, Shelf S' (K + 4 * k) wr pb ∧ (∀ j, S j → S' j) ∧ (∀ j, S' j → S j ∨ (∃ q p, q < k ∧ ps[q]? = some p ∧ p.2.ownBlock = some j) ∨ V.heap.size ≤ j) ∧
    (∀ j, j < V.heap.size → ¬ S' j → wr.heap[j]? = V.heap[j]?) ∧ V.heap.size ≤ wr.heap.size ∧ Below B0 w0 wr

theorem Sweep.start {α : Type} (ps : List (α × Value)) {S : Nat → Prop} {K : Nat} {V : World} {pb B0 : Nat} {w0 : World} (h : Shelf S K V pb) (hB : Below B0 w0 V) : Sweep ps S K V pb B0 w0 0 V :=
  ⟨S, h, fun _ hj => hj, fun _ hj => .inl hj, fun _ _ _ => rfl, Nat.le_refl _, hB⟩
theorem Sweep.step {α : Type} {ps : List (α × Value)} {S : Nat → Prop} {K : Nat} {V : World} {pb B0 : Nat} {w0 : World} {k : Nat} {wr wq w3 : World} {S' S'' : Nat → Prop} (hup : ∀ j, S j → S' j) (hon : ∀ j, S' j → S j ∨ (∃ q p, q < k ∧ ps[q]? = some p ∧ p.2.ownBlock = some j) ∨ V.heap.size ≤ j)
    (hfr : ∀ j, j < V.heap.size → ¬ S' j → wr.heap[j]? = V.heap[j]?) (hsz : V.heap.size ≤ wr.heap.size) (hq : Quiet wr wq) {p : α × Value} (hp : ps[k]? = some p) (h : Shelved S' S'' (K + 4 * k) wq w3 pb p.2) (hB : Below B0 w0 w3) : Sweep ps S K V pb B0 w0 (k + 1) w3 := by
  have hs1 := hq.size
  have hs2 := h.size
  refine ⟨S'', by have := h.shelf; rw [show K + 4 * (k + 1) = K + 4 * k + 4 by omega]; exact this, fun j hj => h.grow j (hup j hj), fun j hj => ?_, fun j hj hn => ?_, by omega, hB⟩
  · rcases h.only j hj with h1 | h1 | h1
    · rcases hon j h1 with h2 | ⟨q, p', h2, h3, h4⟩ | h2
      · exact .inl h2
      · exact .inr (.inl ⟨q, p', by omega, h3, h4⟩)
      · exact .inr (.inr h2)
    · exact .inr (.inl ⟨k, p, by omega, hp, h1⟩)
    · exact .inr (.inr (by omega))
  · rw [h.same j (by omega) hn, hq.block j (by omega)]
    exact hfr j hj (fun h1 => hn (h.grow j h1))
/-- A block that a sweep does not reach. -/
theorem off_sweep {α : Type} {ps : List (α × Value)} {S S' : Nat → Prop} {V : World} {k : Nat} (hon : ∀ j, S' j → S j ∨ (∃ q p, q < k ∧ ps[q]? = some p ∧ p.2.ownBlock = some j) ∨ V.heap.size ≤ j) {e : TypeId} {s base : Nat} {inner : α → List Value} {len : α → Nat} (he : ∀ p ∈ ps, InnerOwn e s inner len base V p) {j : Nat} {cs : Array Value} {t : TypeId} (hb : Blk V j cs t) (hn : ¬ S j) (ht : t ≠ e) : ¬ S' j := by
  intro h
  rcases hon j h with h1 | ⟨q, p, _, h3, h4⟩ | h1
  · exact hn h1
  · obtain ⟨a, k', c, _, _, q3⟩ := he p (List.mem_of_getElem? h3)
    obtain ⟨cs', hb'⟩ := own_blk q3 h4
    exact absurd rfl (Blk.ne hb hb' ht)
  · have := hb.lt; omega
/-- The next list is none of the book's. -/
theorem off_next {α : Type} {t e : TypeId} {m s : Nat} {cells : α → Value → List Value} {inner : α → List Value} {len : α → Nat} {base : Nat} {V : World} {ia : Option Addr} {n ic : Nat} {ps : List (α × Value)} (hr : RowsOf t e m s cells inner len base V ia n ic ps) {S S' : Nat → Prop} {k : Nat} (hon : ∀ j, S' j → S j ∨ (∃ q p, q < k ∧ ps[q]? = some p ∧ p.2.ownBlock = some j) ∨ V.heap.size ≤ j) (hk : k < ps.length) {j : Nat} (hj : ps[k].2.ownBlock = some j) (hS : ¬ S j) : ¬ S' j := by
  obtain ⟨a', k', c', q1, q2, q3⟩ := hr.each ps[k] (List.getElem_mem hk)
  obtain ⟨cs, hb⟩ := own_blk q3 hj
  intro h
  rcases hon j h with h1 | ⟨q, p, h2, h3, h4⟩ | h1
  · exact hS h1
  · exact hr.apart k q ps[k] p (by simp [hk]) h3 (by omega) j hj h4
  · have := hb.lt; omega

end Go.Proofs.YtgcjlgaapiefiabGreat

/-
  A drawn statement with two appends and a new struct: whatever the order.
-/
namespace Go.Proofs.YtgcjlgaapiefiabGreat
open Go.RowKit Go.Sort

section
variable {P : Program} {ops : Array Oper} {Q : Exit → Act → World → Prop} {md : Region.Mode} {S : World → Prop}
/-- Whatever the order: by what each operation keeps. -/
theorem wpAnyH_inv {I : Nat → Array Bool → Act → World → Prop} (hzero : ∀ listed a w, I 0 listed a w → Region.ready md ops listed = [])
    (hstep : ∀ f listed a w i, I f listed a w → i ∈ Region.ready md ops listed → ∃ f', f = f' + 1 ∧ wpOp P ops Q i (fun a' w' => S w' ∧ I f' (listed.setIfInBounds i true) a' w') a w)
    (hend : ∀ f listed a w, I f listed a w → Region.ready md ops listed = [] → Q .normal a w) : ∀ f listed a w, I f listed a w → wpAnyH P md ops Q S f listed a w
  | 0, listed, a, w, h => ⟨hzero listed a w h, hend 0 listed a w h (hzero listed a w h)⟩
  | f + 1, listed, a, w, h => ⟨fun h0 => hend _ listed a w h h0, fun i hi => by
      obtain ⟨f', e, hw⟩ := hstep _ listed a w i h hi
      obtain rfl : f' = f := by omega
      exact wpOp_mono (fun a' w' h' => ⟨h'.1, wpAnyH_inv hzero hstep hend f' _ a' w' h'.2⟩) hw⟩

theorem wpOpV {i : Nat} {o : Oper} {K : Act → World → Prop} {a : Act} {w w' : World} {v : Value} (ho : ops[i]? = some o) (hg : o.guard = none) (hr : (execOp a.eval o).run P w = .ok (.value v) w') (h : K (a.put o.dst v) w') : wpOp P ops Q i K a w := by
  refine wpOp_step ho fun K' hK => ?_
  have hw : Region.wanted o (yielded ops a.tmps) = true := by simp [Region.wanted, hg]
  rw [if_pos hw]
  unfold Oper.wp
  rw [hr]
  exact hK _ _ h
theorem wpOpS {i : Nat} {o : Oper} {K : Act → World → Prop} {a : Act} {w w' : World} (ho : ops[i]? = some o) (hg : o.guard = none) (hr : (execOp a.eval o).run P w = .ok .skip w') (h : K (a.put o.dst undef) w') : wpOp P ops Q i K a w := by
  refine wpOp_step ho fun K' hK => ?_
  have hw : Region.wanted o (yielded ops a.tmps) = true := by simp [Region.wanted, hg]
  rw [if_pos hw]
  unfold Oper.wp
  rw [hr]
  exact hK _ _ h
theorem run_append_op {o : Oper} {a : Act} {w w' : World} (s x : Operand) (t : TypeId) (ho : o.op = .call { callee := .builtin .append, args := #[s, x], argTypes := #[t, t] }) {v y v' : Value} (hs : a.eval s = v) (hx : a.eval x = y) (hr : (Builtin.append_ #[t, t] o.type #[v, y]).run P w = .ok v' w') :
    (execOp a.eval o).run P w = .ok (.value v') w' := by
  unfold execOp
  simp only [ho, resolve, invoke, builtin, Sem.run_bind, Sem.run_pure, Result.andThen_ok, List.map_toArray, List.map_cons, List.map_nil, hs, hx, hr]

theorem put_put (a : Act) (d : Tmp) (x y : Value) : (a.put (some d) x).put (some d) y = a.put (some d) y := by simp [Act.put]
theorem put_swap (a : Act) {d e : Tmp} (h : d ≠ e) (x y : Value) : (a.put (some d) x).put (some e) y = (a.put (some e) y).put (some d) x := Act.put_comm a x y (fun z hz => by cases hz; exact fun e' => h (Option.some.inj e').symm)
theorem put_size (a : Act) (d : Tmp) (x : Value) : (a.put (some d) x).tmps.size = a.tmps.size := by simp [Act.put]
theorem eval_put_ne (a : Act) {d t : Tmp} (h : t ≠ d) (x : Value) : (a.put (some d) x).eval (.tmp t) = a.eval (.tmp t) := by
  simp only [Act.put, Act.eval, Array.getD_eq_getD_getElem?]
  rw [Array.getElem?_setIfInBounds_ne (Ne.symm h)]
theorem eval_put_self (a : Act) {d : Tmp} (h : d < a.tmps.size) (x : Value) : (a.put (some d) x).eval (.tmp d) = x := by
  simp only [Act.put, Act.eval, Array.getD_eq_getD_getElem?]
  rw [Array.getElem?_setIfInBounds_self_of_lt h]; rfl

/-- Six temporaries, written. -/
def Put6 (a : Act) (d1 d2 d3 d4 d5 d6 : Tmp) (x1 x2 x3 x4 x5 x6 : Value) : Act := (((((a.put (some d1) x1).put (some d2) x2).put (some d3) x3).put (some d4) x4).put (some d5) x5).put (some d6) x6
end

/-- What stands behind an append of k marks, other blocks having turned, too. -/
structure Aft (t : TypeId) (r : List Value) (u u' : World) (a : Option Addr) (n cap k : Nat) (v' : Value) : Prop where
  own : u'.ownsRow 0 t r.length v' (n + k) (rep r (n + k))
  ownl : u'.ownsRow 0 t r.length (.slice a n cap) n (rep r n)
  alt : (∃ g, a = some ⟨g, 0, none⟩ ∧ v' = .slice a (n + k) cap) ∨ ((∀ j, v'.ownBlock = some j → u.heap.size ≤ j) ∧ ∀ j, (Value.slice a n cap).ownBlock = some j → u'.heap[j]? = u.heap[j]?)
theorem Aft.same {t : TypeId} {r : List Value} {u u' u2 : World} {a : Option Addr} {n cap k : Nat} {v' : Value} (h : Aft t r u u' a n cap k v') (hs : ∀ j cs, Blk u' j cs t → u2.heap[j]? = u'.heap[j]?) : Aft t r u u2 a n cap k v' := by
  have key : ∀ {v : Value} {n : Nat} {xs : List Value}, u'.ownsRow 0 t r.length v n xs → ∀ j, v.ownBlock = some j → u2.heap[j]? = u'.heap[j]? := fun ho j hj => by obtain ⟨cs, hb⟩ := own_blk ho hj; exact hs j cs hb
  exact ⟨own_same h.own (key h.own), own_same h.ownl (key h.ownl), h.alt.imp id (fun ⟨q1, q2⟩ => ⟨q1, fun j hj => (key h.ownl j hj).trans (q2 j hj)⟩)⟩

/-- One half of the statement: the new rows built, appended. -/
def Half (t : TypeId) (r : List Value) (U : World) (a : Option Addr) (n cap k : Nat) (cs : Array Value) (b1 b2 : Bool) (x1 x2 : Value) (w : World) : Prop :=
  (b2 = true → Aft t r U w a n cap k x2) ∧ (b2 = false → (∀ j, (Value.slice a n cap).ownBlock = some j → w.heap[j]? = U.heap[j]?) ∧ (b1 = true → ∃ g, x1 = .slice (some ⟨g, 0, none⟩) k k ∧ Blk w g cs t))

section
variable {t : TypeId} {r : List Value} {U : World} {a : Option Addr} {n cap k : Nat} {cs : Array Value} {b1 b2 : Bool} {x1 x2 : Value} {w w' : World}
theorem Half.same (hU : U.ownsRow 0 t r.length (.slice a n cap) n (rep r n)) (h : Half t r U a n cap k cs b1 b2 x1 x2 w) (hs : ∀ j cs, Blk w j cs t → w'.heap[j]? = w.heap[j]?) : Half t r U a n cap k cs b1 b2 x1 x2 w' := by
  refine ⟨fun e => (h.1 e).same hs, fun e => ?_⟩
  obtain ⟨q1, q2⟩ := h.2 e
  refine ⟨fun j hj => ?_, fun e1 => ?_⟩
  · obtain ⟨c0, hb⟩ := own_blk hU hj
    rw [hs j c0 ((q1 j hj).trans hb), q1 j hj]
  · obtain ⟨g, e2, hb⟩ := q2 e1
    exact ⟨g, e2, (hs g cs hb).trans hb⟩
theorem Half.build (hU : U.ownsRow 0 t r.length (.slice a n cap) n (rep r n)) (h : Half t r U a n cap k cs b1 b2 x1 x2 w) : Half t r U a n cap k cs true b2 (.slice (some ⟨w.heap.size, 0, none⟩) k k) x2 (w.alloc (.cells cs t)) := by
  have hs : ∀ j cs', Blk w j cs' t → (w.alloc (.cells cs t)).heap[j]? = w.heap[j]? := fun j _ hb => Below.heap_alloc w _ j hb.lt
  refine ⟨fun e => (h.1 e).same hs, fun e => ⟨(Half.same hU h hs).2 e |>.1, fun _ => ⟨w.heap.size, rfl, Blk.new' rfl⟩⟩⟩
theorem Half.append {P : Program} (hU : U.ownsRow 0 t r.length (.slice a n cap) n (rep r n)) (h : Half t r U a n cap k cs true false x1 x2 w) (hsz : U.heap.size ≤ w.heap.size) (ts ty : TypeId) (i : TypeInfo) (z : Value) (bytes : Nat) (ht : P.underlying ts = some (.slice t)) (hi : P.info? t = some i) (hz : i.zero = some z)
    (hsize : i.size = r.length) (hby : i.bytes = bytes) (hzs : z.cells.size = r.length) (hr0 : 0 < r.length) (hk : 0 < k) (h1 : ∀ x ∈ r, x.oneCell' = true) (h63 : n + k ≤ maxLen) (hbytes : (n + k) * bytes ≤ 140737488355328) (hcs : cs.toList = rep r k) :
    ∃ v' w', (Builtin.append_ #[ts, ts] ty #[.slice a n cap, x1]).run P w = .ok v' w' ∧ (∀ b, Half t r U a n cap k cs b true x1 v' w') ∧ (∀ j cs' t', Blk w j cs' t' → t' ≠ t → w'.heap[j]? = w.heap[j]?) ∧ (∀ j, j < U.heap.size → some j ≠ (Value.slice a n cap).ownBlock → w'.heap[j]? = w.heap[j]?) ∧ w.heap.size ≤ w'.heap.size ∧ (∃ p q c, v' = .slice p q c) ∧
      (∀ B0 w0, Below B0 w0 w → (∀ j, (Value.slice a n cap).ownBlock = some j → B0 ≤ j) → B0 ≤ w.heap.size → Below B0 w0 w') := by
  obtain ⟨q1, q2⟩ := h.2 rfl
  obtain ⟨g, rfl, hb⟩ := q2 rfl
  have hown : w.ownsRow 0 t r.length (.slice a n cap) n (rep r n) := own_same hU q1
  have hnews : ∀ j u, (rep r k)[j]? = some u → w.cell? ((⟨g, 0, none⟩ : Addr).add j) = some u := by
    intro j u hu
    rw [← hcs] at hu
    exact World.news_of_block hb j u hu
  obtain ⟨v', w', hr, p1, p2, p3⟩ := append_mk (P := P) w ts ty t i z r.length bytes ht hi hz hsize hby hzs hr0 a n cap (rep r n) hown ⟨g, 0, none⟩ k k hk (rep r k) (rep_len r k) hnews (by
    intro x hx
    unfold rep at hx
    obtain ⟨y, hy, hxy⟩ := List.mem_flatten.1 hx
    rw [List.eq_of_mem_replicate hy] at hxy
    exact h1 x hxy) h63 hbytes
  obtain ⟨pa, pc, hv'⟩ := own_shape p1
  refine ⟨v', w', hr, fun b => ⟨fun _ => ⟨by rw [rep_add]; exact p1, p2, ?_⟩, fun e => by simp at e⟩, ?_, ?_, ?_, ⟨pa, _, pc, hv'⟩, ?_⟩
  · rcases p3 with ⟨g0, e1, e2, _⟩ | ⟨c', e1, e2, _⟩
    · exact .inl ⟨g0, e1, e2⟩
    · exact .inr ⟨fun j hj => by rw [e1] at hj; simp [Value.ownBlock] at hj; omega, fun j hj => (e2.block j (own_ge hown j hj).2 (by simp)).trans (q1 j hj)⟩
  · intro j cs' t' hb' hne
    rcases p3 with ⟨g0, e1, e2, e3⟩ | ⟨c', e1, e2, _⟩
    · refine e3.block j hb'.lt (fun e => ?_)
      obtain ⟨c0, hb0⟩ := own_blk hown (k := j) (by rw [e1]; simp [Value.ownBlock]; exact (Option.some.inj e).symm)
      exact absurd rfl (Blk.ne hb' hb0 hne)
    · exact e2.block j hb'.lt (by simp)
  · intro j hj hne
    rcases p3 with ⟨g0, e1, e2, e3⟩ | ⟨c', e1, e2, _⟩
    · refine e3.block j (by omega) (fun e => hne ?_)
      rw [e1]; simp [Value.ownBlock]; exact Option.some.inj e
    · exact e2.block j (by omega) (by simp)
  · rcases p3 with ⟨g0, e1, e2, e3⟩ | ⟨c', e1, e2, _⟩
    · exact e3.size
    · exact e2.size
  · intro B0 w0 hB hl hs
    rcases p3 with ⟨g0, e1, e2, e3⟩ | ⟨c', e1, e2, _⟩
    · exact Below.grown hB e3 hs (fun j hj => hl j (by rw [e1]; simpa [Value.ownBlock] using hj))
    · exact Below.grown hB e2 hs (fun j hj => by simp at hj)
end

/-- What the statement leaves. -/
structure Two (rI rR : List Value) (U u' : World) (ia : Option Addr) (n ic : Nat) (ra : Option Addr) (m rc k : Nat) (p : Option Addr) (q c : Nat) (p' : Option Addr) (q' c' : Nat) (b : Nat) : Prop where
  ai : Aft 78 rI U u' ia n ic k (.slice p q c)
  ar : Aft 83 rR U u' ra m rc k (.slice p' q' c')
  blk : Blk u' b #[.int .i64 0, .slice p q c, .slice p' q' c'] 47
  new : U.heap.size ≤ b
  fr : ∀ j, j < U.heap.size → some j ≠ (Value.slice ia n ic).ownBlock → some j ≠ (Value.slice ra m rc).ownBlock → u'.heap[j]? = U.heap[j]?
  size : U.heap.size ≤ u'.heap.size
  bel : ∀ B0 w0, Below B0 w0 U → (∀ j, (Value.slice ia n ic).ownBlock = some j → B0 ≤ j) → (∀ j, (Value.slice ra m rc).ownBlock = some j → B0 ≤ j) → B0 ≤ U.heap.size → Below B0 w0 u'

end Go.Proofs.YtgcjlgaapiefiabGreat

/-
  A drawn statement with two appends and a new struct: the theorem.
-/
namespace Go.Proofs.YtgcjlgaapiefiabGreat
open Go.RowKit Go.Sort

structure Apart6 (d1 d2 d3 d4 d5 d6 : Tmp) : Prop where
  h12 : d1 ≠ d2
  h13 : d1 ≠ d3
  h14 : d1 ≠ d4
  h15 : d1 ≠ d5
  h16 : d1 ≠ d6
  h23 : d2 ≠ d3
  h24 : d2 ≠ d4
  h25 : d2 ≠ d5
  h26 : d2 ≠ d6
  h34 : d3 ≠ d4
  h35 : d3 ≠ d5
  h36 : d3 ≠ d6
  h45 : d4 ≠ d5
  h46 : d4 ≠ d6
  h56 : d5 ≠ d6

section
variable {a : Act} {d1 d2 d3 d4 d5 d6 : Tmp} {x1 x2 x3 x4 x5 x6 : Value}
theorem put6_1 (h : Apart6 d1 d2 d3 d4 d5 d6) (y : Value) : (Put6 a d1 d2 d3 d4 d5 d6 x1 x2 x3 x4 x5 x6).put (some d1) y = Put6 a d1 d2 d3 d4 d5 d6 y x2 x3 x4 x5 x6 := by
  unfold Put6; rw [put_swap _ h.h16.symm, put_swap _ h.h15.symm, put_swap _ h.h14.symm, put_swap _ h.h13.symm, put_swap _ h.h12.symm, put_put]
theorem put6_2 (h : Apart6 d1 d2 d3 d4 d5 d6) (y : Value) : (Put6 a d1 d2 d3 d4 d5 d6 x1 x2 x3 x4 x5 x6).put (some d2) y = Put6 a d1 d2 d3 d4 d5 d6 x1 y x3 x4 x5 x6 := by
  unfold Put6; rw [put_swap _ h.h26.symm, put_swap _ h.h25.symm, put_swap _ h.h24.symm, put_swap _ h.h23.symm, put_put]
theorem put6_3 (h : Apart6 d1 d2 d3 d4 d5 d6) (y : Value) : (Put6 a d1 d2 d3 d4 d5 d6 x1 x2 x3 x4 x5 x6).put (some d3) y = Put6 a d1 d2 d3 d4 d5 d6 x1 x2 y x4 x5 x6 := by
  unfold Put6; rw [put_swap _ h.h36.symm, put_swap _ h.h35.symm, put_swap _ h.h34.symm, put_put]
theorem put6_4 (h : Apart6 d1 d2 d3 d4 d5 d6) (y : Value) : (Put6 a d1 d2 d3 d4 d5 d6 x1 x2 x3 x4 x5 x6).put (some d4) y = Put6 a d1 d2 d3 d4 d5 d6 x1 x2 x3 y x5 x6 := by
  unfold Put6; rw [put_swap _ h.h46.symm, put_swap _ h.h45.symm, put_put]
theorem put6_5 (h : Apart6 d1 d2 d3 d4 d5 d6) (y : Value) : (Put6 a d1 d2 d3 d4 d5 d6 x1 x2 x3 x4 x5 x6).put (some d5) y = Put6 a d1 d2 d3 d4 d5 d6 x1 x2 x3 x4 y x6 := by
  unfold Put6; rw [put_swap _ h.h56.symm, put_put]
theorem put6_6 (y : Value) : (Put6 a d1 d2 d3 d4 d5 d6 x1 x2 x3 x4 x5 x6).put (some d6) y = Put6 a d1 d2 d3 d4 d5 d6 x1 x2 x3 x4 x5 y := by
  unfold Put6; rw [put_put]
theorem eval6_off {t : Tmp} (n1 : t ≠ d1) (n2 : t ≠ d2) (n3 : t ≠ d3) (n4 : t ≠ d4) (n5 : t ≠ d5) (n6 : t ≠ d6) : (Put6 a d1 d2 d3 d4 d5 d6 x1 x2 x3 x4 x5 x6).eval (.tmp t) = a.eval (.tmp t) := by
  unfold Put6; rw [eval_put_ne _ n6, eval_put_ne _ n5, eval_put_ne _ n4, eval_put_ne _ n3, eval_put_ne _ n2, eval_put_ne _ n1]
theorem eval6_1 (h : Apart6 d1 d2 d3 d4 d5 d6) (hs : d1 < a.tmps.size) : (Put6 a d1 d2 d3 d4 d5 d6 x1 x2 x3 x4 x5 x6).eval (.tmp d1) = x1 := by
  unfold Put6; rw [eval_put_ne _ h.h16, eval_put_ne _ h.h15, eval_put_ne _ h.h14, eval_put_ne _ h.h13, eval_put_ne _ h.h12, eval_put_self _ hs]
theorem eval6_2 (h : Apart6 d1 d2 d3 d4 d5 d6) (hs : d2 < a.tmps.size) : (Put6 a d1 d2 d3 d4 d5 d6 x1 x2 x3 x4 x5 x6).eval (.tmp d2) = x2 := by
  unfold Put6; rw [eval_put_ne _ h.h26, eval_put_ne _ h.h25, eval_put_ne _ h.h24, eval_put_ne _ h.h23, eval_put_self _ (by simpa [put_size] using hs)]
theorem eval6_3 (h : Apart6 d1 d2 d3 d4 d5 d6) (hs : d3 < a.tmps.size) : (Put6 a d1 d2 d3 d4 d5 d6 x1 x2 x3 x4 x5 x6).eval (.tmp d3) = x3 := by
  unfold Put6; rw [eval_put_ne _ h.h36, eval_put_ne _ h.h35, eval_put_ne _ h.h34, eval_put_self _ (by simpa [put_size] using hs)]
theorem eval6_4 (h : Apart6 d1 d2 d3 d4 d5 d6) (hs : d4 < a.tmps.size) : (Put6 a d1 d2 d3 d4 d5 d6 x1 x2 x3 x4 x5 x6).eval (.tmp d4) = x4 := by
  unfold Put6; rw [eval_put_ne _ h.h46, eval_put_ne _ h.h45, eval_put_self _ (by simpa [put_size] using hs)]
theorem eval6_5 (h : Apart6 d1 d2 d3 d4 d5 d6) (hs : d5 < a.tmps.size) : (Put6 a d1 d2 d3 d4 d5 d6 x1 x2 x3 x4 x5 x6).eval (.tmp d5) = x5 := by
  unfold Put6; rw [eval_put_ne _ h.h56, eval_put_self _ (by simpa [put_size] using hs)]
theorem eval6_6 (hs : d6 < a.tmps.size) : (Put6 a d1 d2 d3 d4 d5 d6 x1 x2 x3 x4 x5 x6).eval (.tmp d6) = x6 := by
  unfold Put6; rw [eval_put_self _ (by simpa [put_size] using hs)]
end

/-- How many of seven are still to come. -/
def cnt (b1 b2 b3 b4 b5 b6 b7 : Bool) : Nat := (!b1).toNat + (!b2).toNat + (!b3).toNat + (!b4).toNat + (!b5).toNat + (!b6).toNat + (!b7).toNat

theorem cnt_zero : ∀ b1 b2 b3 b4 b5 b6 b7 : Bool, 0 = cnt b1 b2 b3 b4 b5 b6 b7 → b1 = true ∧ b2 = true ∧ b3 = true ∧ b4 = true ∧ b5 = true ∧ b6 = true ∧ b7 = true := by
  intro b1 b2 b3 b4 b5 b6 b7
  cases b1 <;> cases b2 <;> cases b3 <;> cases b4 <;> cases b5 <;> cases b6 <;> cases b7 <;> simp [cnt]
theorem put_none (a : Act) (v : Value) : a.put none v = a := rfl

/-- What the operations are: the numbers of the seven that are left, and what each does. -/
structure Seven (P : Program) (ops : Array Oper) (L : Bool → Bool → Bool → Bool → Bool → Bool → Bool → Array Bool) (a : Act) (d1 d2 d3 d4 d5 d6 sA sB : Tmp) (i1 i2 i3 i4 i5 i6 i7 : Nat) (o1 o2 o3 o4 o5 o6 o7 : Oper) (k : Nat) (csI csR : Array Value) : Prop where
  s1 : ∀ b1 b2 b3 b4 b5 b6 b7, (L b1 b2 b3 b4 b5 b6 b7).setIfInBounds i1 true = L true b2 b3 b4 b5 b6 b7
  s2 : ∀ b1 b2 b3 b4 b5 b6 b7, (L b1 b2 b3 b4 b5 b6 b7).setIfInBounds i2 true = L b1 true b3 b4 b5 b6 b7
  s3 : ∀ b1 b2 b3 b4 b5 b6 b7, (L b1 b2 b3 b4 b5 b6 b7).setIfInBounds i3 true = L b1 b2 true b4 b5 b6 b7
  s4 : ∀ b1 b2 b3 b4 b5 b6 b7, (L b1 b2 b3 b4 b5 b6 b7).setIfInBounds i4 true = L b1 b2 b3 true b5 b6 b7
  s5 : ∀ b1 b2 b3 b4 b5 b6 b7, (L b1 b2 b3 b4 b5 b6 b7).setIfInBounds i5 true = L b1 b2 b3 b4 true b6 b7
  s6 : ∀ b1 b2 b3 b4 b5 b6 b7, (L b1 b2 b3 b4 b5 b6 b7).setIfInBounds i6 true = L b1 b2 b3 b4 b5 true b7
  s7 : ∀ b1 b2 b3 b4 b5 b6 b7, (L b1 b2 b3 b4 b5 b6 b7).setIfInBounds i7 true = L b1 b2 b3 b4 b5 b6 true
  ready : ∀ b1 b2 b3 b4 b5 b6 b7, ∀ i ∈ Region.ready .any ops (L b1 b2 b3 b4 b5 b6 b7), (i = i1 ∧ b1 = false) ∨ (i = i2 ∧ b1 = true ∧ b2 = false) ∨ (i = i3 ∧ b3 = false) ∨ (i = i4 ∧ b3 = true ∧ b4 = false) ∨ (i = i5 ∧ b2 = true ∧ b4 = true ∧ b5 = false) ∨ (i = i6 ∧ b6 = false) ∨ (i = i7 ∧ b5 = true ∧ b6 = true ∧ b7 = false)
  done : ∀ b1 b2 b3 b4 b5 b6 b7, Region.ready .any ops (L b1 b2 b3 b4 b5 b6 b7) = [] → b7 = true
  all : Region.ready .any ops (L true true true true true true true) = []
  p1 : ops[i1]? = some o1 ∧ o1.guard = none ∧ o1.dst = some d1
  p2 : ops[i2]? = some o2 ∧ o2.guard = none ∧ o2.dst = some d2
  p3 : ops[i3]? = some o3 ∧ o3.guard = none ∧ o3.dst = some d3
  p4 : ops[i4]? = some o4 ∧ o4.guard = none ∧ o4.dst = some d4
  p5 : ops[i5]? = some o5 ∧ o5.guard = none ∧ o5.dst = some d5
  p6 : ops[i6]? = some o6 ∧ o6.guard = none ∧ o6.dst = some d6
  p7 : ops[i7]? = some o7 ∧ o7.guard = none ∧ o7.dst = none
  r1 : ∀ (a' : Act) (w' : World), (∀ t, t ≠ d1 → t ≠ d2 → t ≠ d3 → t ≠ d4 → t ≠ d5 → t ≠ d6 → a'.eval (.tmp t) = a.eval (.tmp t)) → (execOp a'.eval o1).run P w' = .ok (.value (.slice (some ⟨w'.heap.size, 0, none⟩) k k)) (w'.alloc (.cells csI 78))
  r2 : o2.op = .call { callee := .builtin .append, args := #[.tmp sA, .tmp d1], argTypes := #[44, 44] }
  r3 : ∀ (a' : Act) (w' : World), (∀ t, t ≠ d1 → t ≠ d2 → t ≠ d3 → t ≠ d4 → t ≠ d5 → t ≠ d6 → a'.eval (.tmp t) = a.eval (.tmp t)) → (execOp a'.eval o3).run P w' = .ok (.value (.slice (some ⟨w'.heap.size, 0, none⟩) k k)) (w'.alloc (.cells csR 83))
  r4 : o4.op = .call { callee := .builtin .append, args := #[.tmp sB, .tmp d3], argTypes := #[45, 45] }
  r5 : ∀ (a' : Act) (w' : World) (p : Option Addr) (q c : Nat) (p' : Option Addr) (q' c' : Nat), a'.eval (.tmp d2) = .slice p q c → a'.eval (.tmp d4) = .slice p' q' c' → (execOp a'.eval o5).run P w' = .ok (.value (.agg #[.int .i64 0, .slice p q c, .slice p' q' c'])) w'
  r6 : ∀ (a' : Act) (w' : World), (execOp a'.eval o6).run P w' = .ok (.value (.pointer (some ⟨w'.heap.size, 0, none⟩))) (w'.alloc (.cells #[.int .i64 0, .slice none 0 0, .slice none 0 0] 47))
  r7 : ∀ (a' : Act) (w' : World) (b : Nat) (p : Option Addr) (q c : Nat) (p' : Option Addr) (q' c' : Nat), a'.eval (.tmp d6) = .pointer (some ⟨b, 0, none⟩) → a'.eval (.tmp d5) = .agg #[.int .i64 0, .slice p q c, .slice p' q' c'] → Blk w' b #[.int .i64 0, .slice none 0 0, .slice none 0 0] 47 →
    (execOp a'.eval o7).run P w' = .ok .skip (((w'.setCell ⟨b, 0, none⟩ (.int .i64 0)).setCell ⟨b, 1, none⟩ (.slice p q c)).setCell ⟨b, 2, none⟩ (.slice p' q' c'))

section
variable {P : Program} {ops : Array Oper} {Q : Exit → Act → World → Prop} {S : World → Prop}
set_option maxHeartbeats 1000000 in
theorem two_appends (a : Act) (d1 d2 d3 d4 d5 d6 sA sB : Tmp) (hd : Apart6 d1 d2 d3 d4 d5 d6) (hz : d1 < a.tmps.size ∧ d2 < a.tmps.size ∧ d3 < a.tmps.size ∧ d4 < a.tmps.size ∧ d5 < a.tmps.size ∧ d6 < a.tmps.size)
    (hA : sA ≠ d1 ∧ sA ≠ d2 ∧ sA ≠ d3 ∧ sA ≠ d4 ∧ sA ≠ d5 ∧ sA ≠ d6) (hB : sB ≠ d1 ∧ sB ≠ d2 ∧ sB ≠ d3 ∧ sB ≠ d4 ∧ sB ≠ d5 ∧ sB ≠ d6)
    (L : Bool → Bool → Bool → Bool → Bool → Bool → Bool → Array Bool) (i1 i2 i3 i4 i5 i6 i7 : Nat) (o1 o2 o3 o4 o5 o6 o7 : Oper) (k : Nat) (hk : 0 < k) (csI csR : Array Value)
    (H7 : Seven P ops L a d1 d2 d3 d4 d5 d6 sA sB i1 i2 i3 i4 i5 i6 i7 o1 o2 o3 o4 o5 o6 o7 k csI csR)
    (U w : World) (ia : Option Addr) (n ic : Nat) (ra : Option Addr) (m rc : Nat) (rI rR : List Value) (eA : a.eval (.tmp sA) = .slice ia n ic) (eB : a.eval (.tmp sB) = .slice ra m rc)
    (hUI : U.ownsRow 0 78 rI.length (.slice ia n ic) n (rep rI n)) (hUR : U.ownsRow 0 83 rR.length (.slice ra m rc) m (rep rR m)) (hwU : w = U.drew)
    (hS : ∀ w' : World, (∀ j, j < U.heap.size → some j ≠ (Value.slice ia n ic).ownBlock → some j ≠ (Value.slice ra m rc).ownBlock → w'.heap[j]? = U.heap[j]?) → S w')
    (iI iR : TypeInfo) (zI zR : Value) (bI bR : Nat) (tI : P.underlying 44 = some (.slice 78)) (tR : P.underlying 45 = some (.slice 83)) (fI : P.info? 78 = some iI) (fR : P.info? 83 = some iR)
    (gI : iI.zero = some zI ∧ iI.size = rI.length ∧ iI.bytes = bI ∧ zI.cells.size = rI.length) (gR : iR.zero = some zR ∧ iR.size = rR.length ∧ iR.bytes = bR ∧ zR.cells.size = rR.length)
    (lI : 0 < rI.length) (lR : 0 < rR.length) (cI : ∀ x ∈ rI, x.oneCell' = true) (cR : ∀ x ∈ rR, x.oneCell' = true) (mI : n + k ≤ maxLen) (mR : m + k ≤ maxLen) (yI : (n + k) * bI ≤ 140737488355328) (yR : (m + k) * bR ≤ 140737488355328) (hcI : csI.toList = rep rI k) (hcR : csR.toList = rep rR k)
    (hend : ∀ x1 x3 x5 p q c p' q' c' b w', Two rI rR U w' ia n ic ra m rc k p q c p' q' c' b → Q .normal (Put6 a d1 d2 d3 d4 d5 d6 x1 (.slice p q c) x3 (.slice p' q' c') x5 (.pointer (some ⟨b, 0, none⟩))) w')
    (x1 x2 x3 x4 x5 x6 : Value) :
    wpAnyH P .any ops Q S 7 (L false false false false false false false) (Put6 a d1 d2 d3 d4 d5 d6 x1 x2 x3 x4 x5 x6) w := by
  obtain ⟨z1, z2, z3, z4, z5, z6⟩ := hz
  obtain ⟨A1, A2, A3, A4, A5, A6⟩ := hA
  obtain ⟨B1, B2, B3, B4, B5, B6⟩ := hB
  refine wpAnyH_inv (I := fun f listed a' w' => ∃ b1 b2 b3 b4 b5 b6 b7 x1 x2 x3 x4 x5 x6, listed = L b1 b2 b3 b4 b5 b6 b7 ∧ a' = Put6 a d1 d2 d3 d4 d5 d6 x1 x2 x3 x4 x5 x6 ∧ f = cnt b1 b2 b3 b4 b5 b6 b7 ∧
      (U.heap.size ≤ w'.heap.size ∧ (∀ j, j < U.heap.size → some j ≠ (Value.slice ia n ic).ownBlock → some j ≠ (Value.slice ra m rc).ownBlock → w'.heap[j]? = U.heap[j]?) ∧
      (∀ B0 w0, Below B0 w0 U → (∀ j, (Value.slice ia n ic).ownBlock = some j → B0 ≤ j) → (∀ j, (Value.slice ra m rc).ownBlock = some j → B0 ≤ j) → B0 ≤ U.heap.size → Below B0 w0 w')) ∧
      Half 78 rI U ia n ic k csI b1 b2 x1 x2 w' ∧ Half 83 rR U ra m rc k csR b3 b4 x3 x4 w' ∧ (b2 = true → ∃ p q c, x2 = .slice p q c) ∧ (b4 = true → ∃ p q c, x4 = .slice p q c) ∧
      (b5 = true → b2 = true ∧ b4 = true ∧ x5 = .agg #[.int .i64 0, x2, x4]) ∧ (b6 = true → ∃ b, x6 = .pointer (some ⟨b, 0, none⟩) ∧ U.heap.size ≤ b ∧ (b7 = true → Blk w' b #[.int .i64 0, x2, x4] 47) ∧ (b7 = false → Blk w' b #[.int .i64 0, .slice none 0 0, .slice none 0 0] 47)) ∧ (b7 = true → b2 = true ∧ b4 = true ∧ b6 = true)) ?_ ?_ ?_ 7 _ _ _ ?_
  · rintro listed a' w' ⟨b1, b2, b3, b4, b5, b6, b7, x1, x2, x3, x4, x5, x6, rfl, rfl, hf, _⟩
    obtain ⟨rfl, rfl, rfl, rfl, rfl, rfl, rfl⟩ : b1 = true ∧ b2 = true ∧ b3 = true ∧ b4 = true ∧ b5 = true ∧ b6 = true ∧ b7 = true := by
      exact cnt_zero b1 b2 b3 b4 b5 b6 b7 hf
    exact H7.all
  · rintro f listed a' w' i ⟨b1, b2, b3, b4, b5, b6, b7, x1, x2, x3, x4, x5, x6, rfl, rfl, rfl, ⟨hsz, hfr, hbel⟩, h1, h2, h3, h4, h5, h6, h7⟩ hi
    have hal : ∀ (o : Obj), (U.heap.size ≤ (w'.alloc o).heap.size ∧ (∀ j, j < U.heap.size → some j ≠ (Value.slice ia n ic).ownBlock → some j ≠ (Value.slice ra m rc).ownBlock → (w'.alloc o).heap[j]? = U.heap[j]?) ∧
      (∀ B0 w0, Below B0 w0 U → (∀ j, (Value.slice ia n ic).ownBlock = some j → B0 ≤ j) → (∀ j, (Value.slice ra m rc).ownBlock = some j → B0 ≤ j) → B0 ≤ U.heap.size → Below B0 w0 (w'.alloc o))) := fun o =>
      ⟨by simp; omega, fun j hj n1 n2 => (Below.heap_alloc w' o j (by omega)).trans (hfr j hj n1 n2), fun B0 w0 q1 q2 q3 q4 => (hbel B0 w0 q1 q2 q3 q4).alloc (by omega) o⟩
    have hsa : ∀ (o : Obj) (t : TypeId) j cs, Blk w' j cs t → (w'.alloc o).heap[j]? = w'.heap[j]? := fun o t j cs hb => Below.heap_alloc w' o j hb.lt
    rcases H7.ready _ _ _ _ _ _ _ i hi with ⟨rfl, rfl⟩ | ⟨rfl, rfl, rfl⟩ | ⟨rfl, rfl⟩ | ⟨rfl, rfl, rfl⟩ | ⟨rfl, rfl, rfl, rfl⟩ | ⟨rfl, rfl⟩ | ⟨rfl, rfl, rfl, rfl⟩
    · refine ⟨cnt true b2 b3 b4 b5 b6 b7, by simp [cnt] <;> omega, wpOpV H7.p1.1 H7.p1.2.1 (H7.r1 _ w' (fun t n1 n2 n3 n4 n5 n6 => eval6_off n1 n2 n3 n4 n5 n6)) ?_⟩
      rw [H7.p1.2.2, put6_1 hd, H7.s1]
      refine ⟨hS _ (hal _).2.1, _, _, _, _, _, _, _, _, _, _, _, _, _, rfl, rfl, rfl, hal _, h1.build hUI, h2.same hUR (hsa _ _), h3, h4, h5, fun e => ?_, h7⟩
      obtain ⟨b, e1, e2, e3, e4⟩ := h6 e
      exact ⟨b, e1, e2, fun e' => (e3 e').alloc _, fun e' => (e4 e').alloc _⟩
    · obtain rfl : b5 = false := by cases b5 <;> simp at h5 ⊢
      obtain rfl : b7 = false := by cases b7 <;> simp at h7 ⊢
      obtain ⟨v', w2, hr, q1, q2, q3, q4, q5, q6⟩ := h1.append (P := P) hUI hsz 44 o2.type iI zI bI tI fI gI.1 gI.2.1 gI.2.2.1 gI.2.2.2 lI hk cI mI yI hcI
      refine ⟨cnt true true b3 b4 false b6 false, by simp [cnt] <;> omega, wpOpV H7.p2.1 H7.p2.2.1 (run_append_op (.tmp sA) (.tmp d1) 44 H7.r2 ((eval6_off A1 A2 A3 A4 A5 A6).trans eA) (eval6_1 hd z1) hr) ?_⟩
      have hfr2 : ∀ j, j < U.heap.size → some j ≠ (Value.slice ia n ic).ownBlock → some j ≠ (Value.slice ra m rc).ownBlock → w2.heap[j]? = U.heap[j]? := fun j hj n1 n2 => (q3 j hj n1).trans (hfr j hj n1 n2)
      rw [H7.p2.2.2, put6_2 hd, H7.s2]
      refine ⟨hS _ hfr2, _, _, _, _, _, _, _, _, _, _, _, _, _, rfl, rfl, rfl, ⟨by omega, hfr2, fun B0 w0 p1 p2 p3 p4 => q6 B0 w0 (hbel B0 w0 p1 p2 p3 p4) p2 (by omega)⟩, q1 _, h2.same hUR (fun j cs hb => q2 j cs _ hb (by decide)), fun _ => q5, h4, fun e => by simp at e, fun e => ?_, fun e => by simp at e⟩
      obtain ⟨b, e1, e2, e3, e4⟩ := h6 e
      exact ⟨b, e1, e2, fun e' => by simp at e', fun e' => (q2 b _ _ (e4 rfl) (by decide)).trans (e4 rfl)⟩
    · refine ⟨cnt b1 b2 true b4 b5 b6 b7, by simp [cnt] <;> omega, wpOpV H7.p3.1 H7.p3.2.1 (H7.r3 _ w' (fun t n1 n2 n3 n4 n5 n6 => eval6_off n1 n2 n3 n4 n5 n6)) ?_⟩
      rw [H7.p3.2.2, put6_3 hd, H7.s3]
      refine ⟨hS _ (hal _).2.1, _, _, _, _, _, _, _, _, _, _, _, _, _, rfl, rfl, rfl, hal _, h1.same hUI (hsa _ _), h2.build hUR, h3, h4, h5, fun e => ?_, h7⟩
      obtain ⟨b, e1, e2, e3, e4⟩ := h6 e
      exact ⟨b, e1, e2, fun e' => (e3 e').alloc _, fun e' => (e4 e').alloc _⟩
    · obtain rfl : b5 = false := by cases b5 <;> simp at h5 ⊢
      obtain rfl : b7 = false := by cases b7 <;> simp at h7 ⊢
      obtain ⟨v', w2, hr, q1, q2, q3, q4, q5, q6⟩ := h2.append (P := P) hUR hsz 45 o4.type iR zR bR tR fR gR.1 gR.2.1 gR.2.2.1 gR.2.2.2 lR hk cR mR yR hcR
      refine ⟨cnt b1 b2 true true false b6 false, by simp [cnt] <;> omega, wpOpV H7.p4.1 H7.p4.2.1 (run_append_op (.tmp sB) (.tmp d3) 45 H7.r4 ((eval6_off B1 B2 B3 B4 B5 B6).trans eB) (eval6_3 hd z3) hr) ?_⟩
      have hfr2 : ∀ j, j < U.heap.size → some j ≠ (Value.slice ia n ic).ownBlock → some j ≠ (Value.slice ra m rc).ownBlock → w2.heap[j]? = U.heap[j]? := fun j hj n1 n2 => (q3 j hj n2).trans (hfr j hj n1 n2)
      rw [H7.p4.2.2, put6_4 hd, H7.s4]
      refine ⟨hS _ hfr2, _, _, _, _, _, _, _, _, _, _, _, _, _, rfl, rfl, rfl, ⟨by omega, hfr2, fun B0 w0 p1 p2 p3 p4 => q6 B0 w0 (hbel B0 w0 p1 p2 p3 p4) p3 (by omega)⟩, h1.same hUI (fun j cs hb => q2 j cs _ hb (by decide)), q1 _, h3, fun _ => q5, fun e => by simp at e, fun e => ?_, fun e => by simp at e⟩
      obtain ⟨b, e1, e2, e3, e4⟩ := h6 e
      exact ⟨b, e1, e2, fun e' => by simp at e', fun e' => (q2 b _ _ (e4 rfl) (by decide)).trans (e4 rfl)⟩
    · obtain ⟨p, q, c, rfl⟩ := h3 rfl
      obtain ⟨p', q', c', rfl⟩ := h4 rfl
      refine ⟨cnt b1 true b3 true true b6 b7, by simp [cnt] <;> omega, wpOpV H7.p5.1 H7.p5.2.1 (H7.r5 _ w' p q c p' q' c' (eval6_2 hd z2) (eval6_4 hd z4)) ?_⟩
      rw [H7.p5.2.2, put6_5 hd, H7.s5]
      exact ⟨hS _ hfr, _, _, _, _, _, _, _, _, _, _, _, _, _, rfl, rfl, rfl, ⟨hsz, hfr, hbel⟩, h1, h2, h3, h4, fun _ => ⟨rfl, rfl, rfl⟩, h6, h7⟩
    · obtain rfl : b7 = false := by cases b7 <;> simp at h7 ⊢
      refine ⟨cnt b1 b2 b3 b4 b5 true false, by simp [cnt] <;> omega, wpOpV H7.p6.1 H7.p6.2.1 (H7.r6 _ w') ?_⟩
      rw [H7.p6.2.2, put6_6, H7.s6]
      exact ⟨hS _ (hal _).2.1, _, _, _, _, _, _, _, _, _, _, _, _, _, rfl, rfl, rfl, hal _, h1.same hUI (hsa _ _), h2.same hUR (hsa _ _), h3, h4, h5, fun _ => ⟨_, rfl, hsz, fun e => by simp at e, fun _ => Blk.new' rfl⟩, fun e => by simp at e⟩
    · obtain ⟨rfl, rfl, rfl⟩ := h5 rfl
      obtain ⟨p, q, c, rfl⟩ := h3 rfl
      obtain ⟨p', q', c', rfl⟩ := h4 rfl
      obtain ⟨b, rfl, e2, e3, e4⟩ := h6 rfl
      have hb := e4 rfl
      refine ⟨cnt b1 true b3 true true true true, by simp [cnt] <;> omega, wpOpS H7.p7.1 H7.p7.2.1 (H7.r7 _ w' b p q c p' q' c' (eval6_6 z6) (eval6_5 hd z5) hb) ?_⟩
      rw [H7.p7.2.2, H7.s7, put_none]
      have hse : ∀ j, j ≠ b → (((w'.setCell ⟨b, 0, none⟩ (.int .i64 0)).setCell ⟨b, 1, none⟩ (.slice p q c)).setCell ⟨b, 2, none⟩ (.slice p' q' c')).heap[j]? = w'.heap[j]? := fun j hj => by
        rw [Below.heap_setCell _ _ _ _ hj, Below.heap_setCell _ _ _ _ hj, Below.heap_setCell _ _ _ _ hj]
      have hfr2 : ∀ j, j < U.heap.size → some j ≠ (Value.slice ia n ic).ownBlock → some j ≠ (Value.slice ra m rc).ownBlock → (((w'.setCell ⟨b, 0, none⟩ (.int .i64 0)).setCell ⟨b, 1, none⟩ (.slice p q c)).setCell ⟨b, 2, none⟩ (.slice p' q' c')).heap[j]? = U.heap[j]? := fun j hj n1 n2 => (hse j (by omega)).trans (hfr j hj n1 n2)
      have hbel2 : ∀ B0 w0, Below B0 w0 U → (∀ j, (Value.slice ia n ic).ownBlock = some j → B0 ≤ j) → (∀ j, (Value.slice ra m rc).ownBlock = some j → B0 ≤ j) → B0 ≤ U.heap.size → Below B0 w0 (((w'.setCell ⟨b, 0, none⟩ (.int .i64 0)).setCell ⟨b, 1, none⟩ (.slice p q c)).setCell ⟨b, 2, none⟩ (.slice p' q' c')) := fun B0 w0 p1 p2 p3 p4 =>
        Below.setCell (p := ⟨b, 2, none⟩) (Below.setCell (p := ⟨b, 1, none⟩) (Below.setCell (p := ⟨b, 0, none⟩) (hbel B0 w0 p1 p2 p3 p4) (by show B0 ≤ b; omega) _) (by show B0 ≤ b; omega) _) (by show B0 ≤ b; omega) _
      have hsz2 : U.heap.size ≤ (((w'.setCell ⟨b, 0, none⟩ (.int .i64 0)).setCell ⟨b, 1, none⟩ (.slice p q c)).setCell ⟨b, 2, none⟩ (.slice p' q' c')).heap.size := by simp [World.setCell]; exact hsz
      have hb2 : Blk (((w'.setCell ⟨b, 0, none⟩ (.int .i64 0)).setCell ⟨b, 1, none⟩ (.slice p q c)).setCell ⟨b, 2, none⟩ (.slice p' q' c')) b #[.int .i64 0, .slice p q c, .slice p' q' c'] 47 := by
        simpa using ((hb.set 0 (.int .i64 0)).set 1 (.slice p q c)).set 2 (.slice p' q' c')
      generalize ((w'.setCell ⟨b, 0, none⟩ (.int .i64 0)).setCell ⟨b, 1, none⟩ (.slice p q c)).setCell ⟨b, 2, none⟩ (.slice p' q' c') = w2 at *
      exact ⟨hS _ hfr2, b1, true, b3, true, true, true, true, _, _, _, _, _, _, rfl, rfl, rfl, ⟨hsz2, hfr2, hbel2⟩, h1.same hUI (fun j cs hb' => hse j (Blk.ne hb hb' (by decide))), h2.same hUR (fun j cs hb' => hse j (Blk.ne hb hb' (by decide))), h3, h4, fun _ => ⟨rfl, rfl, rfl⟩, fun _ => ⟨b, rfl, e2, fun _ => hb2, fun e => by simp at e⟩, fun _ => ⟨rfl, rfl, rfl⟩⟩
  · rintro f listed a' w' ⟨b1, b2, b3, b4, b5, b6, b7, x1, x2, x3, x4, x5, x6, rfl, rfl, rfl, ⟨hsz, hfr, hbel⟩, h1, h2, h3, h4, h5, h6, h7⟩ hr
    obtain rfl := H7.done _ _ _ _ _ _ _ hr
    obtain ⟨rfl, rfl, rfl⟩ := h7 rfl
    obtain ⟨p, q, c, rfl⟩ := h3 rfl
    obtain ⟨p', q', c', rfl⟩ := h4 rfl
    obtain ⟨b, rfl, e2, e3, _⟩ := h6 rfl
    exact hend _ _ _ _ _ _ _ _ _ _ _ ⟨h1.1 rfl, h2.1 rfl, e3 rfl, e2, hfr, hsz, hbel⟩
  · subst hwU
    exact ⟨false, false, false, false, false, false, false, x1, x2, x3, x4, x5, x6, rfl, rfl, rfl, ⟨Nat.le_refl _, fun _ _ _ _ => rfl, fun B0 w0 q1 _ _ _ => Below.drew q1⟩, ⟨fun e => by simp at e, fun _ => ⟨fun _ _ => rfl, fun e => by simp at e⟩⟩, ⟨fun e => by simp at e, fun _ => ⟨fun _ _ => rfl, fun e => by simp at e⟩⟩, fun e => by simp at e, fun e => by simp at e, fun e => by simp at e, fun e => by simp at e, fun e => by simp at e⟩

theorem put_self (a : Act) (d : Tmp) (h : d < a.tmps.size) : a.put (some d) (a.eval (.tmp d)) = a := by
  obtain ⟨ts, df⟩ := a
  have h' : d < ts.size := h
  simp only [Act.put, Act.eval, Act.mk.injEq, and_true]
  apply Array.ext_getElem?
  intro i
  by_cases hi : d = i
  · subst hi
    rw [Array.getElem?_setIfInBounds_self_of_lt h']
    simp [Array.getD, h']
  · rw [Array.getElem?_setIfInBounds_ne hi]
theorem put6_self (a : Act) (d1 d2 d3 d4 d5 d6 : Tmp) (hz : d1 < a.tmps.size ∧ d2 < a.tmps.size ∧ d3 < a.tmps.size ∧ d4 < a.tmps.size ∧ d5 < a.tmps.size ∧ d6 < a.tmps.size) : Put6 a d1 d2 d3 d4 d5 d6 (a.eval (.tmp d1)) (a.eval (.tmp d2)) (a.eval (.tmp d3)) (a.eval (.tmp d4)) (a.eval (.tmp d5)) (a.eval (.tmp d6)) = a := by
  obtain ⟨z1, z2, z3, z4, z5, z6⟩ := hz
  unfold Put6
  rw [put_self a d1 z1, put_self a d2 z2, put_self a d3 z3, put_self a d4 z4, put_self a d5 z5, put_self a d6 z6]
theorem two_appends' (a : Act) (d1 d2 d3 d4 d5 d6 sA sB : Tmp) (hd : Apart6 d1 d2 d3 d4 d5 d6) (hz : d1 < a.tmps.size ∧ d2 < a.tmps.size ∧ d3 < a.tmps.size ∧ d4 < a.tmps.size ∧ d5 < a.tmps.size ∧ d6 < a.tmps.size)
    (hA : sA ≠ d1 ∧ sA ≠ d2 ∧ sA ≠ d3 ∧ sA ≠ d4 ∧ sA ≠ d5 ∧ sA ≠ d6) (hB : sB ≠ d1 ∧ sB ≠ d2 ∧ sB ≠ d3 ∧ sB ≠ d4 ∧ sB ≠ d5 ∧ sB ≠ d6)
    (L : Bool → Bool → Bool → Bool → Bool → Bool → Bool → Array Bool) (i1 i2 i3 i4 i5 i6 i7 : Nat) (k : Nat) (hk : 0 < k) (csI csR : Array Value)
    (H7 : ∃ o1 o2 o3 o4 o5 o6 o7, Seven P ops L a d1 d2 d3 d4 d5 d6 sA sB i1 i2 i3 i4 i5 i6 i7 o1 o2 o3 o4 o5 o6 o7 k csI csR)
    (U w : World) (ia : Option Addr) (n ic : Nat) (ra : Option Addr) (m rc : Nat) (rI rR : List Value) (eA : a.eval (.tmp sA) = .slice ia n ic) (eB : a.eval (.tmp sB) = .slice ra m rc)
    (hUI : U.ownsRow 0 78 rI.length (.slice ia n ic) n (rep rI n)) (hUR : U.ownsRow 0 83 rR.length (.slice ra m rc) m (rep rR m)) (hwU : w = U.drew)
    (hS : ∀ w' : World, (∀ j, j < U.heap.size → some j ≠ (Value.slice ia n ic).ownBlock → some j ≠ (Value.slice ra m rc).ownBlock → w'.heap[j]? = U.heap[j]?) → S w')
    (iI iR : TypeInfo) (zI zR : Value) (bI bR : Nat) (tI : P.underlying 44 = some (.slice 78)) (tR : P.underlying 45 = some (.slice 83)) (fI : P.info? 78 = some iI) (fR : P.info? 83 = some iR)
    (gI : iI.zero = some zI ∧ iI.size = rI.length ∧ iI.bytes = bI ∧ zI.cells.size = rI.length) (gR : iR.zero = some zR ∧ iR.size = rR.length ∧ iR.bytes = bR ∧ zR.cells.size = rR.length)
    (lI : 0 < rI.length) (lR : 0 < rR.length) (cI : ∀ x ∈ rI, x.oneCell' = true) (cR : ∀ x ∈ rR, x.oneCell' = true) (mI : n + k ≤ maxLen) (mR : m + k ≤ maxLen) (yI : (n + k) * bI ≤ 140737488355328) (yR : (m + k) * bR ≤ 140737488355328) (hcI : csI.toList = rep rI k) (hcR : csR.toList = rep rR k)
    (hend : ∀ x1 x3 x5 p q c p' q' c' b w', Two rI rR U w' ia n ic ra m rc k p q c p' q' c' b → Q .normal (Put6 a d1 d2 d3 d4 d5 d6 x1 (.slice p q c) x3 (.slice p' q' c') x5 (.pointer (some ⟨b, 0, none⟩))) w') :
    wpAnyH P .any ops Q S 7 (L false false false false false false false) a w := by
  obtain ⟨o1, o2, o3, o4, o5, o6, o7, h7⟩ := H7
  have h := two_appends (Q := Q) (S := S) a d1 d2 d3 d4 d5 d6 sA sB hd hz hA hB L i1 i2 i3 i4 i5 i6 i7 o1 o2 o3 o4 o5 o6 o7 k hk csI csR h7 U w ia n ic ra m rc rI rR eA eB hUI hUR hwU hS iI iR zI zR bI bR tI tR fI fR gI gR lI lR cI cR mI mR yI yR hcI hcR hend (a.eval (.tmp d1)) (a.eval (.tmp d2)) (a.eval (.tmp d3)) (a.eval (.tmp d4)) (a.eval (.tmp d5)) (a.eval (.tmp d6))
  rw [put6_self a d1 d2 d3 d4 d5 d6 hz] at h
  exact h
end

/-- Over all states of seven operations. -/
def all7 (f : Bool → Bool → Bool → Bool → Bool → Bool → Bool → Bool) : Bool :=
  [false, true].all fun b1 => [false, true].all fun b2 => [false, true].all fun b3 => [false, true].all fun b4 => [false, true].all fun b5 => [false, true].all fun b6 => [false, true].all fun b7 => f b1 b2 b3 b4 b5 b6 b7
theorem all7_spec {f : Bool → Bool → Bool → Bool → Bool → Bool → Bool → Bool} (h : all7 f = true) (b1 b2 b3 b4 b5 b6 b7 : Bool) : f b1 b2 b3 b4 b5 b6 b7 = true := by
  have hb : ∀ b : Bool, b ∈ [false, true] := fun b => by cases b <;> simp
  unfold all7 at h
  simp only [List.all_eq_true] at h
  exact h b1 (hb _) b2 (hb _) b3 (hb _) b4 (hb _) b5 (hb _) b6 (hb _) b7 (hb _)
def okReady (ops : Array Oper) (L : Bool → Bool → Bool → Bool → Bool → Bool → Bool → Array Bool) (i1 i2 i3 i4 i5 i6 i7 : Nat) : Bool :=
  all7 fun b1 b2 b3 b4 b5 b6 b7 => (Region.ready .any ops (L b1 b2 b3 b4 b5 b6 b7)).all fun i => (i == i1 && !b1) || (i == i2 && b1 && !b2) || (i == i3 && !b3) || (i == i4 && b3 && !b4) || (i == i5 && b2 && b4 && !b5) || (i == i6 && !b6) || (i == i7 && b5 && b6 && !b7)
theorem okReady_spec {ops : Array Oper} {L : Bool → Bool → Bool → Bool → Bool → Bool → Bool → Array Bool} {i1 i2 i3 i4 i5 i6 i7 : Nat} (h : okReady ops L i1 i2 i3 i4 i5 i6 i7 = true) : ∀ b1 b2 b3 b4 b5 b6 b7, ∀ i ∈ Region.ready .any ops (L b1 b2 b3 b4 b5 b6 b7), (i = i1 ∧ b1 = false) ∨ (i = i2 ∧ b1 = true ∧ b2 = false) ∨ (i = i3 ∧ b3 = false) ∨ (i = i4 ∧ b3 = true ∧ b4 = false) ∨ (i = i5 ∧ b2 = true ∧ b4 = true ∧ b5 = false) ∨ (i = i6 ∧ b6 = false) ∨ (i = i7 ∧ b5 = true ∧ b6 = true ∧ b7 = false) := by
  intro b1 b2 b3 b4 b5 b6 b7 i hi
  have h1 := all7_spec h b1 b2 b3 b4 b5 b6 b7
  have h2 := List.all_eq_true.1 h1 i hi
  simp only [Bool.or_eq_true, Bool.and_eq_true, beq_iff_eq, Bool.not_eq_true'] at h2
  rcases h2 with (((((h | h) | h) | h) | h) | h) | h
  · exact .inl h
  · exact .inr (.inl ⟨h.1.1, h.1.2, h.2⟩)
  · exact .inr (.inr (.inl h))
  · exact .inr (.inr (.inr (.inl ⟨h.1.1, h.1.2, h.2⟩)))
  · exact .inr (.inr (.inr (.inr (.inl ⟨h.1.1.1, h.1.1.2, h.1.2, h.2⟩))))
  · exact .inr (.inr (.inr (.inr (.inr (.inl h)))))
  · exact .inr (.inr (.inr (.inr (.inr (.inr ⟨h.1.1.1, h.1.1.2, h.1.2, h.2⟩)))))
def okDone (ops : Array Oper) (L : Bool → Bool → Bool → Bool → Bool → Bool → Bool → Array Bool) : Bool :=
  all7 fun b1 b2 b3 b4 b5 b6 b7 => !(Region.ready .any ops (L b1 b2 b3 b4 b5 b6 b7)).isEmpty || b7
theorem okDone_spec {ops : Array Oper} {L : Bool → Bool → Bool → Bool → Bool → Bool → Bool → Array Bool} (h : okDone ops L = true) : ∀ b1 b2 b3 b4 b5 b6 b7, Region.ready .any ops (L b1 b2 b3 b4 b5 b6 b7) = [] → b7 = true := by
  intro b1 b2 b3 b4 b5 b6 b7 hr
  have h1 := all7_spec h b1 b2 b3 b4 b5 b6 b7
  simp only [hr, List.isEmpty_nil, Bool.not_true, Bool.false_or] at h1
  exact h1
theorem mark_one {K : Int} (x : Value) (h : x ∈ instMark K ∨ x ∈ reqMark K) : x.oneCell' = true := by
  rcases h with h | h
  · simp [instMark] at h; rcases h with rfl | rfl | rfl | rfl | rfl | rfl | rfl <;> rfl
  · simp [reqMark] at h; rcases h with rfl | rfl | rfl | rfl | rfl | rfl <;> rfl

end Go.Proofs.YtgcjlgaapiefiabGreat

/-
  The book with a world more.
-/
namespace Go.Proofs.YtgcjlgaapiefiabGreat
open Go.RowKit Go.Sort

theorem Aft.keep {t : TypeId} {r : List Value} {u u' : World} {a : Option Addr} {n cap k : Nat} {v' : Value} (h : Aft t r u u' a n cap k v') {v : Value} (hv : Full t r u v) (hs : (∃ nv g, v = .slice a nv cap ∧ nv ≤ n + k ∧ a = some ⟨g, 0, none⟩) ∨ ∀ j, v.ownBlock = some j → u'.heap[j]? = u.heap[j]?) : Full t r u' v := by
  rcases hs with ⟨nv, g, rfl, hnv, rfl⟩ | hs
  · rcases h.alt with ⟨g', _, rfl⟩ | ⟨_, hrow⟩
    · have ho := h.own
      have e : n + k = nv + (n + k - nv) := by omega
      rw [e] at ho
      exact Full.short ho (by simp)
    · exact Full.keep hv (fun j hj => hrow j (by simpa [Value.ownBlock] using hj))
  · exact Full.keep hv hs
theorem Aft.full {t : TypeId} {r : List Value} {u u' : World} {a : Option Addr} {n cap k : Nat} {v' : Value} (h : Aft t r u u' a n cap k v') : Full t r u' v' := by
  obtain ⟨x, c, rfl⟩ := own_shape h.own
  exact ⟨_, _, _, rfl, h.own⟩

theorem four_aft {t : TypeId} {r : List Value} {w u0 u1 u2 u3 : World} {a : Option Addr} {n cap : Nat} {v1 v2 v3 : Value} (A1 : Aft t r u0 u1 a n cap 1 v1) (A2 : Aft t r u1 u2 a n cap 2 v2) (A3 : Aft t r u2 u3 a n cap 3 v3)
    (f2 : ∀ j, j < u1.heap.size → u0.heap.size ≤ j → u2.heap[j]? = u1.heap[j]?) (f3 : ∀ j, j < u2.heap.size → u0.heap.size ≤ j → u3.heap[j]? = u2.heap[j]?) (s1 : u0.heap.size ≤ u1.heap.size) (s2 : u1.heap.size ≤ u2.heap.size) (hw : w.heap.size ≤ u0.heap.size) : Four t r w u3 (.slice a n cap) v1 v2 v3 := by
  have lt : ∀ {u : World} {v : Value}, Full t r u v → ∀ j, v.ownBlock = some j → j < u.heap.size := fun hv j hj => by
    obtain ⟨a2, n2, c2, rfl, h2⟩ := hv
    exact (own_ge h2 j hj).2
  have F1 : Full t r u1 v1 := A1.full
  have F2 : Full t r u2 v2 := A2.full
  have b1 : (∃ g, a = some ⟨g, 0, none⟩ ∧ v1 = .slice a (n + 1) cap) ∨ (∀ j, v1.ownBlock = some j → u0.heap.size ≤ j) := A1.alt.imp id And.left
  have b2 : (∃ g, a = some ⟨g, 0, none⟩ ∧ v2 = .slice a (n + 2) cap) ∨ (∀ j, v2.ownBlock = some j → u0.heap.size ≤ j) := A2.alt.imp id (fun h j hj => Nat.le_trans s1 (h.1 j hj))
  have b3 : (∃ g, a = some ⟨g, 0, none⟩ ∧ v3 = .slice a (n + 3) cap) ∨ (∀ j, v3.ownBlock = some j → u0.heap.size ≤ j) := A3.alt.imp id (fun h j hj => Nat.le_trans s1 (Nat.le_trans s2 (h.1 j hj)))
  have G1 : Full t r u2 v1 := A2.keep F1 (b1.imp (fun ⟨g, e1, e2⟩ => ⟨n + 1, g, e2, by omega, e1⟩) (fun h j hj => f2 j (lt F1 j hj) (h j hj)))
  have H1 : Full t r u3 v1 := A3.keep G1 (b1.imp (fun ⟨g, e1, e2⟩ => ⟨n + 1, g, e2, by omega, e1⟩) (fun h j hj => f3 j (lt G1 j hj) (h j hj)))
  have H2 : Full t r u3 v2 := A3.keep F2 (b2.imp (fun ⟨g, e1, e2⟩ => ⟨n + 2, g, e2, by omega, e1⟩) (fun h j hj => f3 j (lt F2 j hj) (h j hj)))
  have bl : ∀ (m : Nat) (v : Value), ((∃ g, a = some ⟨g, 0, none⟩ ∧ v = .slice a m cap) ∨ (∀ j, v.ownBlock = some j → u0.heap.size ≤ j)) → ∀ j, v.ownBlock = some j → (Value.slice a n cap).ownBlock = some j ∨ w.heap.size ≤ j := fun m v h j hj => by
    rcases h with ⟨g, rfl, rfl⟩ | h
    · exact .inl (by simpa [Value.ownBlock] using hj)
    · exact .inr (Nat.le_trans hw (h j hj))
  exact ⟨Full.of A3.ownl, H1, H2, A3.full, bl _ v1 b1, bl _ v2 b2, bl _ v3 b3⟩

theorem four_list {t : TypeId} {r : List Value} {S : Nat → Prop} {w w' : World} {v v1 v2 v3 : Value} (F : Four t r w w' v v1 v2 v3) (hv : InS S v) (hn : ∀ j, w.heap.size ≤ j → j < w'.heap.size → S j) : InS S v ∧ InS S v1 ∧ InS S v2 ∧ InS S v3 := by
  have hlt : ∀ {u : Value}, Full t r w' u → ∀ j, u.ownBlock = some j → j < w'.heap.size := fun {u} hu j hj => by
    obtain ⟨a, n, cap, rfl, ho⟩ := hu
    exact (own_ge ho j hj).2
  exact ⟨hv, fun j hj => (F.b1 j hj).elim (hv j) (fun h => hn j h (hlt F.f1 j hj)), fun j hj => (F.b2 j hj).elim (hv j) (fun h => hn j h (hlt F.f2 j hj)), fun j hj => (F.b3 j hj).elim (hv j) (fun h => hn j h (hlt F.f3 j hj))⟩

set_option maxHeartbeats 1000000 in
theorem shelf_world {S : Nat → Prop} {K : Nat} {W U u : World} {pb : Nat} {la : Option Addr} {NL lc : Nat} {lvals : List Value} {ba : Option Addr} {NB bc : Nat} {bvals : List Value} {aa : Option Addr} {NA ac : Nat} {avals : List Value} {wa : Option Addr} {NW wc : Nat} {ws : List (Int × Value × Value)}
    (hb : Book W pb la NL lc lvals ba NB bc bvals aa NA ac avals wa NW wc ws) (h4 : NL % 4 = 0 ∧ NB % 4 = 0 ∧ NA % 4 = 0 ∧ NW % 4 = 0) (hK : NL ≤ K ∧ NB ≤ K ∧ NA ≤ K ∧ NW ≤ K)
    (hs : S pb ∧ InS S (.slice la NL lc) ∧ InS S (.slice ba NB bc) ∧ InS S (.slice aa NA ac) ∧ InS S (.slice wa NW wc))
    (hv : (∀ v ∈ lvals, InS S v) ∧ (∀ v ∈ bvals, InS S v) ∧ (∀ v ∈ avals, InS S v) ∧ (∀ x ∈ ws, InS S x.2.1 ∧ InS S x.2.2)) (hlt : ∀ j, S j → j < W.heap.size)
    (hkeep : ∀ j, S j → U.heap[j]? = W.heap[j]?) (hsz : W.heap.size ≤ U.heap.size) {ck : Int} {vi v1 v2 v3 vr r1 r2 r3 : Value} (FI : Four 78 (instMark (77 + (NW : Int) / 4)) W U vi v1 v2 v3) (FR : Four 83 (reqMark (77 + (NW : Int) / 4)) W U vr r1 r2 r3)
    {wa' : Option Addr} {wc' : Nat} (hown : u.ownsRow 0 47 3 (.slice wa' (NW + 4) wc') (NW + 4) ((ws.map fun x => [Value.int .i64 x.1, x.2.1, x.2.2]).flatten ++ [.int .i64 ck, vi, vr, .int .i64 0, v1, r1, .int .i64 0, v2, r2, .int .i64 0, v3, r3]))
    (f4 : ∀ j, j < U.heap.size → some j ≠ (Value.slice wa NW wc).ownBlock → u.heap[j]? = U.heap[j]?) (hnb : ∀ j, (Value.slice wa' (NW + 4) wc').ownBlock = some j → (Value.slice wa NW wc).ownBlock = some j ∨ U.heap.size ≤ j) (s4 : U.heap.size ≤ u.heap.size) (hK4 : K + 4 ≤ 100000000) :
    Shelf (fun j => S j ∨ vi.ownBlock = some j ∨ vr.ownBlock = some j ∨ (W.heap.size ≤ j ∧ j < u.heap.size)) (K + 4) (u.setCell ⟨pb, 3, none⟩ (.slice wa' (NW + 4) wc')) pb := by
  have hwb : Blk U pb #[.slice la NL lc, .slice ba NB bc, .slice aa NA ac, .slice wa NW wc] 34 := (hkeep pb hs.1).trans hb.blk
  have hww : U.ownsRow 0 47 3 (.slice wa NW wc) NW (ws.map fun x => [Value.int .i64 x.1, x.2.1, x.2.2]).flatten := own_same hb.wown fun j hj => hkeep j (hs.2.2.2.2 j hj)
  have key : ∀ j cs t, Blk U j cs t → t ≠ 47 → t ≠ 34 → (u.setCell ⟨pb, 3, none⟩ (.slice wa' (NW + 4) wc')).heap[j]? = U.heap[j]? := fun j cs t hj h1 h2 => by
    rw [Below.heap_setCell _ _ _ _ (Blk.ne hwb hj (Ne.symm h2))]
    refine f4 j hj.lt (fun e => ?_)
    obtain ⟨cs', hb'⟩ := own_blk hww e.symm
    exact absurd rfl (Blk.ne hj hb' h1)
  have kO : ∀ {t : TypeId} {m n : Nat} {v : Value} {xs : List Value}, W.ownsRow 0 t m v n xs → InS S v → t ≠ 47 → t ≠ 34 → (u.setCell ⟨pb, 3, none⟩ (.slice wa' (NW + 4) wc')).ownsRow 0 t m v n xs := fun {t m n v xs} ho hi h1 h2 => own_same ho fun j hj => by
    obtain ⟨cs, hj'⟩ := own_blk ho hj
    rw [key j cs t ((hkeep j (hi j hj)).trans hj') h1 h2, hkeep j (hi j hj)]
  have kF : ∀ {t : TypeId} {r : List Value} {v : Value}, Full t r W v → InS S v → t ≠ 47 → t ≠ 34 → Full t r (u.setCell ⟨pb, 3, none⟩ (.slice wa' (NW + 4) wc')) v := fun hf hi h1 h2 => by
    obtain ⟨a, n, cap, rfl, ho⟩ := hf
    exact Full.of (kO ho hi h1 h2)
  have kU : ∀ {t : TypeId} {r : List Value} {v : Value}, Full t r U v → t ≠ 47 → t ≠ 34 → Full t r (u.setCell ⟨pb, 3, none⟩ (.slice wa' (NW + 4) wc')) v := fun hf h1 h2 => by
    obtain ⟨a, n, cap, rfl, ho⟩ := hf
    exact Full.of (own_same ho fun j hj => by obtain ⟨cs, hj'⟩ := own_blk ho hj; exact key j cs _ hj' h1 h2)
  have up : ∀ {v : Value}, InS S v → InS (fun j => S j ∨ vi.ownBlock = some j ∨ vr.ownBlock = some j ∨ (W.heap.size ≤ j ∧ j < u.heap.size)) v := fun hv => hv.mono fun j hj => .inl hj
  have hb4 : Blk u pb #[.slice la NL lc, .slice ba NB bc, .slice aa NA ac, .slice wa NW wc] 34 := by
    refine (f4 pb hwb.lt (fun e => ?_)).trans hwb
    obtain ⟨cs', hb'⟩ := own_blk hww e.symm
    exact absurd rfl (Blk.ne hwb hb' (by decide))
  have hlen : ws.length = NW := by
    have := hb.wown.1
    rw [flat_lenA (m := 3) _ (by intro x hx; obtain ⟨y, _, rfl⟩ := List.mem_map.1 hx; rfl), List.length_map] at this
    omega
  have hsu : (u.setCell ⟨pb, 3, none⟩ (.slice wa' (NW + 4) wc')).heap.size = u.heap.size := by simp [World.setCell]
  have LI := four_list (S := fun j => S j ∨ vi.ownBlock = some j ∨ vr.ownBlock = some j ∨ (W.heap.size ≤ j ∧ j < u.heap.size)) FI (fun j hj => .inr (.inl hj)) (fun j h1 h2 => .inr (.inr (.inr ⟨h1, by omega⟩)))
  have LR := four_list (S := fun j => S j ∨ vi.ownBlock = some j ∨ vr.ownBlock = some j ∨ (W.heap.size ≤ j ∧ j < u.heap.size)) FR (fun j hj => .inr (.inr (.inl hj))) (fun j h1 h2 => .inr (.inr (.inr ⟨h1, by omega⟩)))
  have lt : ∀ {t : TypeId} {r : List Value} {v : Value}, Full t r U v → ∀ j, v.ownBlock = some j → j < U.heap.size := fun hv j hj => by
    obtain ⟨a2, n2, c2, rfl, h2⟩ := hv
    exact (own_ge h2 j hj).2
  refine ⟨la, NL, lc, lvals, ba, NB, bc, bvals, aa, NA, ac, avals, wa', NW + 4, wc', ws ++ [(ck, vi, vr), (0, v1, r1), (0, v2, r2), (0, v3, r3)], ?_, ⟨h4.1, h4.2.1, h4.2.2.1, by omega⟩, ⟨by omega, by omega, by omega, by omega⟩, ⟨.inl hs.1, up hs.2.1, up hs.2.2.1, up hs.2.2.2.1, ?_⟩, ⟨fun v h => up (hv.1 v h), fun v h => up (hv.2.1 v h), fun v h => up (hv.2.2.1 v h), ?_⟩, ?_⟩
  · refine ⟨by simpa using hb4.set 3 (.slice wa' (NW + 4) wc'), kO hb.lown hs.2.1 (by decide) (by decide), kO hb.bown hs.2.2.1 (by decide) (by decide), kO hb.aown hs.2.2.2.1 (by decide) (by decide), ?_, fun i hi => kF (hb.lfull i hi) (hv.1 _ (List.getElem_mem hi)) (by decide) (by decide), fun i hi => kF (hb.bfull i hi) (hv.2.1 _ (List.getElem_mem hi)) (by decide) (by decide), fun i hi => kF (hb.afull i hi) (hv.2.2.1 _ (List.getElem_mem hi)) (by decide) (by decide), ?_, ⟨by omega, by omega, by omega, by omega⟩⟩
    · have e : ((ws ++ [(ck, vi, vr), (0, v1, r1), (0, v2, r2), (0, v3, r3)]).map fun x : Int × Value × Value => [Value.int .i64 x.1, x.2.1, x.2.2]).flatten = (ws.map fun x => [Value.int .i64 x.1, x.2.1, x.2.2]).flatten ++ [.int .i64 ck, vi, vr, .int .i64 0, v1, r1, .int .i64 0, v2, r2, .int .i64 0, v3, r3] := by simp
      rw [e]
      exact own_same hown fun j hj => Below.heap_setCell _ _ _ _ (fun e => by
        obtain ⟨cs', hb'⟩ := own_blk hown hj
        subst e
        exact absurd rfl (Blk.ne hb4 hb' (by decide)))
    · intro i hi
      by_cases hi' : i < ws.length
      · rw [List.getElem_append_left hi']
        exact ⟨kF (hb.wfull i hi').1 (hv.2.2.2 _ (List.getElem_mem hi')).1 (by decide) (by decide), kF (hb.wfull i hi').2 (hv.2.2.2 _ (List.getElem_mem hi')).2 (by decide) (by decide)⟩
      · simp only [List.length_append, List.length_cons, List.length_nil] at hi
        rw [List.getElem_append_right (by omega)]
        have hd : (i : Int) / 4 = (NW : Int) / 4 := by omega
        rw [hd]
        obtain hj | hj | hj | hj : i - ws.length = 0 ∨ i - ws.length = 1 ∨ i - ws.length = 2 ∨ i - ws.length = 3 := by omega
        · simp only [hj, List.getElem_cons_zero]; exact ⟨kU FI.f0 (by decide) (by decide), kU FR.f0 (by decide) (by decide)⟩
        · simp only [hj, List.getElem_cons_succ, List.getElem_cons_zero]; exact ⟨kU FI.f1 (by decide) (by decide), kU FR.f1 (by decide) (by decide)⟩
        · simp only [hj, List.getElem_cons_succ, List.getElem_cons_zero]; exact ⟨kU FI.f2 (by decide) (by decide), kU FR.f2 (by decide) (by decide)⟩
        · simp only [hj, List.getElem_cons_succ, List.getElem_cons_zero]; exact ⟨kU FI.f3 (by decide) (by decide), kU FR.f3 (by decide) (by decide)⟩
  · intro j hj
    rcases hnb j hj with h | h
    · exact .inl (hs.2.2.2.2 j h)
    · exact .inr (.inr (.inr ⟨by omega, (own_ge hown j hj).2⟩))
  · intro x hx
    rcases List.mem_append.1 hx with hx | hx
    · exact ⟨up (hv.2.2.2 x hx).1, up (hv.2.2.2 x hx).2⟩
    · simp at hx
      rcases hx with rfl | rfl | rfl | rfl
      · exact ⟨LI.1, LR.1⟩
      · exact ⟨LI.2.1, LR.2.1⟩
      · exact ⟨LI.2.2.1, LR.2.2.1⟩
      · exact ⟨LI.2.2.2, LR.2.2.2⟩
  · intro j hj
    rw [hsu]
    rcases hj with h | h | h | h
    · have := hlt j h; omega
    · have := lt FI.f0 j h; omega
    · have := lt FR.f0 j h; omega
    · exact h.2

section
variable {P : Program} {ops : Array Oper} {Q : Exit → Act → World → Prop} {md : Region.Mode} {S : World → Prop}
/-- The one operation that may come up. -/
theorem wpAnyH_val {i : Nat} {o : Oper} {fuel : Nat} {listed : Array Bool} {a : Act} {w w' : World} {v : Value} (hr : Region.ready md ops listed = [i]) (ho : ops[i]? = some o) (hg : o.guard = none) (hrun : (execOp a.eval o).run P w = .ok (.value v) w') (hS : S w') (h : wpAnyH P md ops Q S fuel (listed.setIfInBounds i true) (a.put o.dst v) w') : wpAnyH P md ops Q S (fuel + 1) listed a w :=
  wpAnyH_all hr (by simp) fun j hj => by
    simp at hj
    subst hj
    exact wpOpV ho hg hrun ⟨hS, h⟩
theorem wpAnyH_skp {i : Nat} {o : Oper} {fuel : Nat} {listed : Array Bool} {a : Act} {w w' : World} (hr : Region.ready md ops listed = [i]) (ho : ops[i]? = some o) (hg : o.guard = none) (hrun : (execOp a.eval o).run P w = .ok .skip w') (hS : S w') (h : wpAnyH P md ops Q S fuel (listed.setIfInBounds i true) (a.put o.dst undef) w') : wpAnyH P md ops Q S (fuel + 1) listed a w :=
  wpAnyH_all hr (by simp) fun j hj => by
    simp at hj
    subst hj
    exact wpOpS ho hg hrun ⟨hS, h⟩
end

end Go.Proofs.YtgcjlgaapiefiabGreat

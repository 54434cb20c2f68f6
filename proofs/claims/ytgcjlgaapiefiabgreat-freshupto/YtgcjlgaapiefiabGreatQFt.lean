import Derived.Test.YtgcjlgaapiefiabGreatQPrwE
import Derived.Maps.AppendAt
import Derived.Test.YtgcjlgaapiefiabGreatQAl
import Derived.Test.YtgcjlgaapiefiabGreatQPrwN

/-
  Lists that are written full of one mark; what append does to such a list, and to what lies beside it.
-/
namespace Go.Proofs.YtgcjlgaapiefiabGreat
open Go.RowKit

theorem own_less {w : World} {e : TypeId} {m n k : Nat} {a : Option Addr} {cap : Nat} {xs ys : List Value} (h : w.ownsRow 0 e m (.slice a (n + k) cap) (n + k) (xs ++ ys)) (ha : a ≠ none) (hx : xs.length = n * m) : w.ownsRow 0 e m (.slice a n cap) n xs := by
  obtain ⟨h1, h2⟩ := h
  refine ⟨hx, ?_⟩
  rcases h2 with ⟨hv, _⟩ | ⟨g, c, cur, hv, h3, h4, h5, h6, h7, h8⟩
  · simp at hv; exact absurd hv.1 ha
  · simp only [Value.slice.injEq] at hv
    obtain ⟨rfl, _, rfl⟩ := hv
    refine .inr ⟨g, cap, cur, rfl, h3, h4, by omega, h6, h7, ?_⟩
    have := congrArg (List.take (n * m)) h8
    rw [List.take_take, Nat.min_eq_left (Nat.mul_le_mul_right m (by omega)), ← hx, List.take_left] at this
    rw [← hx]; exact this

section
variable {P : Program} (w : World)
/-- append onto a list of one's own: the list itself is as it was; what it became lies in its row, or in a new one. -/
theorem append_mk (t ty e : TypeId) (i : TypeInfo) (z : Value) (size bytes : Nat) (ht : P.underlying t = some (.slice e)) (hi : P.info? e = some i) (hz : i.zero = some z)
    (hsize : i.size = size) (hby : i.bytes = bytes) (hzs : z.cells.size = size) (hsz : 0 < size)
    (a : Option Addr) (n cap : Nat) (xs : List Value) (hown : w.ownsRow 0 e size (.slice a n cap) n xs)
    (b : Addr) (k c : Nat) (hk : 0 < k) (news : List Value) (hl : news.length = k * size) (hnews : ∀ j u, news[j]? = some u → w.cell? (b.add j) = some u) (h1 : ∀ u ∈ news, u.oneCell' = true)
    (h63 : n + k ≤ maxLen) (hbytes : (n + k) * bytes ≤ 140737488355328) :
    ∃ v' w', (Builtin.append_ #[t, t] ty #[.slice a n cap, .slice (some b) k c]).run P w = .ok v' w' ∧ w'.ownsRow 0 e size v' (n + k) (xs ++ news) ∧ w'.ownsRow 0 e size (.slice a n cap) n xs ∧
      ((∃ g, a = some ⟨g, 0, none⟩ ∧ v' = .slice a (n + k) cap ∧ w.grownBy w' (some g)) ∨ (∃ c', v' = .slice (some ⟨w.heap.size, 0, none⟩) (n + k) c' ∧ w.grownBy w' none ∧ w.heap.size < w'.heap.size)) := by
  obtain ⟨v', w', hr, q1, q2, _, _⟩ := run_append_own_at (P := P) w 0 t ty e i z size bytes ht hi hz hsize hby hzs hsz (.slice a n cap) n xs hown b k c news hl hnews h1 h63 hbytes (Nat.zero_le _)
  subst hsize
  subst hby
  have hmx : n + k ≤ 9223372036854775807 := by simp only [maxLen] at h63; omega
  have hkm : k * i.bytes ≤ (n + k) * i.bytes := Nat.mul_le_mul_right _ (by omega)
  have hnew : ∀ (o : Obj), w.grownBy (w.drew.alloc o) none := fun o => ⟨rfl, rfl, rfl, by simp, fun j hj _ => Below.block (Below.alloc (Below.drew (Below.refl w.heap.size w)) (Nat.le_refl _) o) j hj⟩
  have hsame : ∀ (o : Obj), (w.drew.alloc o).ownsRow 0 e i.size (.slice a n cap) n xs := fun o => own_same hown (fun j hj => (hnew o).block j (own_ge hown j hj).2 (by simp))
  refine ⟨v', w', hr, q1, ?_⟩
  rcases hown.2 with ⟨hv, rfl⟩ | ⟨g, cap', cur, hv, _, hg, hnc, hcm, hcs, _⟩
  · simp only [Value.slice.injEq] at hv
    obtain ⟨rfl, _, rfl⟩ := hv
    have hr2 := run_append_nil (P := P) w t ty e i z ht hi hz b k c news hl hnews hk (by omega) (by omega)
    rw [hr] at hr2
    injection hr2 with e1 e2
    subst e2
    refine ⟨hsame _, .inr ⟨_, by rw [e1]; simp; rfl, hnew _, by simp⟩⟩
  · simp only [Value.slice.injEq] at hv
    obtain ⟨rfl, _, rfl⟩ := hv
    by_cases hroom : n + k ≤ cap
    · have hfit : n * i.size + news.length ≤ cur.size := by rw [hl, hcs, ← Nat.add_mul]; exact Nat.mul_le_mul_right _ hroom
      have hr2 := run_append_room (P := P) w t ty e i ht hi g n cap cur hg b k c news hl hnews h1 hroom hfit
      rw [hr] at hr2
      injection hr2 with e1 e2
      subst e1
      exact ⟨own_less q1 (by simp) hown.1, .inl ⟨g, rfl, rfl, q2⟩⟩
    · have holds : ∀ j u, xs[j]? = some u → w.cell? ((⟨g, 0, none⟩ : Addr).add j) = some u := hown.cells (g := g) rfl
      have hr2 := run_append_grow (P := P) w t ty e i z ht hi hz ⟨g, 0, none⟩ n cap xs hown.1 holds b k c news hl hnews (by omega) (by omega) (growslice_fits (by omega) hbytes)
      rw [hr] at hr2
      injection hr2 with e1 e2
      subst e2
      exact ⟨hsame _, .inr ⟨_, e1, hnew _, by simp⟩⟩
end

/-- n rows of one mark. -/
def rep (r : List Value) (n : Nat) : List Value := (List.replicate n r).flatten
theorem rep_add (r : List Value) (n k : Nat) : rep r (n + k) = rep r n ++ rep r k := by unfold rep; rw [← List.replicate_append_replicate, List.flatten_append]
theorem rep_len (r : List Value) (n : Nat) : (rep r n).length = n * r.length := by
  induction n with
  | zero => simp [rep]
  | succ n ih => rw [rep_add, List.length_append, ih, Nat.succ_mul]; simp [rep]

/-- A list full of one mark. -/
def Full (t : TypeId) (r : List Value) (w : World) (v : Value) : Prop := ∃ a n cap, v = .slice a n cap ∧ w.ownsRow 0 t r.length v n (rep r n)
/-- What may have turned: the row g, and what is new. -/
theorem Full.keep {t : TypeId} {r : List Value} {w w' : World} {v : Value} (h : Full t r w v) (hk : ∀ k, v.ownBlock = some k → w'.heap[k]? = w.heap[k]?) : Full t r w' v := by
  obtain ⟨a, n, cap, rfl, h2⟩ := h
  exact ⟨a, n, cap, rfl, own_same h2 hk⟩
/-- Lists in one row, each no longer than what has come to lie there. -/
theorem Full.short {t : TypeId} {r : List Value} {w : World} {a : Option Addr} {n k cap : Nat} (h : w.ownsRow 0 t r.length (.slice a (n + k) cap) (n + k) (rep r (n + k))) (ha : a ≠ none) : Full t r w (.slice a n cap) :=
  ⟨a, n, cap, rfl, own_less (k := k) (xs := rep r n) (ys := rep r k) (by rw [← rep_add]; exact h) ha (rep_len r n)⟩

end Go.Proofs.YtgcjlgaapiefiabGreat

/-
  A row of a list written full of a mark.
-/
namespace Go.Proofs.YtgcjlgaapiefiabGreat
open Go.RowKit

theorem setAll_get : ∀ (vs : List Value) (o : Nat) (c : Array Value), o + vs.length ≤ c.size → ∀ j, (setAll c o vs)[j]? = if j < o then c[j]? else if j < o + vs.length then vs[j - o]? else c[j]?
  | [], o, c, _, j => by
    simp only [setAll, List.length_nil, Nat.add_zero]
    split <;> rfl
  | v :: r, o, c, h, j => by
    simp only [List.length_cons] at h
    rw [setAll, setAll_get r (o + 1) _ (by simp; omega) j]
    by_cases h1 : j < o
    · rw [if_pos (by omega), if_pos h1, Array.getElem?_setIfInBounds_ne (by omega)]
    · rw [if_neg h1]
      by_cases h2 : j = o
      · subst h2
        rw [if_pos (by omega), Array.getElem?_setIfInBounds_self_of_lt (by omega)]
        simp
      · rw [if_neg (by omega)]
        by_cases h3 : j < o + 1 + r.length
        · rw [if_pos h3, if_pos (by simp; omega)]
          rw [show j - o = (j - (o + 1)) + 1 by omega, List.getElem?_cons_succ]
        · rw [if_neg h3, if_neg (by simp; omega), Array.getElem?_setIfInBounds_ne (by omega)]
theorem setAll_size : ∀ (vs : List Value) (o : Nat) (c : Array Value), (setAll c o vs).size = c.size
  | [], _, _ => rfl
  | v :: r, o, c => by rw [setAll, setAll_size]; simp
theorem setAll_list (vs : List Value) (o : Nat) (c : Array Value) (h : o + vs.length ≤ c.size) : (setAll c o vs).toList = c.toList.take o ++ vs ++ c.toList.drop (o + vs.length) := by
  apply List.ext_getElem?
  intro j
  rw [Array.getElem?_toList, setAll_get vs o c h j]
  by_cases h1 : j < o
  · rw [if_pos h1, List.append_assoc, List.getElem?_append_left (by simp; omega), List.getElem?_take_of_lt h1, Array.getElem?_toList]
  · rw [if_neg h1]
    have ht : (c.toList.take o).length = o := by simp; omega
    by_cases h2 : j < o + vs.length
    · rw [if_pos h2, List.append_assoc, List.getElem?_append_right (by omega), List.getElem?_append_left (by omega), ht]
    · rw [if_neg h2, List.getElem?_append_right (by simp; omega), List.getElem?_drop, List.length_append, ht, show o + vs.length + (j - (o + vs.length)) = j by omega, Array.getElem?_toList]

theorem own_rows {w : World} {t : TypeId} {m g n cap : Nat} {r ys : List Value} {q : Nat} (hr : r.length = m) (h : w.ownsRow 0 t m (.slice (some ⟨g, 0, none⟩) n cap) n (rep r q ++ ys.drop (q * m))) (hq : q < n) (hy : ys.length = n * m) :
    (w.setCells g (q * m) r).ownsRow 0 t m (.slice (some ⟨g, 0, none⟩) n cap) n (rep r (q + 1) ++ ys.drop ((q + 1) * m)) := by
  have hq1 : (q + 1) * m ≤ n * m := Nat.mul_le_mul_right m (by omega)
  have hq2 : (q + 1) * m = q * m + m := Nat.succ_mul q m
  refine ⟨by simp [rep_len, hr, hy]; omega, ?_⟩
  rcases h.2 with ⟨hv, _⟩ | ⟨g', cap', cur, hv, h3, h4, h5, h6, h7, h8⟩
  · simp at hv
  · simp only [Value.slice.injEq, Option.some.injEq, Addr.mk.injEq] at hv
    obtain ⟨⟨rfl, _, _⟩, _, rfl⟩ := hv
    have hcap : n * m ≤ cap * m := Nat.mul_le_mul_right m h5
    have hfit : q * m + r.length ≤ cur.size := by rw [h7, hr]; omega
    refine .inr ⟨g, cap, _, rfl, h3, Blk.setCells r (q * m) h4, h5, h6, by rw [setAll_size]; exact h7, ?_⟩
    rw [setAll_list r (q * m) cur hfit]
    have hlt : (cur.toList.take (q * m)).length = q * m := by simp; omega
    have hpre : cur.toList.take (q * m) = rep r q := by
      have := congrArg (List.take (q * m)) h8
      rw [List.take_take, Nat.min_eq_left (by omega), List.take_append_of_le_length (by rw [rep_len, hr]; omega)] at this
      rw [this]
      exact List.take_of_length_le (by rw [rep_len, hr]; omega)
    have hsuf : (cur.toList.take (n * m)).drop (q * m + m) = ys.drop (q * m + m) := by
      rw [h8, List.drop_append, List.drop_eq_nil_of_le (by rw [rep_len, hr]; omega), List.nil_append, rep_len, hr, List.drop_drop]
      congr 1; omega
    rw [hpre, hq2, rep_add, List.append_assoc, List.append_assoc, List.take_append, rep_len, hr]
    have e1 : List.take (n * m) (rep r q) = rep r q := List.take_of_length_le (by rw [rep_len, hr]; omega)
    rw [e1, List.take_append, hr]
    have e2 : List.take (n * m - q * m) r = r := List.take_of_length_le (by omega)
    rw [e2]
    congr 1
    have e3 : rep r 1 = r := by simp [rep]
    rw [e3]
    congr 1
    rw [← hsuf, List.drop_take]
    congr 1
    omega

/-- What stands behind an append of k marks to a list full of marks. -/
structure After (t : TypeId) (r : List Value) (u u' : World) (a : Option Addr) (n cap k : Nat) (v' : Value) : Prop where
  own : u'.ownsRow 0 t r.length v' (n + k) (rep r (n + k))
  ownl : u'.ownsRow 0 t r.length (.slice a n cap) n (rep r n)
  alt : (∃ g, a = some ⟨g, 0, none⟩ ∧ v' = .slice a (n + k) cap) ∨ (∃ c' h, v' = .slice (some ⟨h, 0, none⟩) (n + k) c' ∧ u.heap.size ≤ h ∧ ∀ j, j < u.heap.size → u'.heap[j]? = u.heap[j]?)
  fr : ∀ j, j < u.heap.size → some j ≠ (Value.slice a n cap).ownBlock → u'.heap[j]? = u.heap[j]?
  size : u.heap.size ≤ u'.heap.size
  bel : ∀ B0 w0, Below B0 w0 u → (∀ j, (Value.slice a n cap).ownBlock = some j → B0 ≤ j) → B0 ≤ u.heap.size → Below B0 w0 u'

theorem Full.of {t : TypeId} {r : List Value} {w : World} {a : Option Addr} {n cap : Nat} (h : w.ownsRow 0 t r.length (.slice a n cap) n (rep r n)) : Full t r w (.slice a n cap) := ⟨a, n, cap, rfl, h⟩
theorem After.keep {t : TypeId} {r : List Value} {u u' : World} {a : Option Addr} {n cap k : Nat} {v' : Value} (h : After t r u u' a n cap k v') {v : Value} (hv : Full t r u v) (hs : (∃ nv, v = .slice a nv cap ∧ nv ≤ n + k) ∨ v.ownBlock ≠ (Value.slice a n cap).ownBlock) : Full t r u' v := by
  rcases h.alt with ⟨g, rfl, rfl⟩ | ⟨c', h', rfl, _, hall⟩
  · rcases hs with ⟨nv, rfl, hnv⟩ | hs
    · have ho := h.own
      have e : n + k = nv + (n + k - nv) := by omega
      rw [e] at ho
      exact Full.short ho (by simp)
    · obtain ⟨a2, n2, c2, rfl, h2⟩ := hv
      exact Full.keep (Full.of h2) (fun j hj => h.fr j (own_ge h2 j hj).2 (fun q => hs (by rw [hj, q])))
  · obtain ⟨a2, n2, c2, rfl, h2⟩ := hv
    exact Full.keep (Full.of h2) (fun j hj => hall j (own_ge h2 j hj).2)

/-- append of k marks, the new rows just built. -/
theorem after_append {P : Program} (u : World) (t ty e : TypeId) (i : TypeInfo) (z : Value) (bytes : Nat) (r : List Value) (ht : P.underlying t = some (.slice e)) (hi : P.info? e = some i) (hz : i.zero = some z)
    (hsize : i.size = r.length) (hby : i.bytes = bytes) (hzs : z.cells.size = r.length) (hsz : 0 < r.length)
    (a : Option Addr) (n cap : Nat) (hown : u.ownsRow 0 e r.length (.slice a n cap) n (rep r n)) (k : Nat) (hk : 0 < k) (h1 : ∀ x ∈ r, x.oneCell' = true)
    (h63 : n + k ≤ maxLen) (hbytes : (n + k) * bytes ≤ 140737488355328) (cs : Array Value) (hcs : cs.toList = rep r k) :
    ∃ v' u', (Builtin.append_ #[t, t] ty #[.slice a n cap, .slice (some ⟨u.heap.size, 0, none⟩) k k]).run P (u.alloc (.cells cs e)) = .ok v' u' ∧ After e r u u' a n cap k v' := by
  have hq : Quiet u (u.alloc (.cells cs e)) := (Below.refl _ _).alloc (Nat.le_refl _) _
  have hown' := own_quiet hown hq
  have hnews : ∀ j x, (rep r k)[j]? = some x → (u.alloc (.cells cs e)).cell? ((⟨u.heap.size, 0, none⟩ : Addr).add j) = some x := by
    intro j x hx
    have hb : Blk (u.alloc (.cells cs e)) u.heap.size cs e := Blk.new' rfl
    have : (u.alloc (.cells cs e)).cell? ⟨u.heap.size, j, none⟩ = some x := by rw [hb.cell, ← Array.getElem?_toList, hcs]; exact hx
    unfold Addr.add
    by_cases hj : j = 0
    · subst hj; simpa using this
    · simpa [hj] using this
  obtain ⟨v', u', hr, q1, q2, q3⟩ := append_mk (P := P) (u.alloc (.cells cs e)) t ty e i z r.length bytes ht hi hz hsize hby hzs hsz a n cap (rep r n) hown' ⟨u.heap.size, 0, none⟩ k k hk (rep r k) (rep_len r k) hnews (by
    intro x hx
    unfold rep at hx
    obtain ⟨y, hy, hxy⟩ := List.mem_flatten.1 hx
    rw [List.eq_of_mem_replicate hy] at hxy
    exact h1 x hxy) h63 hbytes
  refine ⟨v', u', hr, by rw [rep_add]; exact q1, q2, ?_, ?_, ?_, ?_⟩
  · rcases q3 with ⟨g, e1, e2, _⟩ | ⟨c', e1, e2, _⟩
    · exact .inl ⟨g, e1, e2⟩
    · exact .inr ⟨c', _, e1, by simp, fun j hj => (e2.block j (by simp; omega) (by simp)).trans (hq.block j hj)⟩
  · intro j hj hne
    rcases q3 with ⟨g, rfl, e2, e3⟩ | ⟨c', e1, e2, _⟩
    · exact (e3.block j (by simp; omega) (by simpa [Value.ownBlock] using hne)).trans (hq.block j hj)
    · exact (e2.block j (by simp; omega) (by simp)).trans (hq.block j hj)
  · rcases q3 with ⟨g, rfl, e2, e3⟩ | ⟨c', e1, e2, _⟩
    · have := e3.size; simp at this; omega
    · have := e2.size; simp at this; omega
  · intro B0 w0 hB hl hs
    have hB2 : Below B0 w0 (u.alloc (.cells cs e)) := hB.alloc hs _
    rcases q3 with ⟨g, rfl, e2, e3⟩ | ⟨c', e1, e2, _⟩
    · exact Below.grown hB2 e3 (by simp; omega) (fun j hj => hl j (by simpa [Value.ownBlock] using hj))
    · exact Below.grown hB2 e2 (by simp; omega) (fun j hj => by simp at hj)

theorem wpList_append_run {P : Program} {w : World} {ops : Array Oper} {rest : List Oper} {o : Oper} {a : Act} {Q : Exit → Act → World → Prop} (hgd : o.guard = none) (s x : Operand) (t : TypeId)
    (ho : o.op = .call { callee := .builtin .append, args := #[s, x], argTypes := #[t, t] }) (v y : Value) (hs : a.eval s = v) (hx : a.eval x = y) (v' : Value) (w' : World) (hr : (Builtin.append_ #[t, t] o.type #[v, y]).run P w = .ok v' w')
    (h : wpList P ops Q rest (a.put o.dst v') w') : wpList P ops Q (o :: rest) a w := by
  refine wpList_plain hgd fun K hK => ?_
  unfold Oper.wp execOp
  simp only [ho, resolve, invoke, builtin, Sem.run_bind, Sem.run_pure, Result.andThen_ok, List.map_toArray, List.map_cons, List.map_nil, hs, hx, hr]
  exact hK _ _ h

end Go.Proofs.YtgcjlgaapiefiabGreat

/-
  The book of marks: Marked.by, walked.
-/
namespace Go.Proofs.YtgcjlgaapiefiabGreat
open Go.RowKit Go.Sort

/-- What a list was and became in the book: itself, and with one, two, three marks more. -/
structure Four (t : TypeId) (r : List Value) (w w' : World) (v v1 v2 v3 : Value) : Prop where
  f0 : Full t r w' v
  f1 : Full t r w' v1
  f2 : Full t r w' v2
  f3 : Full t r w' v3
  b1 : ∀ j, v1.ownBlock = some j → v.ownBlock = some j ∨ w.heap.size ≤ j
  b2 : ∀ j, v2.ownBlock = some j → v.ownBlock = some j ∨ w.heap.size ≤ j
  b3 : ∀ j, v3.ownBlock = some j → v.ownBlock = some j ∨ w.heap.size ≤ j

theorem four_of {t : TypeId} {r : List Value} {u0 u1 u2 u3 : World} {a : Option Addr} {n cap : Nat} {v1 v2 v3 : Value} (h1 : After t r u0 u1 a n cap 1 v1) (h2 : After t r u1 u2 a n cap 2 v2) (h3 : After t r u2 u3 a n cap 3 v3) (hl : ∀ j, (Value.slice a n cap).ownBlock = some j → j < u0.heap.size) : Four t r u0 u3 (.slice a n cap) v1 v2 v3 := by
  have s1 := h1.size
  have s2 := h2.size
  have key : ∀ (u u' : World) (k : Nat) (v' : Value), After t r u u' a n cap k v' → u0.heap.size ≤ u.heap.size → (∃ nv, v' = .slice a nv cap ∧ nv ≤ n + k) ∨ (∀ j, v'.ownBlock = some j → u0.heap.size ≤ j) := fun u u' k v' h hs => by
    rcases h.alt with ⟨g, _, e⟩ | ⟨c', h', e, hh, _⟩
    · exact .inl ⟨n + k, e, Nat.le_refl _⟩
    · exact .inr (fun j hj => by rw [e] at hj; simp [Value.ownBlock] at hj; omega)
  have k1 := key u0 u1 1 v1 h1 (Nat.le_refl _)
  have k2 := key u1 u2 2 v2 h2 s1
  have k3 := key u2 u3 3 v3 h3 (by omega)
  have away : ∀ v' : Value, (∀ j, v'.ownBlock = some j → u0.heap.size ≤ j) → (v'.ownBlock ≠ (Value.slice a n cap).ownBlock) ∨ v'.ownBlock = none := fun v' hv => by
    cases hb : v'.ownBlock with
    | none => exact .inr rfl
    | some j => exact .inl (fun q => by have := hl j q.symm; have := hv j hb; omega)
  have full : ∀ (u u' : World) (k : Nat) (v' : Value), After t r u u' a n cap k v' → Full t r u' v' := fun u u' k v' h => by
    obtain ⟨x, c, rfl⟩ := own_shape h.own
    exact ⟨_, _, _, rfl, h.own⟩
  have step : ∀ (u u' : World) (k : Nat) (v' w' : Value) (kw : Nat), After t r u u' a n cap k v' → kw ≤ k → Full t r u w' → ((∃ nv, w' = .slice a nv cap ∧ nv ≤ n + kw) ∨ (∀ j, w'.ownBlock = some j → u0.heap.size ≤ j)) → Full t r u' w' := fun u u' k v' w' kw h hk hf hs => by
    rcases hs with ⟨nv, e, hn⟩ | hs
    · exact h.keep hf (.inl ⟨nv, e, by omega⟩)
    · rcases away w' hs with q | q
      · exact h.keep hf (.inr q)
      · exact Full.keep hf (fun j hj => by rw [q] at hj; simp at hj)
  have g1 := step u1 u2 2 v2 v1 1 h2 (by omega) (full _ _ _ _ h1) k1
  have g1' := step u2 u3 3 v3 v1 1 h3 (by omega) g1 k1
  have g2 := step u2 u3 3 v3 v2 2 h3 (by omega) (full _ _ _ _ h2) k2
  have bl : ∀ (k : Nat) (v' : Value), ((∃ nv, v' = .slice a nv cap ∧ nv ≤ n + k) ∨ (∀ j, v'.ownBlock = some j → u0.heap.size ≤ j)) → ∀ j, v'.ownBlock = some j → (Value.slice a n cap).ownBlock = some j ∨ u0.heap.size ≤ j := fun k v' h j hj => by
    rcases h with ⟨nv, rfl, _⟩ | h
    · left
      cases a with
      | none => simp [Value.ownBlock] at hj
      | some x => simpa [Value.ownBlock] using hj
    · exact .inr (h j hj)
  exact ⟨Full.of h3.ownl, g1', g2, full _ _ _ _ h3, bl 1 v1 k1, bl 2 v2 k2, bl 3 v3 k3⟩

set_option maxRecDepth 100000 in
set_option maxHeartbeats 2000000 in
theorem by_any (w0 w : World) (B0 pb : Nat) (lv av wv : Value) (ba : Option Addr) (N bc : Nat) (vals : List Value) (hb : Blk w pb #[lv, .slice ba N bc, av, wv] 34) (hbk : w.ownsRow 0 81 1 (.slice ba N bc) N vals)
    (a : Option Addr) (n cap : Nat) (xs : List Value) (hl : w.ownsRow 0 3 1 (.slice a n cap) n xs) (hn : n ≤ 2199023255552) (hN : N ≤ 100000000) (hB : Below B0 w0 w) (hpb : B0 ≤ pb) (hl0 : ∀ k, (Value.slice a n cap).ownBlock = some k → B0 ≤ k) (hb0 : ∀ k, (Value.slice ba N bc).ownBlock = some k → B0 ≤ k) :
    Calls Tryz.prog 35 #[.pointer (some ⟨pb, 0, none⟩), .slice a n cap] w fun e w' => ∃ v1 v2 v3 ba' bc', e = .returned (.tuple #[]) ∧ Four 3 [.int .i64 (77 + (N : Int) / 4)] w w' (.slice a n cap) v1 v2 v3 ∧ Blk w' pb #[lv, .slice ba' (N + 4) bc', av, wv] 34 ∧
      w'.ownsRow 0 81 1 (.slice ba' (N + 4) bc') (N + 4) (vals ++ [.slice a n cap, v1, v2, v3]) ∧ (∀ j, (Value.slice ba' (N + 4) bc').ownBlock = some j → (Value.slice ba N bc).ownBlock = some j ∨ w.heap.size ≤ j) ∧
      (∀ j, j < w.heap.size → some j ≠ (Value.slice a n cap).ownBlock → some j ≠ (Value.slice ba N bc).ownBlock → j ≠ pb → w'.heap[j]? = w.heap[j]?) ∧ w.heap.size ≤ w'.heap.size ∧ Below B0 w0 w' := by
  have hq0 : ∀ (w : World) o, Quiet w (w.alloc o) := fun w o => (Below.refl _ _).alloc (Nat.le_refl _) _
  obtain ⟨i0, hi, hz0, hz1, hz2⟩ := info_parts (show (Tryz.prog.info? 3).map (fun i => (i.zero, i.size, i.bytes)) = some (some (.int .i64 0), 1, 8) by kernel_rfl)
  obtain ⟨i1, hi1, hy0, hy1, hy2⟩ := info_parts (show (Tryz.prog.info? 81).map (fun i => (i.zero, i.size, i.bytes)) = some (some (.slice none 0 0), 1, 24) by kernel_rfl)
  have hxs : xs.length = n * 1 := hl.1
  have hNi : (N : Int) ≤ 100000000 := by omega
  have hni : (n : Int) ≤ 2199023255552 := by omega
  have hlb : ∀ j, (Value.slice a n cap).ownBlock = some j → j < w.heap.size := fun j hj => (own_ge hl j hj).2
  have hpl : ∀ j, (Value.slice a n cap).ownBlock = some j → pb ≠ j := fun j hj => by
    obtain ⟨cs, hc⟩ := own_blk hl hj
    exact Blk.ne hc hb (by decide)
  have hbl : ∀ j, (Value.slice a n cap).ownBlock = some j → (Value.slice ba N bc).ownBlock ≠ some j := fun j hj q => by
    obtain ⟨cs, hc⟩ := own_blk hl hj
    obtain ⟨cs', hc'⟩ := own_blk hbk q
    exact absurd rfl (Blk.ne hc hc' (by decide))
  have hpbk : ∀ j, (Value.slice ba N bc).ownBlock = some j → pb ≠ j := fun j hj => by
    obtain ⟨cs, hc⟩ := own_blk hbk hj
    exact Blk.ne hc hb (by decide)
  have gb := hb.cell
  have zb := hb.lt
  go_enter Tryz.func35, Tryz.ntmps35
  go_wp2
  obtain ⟨K, HK⟩ : ∃ K, Hid (77 + (N : Int) / 4 = K) := ⟨_, rfl⟩
  rw [HK.out]
  go_loopw [5] (fun i wr => ∃ q : Nat, q ≤ n ∧ i = .int .i64 q ∧ wr.ownsRow 0 3 1 (.slice a n cap) n (rep [.int .i64 K] q ++ xs.drop (q * 1)) ∧ (∀ j, some j ≠ (Value.slice a n cap).ownBlock → wr.heap[j]? = w.heap[j]?) ∧ wr.heap.size = w.heap.size ∧ Below B0 w0 wr) (fun i _ => n - (intOf i).toNat)
  case atStart => exact ⟨0, Nat.zero_le _, rfl, by simpa [rep] using hl, fun _ _ => rfl, rfl, hB⟩
  case round =>
    obtain ⟨q, hq, rfl, hown, hfr, hsz, hBr⟩ := hrel
    by_cases hlt : q < n
    · obtain ⟨g, rfl⟩ : ∃ g, a = some ⟨g, 0, none⟩ := by
        rcases hown.2 with ⟨hv, h0⟩ | ⟨g, _, _, hv, _⟩
        · omega
        · simp only [Value.slice.injEq] at hv; exact ⟨g, hv.1⟩
      obtain ⟨cur, hcur⟩ := own_blk hown (k := g) rfl
      have hnext := own_rows (r := [.int .i64 K]) rfl hown hlt hxs
      obtain ⟨u, hu⟩ : ∃ u, wr.cell? ⟨g, q, none⟩ = some u := by
        have hlen : (rep [.int .i64 K] q ++ xs.drop (q * 1)).length = n * 1 := hown.1
        obtain ⟨u, hu⟩ : ∃ u, (rep [.int .i64 K] q ++ xs.drop (q * 1))[q]? = some u := ⟨_, List.getElem?_eq_getElem (by omega)⟩
        have := hown.cells (g := g) rfl q u hu
        refine ⟨u, ?_⟩
        unfold Addr.add at this
        by_cases h0 : q = 0
        · subst h0; simpa using this
        · simpa [h0] using this
      have hf := hcur.frozen
      have hz := hcur.lt
      have hqi : (0 : Int) ≤ (q : Int) := by omega
      have hqj : (q : Int) < (n : Int) := by omega
      have hB2 : Below B0 w0 (wr.setCell ⟨g, q, none⟩ (.int .i64 K)) := Below.setCell (p := ⟨g, q, none⟩) hBr (hl0 g rfl) _
      go_wp2
      go_roundw
      case rel =>
        refine ⟨q + 1, by omega, by go_num, by simpa [World.setCells] using hnext, fun j hj => ?_, by simp [World.setCell, hsz], hB2⟩
        rw [Below.heap_setCell _ _ _ _ (fun e => hj (by rw [e]; rfl))]
        exact hfr j hj
      case measure => simp [intOf]; omega
    · obtain rfl : q = n := by omega
      have hownl : wr.ownsRow 0 3 ([.int .i64 K] : List Value).length (.slice a q cap) q (rep [.int .i64 K] q) := by
        rw [List.drop_eq_nil_of_le (by omega), List.append_nil] at hown
        exact hown
      have hone : ∀ x ∈ ([.int .i64 K] : List Value), x.oneCell' = true := by intro x hx; simp at hx; subst hx; rfl
      obtain ⟨v1, u1, hr1, A1⟩ := after_append (P := Tryz.prog) wr 81 81 3 i0 (.int .i64 0) 8 [.int .i64 K] Tryz.underlying81 hi hz0 hz1 hz2 rfl (by simp) a q cap hownl 1 (by decide) hone (by unfold maxLen; omega) (by omega) #[.int .i64 K] rfl
      obtain ⟨a1, c1, rfl⟩ := own_shape A1.own
      obtain ⟨v2, u2, hr2, A2⟩ := after_append (P := Tryz.prog) u1 81 81 3 i0 (.int .i64 0) 8 [.int .i64 K] Tryz.underlying81 hi hz0 hz1 hz2 rfl (by simp) a q cap A1.ownl 2 (by decide) hone (by unfold maxLen; omega) (by omega) #[.int .i64 K, .int .i64 K] rfl
      obtain ⟨a2, c2, rfl⟩ := own_shape A2.own
      obtain ⟨v3, u3, hr3, A3⟩ := after_append (P := Tryz.prog) u2 81 81 3 i0 (.int .i64 0) 8 [.int .i64 K] Tryz.underlying81 hi hz0 hz1 hz2 rfl (by simp) a q cap A2.ownl 3 (by decide) hone (by unfold maxLen; omega) (by omega) #[.int .i64 K, .int .i64 K, .int .i64 K] rfl
      obtain ⟨a3, c3, rfl⟩ := own_shape A3.own
      have hF := four_of A1 A2 A3 (fun j hj => by rw [hsz]; exact hlb j hj)
      have s1 := A1.size
      have s2 := A2.size
      have s3 := A3.size
      have hfr3 : ∀ j, j < w.heap.size → some j ≠ (Value.slice a q cap).ownBlock → u3.heap[j]? = w.heap[j]? := fun j hj hne =>
        ((A3.fr j (by omega) hne).trans (A2.fr j (by omega) hne)).trans ((A1.fr j (by omega) hne).trans (hfr j hne))
      have hb3 : Blk u3 pb #[lv, .slice ba N bc, av, wv] 34 := by
        unfold Blk; rw [hfr3 pb zb (fun e => hpl pb e.symm rfl)]; exact hb
      have hbk3 : u3.ownsRow 0 81 1 (.slice ba N bc) N vals := own_same hbk (fun j hj => hfr3 j (own_ge hbk j hj).2 (fun e => hbl j e.symm hj))
      have hB3 : Below B0 w0 u3 := A3.bel _ _ (A2.bel _ _ (A1.bel _ _ hBr hl0 (by have := hB.size; have := hb.lt; omega)) hl0 (by have := hb.lt; omega)) hl0 (by have := hb.lt; omega)
      obtain ⟨bv, u4, hr4, q1, _, q3⟩ := append_mk (P := Tryz.prog) (u3.alloc (.cells #[.slice a q cap, .slice a1 (q + 1) c1, .slice a2 (q + 2) c2, .slice a3 (q + 3) c3] 81)) 30 30 81 i1 (.slice none 0 0) 1 24 Tryz.underlying30 hi1 hy0 hy1 hy2 rfl (by decide) ba N bc vals (own_quiet hbk3 (hq0 _ _)) ⟨u3.heap.size, 0, none⟩ 4 4 (by decide) [.slice a q cap, .slice a1 (q + 1) c1, .slice a2 (q + 2) c2, .slice a3 (q + 3) c3] rfl (World.news_of_block (heap_alloc_new u3 (.cells #[.slice a q cap, .slice a1 (q + 1) c1, .slice a2 (q + 2) c2, .slice a3 (q + 3) c3] 81))) (by intro x hx; simp at hx; rcases hx with rfl | rfl | rfl | rfl <;> rfl) (by unfold maxLen; omega) (by omega)
      obtain ⟨ba', bc', rfl⟩ := own_shape q1
      have q3' : (∀ j, j < u3.heap.size → some j ≠ (Value.slice ba N bc).ownBlock → u4.heap[j]? = u3.heap[j]?) ∧ u3.heap.size ≤ u4.heap.size ∧ Below B0 w0 u4 ∧ (∀ j, (Value.slice ba' (N + 4) bc').ownBlock = some j → (Value.slice ba N bc).ownBlock = some j ∨ u3.heap.size ≤ j) := by
        have hqa := hq0 u3 (.cells #[.slice a q cap, .slice a1 (q + 1) c1, .slice a2 (q + 2) c2, .slice a3 (q + 3) c3] 81)
        have hBa : Below B0 w0 (u3.alloc (.cells #[.slice a q cap, .slice a1 (q + 1) c1, .slice a2 (q + 2) c2, .slice a3 (q + 3) c3] 81)) := hB3.alloc (by have := hb3.lt; omega) _
        rcases q3 with ⟨g, rfl, e2, e3⟩ | ⟨c', e1, e2, _⟩
        · refine ⟨fun j hj hne => (e3.block j (by simp; omega) (by simpa [Value.ownBlock] using hne)).trans (hqa.block j hj), by have := e3.size; simp at this; omega, Below.grown hBa e3 (by have := hb3.lt; simp; omega) (fun j hj => hb0 j (by simpa [Value.ownBlock] using hj)), fun j hj => .inl ?_⟩
          simp only [Value.slice.injEq] at e2
          rw [e2.1] at hj
          exact hj
        · refine ⟨fun j hj _ => (e2.block j (by simp; omega) (by simp)).trans (hqa.block j hj), by have := e2.size; simp at this; omega, Below.grown hBa e2 (by have := hb3.lt; simp; omega) (fun j hj => by simp at hj), fun j hj => .inr ?_⟩
          simp only [Value.slice.injEq] at e1
          rw [e1.1] at hj
          simp [Value.ownBlock] at hj
          omega
      obtain ⟨f4, s4, hB4, hnb⟩ := q3'
      clear q3
      have hb4 : Blk u4 pb #[lv, .slice ba N bc, av, wv] 34 := by
        unfold Blk; rw [f4 pb hb3.lt (fun e => hpbk pb e.symm rfl)]; exact hb3
      have g3 := hb3.cell
      have z3 := hb3.lt
      have g4 := hb4.cell
      have z4 := hb4.lt
      have x4 := hb4.frozen
      have HSZ : Hid (wr.heap.size = w.heap.size) := hsz
      clear gb zb hsz hxs hown hfr
      have HR1 : Hid _ := hr1
      have HR2 : Hid _ := hr2
      have HR3 : Hid _ := hr3
      have HR4 : Hid _ := hr4
      clear hr1 hr2 hr3 hr4
      go_upto_region 6 with (at_builtin; refine wpList_append_run rfl _ _ 81 rfl (.slice a q cap) (.slice (some ⟨wr.heap.size, 0, none⟩) 1 1) rfl rfl _ _ HR1.out ?_)
      go_upto_region 7 with (at_builtin; refine wpList_append_run rfl _ _ 81 rfl (.slice a q cap) (.slice (some ⟨u1.heap.size, 0, none⟩) 2 2) rfl rfl _ _ HR2.out ?_)
      go_upto_region 8 with (at_builtin; refine wpList_append_run rfl _ _ 81 rfl (.slice a q cap) (.slice (some ⟨u2.heap.size, 0, none⟩) 3 3) rfl rfl _ _ HR3.out ?_)
      go_wp2_with (at_builtin; refine wpList_append_run rfl _ _ 30 rfl (.slice ba N bc) (.slice (some ⟨u3.heap.size, 0, none⟩) 4 4) rfl rfl _ _ HR4.out ?_)
      have hkeep : ∀ k cs, Blk u3 k cs 3 → (u4.setCell ⟨pb, 1, none⟩ (.slice ba' (N + 4) bc')).heap[k]? = u3.heap[k]? := fun k cs hk => by
        rw [Below.heap_setCell _ _ _ _ (Blk.ne hb3 hk (by decide))]
        refine f4 k hk.lt (fun e => ?_)
        obtain ⟨cs', hc'⟩ := own_blk hbk3 e.symm
        exact absurd rfl (Blk.ne hk hc' (by decide))
      have hfull : ∀ v, Full 3 [.int .i64 K] u3 v → Full 3 [.int .i64 K] (u4.setCell ⟨pb, 1, none⟩ (.slice ba' (N + 4) bc')) v := fun v hv => by
        obtain ⟨x, y, z, rfl, ho⟩ := hv
        exact Full.keep (Full.of ho) (fun j hj => by obtain ⟨cs, hc⟩ := own_blk ho hj; exact hkeep j cs hc)
      have hsz := HSZ.out
      refine bodyPost_end (v := .tuple #[]) (by simp [results, Tryz.results35, go_sem]) rfl ⟨.slice a1 (q + 1) c1, .slice a2 (q + 2) c2, .slice a3 (q + 3) c3, ba', bc', rfl, ?_, by simpa using hb4.set 1 (.slice ba' (N + 4) bc'), ?_, ?_, ?_, ?_, ?_⟩
      · rw [HK.out]
        exact ⟨hfull _ hF.f0, hfull _ hF.f1, hfull _ hF.f2, hfull _ hF.f3, by rw [← hsz]; exact hF.b1, by rw [← hsz]; exact hF.b2, by rw [← hsz]; exact hF.b3⟩
      · exact own_same q1 (fun j hj => Below.heap_setCell _ _ _ _ (fun e => by
          subst e
          obtain ⟨cs', hc'⟩ := own_blk q1 hj
          exact absurd rfl (Blk.ne hb4 hc' (by decide))))
      · intro j hj
        rcases hnb j hj with h | h
        · exact .inl h
        · exact .inr (by omega)
      · intro j hj h1 h2 h3
        rw [Below.heap_setCell _ _ _ _ h3, f4 j (by omega) h2]
        exact hfr3 j hj h1
      · simp [World.setCell]; omega
      · exact Below.setCell (p := ⟨pb, 1, none⟩) hB4 hpb _

end Go.Proofs.YtgcjlgaapiefiabGreat

/-
  The book of marks: Marked.ledger, walked (made by mkfs5.py).
-/
namespace Go.Proofs.YtgcjlgaapiefiabGreat
open Go.RowKit Go.Sort

theorem heap_setCells {g j : Nat} (hj : j ≠ g) : ∀ (vs : List Value) (o : Nat) {w : World}, (w.setCells g o vs).heap[j]? = w.heap[j]?
  | [], _, _ => rfl
  | v :: r, o, w => by rw [World.setCells, heap_setCells hj r (o + 1), Below.heap_setCell _ _ _ _ hj]
theorem size_setCells {g : Nat} : ∀ (vs : List Value) (o : Nat) {w : World}, (w.setCells g o vs).heap.size = w.heap.size
  | [], _, _ => rfl
  | v :: r, o, w => by rw [World.setCells, size_setCells r (o + 1)]; simp [World.setCell]

set_option maxRecDepth 100000 in
set_option maxHeartbeats 2000000 in
theorem ledger_any (w0 w : World) (B0 pb : Nat) (bv av wv : Value) (ba : Option Addr) (N bc : Nat) (vals : List Value) (hb : Blk w pb #[.slice ba N bc, bv, av, wv] 34) (hbk : w.ownsRow 0 76 1 (.slice ba N bc) N vals)
    (a : Option Addr) (n cap : Nat) (xs : List Value) (hl : w.ownsRow 0 92 3 (.slice a n cap) n xs) (hn : n ≤ 2199023255552) (hN : N ≤ 100000000) (hB : Below B0 w0 w) (hpb : B0 ≤ pb) (hl0 : ∀ k, (Value.slice a n cap).ownBlock = some k → B0 ≤ k) (hb0 : ∀ k, (Value.slice ba N bc).ownBlock = some k → B0 ≤ k) :
    Calls Tryz.prog 33 #[.pointer (some ⟨pb, 0, none⟩), .slice a n cap] w fun e w' => ∃ v1 v2 v3 ba' bc', e = .returned (.tuple #[]) ∧ Four 92 [.int .i64 (77 + (N : Int) / 4), .int .i64 (77 + (N : Int) / 4), .int .i64 (77 + (N : Int) / 4)] w w' (.slice a n cap) v1 v2 v3 ∧ Blk w' pb #[.slice ba' (N + 4) bc', bv, av, wv] 34 ∧
      w'.ownsRow 0 76 1 (.slice ba' (N + 4) bc') (N + 4) (vals ++ [.slice a n cap, v1, v2, v3]) ∧ (∀ j, (Value.slice ba' (N + 4) bc').ownBlock = some j → (Value.slice ba N bc).ownBlock = some j ∨ w.heap.size ≤ j) ∧
      (∀ j, j < w.heap.size → some j ≠ (Value.slice a n cap).ownBlock → some j ≠ (Value.slice ba N bc).ownBlock → j ≠ pb → w'.heap[j]? = w.heap[j]?) ∧ w.heap.size ≤ w'.heap.size ∧ Below B0 w0 w' := by
  have hq0 : ∀ (w : World) o, Quiet w (w.alloc o) := fun w o => (Below.refl _ _).alloc (Nat.le_refl _) _
  obtain ⟨i0, hi, hz0, hz1, hz2⟩ := info_parts (show (Tryz.prog.info? 92).map (fun i => (i.zero, i.size, i.bytes)) = some (some (.agg #[.int .i64 0, .int .i64 0, .int .i64 0]), 3, 24) by kernel_rfl)
  obtain ⟨i1, hi1, hy0, hy1, hy2⟩ := info_parts (show (Tryz.prog.info? 76).map (fun i => (i.zero, i.size, i.bytes)) = some (some (.slice none 0 0), 1, 24) by kernel_rfl)
  have hxs : xs.length = n * 3 := hl.1
  have hNi : (N : Int) ≤ 100000000 := by omega
  have hni : (n : Int) ≤ 2199023255552 := by omega
  have hlb : ∀ j, (Value.slice a n cap).ownBlock = some j → j < w.heap.size := fun j hj => (own_ge hl j hj).2
  have hpl : ∀ j, (Value.slice a n cap).ownBlock = some j → pb ≠ j := fun j hj => by
    obtain ⟨cs, hc⟩ := own_blk hl hj
    exact Blk.ne hc hb (by decide)
  have hbl : ∀ j, (Value.slice a n cap).ownBlock = some j → (Value.slice ba N bc).ownBlock ≠ some j := fun j hj q => by
    obtain ⟨cs, hc⟩ := own_blk hl hj
    obtain ⟨cs', hc'⟩ := own_blk hbk q
    exact absurd rfl (Blk.ne hc hc' (by decide))
  have hpbk : ∀ j, (Value.slice ba N bc).ownBlock = some j → pb ≠ j := fun j hj => by
    obtain ⟨cs, hc⟩ := own_blk hbk hj
    exact Blk.ne hc hb (by decide)
  have gb := hb.cell
  have zb := hb.lt
  go_enter Tryz.func33, Tryz.ntmps33
  go_upto_region 2 with (fail)
  obtain ⟨K, HK⟩ : ∃ K, Hid (77 + (N : Int) / 4 = K) := ⟨_, rfl⟩
  rw [HK.out]
  refine wp_gen (fun V => Blk V w.heap.size #[.int .i64 K, .int .i64 K, .int .i64 K] 92 ∧ Quiet w V ∧ Below B0 w0 V ∧ Hid (V.heap.size = w.heap.size + 1)) ⟨Blk.new' rfl, hq0 _ _, hB.alloc (by omega) _, by show _ = _; simp⟩ ?_
  rintro V ⟨be, hqV, hBV, HVS⟩
  have hlV := own_quiet hl hqV
  go_wp2
  go_loopw [6] (fun i wr => ∃ q : Nat, q ≤ n ∧ i = .int .i64 q ∧ wr.ownsRow 0 92 3 (.slice a n cap) n (rep [.int .i64 K, .int .i64 K, .int .i64 K] q ++ xs.drop (q * 3)) ∧ (∀ j, some j ≠ (Value.slice a n cap).ownBlock → wr.heap[j]? = V.heap[j]?) ∧ Hid (wr.heap.size = V.heap.size) ∧ Below B0 w0 wr) (fun i _ => n - (intOf i).toNat)
  case atStart => exact ⟨0, Nat.zero_le _, rfl, by simpa [rep] using hlV, fun _ _ => rfl, rfl, hBV⟩
  case round =>
    obtain ⟨q, hq, rfl, hown, hfr, HSZ0, hBr⟩ := hrel
    have hne0 : some w.heap.size ≠ (Value.slice a n cap).ownBlock := fun e => by have := hlb _ e.symm; omega
    have ber : Blk wr w.heap.size #[.int .i64 K, .int .i64 K, .int .i64 K] 92 := by unfold Blk; rw [hfr _ hne0]; exact be
    have ger := ber.cell
    have zer := ber.lt
    by_cases hlt : q < n
    · obtain ⟨g, rfl⟩ : ∃ g, a = some ⟨g, 0, none⟩ := by
        rcases hown.2 with ⟨hv, h0⟩ | ⟨g, _, _, hv, _⟩
        · omega
        · simp only [Value.slice.injEq] at hv; exact ⟨g, hv.1⟩
      obtain ⟨cur, hcur⟩ := own_blk hown (k := g) rfl
      have hnext := own_rows (r := [.int .i64 K, .int .i64 K, .int .i64 K]) rfl hown hlt hxs
      have hcell : ∀ c, c < 3 → ∃ u, wr.cell? ⟨g, q * 3 + c, none⟩ = some u := fun c hc => by
        have hlen : (rep [.int .i64 K, .int .i64 K, .int .i64 K] q ++ xs.drop (q * 3)).length = n * 3 := hown.1
        obtain ⟨u, hu⟩ : ∃ u, (rep [.int .i64 K, .int .i64 K, .int .i64 K] q ++ xs.drop (q * 3))[q * 3 + c]? = some u := ⟨_, List.getElem?_eq_getElem (by omega)⟩
        have := hown.cells (g := g) rfl (q * 3 + c) u hu
        refine ⟨u, ?_⟩
        unfold Addr.add at this
        split at this
        · rename_i h0; rw [h0]; exact this
        · simpa using this
      obtain ⟨u0', hu0⟩ := hcell 0 (by omega)
      obtain ⟨u1', hu1⟩ := hcell 1 (by omega)
      obtain ⟨u2', hu2⟩ := hcell 2 (by omega)
      simp only [Nat.add_zero] at hu0
      have hf := hcur.frozen
      have hz := hcur.lt
      have hqi : (0 : Int) ≤ (q : Int) := by omega
      have hqj : (q : Int) < (n : Int) := by omega
      have hB2 : Below B0 w0 (wr.setCells g (q * 3) [.int .i64 K, .int .i64 K, .int .i64 K]) := Below.setCells (hl0 g rfl) _ _ hBr
      have hgne : g ≠ w.heap.size := fun e => by have := hlb g rfl; omega
      have hgne2 : w.heap.size ≠ g := fun e => hgne e.symm
      go_wp2
      go_roundw
      case rel =>
        refine ⟨q + 1, by omega, by go_num, hnext, fun j hj => ?_, ?_, hB2⟩
        · have hjg : j ≠ g := fun e => hj (by rw [e]; rfl)
          show (wr.setCells g (q * 3) [.int .i64 K, .int .i64 K, .int .i64 K]).heap[j]? = _
          exact (heap_setCells hjg _ _).trans (hfr j hj)
        · show (wr.setCells g (q * 3) [.int .i64 K, .int .i64 K, .int .i64 K]).heap.size = _
          exact (size_setCells _ _).trans HSZ0.out
      case measure => simp [intOf]; omega
    · obtain rfl : q = n := by omega
      have hownl : wr.ownsRow 0 92 ([.int .i64 K, .int .i64 K, .int .i64 K] : List Value).length (.slice a q cap) q (rep [.int .i64 K, .int .i64 K, .int .i64 K] q) := by
        rw [List.drop_eq_nil_of_le (by omega), List.append_nil] at hown
        exact hown
      have hone : ∀ x ∈ ([.int .i64 K, .int .i64 K, .int .i64 K] : List Value), x.oneCell' = true := by intro x hx; simp at hx; subst hx; rfl
      obtain ⟨v1, u1, hr1, A1⟩ := after_append (P := Tryz.prog) wr 76 76 92 i0 (.agg #[.int .i64 0, .int .i64 0, .int .i64 0]) 24 [.int .i64 K, .int .i64 K, .int .i64 K] Tryz.underlying76 hi hz0 hz1 hz2 rfl (by simp) a q cap hownl 1 (by decide) hone (by unfold maxLen; omega) (by omega) #[.int .i64 K, .int .i64 K, .int .i64 K] rfl
      obtain ⟨a1, c1, rfl⟩ := own_shape A1.own
      obtain ⟨v2, u2, hr2, A2⟩ := after_append (P := Tryz.prog) u1 76 76 92 i0 (.agg #[.int .i64 0, .int .i64 0, .int .i64 0]) 24 [.int .i64 K, .int .i64 K, .int .i64 K] Tryz.underlying76 hi hz0 hz1 hz2 rfl (by simp) a q cap A1.ownl 2 (by decide) hone (by unfold maxLen; omega) (by omega) #[.int .i64 K, .int .i64 K, .int .i64 K, .int .i64 K, .int .i64 K, .int .i64 K] rfl
      obtain ⟨a2, c2, rfl⟩ := own_shape A2.own
      obtain ⟨v3, u3, hr3, A3⟩ := after_append (P := Tryz.prog) u2 76 76 92 i0 (.agg #[.int .i64 0, .int .i64 0, .int .i64 0]) 24 [.int .i64 K, .int .i64 K, .int .i64 K] Tryz.underlying76 hi hz0 hz1 hz2 rfl (by simp) a q cap A2.ownl 3 (by decide) hone (by unfold maxLen; omega) (by omega) #[.int .i64 K, .int .i64 K, .int .i64 K, .int .i64 K, .int .i64 K, .int .i64 K, .int .i64 K, .int .i64 K, .int .i64 K] rfl
      obtain ⟨a3, c3, rfl⟩ := own_shape A3.own
      have hF := four_of A1 A2 A3 (fun j hj => by rw [HSZ0.out, HVS.out]; have := hlb j hj; omega)
      have hsz1 := HSZ0.out
      have hsz2 := HVS.out
      have s1 := A1.size
      have s2 := A2.size
      have s3 := A3.size
      have hfr3 : ∀ j, j < w.heap.size → some j ≠ (Value.slice a q cap).ownBlock → u3.heap[j]? = w.heap[j]? := fun j hj hne =>
        ((A3.fr j (by omega) hne).trans (A2.fr j (by omega) hne)).trans ((A1.fr j (by omega) hne).trans ((hfr j hne).trans (hqV.block j hj)))
      have hb3 : Blk u3 pb #[.slice ba N bc, bv, av, wv] 34 := by
        unfold Blk; rw [hfr3 pb zb (fun e => hpl pb e.symm rfl)]; exact hb
      have hbk3 : u3.ownsRow 0 76 1 (.slice ba N bc) N vals := own_same hbk (fun j hj => hfr3 j (own_ge hbk j hj).2 (fun e => hbl j e.symm hj))
      have hB3 : Below B0 w0 u3 := A3.bel _ _ (A2.bel _ _ (A1.bel _ _ hBr hl0 (by have := hB.size; have := hb.lt; omega)) hl0 (by have := hb.lt; omega)) hl0 (by have := hb.lt; omega)
      obtain ⟨bv, u4, hr4, q1, _, q3⟩ := append_mk (P := Tryz.prog) (u3.alloc (.cells #[.slice a q cap, .slice a1 (q + 1) c1, .slice a2 (q + 2) c2, .slice a3 (q + 3) c3] 76)) 29 29 76 i1 (.slice none 0 0) 1 24 Tryz.underlying29 hi1 hy0 hy1 hy2 rfl (by decide) ba N bc vals (own_quiet hbk3 (hq0 _ _)) ⟨u3.heap.size, 0, none⟩ 4 4 (by decide) [.slice a q cap, .slice a1 (q + 1) c1, .slice a2 (q + 2) c2, .slice a3 (q + 3) c3] rfl (World.news_of_block (heap_alloc_new u3 (.cells #[.slice a q cap, .slice a1 (q + 1) c1, .slice a2 (q + 2) c2, .slice a3 (q + 3) c3] 76))) (by intro x hx; simp at hx; rcases hx with rfl | rfl | rfl | rfl <;> rfl) (by unfold maxLen; omega) (by omega)
      obtain ⟨ba', bc', rfl⟩ := own_shape q1
      have q3' : (∀ j, j < u3.heap.size → some j ≠ (Value.slice ba N bc).ownBlock → u4.heap[j]? = u3.heap[j]?) ∧ u3.heap.size ≤ u4.heap.size ∧ Below B0 w0 u4 ∧ (∀ j, (Value.slice ba' (N + 4) bc').ownBlock = some j → (Value.slice ba N bc).ownBlock = some j ∨ u3.heap.size ≤ j) := by
        have hqa := hq0 u3 (.cells #[.slice a q cap, .slice a1 (q + 1) c1, .slice a2 (q + 2) c2, .slice a3 (q + 3) c3] 76)
        have hBa : Below B0 w0 (u3.alloc (.cells #[.slice a q cap, .slice a1 (q + 1) c1, .slice a2 (q + 2) c2, .slice a3 (q + 3) c3] 76)) := hB3.alloc (by have := hb3.lt; omega) _
        rcases q3 with ⟨g, rfl, e2, e3⟩ | ⟨c', e1, e2, _⟩
        · refine ⟨fun j hj hne => (e3.block j (by simp; omega) (by simpa [Value.ownBlock] using hne)).trans (hqa.block j hj), by have := e3.size; simp at this; omega, Below.grown hBa e3 (by have := hb3.lt; simp; omega) (fun j hj => hb0 j (by simpa [Value.ownBlock] using hj)), fun j hj => .inl ?_⟩
          simp only [Value.slice.injEq] at e2
          rw [e2.1] at hj
          exact hj
        · refine ⟨fun j hj _ => (e2.block j (by simp; omega) (by simp)).trans (hqa.block j hj), by have := e2.size; simp at this; omega, Below.grown hBa e2 (by have := hb3.lt; simp; omega) (fun j hj => by simp at hj), fun j hj => .inr ?_⟩
          simp only [Value.slice.injEq] at e1
          rw [e1.1] at hj
          simp [Value.ownBlock] at hj
          omega
      obtain ⟨f4, s4, hB4, hnb⟩ := q3'
      clear q3
      have hb4 : Blk u4 pb #[.slice ba N bc, bv, av, wv] 34 := by
        unfold Blk; rw [f4 pb hb3.lt (fun e => hpbk pb e.symm rfl)]; exact hb3
      have g3 := hb3.cell
      have z3 := hb3.lt
      have g4 := hb4.cell
      have z4 := hb4.lt
      have x4 := hb4.frozen
      have hne1 : some w.heap.size ≠ (Value.slice a q cap).ownBlock := hne0
      have be1 : Blk u1 w.heap.size #[.int .i64 K, .int .i64 K, .int .i64 K] 92 := by unfold Blk; rw [A1.fr _ (by omega) hne1]; exact ber
      have be2 : Blk u2 w.heap.size #[.int .i64 K, .int .i64 K, .int .i64 K] 92 := by unfold Blk; rw [A2.fr _ (by omega) hne1]; exact be1
      have ge1 := be1.cell
      have ze1 := be1.lt
      have ge2 := be2.cell
      have ze2 := be2.lt
      clear gb zb hsz1 hsz2 hxs hown hfr
      have HR1 : Hid _ := hr1
      have HR2 : Hid _ := hr2
      have HR3 : Hid _ := hr3
      have HR4 : Hid _ := hr4
      clear hr1 hr2 hr3 hr4
      go_upto_region 7 with (at_builtin; refine wpList_append_run rfl _ _ 76 rfl (.slice a q cap) (.slice (some ⟨wr.heap.size, 0, none⟩) 1 1) rfl rfl _ _ HR1.out ?_)
      go_upto_region 8 with (at_builtin; refine wpList_append_run rfl _ _ 76 rfl (.slice a q cap) (.slice (some ⟨u1.heap.size, 0, none⟩) 2 2) rfl rfl _ _ HR2.out ?_)
      go_upto_region 9 with (at_builtin; refine wpList_append_run rfl _ _ 76 rfl (.slice a q cap) (.slice (some ⟨u2.heap.size, 0, none⟩) 3 3) rfl rfl _ _ HR3.out ?_)
      go_wp2_with (at_builtin; refine wpList_append_run rfl _ _ 29 rfl (.slice ba N bc) (.slice (some ⟨u3.heap.size, 0, none⟩) 4 4) rfl rfl _ _ HR4.out ?_)
      have hkeep : ∀ k cs, Blk u3 k cs 92 → (u4.setCell ⟨pb, 0, none⟩ (.slice ba' (N + 4) bc')).heap[k]? = u3.heap[k]? := fun k cs hk => by
        rw [Below.heap_setCell _ _ _ _ (Blk.ne hb3 hk (by decide))]
        refine f4 k hk.lt (fun e => ?_)
        obtain ⟨cs', hc'⟩ := own_blk hbk3 e.symm
        exact absurd rfl (Blk.ne hk hc' (by decide))
      have hfull : ∀ v, Full 92 [.int .i64 K, .int .i64 K, .int .i64 K] u3 v → Full 92 [.int .i64 K, .int .i64 K, .int .i64 K] (u4.setCell ⟨pb, 0, none⟩ (.slice ba' (N + 4) bc')) v := fun v hv => by
        obtain ⟨x, y, z, rfl, ho⟩ := hv
        exact Full.keep (Full.of ho) (fun j hj => by obtain ⟨cs, hc⟩ := own_blk ho hj; exact hkeep j cs hc)
      have hsz := HSZ0.out
      have hszV := HVS.out
      refine bodyPost_end (v := .tuple #[]) (by simp [results, Tryz.results33, go_sem]) rfl ⟨.slice a1 (q + 1) c1, .slice a2 (q + 2) c2, .slice a3 (q + 3) c3, ba', bc', rfl, ?_, by simpa using hb4.set 0 (.slice ba' (N + 4) bc'), ?_, ?_, ?_, ?_, ?_⟩
      · rw [HK.out]
        exact ⟨hfull _ hF.f0, hfull _ hF.f1, hfull _ hF.f2, hfull _ hF.f3, fun j hj => (hF.b1 j hj).imp id (fun h => by omega), fun j hj => (hF.b2 j hj).imp id (fun h => by omega), fun j hj => (hF.b3 j hj).imp id (fun h => by omega)⟩
      · exact own_same q1 (fun j hj => Below.heap_setCell _ _ _ _ (fun e => by
          subst e
          obtain ⟨cs', hc'⟩ := own_blk q1 hj
          exact absurd rfl (Blk.ne hb4 hc' (by decide))))
      · intro j hj
        rcases hnb j hj with h | h
        · exact .inl h
        · exact .inr (by omega)
      · intro j hj h1 h2 h3
        rw [Below.heap_setCell _ _ _ _ h3, f4 j (by omega) h2]
        exact hfr3 j hj h1
      · simp [World.setCell]; omega
      · exact Below.setCell (p := ⟨pb, 0, none⟩) hB4 hpb _

end Go.Proofs.YtgcjlgaapiefiabGreat

/-
  The book of marks: Marked.answers, walked (made by mkfs5.py).
-/
namespace Go.Proofs.YtgcjlgaapiefiabGreat
open Go.RowKit Go.Sort

set_option maxRecDepth 100000 in
set_option maxHeartbeats 2000000 in
theorem answersB_any (w0 w : World) (B0 pb : Nat) (lv bv wv : Value) (ba : Option Addr) (N bc : Nat) (vals : List Value) (hb : Blk w pb #[lv, bv, .slice ba N bc, wv] 34) (hbk : w.ownsRow 0 53 1 (.slice ba N bc) N vals)
    (a : Option Addr) (n cap : Nat) (xs : List Value) (hl : w.ownsRow 0 86 4 (.slice a n cap) n xs) (hn : n ≤ 2199023255552) (hN : N ≤ 100000000) (hB : Below B0 w0 w) (hpb : B0 ≤ pb) (hl0 : ∀ k, (Value.slice a n cap).ownBlock = some k → B0 ≤ k) (hb0 : ∀ k, (Value.slice ba N bc).ownBlock = some k → B0 ≤ k) :
    Calls Tryz.prog 18 #[.pointer (some ⟨pb, 0, none⟩), .slice a n cap] w fun e w' => ∃ v1 v2 v3 ba' bc', e = .returned (.tuple #[]) ∧ Four 86 [.int .i64 0, .int .i64 (77 + (N : Int) / 4), .int .i64 0, .int .i64 0] w w' (.slice a n cap) v1 v2 v3 ∧ Blk w' pb #[lv, bv, .slice ba' (N + 4) bc', wv] 34 ∧
      w'.ownsRow 0 53 1 (.slice ba' (N + 4) bc') (N + 4) (vals ++ [.slice a n cap, v1, v2, v3]) ∧ (∀ j, (Value.slice ba' (N + 4) bc').ownBlock = some j → (Value.slice ba N bc).ownBlock = some j ∨ w.heap.size ≤ j) ∧
      (∀ j, j < w.heap.size → some j ≠ (Value.slice a n cap).ownBlock → some j ≠ (Value.slice ba N bc).ownBlock → j ≠ pb → w'.heap[j]? = w.heap[j]?) ∧ w.heap.size ≤ w'.heap.size ∧ Below B0 w0 w' := by
  have hq0 : ∀ (w : World) o, Quiet w (w.alloc o) := fun w o => (Below.refl _ _).alloc (Nat.le_refl _) _
  obtain ⟨i0, hi, hz0, hz1, hz2⟩ := info_parts (show (Tryz.prog.info? 86).map (fun i => (i.zero, i.size, i.bytes)) = some (some (.agg #[.int .i64 0, .int .i64 0, .int .i64 0, .int .i64 0]), 4, 32) by kernel_rfl)
  obtain ⟨i1, hi1, hy0, hy1, hy2⟩ := info_parts (show (Tryz.prog.info? 53).map (fun i => (i.zero, i.size, i.bytes)) = some (some (.slice none 0 0), 1, 24) by kernel_rfl)
  have hxs : xs.length = n * 4 := hl.1
  have hNi : (N : Int) ≤ 100000000 := by omega
  have hni : (n : Int) ≤ 2199023255552 := by omega
  have hlb : ∀ j, (Value.slice a n cap).ownBlock = some j → j < w.heap.size := fun j hj => (own_ge hl j hj).2
  have hpl : ∀ j, (Value.slice a n cap).ownBlock = some j → pb ≠ j := fun j hj => by
    obtain ⟨cs, hc⟩ := own_blk hl hj
    exact Blk.ne hc hb (by decide)
  have hbl : ∀ j, (Value.slice a n cap).ownBlock = some j → (Value.slice ba N bc).ownBlock ≠ some j := fun j hj q => by
    obtain ⟨cs, hc⟩ := own_blk hl hj
    obtain ⟨cs', hc'⟩ := own_blk hbk q
    exact absurd rfl (Blk.ne hc hc' (by decide))
  have hpbk : ∀ j, (Value.slice ba N bc).ownBlock = some j → pb ≠ j := fun j hj => by
    obtain ⟨cs, hc⟩ := own_blk hbk hj
    exact Blk.ne hc hb (by decide)
  have gb := hb.cell
  have zb := hb.lt
  go_enter Tryz.func18, Tryz.ntmps18
  go_upto_region 1 with (fail)
  obtain ⟨K, HK⟩ : ∃ K, Hid (77 + (N : Int) / 4 = K) := ⟨_, rfl⟩
  rw [HK.out]
  refine wp_gen (fun V => Blk V w.heap.size #[.int .i64 0, .int .i64 K, .int .i64 0, .int .i64 0] 86 ∧ Quiet w V ∧ Below B0 w0 V ∧ Hid (V.heap.size = w.heap.size + 1)) ⟨Blk.new' rfl, hq0 _ _, hB.alloc (by omega) _, by show _ = _; simp⟩ ?_
  rintro V ⟨be, hqV, hBV, HVS⟩
  have hlV := own_quiet hl hqV
  go_wp2
  go_loopw [5] (fun i wr => ∃ q : Nat, q ≤ n ∧ i = .int .i64 q ∧ wr.ownsRow 0 86 4 (.slice a n cap) n (rep [.int .i64 0, .int .i64 K, .int .i64 0, .int .i64 0] q ++ xs.drop (q * 4)) ∧ (∀ j, some j ≠ (Value.slice a n cap).ownBlock → wr.heap[j]? = V.heap[j]?) ∧ Hid (wr.heap.size = V.heap.size) ∧ Below B0 w0 wr) (fun i _ => n - (intOf i).toNat)
  case atStart => exact ⟨0, Nat.zero_le _, rfl, by simpa [rep] using hlV, fun _ _ => rfl, rfl, hBV⟩
  case round =>
    obtain ⟨q, hq, rfl, hown, hfr, HSZ0, hBr⟩ := hrel
    have hne0 : some w.heap.size ≠ (Value.slice a n cap).ownBlock := fun e => by have := hlb _ e.symm; omega
    have ber : Blk wr w.heap.size #[.int .i64 0, .int .i64 K, .int .i64 0, .int .i64 0] 86 := by unfold Blk; rw [hfr _ hne0]; exact be
    have ger := ber.cell
    have zer := ber.lt
    by_cases hlt : q < n
    · obtain ⟨g, rfl⟩ : ∃ g, a = some ⟨g, 0, none⟩ := by
        rcases hown.2 with ⟨hv, h0⟩ | ⟨g, _, _, hv, _⟩
        · omega
        · simp only [Value.slice.injEq] at hv; exact ⟨g, hv.1⟩
      obtain ⟨cur, hcur⟩ := own_blk hown (k := g) rfl
      have hnext := own_rows (r := [.int .i64 0, .int .i64 K, .int .i64 0, .int .i64 0]) rfl hown hlt hxs
      have hcell : ∀ c, c < 4 → ∃ u, wr.cell? ⟨g, q * 4 + c, none⟩ = some u := fun c hc => by
        have hlen : (rep [.int .i64 0, .int .i64 K, .int .i64 0, .int .i64 0] q ++ xs.drop (q * 4)).length = n * 4 := hown.1
        obtain ⟨u, hu⟩ : ∃ u, (rep [.int .i64 0, .int .i64 K, .int .i64 0, .int .i64 0] q ++ xs.drop (q * 4))[q * 4 + c]? = some u := ⟨_, List.getElem?_eq_getElem (by omega)⟩
        have := hown.cells (g := g) rfl (q * 4 + c) u hu
        refine ⟨u, ?_⟩
        unfold Addr.add at this
        split at this
        · rename_i h0; rw [h0]; exact this
        · simpa using this
      obtain ⟨u0', hu0⟩ := hcell 0 (by omega)
      obtain ⟨u1', hu1⟩ := hcell 1 (by omega)
      obtain ⟨u2', hu2⟩ := hcell 2 (by omega)
      obtain ⟨u3', hu3⟩ := hcell 3 (by omega)
      simp only [Nat.add_zero] at hu0
      have hf := hcur.frozen
      have hz := hcur.lt
      have hqi : (0 : Int) ≤ (q : Int) := by omega
      have hqj : (q : Int) < (n : Int) := by omega
      have hB2 : Below B0 w0 (wr.setCells g (q * 4) [.int .i64 0, .int .i64 K, .int .i64 0, .int .i64 0]) := Below.setCells (hl0 g rfl) _ _ hBr
      have hgne : g ≠ w.heap.size := fun e => by have := hlb g rfl; omega
      have hgne2 : w.heap.size ≠ g := fun e => hgne e.symm
      go_wp2
      go_roundw
      case rel =>
        refine ⟨q + 1, by omega, by go_num, hnext, fun j hj => ?_, ?_, hB2⟩
        · have hjg : j ≠ g := fun e => hj (by rw [e]; rfl)
          show (wr.setCells g (q * 4) [.int .i64 0, .int .i64 K, .int .i64 0, .int .i64 0]).heap[j]? = _
          exact (heap_setCells hjg _ _).trans (hfr j hj)
        · show (wr.setCells g (q * 4) [.int .i64 0, .int .i64 K, .int .i64 0, .int .i64 0]).heap.size = _
          exact (size_setCells _ _).trans HSZ0.out
      case measure => simp [intOf]; omega
    · obtain rfl : q = n := by omega
      have hownl : wr.ownsRow 0 86 ([.int .i64 0, .int .i64 K, .int .i64 0, .int .i64 0] : List Value).length (.slice a q cap) q (rep [.int .i64 0, .int .i64 K, .int .i64 0, .int .i64 0] q) := by
        rw [List.drop_eq_nil_of_le (by omega), List.append_nil] at hown
        exact hown
      have hone : ∀ x ∈ ([.int .i64 0, .int .i64 K, .int .i64 0, .int .i64 0] : List Value), x.oneCell' = true := by intro x hx; simp at hx; rcases hx with rfl | rfl | rfl | rfl <;> rfl
      obtain ⟨v1, u1, hr1, A1⟩ := after_append (P := Tryz.prog) wr 53 53 86 i0 (.agg #[.int .i64 0, .int .i64 0, .int .i64 0, .int .i64 0]) 32 [.int .i64 0, .int .i64 K, .int .i64 0, .int .i64 0] Tryz.underlying53 hi hz0 hz1 hz2 rfl (by simp) a q cap hownl 1 (by decide) hone (by unfold maxLen; omega) (by omega) #[.int .i64 0, .int .i64 K, .int .i64 0, .int .i64 0] rfl
      obtain ⟨a1, c1, rfl⟩ := own_shape A1.own
      obtain ⟨v2, u2, hr2, A2⟩ := after_append (P := Tryz.prog) u1 53 53 86 i0 (.agg #[.int .i64 0, .int .i64 0, .int .i64 0, .int .i64 0]) 32 [.int .i64 0, .int .i64 K, .int .i64 0, .int .i64 0] Tryz.underlying53 hi hz0 hz1 hz2 rfl (by simp) a q cap A1.ownl 2 (by decide) hone (by unfold maxLen; omega) (by omega) #[.int .i64 0, .int .i64 K, .int .i64 0, .int .i64 0, .int .i64 0, .int .i64 K, .int .i64 0, .int .i64 0] rfl
      obtain ⟨a2, c2, rfl⟩ := own_shape A2.own
      obtain ⟨v3, u3, hr3, A3⟩ := after_append (P := Tryz.prog) u2 53 53 86 i0 (.agg #[.int .i64 0, .int .i64 0, .int .i64 0, .int .i64 0]) 32 [.int .i64 0, .int .i64 K, .int .i64 0, .int .i64 0] Tryz.underlying53 hi hz0 hz1 hz2 rfl (by simp) a q cap A2.ownl 3 (by decide) hone (by unfold maxLen; omega) (by omega) #[.int .i64 0, .int .i64 K, .int .i64 0, .int .i64 0, .int .i64 0, .int .i64 K, .int .i64 0, .int .i64 0, .int .i64 0, .int .i64 K, .int .i64 0, .int .i64 0] rfl
      obtain ⟨a3, c3, rfl⟩ := own_shape A3.own
      have hF := four_of A1 A2 A3 (fun j hj => by rw [HSZ0.out, HVS.out]; have := hlb j hj; omega)
      have hsz1 := HSZ0.out
      have hsz2 := HVS.out
      have s1 := A1.size
      have s2 := A2.size
      have s3 := A3.size
      have hfr3 : ∀ j, j < w.heap.size → some j ≠ (Value.slice a q cap).ownBlock → u3.heap[j]? = w.heap[j]? := fun j hj hne =>
        ((A3.fr j (by omega) hne).trans (A2.fr j (by omega) hne)).trans ((A1.fr j (by omega) hne).trans ((hfr j hne).trans (hqV.block j hj)))
      have hb3 : Blk u3 pb #[lv, bv, .slice ba N bc, wv] 34 := by
        unfold Blk; rw [hfr3 pb zb (fun e => hpl pb e.symm rfl)]; exact hb
      have hbk3 : u3.ownsRow 0 53 1 (.slice ba N bc) N vals := own_same hbk (fun j hj => hfr3 j (own_ge hbk j hj).2 (fun e => hbl j e.symm hj))
      have hB3 : Below B0 w0 u3 := A3.bel _ _ (A2.bel _ _ (A1.bel _ _ hBr hl0 (by have := hB.size; have := hb.lt; omega)) hl0 (by have := hb.lt; omega)) hl0 (by have := hb.lt; omega)
      obtain ⟨bv, u4, hr4, q1, _, q3⟩ := append_mk (P := Tryz.prog) (u3.alloc (.cells #[.slice a q cap, .slice a1 (q + 1) c1, .slice a2 (q + 2) c2, .slice a3 (q + 3) c3] 53)) 31 31 53 i1 (.slice none 0 0) 1 24 Tryz.underlying31 hi1 hy0 hy1 hy2 rfl (by decide) ba N bc vals (own_quiet hbk3 (hq0 _ _)) ⟨u3.heap.size, 0, none⟩ 4 4 (by decide) [.slice a q cap, .slice a1 (q + 1) c1, .slice a2 (q + 2) c2, .slice a3 (q + 3) c3] rfl (World.news_of_block (heap_alloc_new u3 (.cells #[.slice a q cap, .slice a1 (q + 1) c1, .slice a2 (q + 2) c2, .slice a3 (q + 3) c3] 53))) (by intro x hx; simp at hx; rcases hx with rfl | rfl | rfl | rfl <;> rfl) (by unfold maxLen; omega) (by omega)
      obtain ⟨ba', bc', rfl⟩ := own_shape q1
      have q3' : (∀ j, j < u3.heap.size → some j ≠ (Value.slice ba N bc).ownBlock → u4.heap[j]? = u3.heap[j]?) ∧ u3.heap.size ≤ u4.heap.size ∧ Below B0 w0 u4 ∧ (∀ j, (Value.slice ba' (N + 4) bc').ownBlock = some j → (Value.slice ba N bc).ownBlock = some j ∨ u3.heap.size ≤ j) := by
        have hqa := hq0 u3 (.cells #[.slice a q cap, .slice a1 (q + 1) c1, .slice a2 (q + 2) c2, .slice a3 (q + 3) c3] 53)
        have hBa : Below B0 w0 (u3.alloc (.cells #[.slice a q cap, .slice a1 (q + 1) c1, .slice a2 (q + 2) c2, .slice a3 (q + 3) c3] 53)) := hB3.alloc (by have := hb3.lt; omega) _
        rcases q3 with ⟨g, rfl, e2, e3⟩ | ⟨c', e1, e2, _⟩
        · refine ⟨fun j hj hne => (e3.block j (by simp; omega) (by simpa [Value.ownBlock] using hne)).trans (hqa.block j hj), by have := e3.size; simp at this; omega, Below.grown hBa e3 (by have := hb3.lt; simp; omega) (fun j hj => hb0 j (by simpa [Value.ownBlock] using hj)), fun j hj => .inl ?_⟩
          simp only [Value.slice.injEq] at e2
          rw [e2.1] at hj
          exact hj
        · refine ⟨fun j hj _ => (e2.block j (by simp; omega) (by simp)).trans (hqa.block j hj), by have := e2.size; simp at this; omega, Below.grown hBa e2 (by have := hb3.lt; simp; omega) (fun j hj => by simp at hj), fun j hj => .inr ?_⟩
          simp only [Value.slice.injEq] at e1
          rw [e1.1] at hj
          simp [Value.ownBlock] at hj
          omega
      obtain ⟨f4, s4, hB4, hnb⟩ := q3'
      clear q3
      have hb4 : Blk u4 pb #[lv, bv, .slice ba N bc, wv] 34 := by
        unfold Blk; rw [f4 pb hb3.lt (fun e => hpbk pb e.symm rfl)]; exact hb3
      have g3 := hb3.cell
      have z3 := hb3.lt
      have g4 := hb4.cell
      have z4 := hb4.lt
      have x4 := hb4.frozen
      have hne1 : some w.heap.size ≠ (Value.slice a q cap).ownBlock := hne0
      have be1 : Blk u1 w.heap.size #[.int .i64 0, .int .i64 K, .int .i64 0, .int .i64 0] 86 := by unfold Blk; rw [A1.fr _ (by omega) hne1]; exact ber
      have be2 : Blk u2 w.heap.size #[.int .i64 0, .int .i64 K, .int .i64 0, .int .i64 0] 86 := by unfold Blk; rw [A2.fr _ (by omega) hne1]; exact be1
      have ge1 := be1.cell
      have ze1 := be1.lt
      have ge2 := be2.cell
      have ze2 := be2.lt
      clear gb zb hsz1 hsz2 hxs hown hfr
      have HR1 : Hid _ := hr1
      have HR2 : Hid _ := hr2
      have HR3 : Hid _ := hr3
      have HR4 : Hid _ := hr4
      clear hr1 hr2 hr3 hr4
      go_upto_region 6 with (at_builtin; refine wpList_append_run rfl _ _ 53 rfl (.slice a q cap) (.slice (some ⟨wr.heap.size, 0, none⟩) 1 1) rfl rfl _ _ HR1.out ?_)
      go_upto_region 7 with (at_builtin; refine wpList_append_run rfl _ _ 53 rfl (.slice a q cap) (.slice (some ⟨u1.heap.size, 0, none⟩) 2 2) rfl rfl _ _ HR2.out ?_)
      go_upto_region 8 with (at_builtin; refine wpList_append_run rfl _ _ 53 rfl (.slice a q cap) (.slice (some ⟨u2.heap.size, 0, none⟩) 3 3) rfl rfl _ _ HR3.out ?_)
      go_wp2_with (at_builtin; refine wpList_append_run rfl _ _ 31 rfl (.slice ba N bc) (.slice (some ⟨u3.heap.size, 0, none⟩) 4 4) rfl rfl _ _ HR4.out ?_)
      have hkeep : ∀ k cs, Blk u3 k cs 86 → (u4.setCell ⟨pb, 2, none⟩ (.slice ba' (N + 4) bc')).heap[k]? = u3.heap[k]? := fun k cs hk => by
        rw [Below.heap_setCell _ _ _ _ (Blk.ne hb3 hk (by decide))]
        refine f4 k hk.lt (fun e => ?_)
        obtain ⟨cs', hc'⟩ := own_blk hbk3 e.symm
        exact absurd rfl (Blk.ne hk hc' (by decide))
      have hfull : ∀ v, Full 86 [.int .i64 0, .int .i64 K, .int .i64 0, .int .i64 0] u3 v → Full 86 [.int .i64 0, .int .i64 K, .int .i64 0, .int .i64 0] (u4.setCell ⟨pb, 2, none⟩ (.slice ba' (N + 4) bc')) v := fun v hv => by
        obtain ⟨x, y, z, rfl, ho⟩ := hv
        exact Full.keep (Full.of ho) (fun j hj => by obtain ⟨cs, hc⟩ := own_blk ho hj; exact hkeep j cs hc)
      have hsz := HSZ0.out
      have hszV := HVS.out
      refine bodyPost_end (v := .tuple #[]) (by simp [results, Tryz.results18, go_sem]) rfl ⟨.slice a1 (q + 1) c1, .slice a2 (q + 2) c2, .slice a3 (q + 3) c3, ba', bc', rfl, ?_, by simpa using hb4.set 2 (.slice ba' (N + 4) bc'), ?_, ?_, ?_, ?_, ?_⟩
      · rw [HK.out]
        exact ⟨hfull _ hF.f0, hfull _ hF.f1, hfull _ hF.f2, hfull _ hF.f3, fun j hj => (hF.b1 j hj).imp id (fun h => by omega), fun j hj => (hF.b2 j hj).imp id (fun h => by omega), fun j hj => (hF.b3 j hj).imp id (fun h => by omega)⟩
      · exact own_same q1 (fun j hj => Below.heap_setCell _ _ _ _ (fun e => by
          subst e
          obtain ⟨cs', hc'⟩ := own_blk q1 hj
          exact absurd rfl (Blk.ne hb4 hc' (by decide))))
      · intro j hj
        rcases hnb j hj with h | h
        · exact .inl h
        · exact .inr (by omega)
      · intro j hj h1 h2 h3
        rw [Below.heap_setCell _ _ _ _ h3, f4 j (by omega) h2]
        exact hfr3 j hj h1
      · simp [World.setCell]; omega
      · exact Below.setCell (p := ⟨pb, 2, none⟩) hB4 hpb _

end Go.Proofs.YtgcjlgaapiefiabGreat

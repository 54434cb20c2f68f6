import Derived.Test.YtgcjlgaapiefiaaQJwH
import Derived.Test.YtgcjlgaapiefiaaQKwA
import Derived.Test.YtgcjlgaapiefiaaQOpen

/-
  Walks of the statements' own helpers: with, pick.
-/
namespace Go.Proofs.Ytgcjlgaapiefiaa
open Go.RowKit Go.Sort

/-- A slice as Go has it: nil has no room. -/
def SlOk (v : Value) : Prop := v = .slice none 0 0 ∨ ∃ ad n cap, v = .slice (some ad) n cap

theorem flat_cells {w : World} {b m : Nat} : ∀ (xs : List (List Value)) (off : Nat), (∀ x ∈ xs, x.length = m) → (∀ i x, xs[i]? = some x → At w b (off + i * m) x) → ∀ j u, xs.flatten[j]? = some u → w.cell? ⟨b, off + j, none⟩ = some u := by
  intro xs
  induction xs with
  | nil => intro off _ _ j u h; simp at h
  | cons x xs ih =>
    intro off hm h j u hj
    have hx := hm x (by simp)
    rw [List.flatten_cons] at hj
    by_cases hlt : j < x.length
    · rw [List.getElem?_append_left hlt] at hj
      have := h 0 x rfl j u hj
      simpa using this
    · rw [List.getElem?_append_right (by omega)] at hj
      have := ih (off + m) (fun y hy => hm y (by simp [hy])) (fun i y hy => by
        have := h (i + 1) y (by simpa using hy)
        rw [Nat.add_mul, Nat.one_mul, show off + (i * m + m) = off + m + i * m by omega] at this
        exact this) (j - x.length) u hj
      rw [show off + m + (j - x.length) = off + j by omega] at this
      exact this
theorem flat_len7 {m : Nat} : ∀ (xs : List (List Value)), (∀ x ∈ xs, x.length = m) → xs.flatten.length = xs.length * m := by
  intro xs
  induction xs with
  | nil => intro _; simp
  | cons x xs ih =>
    intro hm
    rw [List.flatten_cons, List.length_append, ih (fun y hy => hm y (by simp [hy])), hm x (by simp), List.length_cons, Nat.add_mul]
    omega
theorem Cmds.flat {w : World} {ad : Addr} {n cap : Nat} {l : List Cmd} (h : Cmds w (.slice (some ad) n cap) l) : n = l.length ∧ (cmdVals l).length = n * 7 ∧ ∀ j u, (cmdVals l)[j]? = some u → w.cell? (ad.add j) = some u := by
  obtain ⟨⟨a, cap', h1, h2, h3, h4, h5⟩, _⟩ := h
  simp only [Value.slice.injEq, List.length_map] at h1
  obtain ⟨rfl, rfl, rfl⟩ := h1
  refine ⟨rfl, ?_, ?_⟩
  · unfold cmdVals; rw [flat_len7 _ h4]; simp
  · rcases h5 with h5 | ⟨b, off, h5, h6⟩
    · have : l = [] := by simpa using h5
      subst this
      intro j u hu; simp [cmdVals] at hu
    · simp at h5
      subst h5
      intro j u hu
      have := flat_cells _ off h4 h6 j u hu
      unfold Addr.add
      by_cases hj : j = 0
      · subst hj; simpa using this
      · simpa [hj] using this
theorem cmdVals_one (l : List Cmd) (c : Cmd) : cmdVals (l ++ [c]) = cmdVals l ++ [.int .i64 c.kind, .int .i64 c.inst, .int .i64 c.a, .int .i64 c.b, .int .i64 c.who, .string c.reason, .bool c.dry] := by
  simp [cmdVals, Cmd.cells]
theorem cmdVals_cell (l : List Cmd) : ∀ u ∈ cmdVals l, u.oneCell' = true := by
  intro u hu
  simp only [cmdVals, List.mem_flatten, List.mem_map] at hu
  obtain ⟨cs, ⟨c, _, rfl⟩, hu⟩ := hu
  simp [Cmd.cells] at hu
  rcases hu with rfl | rfl | rfl | rfl | rfl | rfl | rfl <;> rfl

set_option maxRecDepth 100000 in
set_option maxHeartbeats 4000000 in
theorem with_tail (n' : Nat) (l : List Cmd) (c : Cmd) (w : World) (hn : n' = l.length) (hl : l.length ≤ 1099511627775) {v : Value} {w2 : World}
    (hown2 : w2.ownsRow w.heap.size 54 7 v (n' + 1) (cmdVals l ++ [.int .i64 c.kind, .int .i64 c.inst, .int .i64 c.a, .int .i64 c.b, .int .i64 c.who, .string c.reason, .bool c.dry])) :
    ∃ ad n cap, v = .slice (some ad) n cap ∧ Cmds w2 v (l ++ [c]) := by
  obtain ⟨a2, cap2, rfl⟩ := own_shape hown2
  have hc : Cmds w2 (.slice a2 (n' + 1) cap2) (l ++ [c]) := own_cmds (base := w.heap.size) (n := n' + 1) (by rw [cmdVals_one]; exact hown2) (by simp; omega) (by simp; omega)
  rcases own_none hown2 with ⟨_, q, _⟩ | ⟨g, rfl⟩
  · omega
  · exact ⟨_, _, _, rfl, hc⟩

set_option maxRecDepth 100000 in
set_option maxHeartbeats 4000000 in
theorem with_any (v : Value) (l : List Cmd) (c : Cmd) (w : World) (hv : SlOk v) (h : Cmds w v l) (hl : l.length ≤ 1099511627775) :
    Calls Try.prog 30 #[v, c.val] w fun e w' => ∃ ad n cap, e = .returned (.slice (some ad) n cap) ∧ Cmds w' (.slice (some ad) n cap) (l ++ [c]) ∧ Quiet w w' := by
  obtain ⟨i0, hi, hz0, hz1, hz2⟩ := info_parts Try.info54
  have hq0 : ∀ (w : World) o, Quiet w (w.alloc o) := fun w o => (Below.refl _ _).alloc (Nat.le_refl _) _
  unfold Cmd.val
  rcases hv with rfl | ⟨ad, n, cap, rfl⟩
  · have hl0 : l = [] := by have := h.len.1; simpa using this.symm
    subst hl0
    go_enter Try.func30, Try.ntmps30
    go_upto_region 2 with (fail)
    refine wp_gen (fun U => Blk U w.heap.size #[.int .i64 c.kind, .int .i64 c.inst, .int .i64 c.a, .int .i64 c.b, .int .i64 c.who, .string c.reason, .bool c.dry] 54 ∧ Quiet w U) ⟨Blk.new' rfl, hq0 _ _⟩ ?_
    rintro U ⟨bc, hqU⟩
    have gc := bc.cell
    have zc := bc.lt
    go_upto_region 3 with (at_builtin; refine wpList_append_own_none rfl _ _ 29 rfl w.heap.size 54 i0 7 Try.underlying29 hi _ 0 [] rfl (World.ownsRow_nil _ _ _ _) rfl ?_)
    go_wp2_with (at_builtin; refine wpList_append_own _ rfl _ _ 29 rfl w.heap.size 54 i0 (.agg #[.int .i64 0, .int .i64 0, .int .i64 0, .int .i64 0, .int .i64 0, .string ⟨#[]⟩, .bool false]) 7 64 Try.underlying29 hi hz0 hz1 hz2 rfl (by decide) _ _ _ rfl (World.ownsRow_nil _ _ _ _) ⟨U.heap.size, 0, none⟩ 1 1 [.int .i64 c.kind, .int .i64 c.inst, .int .i64 c.a, .int .i64 c.b, .int .i64 c.who, .string c.reason, .bool c.dry] rfl rfl ?c1 ?c2 ?c3 ?c4 ?c5 ?_)
    case c1 =>
      have := World.news_of_block (heap_alloc_new U (.cells #[.int .i64 c.kind, .int .i64 c.inst, .int .i64 c.a, .int .i64 c.b, .int .i64 c.who, .string c.reason, .bool c.dry] 54))
      simpa using this
    case c2 => intro u hu; simp at hu; rcases hu with rfl | rfl | rfl | rfl | rfl | rfl | rfl <;> rfl
    case c3 => unfold maxLen; omega
    case c4 => omega
    case c5 => have := hqU.size; simp; omega
    intro v' w2 hown2 hgrow _
    have hq2 : Quiet w w2 := Below.grown (hqU.alloc hqU.size _) hgrow (by have := hqU.size; simp; omega) (fun k hk => by simp [Value.ownBlock] at hk)
    obtain ⟨ad2, n2, cap2, rfl, hc⟩ := with_tail 0 [] c w rfl (by simp) hown2
    go_wp2
    go_ret
    exact ⟨_, _, _, rfl, hc, hq2⟩
  · obtain ⟨hn, hlen, hcells⟩ := h.flat
    have hn40 : n ≤ 1099511627775 := by omega
    have HN : Hid (n = l.length) := hn
    have HLN : Hid ((cmdVals l).length = n * 7) := hlen
    clear hn hlen
    go_enter Try.func30, Try.ntmps30
    go_upto_region 2 with (fail)
    refine wp_gen (fun U => Blk U w.heap.size #[.int .i64 c.kind, .int .i64 c.inst, .int .i64 c.a, .int .i64 c.b, .int .i64 c.who, .string c.reason, .bool c.dry] 54 ∧ Quiet w U) ⟨Blk.new' rfl, hq0 _ _⟩ ?_
    rintro U ⟨bc, hqU⟩
    have hcu := (h.quiet hqU).flat.2.2
    go_wp2_with (at_builtin; refine wpList_append_own_at _ rfl _ _ 29 rfl w.heap.size 54 i0 (.agg #[.int .i64 0, .int .i64 0, .int .i64 0, .int .i64 0, .int .i64 0, .string ⟨#[]⟩, .bool false]) 7 64 Try.underlying29 hi hz0 hz1 hz2 rfl (by decide) _ 0 [] rfl (World.ownsRow_nil _ _ _ _) ad n cap (cmdVals l) rfl HLN.out hcu (cmdVals_cell l) ?d1 ?d2 ?d3 ?_)
    case d1 => unfold maxLen; omega
    case d2 => omega
    case d3 => exact hqU.size
    intro v1 w1 hown1 hgrow1 _ _
    obtain ⟨a1, cap1, rfl⟩ := own_shape hown1
    try simp only [Nat.zero_add, List.nil_append] at hown1
    have hq1 : Quiet w w1 := Below.grown hqU hgrow1 hqU.size (fun k hk => by simp [Value.ownBlock] at hk)
    have bc1 : Blk w1 w.heap.size #[.int .i64 c.kind, .int .i64 c.inst, .int .i64 c.a, .int .i64 c.b, .int .i64 c.who, .string c.reason, .bool c.dry] 54 := bc.grown hgrow1 (by simp [Value.ownBlock])
    have gc := bc1.cell
    have zc := bc1.lt
    clear bc hgrow1 hcu hcells
    go_wp2_with (at_builtin; refine wpList_append_own _ rfl _ _ 29 rfl w.heap.size 54 i0 (.agg #[.int .i64 0, .int .i64 0, .int .i64 0, .int .i64 0, .int .i64 0, .string ⟨#[]⟩, .bool false]) 7 64 Try.underlying29 hi hz0 hz1 hz2 rfl (by decide) _ _ _ rfl (hown1.alloc _) ⟨w1.heap.size, 0, none⟩ 1 1 [.int .i64 c.kind, .int .i64 c.inst, .int .i64 c.a, .int .i64 c.b, .int .i64 c.who, .string c.reason, .bool c.dry] rfl rfl ?c1 ?c2 ?c3 ?c4 ?c5 ?_)
    case c1 =>
      have := World.news_of_block (heap_alloc_new w1 (.cells #[.int .i64 c.kind, .int .i64 c.inst, .int .i64 c.a, .int .i64 c.b, .int .i64 c.who, .string c.reason, .bool c.dry] 54))
      simpa using this
    case c2 => intro u hu; simp at hu; rcases hu with rfl | rfl | rfl | rfl | rfl | rfl | rfl <;> rfl
    case c3 => unfold maxLen; omega
    case c4 => omega
    case c5 => have := hq1.size; simp; omega
    intro v' w2 hown2 hgrow _
    have hq2 : Quiet w w2 := Below.grown (hq1.alloc hq1.size _) hgrow (by have := hq1.size; simp; omega) (fun k hk => (own_ge hown1 k hk).1)
    obtain ⟨ad2, n2, cap2, rfl, hc⟩ := with_tail n l c w HN.out hl hown2
    go_wp2
    go_ret
    exact ⟨_, _, _, rfl, hc, hq2⟩

set_option maxRecDepth 100000 in
theorem pickK_any (c : Int) (n : Nat) (w : World) (hc : -9223372036854775808 ≤ c ∧ c ≤ 9223372036854775807) (hn : 0 < n) (hm : (n : Int) ≤ 9223372036854775807) :
    Calls Try.prog 32 #[.int .i64 c, .int .i64 n] w fun e w' => (∃ r : Nat, e = .returned (.int .i64 r) ∧ r < n) ∧ w' = w := by
  have hn0 : ¬ ((n : Int) = 0) := by omega
  have key : ∀ x : Int, 0 ≤ x → ∃ r : Nat, x % n = (r : Int) ∧ r < n := by
    intro x h0
    have e2 := Int.emod_nonneg x hn0
    have e3 := Int.emod_lt_of_pos x (show (0 : Int) < n by omega)
    exact ⟨(x % n).toNat, by omega, by omega⟩
  by_cases h0 : c < 0
  · obtain ⟨r, hr, hlt⟩ := key (-(c + 1)) (by omega)
    have ht : -((c + 1).tmod n) = (r : Int) := by rw [← Int.neg_tmod, Int.tmod_eq_emod_of_nonneg (by omega), hr]
    go_enter Try.func32, Try.ntmps32
    go_wp2
    go_ret
    exact ⟨⟨r, by first | exact congrArg (fun z => Ending.returned (Value.int .i64 z)) ht | rfl, hlt⟩, rfl⟩
  · obtain ⟨r, hr, hlt⟩ := key c (by omega)
    go_enter Try.func32, Try.ntmps32
    go_wp2
    go_ret
    exact ⟨⟨r, by first | exact congrArg (fun z => Ending.returned (Value.int .i64 z)) hr | rfl, hlt⟩, rfl⟩

end Go.Proofs.Ytgcjlgaapiefiaa

/-
  How a script is opened: how long it is, against its bulk; a slice as Go has it; a whole number's range.
-/
namespace Go.Proofs.Ytgcjlgaapiefiaa
open Go.ChangeShapes Go.WideShapes Go.ChangeAt Go.RowKit Go.Deep

section
variable {H : Type} {enc : TypeId × Value → H} {w : World} {base : Nat} {spare : Nat → Bool} {held : Bool}

set_option maxRecDepth 100000 in
theorem cmds_open2 {r : Reach} {b0 : Nat} {v : Value} {d : DataW H} {p : List MemPlace} (hv : Value.okWide Try.prog w r b0 29 v) (h : DataW.Trod enc Try.prog w base spare held 29 v d p) (hb : Rows.uptoBulk d ≤ 1048576) :
    ∃ l : List Cmd, Cmds w v l ∧ l.length + 1 ≤ Rows.uptoBulk d ∧ ∀ c ∈ l, c.reason.size ≤ 9223372036854775807 := by
  obtain ⟨va, vn, vc, rfl⟩ := okWide_slice Try.underlying29 hv
  obtain ⟨fuel, hf⟩ := h
  obtain ⟨xs, harr, ⟨n, hrow⟩, hx⟩ := trod_rows Try.underlying29 Try.underlying54 (by kernel_rfl) (by kernel_rfl) (by decide) hf
  obtain ⟨l, rfl, hl⟩ := list_of (g := Cmd.cells) (p := fun c : Cmd => c.reason.size ≤ 9223372036854775807) (xs := xs) (fun cs hcs => by
    have hr := hrow cs hcs
    have hlen : cs.length = 7 := by obtain ⟨_, _, _, _, _, h4, _⟩ := harr; exact h4 cs hcs
    obtain ⟨v0, y0, g0, t0⟩ := hr 0 _ rfl
    obtain ⟨v1, y1, g1, t1⟩ := hr 1 _ rfl
    obtain ⟨v2, y2, g2, t2⟩ := hr 2 _ rfl
    obtain ⟨v3, y3, g3, t3⟩ := hr 3 _ rfl
    obtain ⟨v4, y4, g4, t4⟩ := hr 4 _ rfl
    obtain ⟨v5, y5, g5, t5⟩ := hr 5 _ rfl
    obtain ⟨v6, y6, g6, t6⟩ := hr 6 _ rfl
    obtain ⟨k, e0, _⟩ := DataW.trod_int Try.underlying3 t0
    obtain ⟨i, e1, _⟩ := DataW.trod_int Try.underlying3 t1
    obtain ⟨a, e2, _⟩ := DataW.trod_int Try.underlying3 t2
    obtain ⟨b, e3, _⟩ := DataW.trod_int Try.underlying3 t3
    obtain ⟨o, e4, _⟩ := DataW.trod_int Try.underlying3 t4
    obtain ⟨s, e5, _, hs⟩ := DataW.trod_string Try.underlying9 t5
    obtain ⟨q, e6, _⟩ := DataW.trod_bool Try.underlying4 t6
    simp only [List.cons.injEq, and_true] at e0 e1 e2 e3 e4 e5 e6
    subst e0 e1 e2 e3 e4 e5 e6
    refine ⟨⟨k, i, a, b, o, s, q⟩, ?_, ?_⟩
    · match cs, hlen with
      | [c0, c1, c2, c3, c4, c5, c6], _ => simp at g0 g1 g2 g3 g4 g5 g6; subst g0 g1 g2 g3 g4 g5 g6; rfl
    · exact Nat.le_trans hs (by unfold maxLen; omega))
  have hlen : l.length + 1 ≤ Rows.uptoBulk d := by
    rcases hx with ⟨hx0, hx⟩ | ⟨el, sp, hx, he⟩
    · have : l.length = 0 := by have := congrArg List.length hx; simpa using this
      simp only at hx0
      rw [hx0]
      simp only [Rows.uptoBulk]; omega
    · simp only at hx
      rw [hx]
      have h1 : ∀ es : List (DataW H), es.length ≤ Rows.uptoBulkAll es := by
        intro es
        induction es with
        | nil => simp
        | cons e es ih =>
          have h0 : 1 ≤ Rows.uptoBulk e := by
            cases e with
            | lit l => cases l <;> simp [Rows.uptoBulk]
            | nil => simp [Rows.uptoBulk]
            | ptr d => simp [Rows.uptoBulk]
            | slice elems spare => simp [Rows.uptoBulk]
            | agg parts => simp [Rows.uptoBulk]
            | iface t d => simp [Rows.uptoBulk]
            | map entries => simp [Rows.uptoBulk]
            | held h => simp [Rows.uptoBulk]
          simp only [Rows.uptoBulkAll, List.length_cons]; omega
      have h2 := h1 el
      simp only [Rows.uptoBulk]
      simp at he
      omega
  exact ⟨l, ⟨harr, by omega⟩, hlen, hl⟩

set_option maxRecDepth 100000 in
theorem slOk_of {r : Reach} {b0 : Nat} {v : Value} (hv : Value.okWide Try.prog w r b0 29 v) : SlOk v := by
  obtain ⟨a, n, cap, rfl⟩ := okWide_slice Try.underlying29 hv
  simp only [Value.okWide, Try.underlying29, Cell.okWide] at hv
  cases a with
  | some ad => exact .inr ⟨ad, n, cap, rfl⟩
  | none =>
    unfold Cell.ok at hv
    simp only [Try.underlying29] at hv
    split at hv <;> simp_all [SlOk]
set_option maxRecDepth 100000 in
theorem int_of {r : Reach} {b0 : Nat} {v : Value} (hv : Value.okWide Try.prog w r b0 3 v) : ∃ k, v = .int .i64 k ∧ -9223372036854775808 ≤ k ∧ k ≤ 9223372036854775807 := by
  obtain ⟨k, rfl⟩ := okWide_int Try.underlying3 hv
  refine ⟨k, rfl, ?_⟩
  simp only [Value.okWide, Try.underlying3, Cell.okWide] at hv
  unfold Cell.ok at hv
  simp only [Try.underlying3] at hv
  have e1 : IntKind.i64.min = -9223372036854775808 := by decide
  have e2 : IntKind.i64.max = 9223372036854775807 := by decide
  obtain ⟨h1, h2⟩ := hv.2
  rw [e1] at h1
  rw [e2] at h2
  exact ⟨h1, h2⟩
theorem bulk_one (e : DataW H) : 1 ≤ Rows.uptoBulk e := by
  cases e with
  | lit l => cases l <;> simp [Rows.uptoBulk]
  | nil => simp [Rows.uptoBulk]
  | ptr d => simp [Rows.uptoBulk]
  | slice elems spare => simp [Rows.uptoBulk]
  | agg parts => simp [Rows.uptoBulk]
  | iface t d => simp [Rows.uptoBulk]
  | map entries => simp [Rows.uptoBulk]
  | held h => simp [Rows.uptoBulk]
end

end Go.Proofs.Ytgcjlgaapiefiaa

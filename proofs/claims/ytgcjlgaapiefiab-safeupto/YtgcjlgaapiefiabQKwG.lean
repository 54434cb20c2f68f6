import Derived.Test.YtgcjlgaapiefiabQKwE
import Derived.Test.YtgcjlgaapiefiabQKpB
import Derived.Test.YtgcjlgaapiefiabQKwF

/-
  Walks of the statements' own helpers: calm, accepted.
-/
namespace Go.Proofs.Ytgcjlgaapiefiab
open Go.RowKit Go.Sort

theorem own_slOk {w : World} {base : Nat} {a : Option Addr} {n cap : Nat} {l : List Value} (h : w.ownsRow base 32 7 (.slice a n cap) n l) : SlOk (.slice a n cap) := by
  rcases own_none h with ⟨rfl, rfl, rfl, _⟩ | ⟨g, rfl⟩
  · exact .inl rfl
  · exact .inr ⟨_, _, _, rfl⟩

set_option maxRecDepth 100000 in
set_option maxHeartbeats 1000000 in
theorem calm_any (v : Value) (l : List Cmd) (w : World) (h : Cmds w v l) (hl : l.length ≤ 1099511627776) :
    Calls Try.prog 13 #[v] w fun e w' => ∃ a n cap, e = .returned (.slice a n cap) ∧ SlOk (.slice a n cap) ∧ Cmds w' (.slice a n cap) (calmR l) ∧ Quiet w w' := by
  obtain ⟨i0, hi, hz0, hz1, hz2⟩ := info_parts Try.info32
  obtain ⟨a, n, cap, rfl⟩ := h.1.shape
  obtain ⟨hn, hm⟩ := h.len
  have hn40 : n ≤ 1099511627776 := by omega
  have HN : Hid (n = l.length) := hn
  clear hn
  go_enter Try.func13, Try.ntmps13
  go_wp2
  go_loopw [3, 4] (fun v i wr => ∃ (k : Nat) (a' : Option Addr) (n' cap' : Nat), k ≤ n ∧ i = .int .i64 k ∧ v = .slice a' n' cap' ∧ Hid (n' = (calmR (l.take k)).length) ∧ wr.ownsRow w.heap.size 32 7 (.slice a' n' cap') n' (cmdVals (calmR (l.take k))) ∧ Quiet w wr) (fun _ i _ => n - (intOf i).toNat)
  case atStart => exact ⟨0, none, 0, 0, Nat.zero_le _, rfl, rfl, rfl, World.ownsRow_nil _ _ _ _, Below.refl _ _⟩
  case round =>
    obtain ⟨k, a', n', cap', hk, rfl, rfl, HL, hrow, hqr⟩ := hrel
    by_cases hlt : k < n
    · have hkl : k < l.length := by have := HN.out; omega
      obtain ⟨b, off, rfl, hb, c0, c1, c2, c3, c4, c5, c6⟩ := (h.quiet hqr).cell k hkl
      have hpl := calmR_len (l.take k)
      have hn' : n' ≤ 1099511627776 := by have := HL.out; simp at hpl; omega
      clear hpl
      have HS : Hid (calmR (l.take (k + 1)) = calmStep (calmR (l.take k)) l[k]) := calmR_take _ _ hkl
      generalize l[k] = c at *
      cases u1 : (c.kind != 9)
      · have HS' : Hid (calmR (l.take (k + 1)) = calmR (l.take k)) := by
          show calmR (l.take (k + 1)) = _
          rw [HS.out, calmStep, if_pos (by simpa using u1)]
        clear HS
        go_wp2
        go_roundw
        case rel => exact ⟨k + 1, a', n', cap', by omega, by go_num, rfl, by rw [HS'.out]; exact HL, by rw [HS'.out]; exact hrow, hqr⟩
        case measure => simp [intOf]; omega
      · have HS' : Hid (calmR (l.take (k + 1)) = calmR (l.take k) ++ [c]) := by
          show calmR (l.take (k + 1)) = _
          rw [HS.out, calmStep, if_neg (by simpa using u1)]
        clear HS
        go_wp2_with (at_builtin; refine wpList_append_own _ rfl _ _ 25 rfl w.heap.size 32 i0 (.agg #[.int .i64 0, .int .i64 0, .int .i64 0, .int .i64 0, .int .i64 0, .string ⟨#[]⟩, .bool false]) 7 64 Try.underlying25 hi hz0 hz1 hz2 rfl (by decide) _ _ _ rfl (hrow.alloc _) ⟨wr.heap.size, 0, none⟩ 1 1 [.int .i64 c.kind, .int .i64 c.inst, .int .i64 c.a, .int .i64 c.b, .int .i64 c.who, .string c.reason, .bool c.dry] rfl rfl ?c1 ?c2 ?c3 ?c4 ?c5 ?_)
        case c1 =>
          have := World.news_of_block (heap_alloc_new wr (.cells #[.int .i64 c.kind, .int .i64 c.inst, .int .i64 c.a, .int .i64 c.b, .int .i64 c.who, .string c.reason, .bool c.dry] 32))
          simpa using this
        case c2 => intro u hu; simp at hu; rcases hu with rfl | rfl | rfl | rfl | rfl | rfl | rfl <;> rfl
        case c3 => unfold maxLen; omega
        case c4 => omega
        case c5 => have := hqr.size; simp; omega
        intro v' w2 hown2 hgrow _
        obtain ⟨a2, cap2, rfl⟩ := own_shape hown2
        have hq2 : Quiet w w2 := Below.grown (hqr.alloc hqr.size _) hgrow (by have := hqr.size; simp; omega) (fun k hk => (own_ge hrow k hk).1)
        clear hgrow hrow hqr c0 c1 c2 c3 c4 c5 c6 hb
        go_wp2
        go_roundw
        case rel => exact ⟨k + 1, a2, n' + 1, cap2, by omega, by go_num, rfl, by rw [HS'.out]; have := HL.out; show n' + 1 = _; simp; omega, by rw [HS'.out, cmdVals_one]; exact hown2, hq2⟩
        case measure => simp [intOf]; omega
    · have hkn : l.take k = l := List.take_of_length_le (by have := HN.out; omega)
      rw [hkn] at HL hrow
      have hcl := calmR_len l
      have hC : Cmds wr (.slice a' n' cap') (calmR l) := own_cmds (base := w.heap.size) (n := n') hrow HL.out (by have := HN.out; omega)
      have hS := own_slOk hrow
      go_wp2
      go_ret
      exact ⟨_, _, _, rfl, hS, hC, hqr⟩

set_option maxRecDepth 100000 in
set_option maxHeartbeats 2000000 in
theorem accepted_any (dv v : Value) (d : Def) (hok : d.ok = true) (l : List Cmd) (w : World) (hd : DefIs w dv d) (h : Cmds w v l) (hl : l.length ≤ 1048576) (hcr : ∀ c ∈ l, c.reason.size ≤ 9223372036854775807) (h9 : ∀ c ∈ l, c.kind ≠ 9) :
    Calls Try.prog 15 #[dv, v] w fun e w' => ∃ a n cap, e = .returned (.tuple #[.slice a n cap, .bool true]) ∧ SlOk (.slice a n cap) ∧ Cmds w' (.slice a n cap) (playR d l).log ∧ Quiet w w' := by
  have hq0 : ∀ (w : World) o, Quiet w (w.alloc o) := fun w o => (Below.refl _ _).alloc (Nat.le_refl _) _
  obtain ⟨i0, hi, hz0, hz1, hz2⟩ := info_parts Try.info32
  obtain ⟨a, n, cap, rfl⟩ := h.1.shape
  obtain ⟨hn, hm⟩ := h.len
  have hn40 : n ≤ 1048576 := by omega
  have HN : Hid (n = l.length) := hn
  clear hn
  have hal : (playR d l).answers.length = l.length := by have := (playFold d l l.length (Nat.le_refl _)).2.2; rwa [List.take_length] at this
  have hd0 := hd
  obtain ⟨da, dn, dcap, rfl, hst⟩ := hd
  clear hst
  go_enter Try.func15, Try.ntmps15
  go_wp2_with fail
  refine calls_gen (fun V => Quiet w V) (hq0 _ _) ?_
  intro V hqV
  refine (runM_any _ _ d l V (hd0.quiet hqV) (h.quiet hqV) hl hcr).mono ?_
  rintro e w1 ⟨hq1, hc⟩
  rcases hc with ⟨q, _⟩ | ⟨_, aa, ac, rfl, hown⟩
  · rw [hok] at q; simp at q
  have hA := own_answers hown hal.symm
  have hqw : Quiet w w1 := hqV.after hq1
  clear hown hq1
  obtain ⟨n2, HN2⟩ : ∃ n2, Hid (n2 = l.length) := ⟨_, rfl⟩
  rw [← HN2.out] at hA ⊢
  obtain rfl : n2 = n := by rw [HN2.out, HN.out]
  have t0 : ((n2 : Int) != (n2 : Int)) = false := by simp
  go_wp2
  go_loopw [8, 9, 10] (fun v i p wr => ∃ (k : Nat) (a' : Option Addr) (n' cap' : Nat), k ≤ n2 ∧ i = .int .i64 k ∧ v = .slice a' n' cap' ∧ Hid (n' = (playR d (l.take k)).log.length) ∧ wr.ownsRow w1.heap.size 32 7 (.slice a' n' cap') n' (cmdVals (playR d (l.take k)).log) ∧ Quiet w1 wr) (fun _ i _ _ => n2 - (intOf i).toNat)
  case atStart => exact ⟨0, none, 0, 0, Nat.zero_le _, rfl, rfl, rfl, World.ownsRow_nil _ _ _ _, Below.refl _ _⟩
  case round =>
    obtain ⟨k, a', n', cap', hk, rfl, rfl, HL, hrow, hqr⟩ := hrel
    have hll := (playFold d l k (by have := HN.out; omega)).2.1
    have hn' : n' ≤ 1048576 := by have := HL.out; omega
    clear hll
    by_cases hlt : k < n2
    · have hkl : k < l.length := by have := HN.out; omega
      obtain ⟨b, off, rfl, hb, c0, c1, c2, c3, c4, c5, c6⟩ := ((h.quiet hqw).quiet hqr).cell k hkl
      obtain ⟨hka, hstep⟩ := accepted_step d l h9 k hkl
      obtain ⟨ab, aoff, rfl, hab, a0, _, _, _⟩ := Answers.cell (Arr.quiet hA hqr) k hka
      have hne9 : l[k].kind ≠ 9 := h9 _ (List.getElem_mem hkl)
      have HS : Hid ((playR d (l.take (k + 1))).log = if (playR d l).answers[k].code = 0 ∧ l[k].dry = false ∧ l[k].kind ≠ 8 then (playR d (l.take k)).log ++ [l[k]] else (playR d (l.take k)).log) := hstep
      clear hstep
      generalize l[k] = c at *
      generalize (playR d l).answers[k] = A at *
      have z9 : (c.kind != 9) = true := by simpa using hne9
      clear hne9
      go_upto_region 9 with (fail)
      refine wp_gen (fun U => Blk U wr.heap.size #[.int .i64 c.kind, .int .i64 c.inst, .int .i64 c.a, .int .i64 c.b, .int .i64 c.who, .string c.reason, .bool c.dry] 32 ∧ Quiet wr U) ⟨Blk.new' rfl, hq0 _ _⟩ ?_
      rintro U ⟨bc, hqU⟩
      have gc := bc.cell
      have zc := bc.lt
      have a0' := ((bcell hqU).1 _ _ hab).trans a0
      have zab : ab < U.heap.size := Nat.lt_of_lt_of_le hab hqU.size
      replace hrow := own_quiet hrow hqU
      replace hqr : Quiet w1 U := hqr.after hqU
      clear c0 c1 c2 c3 c4 c5 c6 a0 hb hab
      by_cases hacc : A.code = 0 ∧ c.dry = false ∧ c.kind ≠ 8
      · have HS' : Hid ((playR d (l.take (k + 1))).log = (playR d (l.take k)).log ++ [c]) := by
          show (playR d (l.take (k + 1))).log = _
          rw [HS.out, if_pos hacc]
        clear HS
        obtain ⟨q0, q1, q2⟩ := hacc
        have z0 : (A.code == 0) = true := by simpa using q0
        have z8 : (c.kind != 8) = true := by simpa using q2
        clear q0 q2
        go_wp2_with (at_builtin; refine wpList_append_own _ rfl _ _ 25 rfl w1.heap.size 32 i0 (.agg #[.int .i64 0, .int .i64 0, .int .i64 0, .int .i64 0, .int .i64 0, .string ⟨#[]⟩, .bool false]) 7 64 Try.underlying25 hi hz0 hz1 hz2 rfl (by decide) _ _ _ rfl (hrow.alloc _) ⟨U.heap.size, 0, none⟩ 1 1 [.int .i64 c.kind, .int .i64 c.inst, .int .i64 c.a, .int .i64 c.b, .int .i64 c.who, .string c.reason, .bool c.dry] rfl rfl ?c1 ?c2 ?c3 ?c4 ?c5 ?_)
        case c1 =>
          have := World.news_of_block (heap_alloc_new U (.cells #[.int .i64 c.kind, .int .i64 c.inst, .int .i64 c.a, .int .i64 c.b, .int .i64 c.who, .string c.reason, .bool c.dry] 32))
          simpa [q1] using this
        case c2 => intro u hu; simp at hu; rcases hu with rfl | rfl | rfl | rfl | rfl | rfl | rfl <;> rfl
        case c3 => unfold maxLen; omega
        case c4 => omega
        case c5 => have := hqr.size; simp; omega
        intro v' w2 hown2 hgrow _
        obtain ⟨a2, cap2, rfl⟩ := own_shape hown2
        have hq2 : Quiet w1 w2 := Below.grown (hqr.alloc hqr.size _) hgrow (by have := hqr.size; simp; omega) (fun k hk => (own_ge hrow k hk).1)
        clear hgrow hrow hqr
        go_wp2
        go_roundw
        case rel => exact ⟨k + 1, a2, n' + 1, cap2, by omega, by go_num, rfl, by rw [HS'.out]; have := HL.out; show n' + 1 = _; simp; omega, by rw [HS'.out, cmdVals_one, q1]; exact hown2, hq2⟩
        case measure => simp [intOf]; omega
      · have HS' : Hid ((playR d (l.take (k + 1))).log = (playR d (l.take k)).log) := by
          show (playR d (l.take (k + 1))).log = _
          rw [HS.out, if_neg hacc]
        clear HS
        cases z0 : (A.code == 0)
        · go_wp2
          go_roundw
          case rel => exact ⟨k + 1, a', n', cap', by omega, by go_num, rfl, by rw [HS'.out]; exact HL, by rw [HS'.out]; exact hrow, hqr⟩
          case measure => simp [intOf]; omega
        · cases z1 : c.dry
          · have z8 : (c.kind != 8) = false := by
              cases q : (c.kind != 8)
              · rfl
              · exact absurd ⟨by simpa using z0, z1, by simpa using q⟩ hacc
            rw [z1] at gc
            go_wp2
            go_roundw
            case rel => exact ⟨k + 1, a', n', cap', by omega, by go_num, rfl, by rw [HS'.out]; exact HL, by rw [HS'.out]; exact hrow, hqr⟩
            case measure => simp [intOf]; omega
          · rw [z1] at gc
            go_wp2
            go_roundw
            case rel => exact ⟨k + 1, a', n', cap', by omega, by go_num, rfl, by rw [HS'.out]; exact HL, by rw [HS'.out]; exact hrow, hqr⟩
            case measure => simp [intOf]; omega
    · have hkn : l.take k = l := List.take_of_length_le (by have := HN.out; omega)
      rw [hkn] at HL hrow
      have hC : Cmds wr (.slice a' n' cap') (playR d l).log := own_cmds (base := w1.heap.size) (n := n') hrow HL.out (by have := HL.out; omega)
      have hS := own_slOk hrow
      go_wp2
      refine bodyPost_ret (v := .tuple #[.slice a' n' cap', .bool true]) (by simp [results, Try.results15, go_sem]) rfl ⟨_, _, _, rfl, hS, hC, hqw.after hqr⟩

end Go.Proofs.Ytgcjlgaapiefiab

/-
  For the walks of Torn and Safe: the beginning of a script, as a slice; a world in a block of its own.
-/
namespace Go.Proofs.Ytgcjlgaapiefiab
open Go.RowKit Go.Sort Go.Lib

theorem under_cmds : Try.prog.underlying 25 = some (.slice (Try.prog.elem 25)) := by
  simp [Program.elem, Try.underlying25]
theorem size_cmds (U : World) : (sizeOf (Try.prog.elem 25)).run Try.prog U = .ok 7 U := by
  simp [sizeOf, Program.elem, Try.underlying25, go_sem]
  rfl
theorem slice_cmds (U : World) (a : Option Addr) (n cap k : Nat) (hk : k ≤ cap) : (Instr.slice 25 (.slice a n cap) none (some (.int .i64 k)) none).run Try.prog U = .ok (.slice a k cap) U := by
  rw [run_slice_h U 25 a n cap under_cmds .i64 k (by omega) (by omega), size_cmds]
  have e : (if cap = 0 then a else a.map (·.add (0 * 7))) = a := by
    split
    · rfl
    · cases a with
      | none => rfl
      | some a => simp [Addr.add]
  show Result.ok (Value.slice (if cap = 0 then a else a.map (·.add (0 * 7))) ((k : Int).toNat - 0) (cap - 0)) U = _
  rw [e]
  simp
theorem slice_str (U : World) (r : ByteArray) (x : Nat) (hx : x ≤ r.size) : (Instr.slice 9 (.string r) none (some (.int .i64 x)) none).run Try.prog U = .ok (.string (r.extract 0 x)) U := by
  rw [run_slice_string_to_if U 9 r .i64 x Try.underlying9, if_pos ⟨by omega, by omega⟩]
  simp

theorem Cmds.takes {w : World} {a : Option Addr} {n cap : Nat} {l : List Cmd} (h : Cmds w (.slice a n cap) l) (k : Nat) (hk : k ≤ l.length) : Cmds w (.slice a k cap) (l.take k) ∧ k ≤ cap := by
  obtain ⟨⟨a', cap', h1, h2, h3, h4, h5⟩, hl⟩ := h
  simp only [Value.slice.injEq, List.length_map] at h1
  obtain ⟨rfl, rfl, rfl⟩ := h1
  simp only [List.length_map] at h2
  refine ⟨⟨⟨a, cap, ?_, ?_, h3, ?_, ?_⟩, ?_⟩, by omega⟩
  · simp; omega
  · simp; omega
  · intro x hx
    refine h4 x ?_
    rw [List.map_take] at hx
    exact List.mem_of_mem_take hx
  · rcases h5 with h5 | ⟨b, off, h5, h6⟩
    · left
      have : l = [] := by simpa using h5
      subst this; simp
    · right
      refine ⟨b, off, h5, fun i x hx => ?_⟩
      rw [List.map_take] at hx
      refine h6 i x ?_
      rw [List.getElem?_take] at hx
      split at hx
      · exact hx
      · simp at hx
  · simp; omega

theorem Blk.set3w {w : World} {b : Nat} {cs : Array Value} {t : TypeId} (h : Blk w b cs t) (hs : cs.size = 3) (v0 v1 v2 : Value) : Blk (((w.setCell ⟨b, 0, none⟩ v0).setCell ⟨b, 1, none⟩ v1).setCell ⟨b, 2, none⟩ v2) b #[v0, v1, v2] t := by
  obtain ⟨cs⟩ := cs
  match cs, hs with
  | [_, _, _], _ => simpa using ((h.set 0 v0).set 1 v1).set 2 v2
theorem Below.set3w {B : Nat} {w0 w : World} (h : Below B w0 w) {b : Nat} (hb : B ≤ b) (v0 v1 v2 : Value) : Below B w0 (((w.setCell ⟨b, 0, none⟩ v0).setCell ⟨b, 1, none⟩ v1).setCell ⟨b, 2, none⟩ v2) := ((h.setCell hb v0).setCell hb v1).setCell hb v2

/-- How many of the accepted commands have been found to fit, behind i rounds. -/
def mOf (j i : Nat) : Nat := if i ≤ j then i - 1 else j
theorem mOf_zero (j : Nat) : mOf j 0 = 0 := by simp [mOf]
theorem mOf_fit {j i : Nat} (h : i ≤ j) : mOf j (i + 1) = i := by unfold mOf; split <;> omega
theorem mOf_not {j i : Nat} (h : j < i) : mOf j (i + 1) = mOf j i := by unfold mOf; rw [if_neg (by omega), if_neg (by omega)]
theorem mOf_end {j n : Nat} (h : j ≤ n) : mOf j (n + 1) = j := by unfold mOf; rw [if_neg (by omega)]
theorem mOf_le (j i : Nat) : mOf j i ≤ j := by unfold mOf; split <;> omega

/-- How many commands fit into n bytes. -/
theorem fits_iff {l : List Cmd} {n j : Nat} (hj : j ≤ l.length) (h1 : bytesN (l.take j) ≤ n) (h2 : j = l.length ∨ n < bytesN (l.take (j + 1))) (i : Nat) (hi : i ≤ l.length) : bytesN (l.take i) ≤ n ↔ i ≤ j := by
  constructor
  · intro h
    rcases h2 with h2 | h2
    · omega
    · by_cases q : i ≤ j
      · exact q
      · have := bytesN_mono l (j + 1) i (by omega) hi
        omega
  · intro h
    have := bytesN_mono l i j h hj
    omega

end Go.Proofs.Ytgcjlgaapiefiab

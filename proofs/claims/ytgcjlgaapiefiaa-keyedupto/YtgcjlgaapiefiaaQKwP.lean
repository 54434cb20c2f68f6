import Derived.Test.YtgcjlgaapiefiaaQKwE
import Derived.Test.YtgcjlgaapiefiaaQKwN
import Derived.Test.YtgcjlgaapiefiaaQKwA
import Derived.Test.YtgcjlgaapiefiaaQKpD
import Derived.Test.YtgcjlgaapiefiaaQJwI
import Derived.Test.YtgcjlgaapiefiaaQJwH

/-
  Walks of the statements on the journal: written, restored, Restored.
-/
namespace Go.Proofs.Ytgcjlgaapiefiaa
open Go.RowKit Go.Sort

/-- The beginning of a journal, read by the program. -/
theorem recover_torn (dv : Value) (d : Def) (hok : d.ok = true) (l : List Cmd) (h : LogOk d l) (hl : l.length ≤ 1048576) (n : Nat) (hn : n ≤ bytesN l) :
    ∃ j, j ≤ l.length ∧ bytesN (l.take j) ≤ n ∧ (j = l.length ∨ n < bytesN (l.take (j + 1))) ∧ ∀ (w : World), DefIs w dv d → Calls Try.prog 37 #[dv, .string ((bytesR l).extract 0 n)] w fun e w' => Quiet w w' ∧ ∃ ia n ic ra m rc, e = .returned (.tuple #[.agg #[.int .i64 (worldR d (l.take j)).clock, .slice ia n ic, .slice ra m rc], .int .i64 (bytesN (l.take j)), .int .i64 0]) ∧ InstsAt w' (.slice ia n ic) (worldR d (l.take j)).insts ∧ ReqsAt w' (.slice ra m rc) (worldR d (l.take j)).reqs := by
  obtain ⟨j, l', h1, h2, _, h4, h5, h6⟩ := torn_read hok h n hn
  refine ⟨j, h1, h5, h6, fun w hd => ?_⟩
  have hb := bytesN_most h l.length (Nat.le_refl _)
  rw [List.take_length] at hb
  have hsz : ((bytesR l).extract 0 n).size ≤ 33554432 := by
    rw [ByteArray.size_extract]; omega
  refine (recoverM_any dv d _ w hd hsz).mono ?_
  rintro e w' ⟨hq, hc⟩
  rcases hc with ⟨q, _⟩ | ⟨_, ia, n1, ic, ra, m, rc, rfl, _, ⟨B, hI⟩, ⟨B', hR⟩⟩
  · rw [hok] at q; simp at q
  · have hI1 := insMem_at hI (worldR_bound d _ (by have := readR_lenK d ((bytesR l).extract 0 n); omega))
    have hR1 := reqMem_at hR
    rw [h2] at hI1 hR1 ⊢
    simp only [h4] at hI1 hR1 ⊢
    exact ⟨hq, ia, _, ic, ra, m, rc, rfl, hI1, hR1⟩
theorem recover_whole (dv : Value) (d : Def) (hok : d.ok = true) (l : List Cmd) (h : LogOk d l) (hl : l.length ≤ 1048576) (w : World) (hd : DefIs w dv d) :
    Calls Try.prog 37 #[dv, .string (bytesR l)] w fun e w' => Quiet w w' ∧ ∃ ia n ic ra m rc, e = .returned (.tuple #[.agg #[.int .i64 (worldR d l).clock, .slice ia n ic, .slice ra m rc], .int .i64 (bytesN l), .int .i64 0]) ∧ InstsAt w' (.slice ia n ic) (worldR d l).insts ∧ ReqsAt w' (.slice ra m rc) (worldR d l).reqs := by
  obtain ⟨j, h1, h2, h3, h4⟩ := recover_torn dv d hok l h hl (bytesN l) (Nat.le_refl _)
  replace h4 := h4 w hd
  have hj' : j = l.length := by
    rcases h3 with h3 | h3
    · exact h3
    · by_cases hlt : j < l.length
      · have := bytesN_mono l (j + 1) l.length (by omega) (Nat.le_refl _)
        rw [List.take_length] at this
        omega
      · omega
  subst hj'
  rw [List.take_length, ext_all (bytesR l) (bytesN l) (Nat.le_refl _)] at h4
  exact h4

theorem awake_bytes : bytesN sAwake = 24 := by rfl
theorem awake_safe : (playR dAwake sAwake).safe = 16 := by rfl

end Go.Proofs.Ytgcjlgaapiefiaa

/-
  Walks of the statements' own helpers: calm, accepted.
-/
namespace Go.Proofs.Ytgcjlgaapiefiaa
open Go.RowKit Go.Sort

theorem own_slOk {w : World} {base : Nat} {a : Option Addr} {n cap : Nat} {l : List Value} (h : w.ownsRow base 54 7 (.slice a n cap) n l) : SlOk (.slice a n cap) := by
  rcases own_none h with ⟨rfl, rfl, rfl, _⟩ | ⟨g, rfl⟩
  · exact .inl rfl
  · exact .inr ⟨_, _, _, rfl⟩

end Go.Proofs.Ytgcjlgaapiefiaa

/-
  For the walks of Torn and Safe: the beginning of a script, as a slice; a world in a block of its own.
-/
namespace Go.Proofs.Ytgcjlgaapiefiaa
open Go.RowKit Go.Sort Go.Lib

theorem under_cmds : Try.prog.underlying 29 = some (.slice (Try.prog.elem 29)) := by
  simp [Program.elem, Try.underlying29]
theorem size_cmds (U : World) : (sizeOf (Try.prog.elem 29)).run Try.prog U = .ok 7 U := by
  simp [sizeOf, Program.elem, Try.underlying29, go_sem]
  rfl
theorem slice_cmds (U : World) (a : Option Addr) (n cap k : Nat) (hk : k ≤ cap) : (Instr.slice 29 (.slice a n cap) none (some (.int .i64 k)) none).run Try.prog U = .ok (.slice a k cap) U := by
  rw [run_slice_h U 29 a n cap under_cmds .i64 k (by omega) (by omega), size_cmds]
  have e : (if cap = 0 then a else a.map (·.add (0 * 7))) = a := by
    split
    · rfl
    · cases a with
      | none => rfl
      | some a => simp [Addr.add]
  show Result.ok (Value.slice (if cap = 0 then a else a.map (·.add (0 * 7))) ((k : Int).toNat - 0) (cap - 0)) U = _
  rw [e]
  simp
theorem slice_str (U : World) (r : ByteArray) (x : Nat) (hx : x ≤ r.size) : (Instr.slice 9 (.string r) none (some (.int .i64 x)) none).run Try.prog U = .ok (.string (r.extract 0 x)) U := by
  rw [run_slice_string_to_if U 9 r .i64 x Try.underlying9, if_pos ⟨by omega, by omega⟩]
  simp

theorem Cmds.takes {w : World} {a : Option Addr} {n cap : Nat} {l : List Cmd} (h : Cmds w (.slice a n cap) l) (k : Nat) (hk : k ≤ l.length) : Cmds w (.slice a k cap) (l.take k) ∧ k ≤ cap := by
  obtain ⟨⟨a', cap', h1, h2, h3, h4, h5⟩, hl⟩ := h
  simp only [Value.slice.injEq, List.length_map] at h1
  obtain ⟨rfl, rfl, rfl⟩ := h1
  simp only [List.length_map] at h2
  refine ⟨⟨⟨a, cap, ?_, ?_, h3, ?_, ?_⟩, ?_⟩, by omega⟩
  · simp; omega
  · simp; omega
  · intro x hx
    refine h4 x ?_
    rw [List.map_take] at hx
    exact List.mem_of_mem_take hx
  · rcases h5 with h5 | ⟨b, off, h5, h6⟩
    · left
      have : l = [] := by simpa using h5
      subst this; simp
    · right
      refine ⟨b, off, h5, fun i x hx => ?_⟩
      rw [List.map_take] at hx
      refine h6 i x ?_
      rw [List.getElem?_take] at hx
      split at hx
      · exact hx
      · simp at hx
  · simp; omega

theorem Blk.set3w {w : World} {b : Nat} {cs : Array Value} {t : TypeId} (h : Blk w b cs t) (hs : cs.size = 3) (v0 v1 v2 : Value) : Blk (((w.setCell ⟨b, 0, none⟩ v0).setCell ⟨b, 1, none⟩ v1).setCell ⟨b, 2, none⟩ v2) b #[v0, v1, v2] t := by
  obtain ⟨cs⟩ := cs
  match cs, hs with
  | [_, _, _], _ => simpa using ((h.set 0 v0).set 1 v1).set 2 v2
theorem Below.set3w {B : Nat} {w0 w : World} (h : Below B w0 w) {b : Nat} (hb : B ≤ b) (v0 v1 v2 : Value) : Below B w0 (((w.setCell ⟨b, 0, none⟩ v0).setCell ⟨b, 1, none⟩ v1).setCell ⟨b, 2, none⟩ v2) := ((h.setCell hb v0).setCell hb v1).setCell hb v2

/-- How many of the accepted commands have been found to fit, behind i rounds. -/
def mOf (j i : Nat) : Nat := if i ≤ j then i - 1 else j
theorem mOf_zero (j : Nat) : mOf j 0 = 0 := by simp [mOf]
theorem mOf_fit {j i : Nat} (h : i ≤ j) : mOf j (i + 1) = i := by unfold mOf; split <;> omega
theorem mOf_not {j i : Nat} (h : j < i) : mOf j (i + 1) = mOf j i := by unfold mOf; rw [if_neg (by omega), if_neg (by omega)]
theorem mOf_end {j n : Nat} (h : j ≤ n) : mOf j (n + 1) = j := by unfold mOf; rw [if_neg (by omega)]
theorem mOf_le (j i : Nat) : mOf j i ≤ j := by unfold mOf; split <;> omega

/-- How many commands fit into n bytes. -/
theorem fits_iff {l : List Cmd} {n j : Nat} (hj : j ≤ l.length) (h1 : bytesN (l.take j) ≤ n) (h2 : j = l.length ∨ n < bytesN (l.take (j + 1))) (i : Nat) (hi : i ≤ l.length) : bytesN (l.take i) ≤ n ↔ i ≤ j := by
  constructor
  · intro h
    rcases h2 with h2 | h2
    · omega
    · by_cases q : i ≤ j
      · exact q
      · have := bytesN_mono l (j + 1) i (by omega) hi
        omega
  · intro h
    have := bytesN_mono l i j h hj
    omega

end Go.Proofs.Ytgcjlgaapiefiaa

/-
  State and Recover: what they hand back, told so that it outlasts a store into a world's block.
-/
namespace Go.Proofs.Ytgcjlgaapiefiaa
open Go.RowKit Go.Sort Go.Lib

set_option maxRecDepth 100000 in
set_option maxHeartbeats 4000000 in
theorem stateO_any (dv sv : Value) (d : Def) (s : List Cmd) (w : World) (hd : DefIs w dv d) (h : Cmds w sv s) (hl : s.length ≤ 1048576) (hcr : ∀ c ∈ s, c.reason.size ≤ 9223372036854775807) :
    Calls Try.prog 19 #[dv, sv] w fun e w' => Quiet w w' ∧ ((d.ok = false ∧ e = .returned (.tuple #[.agg #[.int .i64 0, .slice none 0 0, .slice none 0 0], .int .i64 1])) ∨
      (d.ok = true ∧ ∃ ia n ic ra m rc, e = .returned (.tuple #[.agg #[.int .i64 (worldR d (playR d s).log).clock, .slice ia n ic, .slice ra m rc], .int .i64 0]) ∧ (∃ B, InstsMem B w' ia n ic (worldR d (playR d s).log).insts) ∧ ∃ B, ReqsMem B w' ra m rc (worldR d (playR d s).log).reqs)) := by
  have hq0 : ∀ (w : World) o, Quiet w (w.alloc o) := fun w o => (Below.refl _ _).alloc (Nat.le_refl _) _
  have hd0 := hd
  obtain ⟨da, dn, dcap, rfl, hst⟩ := hd
  clear hst
  go_enter Try.func19, Try.ntmps19
  go_wp2_with fail
  refine calls_gen (fun V => Blk V w.heap.size #[.slice da dn dcap, .int .i64 d.quorum, .int .i64 d.expiry] 24 ∧ Blk V (w.heap.size + 1) #[.int .i64 0, .slice none 0 0, .slice none 0 0] 38 ∧ Quiet w V) ⟨(Blk.new' rfl).alloc _, Blk.new' (by simp), (hq0 _ _).after (hq0 _ _)⟩ ?_
  rintro V ⟨bd, br, hqV⟩
  refine (check_any _ d V (hd0.quiet hqV)).mono ?_
  rintro e w1 ⟨rfl, hq1⟩
  replace bd := bd.quiet hq1
  replace br := br.quiet hq1
  replace hqV : Quiet w w1 := hqV.after hq1
  clear hq1
  cases hok : d.ok
  · have hck : (chk false != 0) = true := by decide
    have gr := br.cell
    have fr := br.frozen
    go_wp2
    refine bodyPost_ret (v := .tuple #[.agg #[.int .i64 0, .slice none 0 0, .slice none 0 0], .int .i64 1]) (by simp [results, Try.results19, go_sem, chk, gr]) rfl ⟨?_, .inl ⟨hok, rfl⟩⟩
    exact ((hqV.setCell (p := ⟨w.heap.size + 1, 0, none⟩) (Nat.le_succ _) _).setCell (p := ⟨w.heap.size + 1, 1, none⟩) (Nat.le_succ _) _).setCell (p := ⟨w.heap.size + 1, 2, none⟩) (Nat.le_succ _) _
  · have hck : (chk true != 0) = false := by decide
    have HOK : Hid (d.ok = true) := hok
    have HBe : Hid (Calls Try.prog 42 #[.agg #[.slice da dn dcap, .int .i64 d.quorum, .int .i64 d.expiry], sv] w1 fun e w' => ∃ v ia n ic ra m rc ja jn jc v5 v6 v7 v8, e = .returned v ∧ Behind w1 w' (worldR d (playR d s).log) (bytesR (playR d s).log) (playR d s).safe v ia n ic ra m rc ja jn jc v5 v6 v7 v8) := behindM_any _ sv d s w1 (hd0.quiet hqV) hok (h.quiet hqV) hl hcr
    clear hok
    have gd := bd.cell
    have zd := bd.lt
    go_wp2_with fail
    refine HBe.out.mono ?_
    rintro e w2 ⟨v, ia, n, ic, ra, m, rc, ja, jn, jc, v5, v6, v7, v8, rfl, hb⟩
    obtain ⟨hv, ⟨a5, a6, rfl, rfl, ⟨x7, y7, z7, rfl⟩, ⟨x8, y8, z8, rfl⟩⟩, ⟨B1, hI⟩, ⟨B2, hR⟩, hown, hjl, hq2⟩ := hb
    obtain ⟨ck, HCK⟩ : ∃ ck, Hid ((worldR d (playR d s).log).clock = ck) := ⟨_, rfl⟩
    rw [HCK.out] at hv
    subst hv
    obtain ⟨sf, HSF⟩ : ∃ sf, Hid ((playR d s).safe = sf) := ⟨_, rfl⟩
    obtain ⟨jl, HJL⟩ : ∃ jl, Hid (jl = jn) := ⟨_, rfl⟩
    rw [HSF.out, ← HJL.out]
    clear hown hjl gd zd
    go_upto_region 5 with (fail)
    refine wp_gen (fun U => Blk U w2.heap.size #[.int .i64 ck, .slice ia n ic, .slice ra m rc, .slice ja jl jc, .int .i64 sf, .int .i64 a5, .int .i64 a6, .slice x7 y7 z7, .slice x8 y8 z8] 74 ∧ Quiet w2 U) ⟨Blk.new' rfl, hq0 _ _⟩ ?_
    rintro U ⟨bm, hqU⟩
    have br2 := (br.quiet hq2).quiet hqU
    have gr := br2.cell
    have fr := br2.frozen
    have zr := br2.lt
    have gm := bm.cell
    have zm := bm.lt
    have hqF : Quiet w U := (hqV.after hq2).after hqU
    have hIU := hI.quiet (hq := hqU)
    have hRU := hR.quiet (hq := hqU)
    have hs := set3_frame br2 (.int .i64 ck) (.slice ia n ic) (.slice ra m rc)
    clear hI hR
    go_wp2
    refine bodyPost_ret (v := .tuple #[.agg #[.int .i64 ck, .slice ia n ic, .slice ra m rc], .int .i64 0]) (by simp [results, Try.results19, go_sem, gr]) rfl ⟨?_, .inr ⟨HOK.out, ia, n, ic, ra, m, rc, by rw [HCK.out], ?_, ?_⟩⟩
    · exact ((hqF.setCell (p := ⟨w.heap.size + 1, 0, none⟩) (Nat.le_succ _) _).setCell (p := ⟨w.heap.size + 1, 1, none⟩) (Nat.le_succ _) _).setCell (p := ⟨w.heap.size + 1, 2, none⟩) (Nat.le_succ _) _
    · exact ⟨B1, hIU.frame (h1 := fun z c hz => hs z c _ hz (by decide)) (h2 := fun z c hz => hs z c _ hz (by decide))⟩
    · exact ⟨B2, hRU.frame (h1 := fun z c hz => hs z c _ hz (by decide)) (h2 := fun z c hz => hs z c _ hz (by decide))⟩

/-- A world's rows, told so that they outlast a store into a world's block. -/
def WMem (w : World) (ia : Option Addr) (n ic : Nat) (ra : Option Addr) (m rc : Nat) (W : WorldR) : Prop := (∃ B, InstsMem B w ia n ic W.insts) ∧ (∃ B, ReqsMem B w ra m rc W.reqs) ∧ ∀ x ∈ W.insts, x.ledger.length ≤ 2199023255552
theorem WMem.insts {w : World} {ia : Option Addr} {n ic : Nat} {ra : Option Addr} {m rc : Nat} {W : WorldR} (h : WMem w ia n ic ra m rc W) : InstsAt w (.slice ia n ic) W.insts := by
  obtain ⟨⟨B, h1⟩, _, h3⟩ := h
  exact insMem_at h1 h3
theorem WMem.reqs {w : World} {ia : Option Addr} {n ic : Nat} {ra : Option Addr} {m rc : Nat} {W : WorldR} (h : WMem w ia n ic ra m rc W) : ReqsAt w (.slice ra m rc) W.reqs := by
  obtain ⟨_, ⟨B, h1⟩, _⟩ := h
  exact reqMem_at h1
theorem WMem.quiet {w w' : World} {ia : Option Addr} {n ic : Nat} {ra : Option Addr} {m rc : Nat} {W : WorldR} (h : WMem w ia n ic ra m rc W) (hq : Quiet w w') : WMem w' ia n ic ra m rc W := by
  obtain ⟨⟨B1, h1⟩, ⟨B2, h2⟩, h3⟩ := h
  exact ⟨⟨B1, h1.quiet (hq := hq)⟩, ⟨B2, h2.quiet (hq := hq)⟩, h3⟩
theorem WMem.set {w : World} {ia : Option Addr} {n ic : Nat} {ra : Option Addr} {m rc : Nat} {W : WorldR} (h : WMem w ia n ic ra m rc W) {b : Nat} {cs : Array Value} (hb : Blk w b cs 38) (v0 v1 v2 : Value) : WMem (((w.setCell ⟨b, 0, none⟩ v0).setCell ⟨b, 1, none⟩ v1).setCell ⟨b, 2, none⟩ v2) ia n ic ra m rc W := by
  obtain ⟨⟨B1, h1⟩, ⟨B2, h2⟩, h3⟩ := h
  have hs := set3_frame hb v0 v1 v2
  exact ⟨⟨B1, h1.frame (h1 := fun z c hz => hs z c _ hz (by decide)) (h2 := fun z c hz => hs z c _ hz (by decide))⟩, ⟨B2, h2.frame (h1 := fun z c hz => hs z c _ hz (by decide)) (h2 := fun z c hz => hs z c _ hz (by decide))⟩, h3⟩

/-- A world in a block. -/
def WAt (w : World) (b : Nat) (W : WorldR) : Prop := ∃ ia n ic ra m rc, Blk w b #[.int .i64 W.clock, .slice ia n ic, .slice ra m rc] 38 ∧ WMem w ia n ic ra m rc W
theorem WAt.quiet {w w' : World} {b : Nat} {W : WorldR} (h : WAt w b W) (hq : Quiet w w') : WAt w' b W := by
  obtain ⟨ia, n, ic, ra, m, rc, h1, h2⟩ := h
  exact ⟨ia, n, ic, ra, m, rc, h1.quiet hq, h2.quiet hq⟩
theorem WAt.new {w : World} {ia : Option Addr} {n ic : Nat} {ra : Option Addr} {m rc : Nat} {W : WorldR} (h : WMem w ia n ic ra m rc W) : WAt (w.alloc (.cells #[.int .i64 W.clock, .slice ia n ic, .slice ra m rc] 38)) w.heap.size W :=
  ⟨ia, n, ic, ra, m, rc, Blk.new' rfl, h.quiet ((Below.refl _ _).alloc (Nat.le_refl _) _)⟩
theorem WAt.set {w : World} {ia : Option Addr} {n ic : Nat} {ra : Option Addr} {m rc : Nat} {W : WorldR} (h : WMem w ia n ic ra m rc W) {b : Nat} {cs : Array Value} (hb : Blk w b cs 38) (hs : cs.size = 3) : WAt (((w.setCell ⟨b, 0, none⟩ (.int .i64 W.clock)).setCell ⟨b, 1, none⟩ (.slice ia n ic)).setCell ⟨b, 2, none⟩ (.slice ra m rc)) b W :=
  ⟨ia, n, ic, ra, m, rc, hb.set3w hs _ _ _, h.set hb _ _ _⟩

/-- State, of a definition. -/
theorem stateT_any (dv sv : Value) (d : Def) (hok : d.ok = true) (s : List Cmd) (w : World) (hd : DefIs w dv d) (h : Cmds w sv s) (hl : s.length ≤ 1048576) (hcr : ∀ c ∈ s, c.reason.size ≤ 9223372036854775807) :
    Calls Try.prog 19 #[dv, sv] w fun e w' => Quiet w w' ∧ ∃ ia n ic ra m rc, e = .returned (.tuple #[.agg #[.int .i64 (worldR d (playR d s).log).clock, .slice ia n ic, .slice ra m rc], .int .i64 0]) ∧ WMem w' ia n ic ra m rc (worldR d (playR d s).log) := by
  refine (stateO_any dv sv d s w hd h hl hcr).mono ?_
  rintro e w' ⟨hq, ⟨q, _⟩ | ⟨_, ia, n, ic, ra, m, rc, rfl, h1, h2⟩⟩
  · rw [hok] at q; simp at q
  · have hll := (playFold d s s.length (Nat.le_refl _)).2.1
    rw [List.take_length] at hll
    exact ⟨hq, ia, n, ic, ra, m, rc, rfl, h1, h2, worldR_bound d _ (by omega)⟩

end Go.Proofs.Ytgcjlgaapiefiaa

import Derived.Test.YtgcjlgaapiefiabGreatQRecB
import Derived.Test.YtgcjlgaapiefiabGreatQLog
import Derived.Test.YtgcjlgaapiefiabGreatQSamA
import Derived.Test.YtgcjlgaapiefiabGreatQWld
import Derived.Deep.AppendLies

/-
  Walks of the document's answer: bytes, cut.
-/
namespace Go.Proofs.YtgcjlgaapiefiabGreat
open Go.RowKit

set_option maxRecDepth 100000 in
set_option maxHeartbeats 1000000 in
theorem bytes_any (v : Value) (l : List Cmd) (w : World) (h : Cmds w v l) (hr : RecsOk l) :
    Calls Tryz.prog 37 #[v] w fun e w' => e = .returned (.string (bytesR l)) ∧ Quiet w w' := by
  obtain ⟨a, n, cap, rfl⟩ := h.1.shape
  obtain ⟨hn, hm⟩ := h.len
  have HN : Hid (n = l.length) := hn
  clear hn
  go_enter Tryz.func37, Tryz.ntmps37
  go_wp2
  go_loopw [3, 4] (fun s i wr => ∃ k : Nat, k ≤ n ∧ i = .int .i64 k ∧ s = .string (bytesR (l.take k)) ∧ Quiet w wr) (fun _ i _ => n - (intOf i).toNat)
  case atStart => exact ⟨0, Nat.zero_le _, rfl, rfl, Below.refl _ _⟩
  case round =>
    obtain ⟨k, hk, rfl, rfl, hq⟩ := hrel
    by_cases hlt : k < n
    · have hkl : k < l.length := by have := HN.out; omega
      obtain ⟨b, off, rfl, hb, c0, c1, c2, c3, c4, c5, c6⟩ := (h.quiet hq).cell k hkl
      have HB : Hid (bytesR (l.take (k + 1)) = bytesR (l.take k) ++ recordR l[k]) := bytesR_take l k hkl
      have hsz := bytesN_le l hr k (by omega)
      have hrec := recordR_le l[k] (hr _ (List.getElem_mem hkl))
      have hr5 := hr l[k] (List.getElem_mem hkl)
      have hadd : ∀ U, (Op.stringOp .add (bytesR (l.take k)) (recordR l[k])).run Tryz.prog U = .ok (.string (bytesR (l.take k) ++ recordR l[k])) U := fun U =>
        run_string_add_sum U _ _ (by unfold bytesN at hsz; omega)
      clear hsz hrec
      have HR5 : Hid (l[k].kind = 5 → l[k].reason.size ≤ 250) := hr5
      clear hr5
      generalize l[k] = c at *
      generalize bytesR (l.take k) = s at *
      have hki : (0 : Int) ≤ (k : Int) := by omega
      go_wp2_with fail
      refine (record_any c _ HR5.out).mono ?_
      rintro e w1 ⟨rfl, hq1⟩
      generalize recordR c = r at *
      go_wp2
      go_roundw
      case rel => exact ⟨k + 1, by omega, by go_num, by rw [HB.out], hq.after hq1⟩
      case measure => simp [intOf]; omega
    · have hkn : l.take k = l := by have := HN.out; rw [List.take_of_length_le (by omega)]
      rw [hkn]
      go_wp2
      go_ret
      exact ⟨rfl, hq⟩

set_option maxRecDepth 100000 in
set_option maxHeartbeats 2000000 in
theorem cut_any (v : Value) (l : List Cmd) (x : Int) (w : World) (h : Cmds w v l) (hr : RecsOk l) (hx0 : 0 ≤ x) (hx1 : x ≤ 1000000000000000) (hl : l.length ≤ 1099511627776) :
    Calls Tryz.prog 42 #[v, .int .i64 x] w fun e w' => ∃ v, e = .returned v ∧ w'.ownsRow w.heap.size 43 7 v (cutR l x).length (cmdVals (cutR l x)) ∧ Quiet w w' := by
  obtain ⟨i0, hi, hz0, hz1, hz2⟩ := info_parts Tryz.info43
  obtain ⟨a, n, cap, rfl⟩ := h.1.shape
  obtain ⟨hn, hm⟩ := h.len
  have HN : Hid (n = l.length) := hn
  have hnl : n ≤ 1099511627776 := by omega
  clear hn
  go_enter Tryz.func42, Tryz.ntmps42
  go_wp2
  go_loopw [1, 5, 6] (fun s p i wr => ∃ k : Nat, k ≤ n ∧ i = .int .i64 k ∧ s = .int .i64 (x - bytesN (l.take k)) ∧ (bytesN (l.take k) : Int) ≤ x ∧ wr.ownsRow w.heap.size 43 7 p k (cmdVals (l.take k)) ∧ Quiet w wr) (fun _ _ i _ => n - (intOf i).toNat)
  case atStart => exact ⟨0, Nat.zero_le _, rfl, by simp [bytesN_nil], by simp [bytesN_nil]; exact hx0, World.ownsRow_nil _ _ _ _, Below.refl _ _⟩
  case round =>
    obtain ⟨k, hk, rfl, rfl, hle, hown, hq⟩ := hrel
    have HLE : Hid ((bytesN (l.take k) : Int) ≤ x) := hle
    by_cases hlt : k < n
    · have hkl : k < l.length := by have := HN.out; omega
      obtain ⟨b, off, rfl, hb, c0, c1, c2, c3, c4, c5, c6⟩ := (h.quiet hq).cell k hkl
      have HB : Hid (bytesN (l.take (k + 1)) = bytesN (l.take k) + (recordR l[k]).size) := bytesN_take l k hkl
      have hrec := recordR_le l[k] (hr _ (List.getElem_mem hkl))
      have HR5 : Hid (l[k].kind = 5 → l[k].reason.size ≤ 250) := hr l[k] (List.getElem_mem hkl)
      have HT : Hid (cmdVals (l.take (k + 1)) = cmdVals (l.take k) ++ l[k].cells) := by
        show cmdVals (l.take (k + 1)) = _
        unfold cmdVals; rw [List.take_succ_eq_append_getElem hkl, List.map_append, List.flatten_append]
        simp only [List.map_cons, List.map_nil, List.flatten_cons, List.flatten_nil, List.append_nil]
      have HStop : Hid (¬ (bytesN (l.take (k + 1)) : Int) ≤ x → cutR l x = l.take k) := fun hne => cut_stop l x k hkl (.inr HLE.out) hne
      generalize l[k] = c at *
      generalize bytesN (l.take k) = s at *
      have hki : (0 : Int) ≤ (k : Int) := by omega
      go_wp2_with fail
      refine (record_any c _ HR5.out).mono ?_
      rintro e w1 ⟨rfl, hq1⟩
      have HRS : Hid ((recordR c).size = (recordR c).size) := rfl
      generalize hrr : recordR c = r at *
      clear hrr
      have hat := (At.quiet (cs := c.cells) (b := b) (o := off + k * 7) (w := wr) (fun j u hj => by
        match j, hj with
        | 0, hj => simp [Cmd.cells] at hj; subst hj; exact c0
        | 1, hj => simp [Cmd.cells] at hj; subst hj; exact c1
        | 2, hj => simp [Cmd.cells] at hj; subst hj; exact c2
        | 3, hj => simp [Cmd.cells] at hj; subst hj; exact c3
        | 4, hj => simp [Cmd.cells] at hj; subst hj; exact c4
        | 5, hj => simp [Cmd.cells] at hj; subst hj; exact c5
        | 6, hj => simp [Cmd.cells] at hj; subst hj; exact c6
        | j + 7, hj => simp [Cmd.cells] at hj) hq1).seven
      obtain ⟨e0, e1, e2, e3, e4, e5, e6⟩ := hat
      have hown1 := own_quiet hown hq1
      replace hq1 : Quiet w w1 := hq.after hq1
      have hrs : (r.size : Int) ≤ 258 := by omega
      by_cases hneg : x - (s : Int) - r.size < 0
      · have HE : Hid (cutR l x = l.take k) := HStop.out (by rw [HB.out]; omega)
        go_wp2
        go_ret
        refine ⟨_, rfl, ?_, hq1⟩
        rw [HE.out]
        have : (l.take k).length = k := by have := HN.out; simp; omega
        rw [this]; exact hown1
      · go_wp2_with (at_builtin; refine wpList_append_own _ rfl _ _ 25 rfl w.heap.size 43 i0 (.agg #[.int .i64 0, .int .i64 0, .int .i64 0, .int .i64 0, .int .i64 0, .string ⟨#[]⟩, .bool false]) 7 64 Tryz.underlying25 hi hz0 hz1 hz2 rfl (by decide) _ _ _ rfl (hown1.alloc _) ⟨w1.heap.size, 0, none⟩ 1 1 c.cells rfl rfl ?c1 ?c2 ?c3 ?c4 ?c5 ?_)
        case c1 =>
          have := World.news_of_block (heap_alloc_new w1 (.cells #[.int .i64 c.kind, .int .i64 c.inst, .int .i64 c.a, .int .i64 c.b, .int .i64 c.who, .string c.reason, .bool c.dry] 43))
          simpa [Cmd.cells] using this
        case c2 => intro u hu; simp [Cmd.cells] at hu; rcases hu with rfl | rfl | rfl | rfl | rfl | rfl | rfl <;> rfl
        case c3 => unfold maxLen; omega
        case c4 => omega
        case c5 => have := hq1.size; simp; omega
        intro v' w2 hown2 hgrow _
        have hq2 : Quiet w w2 := hq1.app hown1 hgrow
        go_wp2
        go_roundw
        case rel => exact ⟨k + 1, by omega, by go_num, by rw [HB.out]; congr 1; omega, by rw [HB.out]; omega, by rw [HT.out]; exact hown2, hq2⟩
        case measure => simp [intOf]; omega
    · have hkn : l.take k = l := by have := HN.out; rw [List.take_of_length_le (by omega)]
      have HE : Hid (cutR l x = l) := cut_all l x (.inr (by have := HLE.out; rw [hkn] at this; exact this))
      rw [hkn] at hown
      go_wp2
      go_ret
      refine ⟨_, rfl, ?_, hq⟩
      rw [HE.out]
      have : l.length = k := by have := HN.out; omega
      rw [this]; exact hown

end Go.Proofs.YtgcjlgaapiefiabGreat

/-
  Walks of the document's answer: a script played.
-/
namespace Go.Proofs.YtgcjlgaapiefiabGreat
open Go.RowKit

theorem Tryz.info86 : (Tryz.prog.info? 86).map (fun i => (i.zero, i.size, i.bytes)) = some (some (.agg #[.int .i64 0, .int .i64 0, .int .i64 0, .int .i64 0]), 4, 32) := by kernel_rfl

def ansVals (l : List Answer) : List Value := (l.map Answer.cells).flatten
theorem own_cmds {w : World} {base : Nat} {v : Value} {n : Nat} {l : List Cmd} (h : w.ownsRow base 43 7 v n (cmdVals l)) (hn : n = l.length) (hl : l.length ≤ 2199023255552) : Cmds w v l :=
  ⟨own_arr (base := base) (e := 43) (n := n) h (by simpa using hn) (by intro x hx; obtain ⟨c, _, rfl⟩ := List.mem_map.1 hx; rfl), hl⟩
theorem own_answers {w : World} {base : Nat} {v : Value} {n : Nat} {l : List Answer} (h : w.ownsRow base 86 4 v n (ansVals l)) (hn : n = l.length) : Answers w v l :=
  own_arr (base := base) (e := 86) (n := n) h (by simpa using hn) (by intro x hx; obtain ⟨c, _, rfl⟩ := List.mem_map.1 hx; rfl)
theorem undrewR {w w' : World} {row : Option Nat} (h : w.drew.grownBy w' row) : w.grownBy w' row := ⟨h.os, h.tape, h.output, h.size, h.block⟩

theorem answer_new (W : World) (a b c d : Value) : ∀ j u, [a, b, c, d][j]? = some u → (W.alloc (.cells #[a, b, c, d] 86)).cell? ((⟨W.heap.size, 0, none⟩ : Addr).add j) = some u := by
  have := World.news_of_block (heap_alloc_new W (.cells #[a, b, c, d] 86))
  simpa using this

/-- The tape in memory, with what the loop holds. -/
structure PlayAt (w wr : World) (T : TapeR) (la : Option Addr) (L lc : Nat) (aa : Option Addr) (k ac : Nat) (dcs : Array Value) : Prop where
  tape : Blk wr (w.heap.size + 1) #[.slice la L lc, .int .i64 T.safe, .slice aa k ac] 70
  defn : Blk wr w.heap.size dcs 24
  log : wr.ownsRow w.heap.size 43 7 (.slice la L lc) L (cmdVals T.log)
  len : L = T.log.length
  ans : wr.ownsRow w.heap.size 86 4 (.slice aa k ac) k (ansVals T.answers)
  cnt : k = T.answers.length
  quiet : Quiet w wr
theorem PlayAt.hush {w wr w' : World} {T : TapeR} {la : Option Addr} {L lc : Nat} {aa : Option Addr} {k ac : Nat} {dcs : Array Value} (h : PlayAt w wr T la L lc aa k ac dcs) (hq : Quiet wr w') : PlayAt w w' T la L lc aa k ac dcs :=
  ⟨h.tape.quiet hq, h.defn.quiet hq, own_quiet h.log hq, h.len, own_quiet h.ans hq, h.cnt, h.quiet.after hq⟩
/-- The tape's own cell is written into. -/
theorem PlayAt.safeSet {w wr : World} {T : TapeR} {la : Option Addr} {L lc : Nat} {aa : Option Addr} {k ac : Nat} {dcs : Array Value} (h : PlayAt w wr T la L lc aa k ac dcs) (x : Int) : PlayAt w (wr.setCell ⟨w.heap.size + 1, 1, none⟩ (.int .i64 x)) ⟨T.log, x, T.answers⟩ la L lc aa k ac dcs :=
  ⟨by simpa using h.tape.set 1 (.int .i64 x), h.defn.other _ (by show w.heap.size ≠ w.heap.size + 1; omega), ownsRow_setCell_other h.log (own_ne h.log h.tape (by decide)) _, h.len, ownsRow_setCell_other h.ans (own_ne h.ans h.tape (by decide)) _, h.cnt, Below.setCell h.quiet (p := ⟨w.heap.size + 1, 1, none⟩) (by show w.heap.size ≤ w.heap.size + 1; omega) _⟩
/-- A block beside it is written into. -/
theorem PlayAt.beside {w wr : World} {T : TapeR} {la : Option Addr} {L lc : Nat} {aa : Option Addr} {k ac : Nat} {dcs : Array Value} (h : PlayAt w wr T la L lc aa k ac dcs) {b : Nat} (hb : w.heap.size + 1 < b) (hl : (Value.slice la L lc).ownBlock ≠ some b) (ha : (Value.slice aa k ac).ownBlock ≠ some b) (j : Nat) (v : Value) : PlayAt w (wr.setCell ⟨b, j, none⟩ v) T la L lc aa k ac dcs :=
  ⟨h.tape.other _ (by show w.heap.size + 1 ≠ b; omega), h.defn.other _ (by show w.heap.size ≠ b; omega), ownsRow_setCell_other h.log hl _, h.len, ownsRow_setCell_other h.ans ha _, h.cnt, Below.setCell h.quiet (p := ⟨b, j, none⟩) (by show w.heap.size ≤ b; omega) _⟩


theorem play_snoc {w U w4 : World} {lg : List Cmd} {sf : Int} {an : List Answer} {la : Option Addr} {L lc : Nat} {aa : Option Addr} {k ac : Nat} {dcs : Array Value} {o : Obj} {g2 cap2 : Nat} {A : Answer} (h : PlayAt w U ⟨lg, sf, an⟩ la L lc aa k ac dcs)
    (hown : w4.ownsRow w.heap.size 86 4 (.slice (some ⟨g2, 0, none⟩) (k + 1) cap2) (k + 1) (ansVals an ++ A.cells)) (hg : (U.alloc o).grownBy w4 (Value.slice aa k ac).ownBlock) :
    PlayAt w (w4.setCell ⟨w.heap.size + 1, 2, none⟩ (.slice (some ⟨g2, 0, none⟩) (k + 1) cap2)) ⟨lg, sf, an ++ [A]⟩ la L lc (some ⟨g2, 0, none⟩) (k + 1) cap2 dcs := by
  have ht := (h.tape.alloc o).grown hg (fun e => own_ne h.ans h.tape (by decide) e.symm)
  have hlog := own_other h.log h.ans (by decide) hg
  have hcnt : k = an.length := h.cnt
  refine ⟨by simpa using ht.set 2 _, ((h.defn.alloc o).grown hg (fun e => own_ne h.ans h.defn (by decide) e.symm)).other _ (by show w.heap.size ≠ w.heap.size + 1; omega), ownsRow_setCell_other hlog (own_ne hlog ht (by decide)) _, h.len, ?_, by simp [hcnt], ?_⟩
  · refine ownsRow_setCell_other ?_ (own_ne hown ht (by decide)) _
    have e : ansVals (an ++ [A]) = ansVals an ++ A.cells := by unfold ansVals; simp
    rw [e]; exact hown
  · exact Below.setCell (Below.grown (h.quiet.alloc h.quiet.size _) hg (by have := h.quiet.size; simp; omega) (fun j hj => (own_ge h.ans j hj).1)) (p := ⟨w.heap.size + 1, 2, none⟩) (by show w.heap.size ≤ w.heap.size + 1; omega) _
theorem play_log {w U w4 : World} {lg : List Cmd} {sf : Int} {an : List Answer} {la : Option Addr} {L lc : Nat} {aa : Option Addr} {k ac : Nat} {dcs : Array Value} {o : Obj} {g2 cap2 : Nat} {c : Cmd} (h : PlayAt w U ⟨lg, sf, an⟩ la L lc aa k ac dcs)
    (hown : w4.ownsRow w.heap.size 43 7 (.slice (some ⟨g2, 0, none⟩) (L + 1) cap2) (L + 1) (cmdVals lg ++ c.cells)) (hg : (U.alloc o).grownBy w4 (Value.slice la L lc).ownBlock) :
    PlayAt w (w4.setCell ⟨w.heap.size + 1, 0, none⟩ (.slice (some ⟨g2, 0, none⟩) (L + 1) cap2)) ⟨lg ++ [c], sf, an⟩ (some ⟨g2, 0, none⟩) (L + 1) cap2 aa k ac dcs := by
  have ht := (h.tape.alloc o).grown hg (fun e => own_ne h.log h.tape (by decide) e.symm)
  have hans := own_other h.ans h.log (by decide) hg
  have hlen : L = lg.length := h.len
  refine ⟨by simpa using ht.set 0 _, ((h.defn.alloc o).grown hg (fun e => own_ne h.log h.defn (by decide) e.symm)).other _ (by show w.heap.size ≠ w.heap.size + 1; omega), ?_, by simp [hlen], ownsRow_setCell_other hans (own_ne hans ht (by decide)) _, h.cnt, ?_⟩
  · refine ownsRow_setCell_other ?_ (own_ne hown ht (by decide)) _
    have e : cmdVals (lg ++ [c]) = cmdVals lg ++ c.cells := by unfold cmdVals; simp
    rw [e]; exact hown
  · exact Below.setCell (Below.grown (h.quiet.alloc h.quiet.size _) hg (by have := h.quiet.size; simp; omega) (fun j hj => (own_ge h.log j hj).1)) (p := ⟨w.heap.size + 1, 0, none⟩) (by show w.heap.size ≤ w.heap.size + 1; omega) _
theorem play_cut {w U : World} {lg lg2 : List Cmd} {sf : Int} {an : List Answer} {la la2 : Option Addr} {L lc L2 lc2 : Nat} {aa : Option Addr} {k ac : Nat} {dcs : Array Value} (h : PlayAt w U ⟨lg, sf, an⟩ la L lc aa k ac dcs)
    (hown : U.ownsRow w.heap.size 43 7 (.slice la2 L2 lc2) L2 (cmdVals lg2)) (hl : L2 = lg2.length) :
    PlayAt w (U.setCell ⟨w.heap.size + 1, 0, none⟩ (.slice la2 L2 lc2)) ⟨lg2, sf, an⟩ la2 L2 lc2 aa k ac dcs :=
  ⟨by simpa using h.tape.set 0 (.slice la2 L2 lc2), h.defn.other _ (by show w.heap.size ≠ w.heap.size + 1; omega), ownsRow_setCell_other hown (own_ne hown h.tape (by decide)) _, hl, ownsRow_setCell_other h.ans (own_ne h.ans h.tape (by decide)) _, h.cnt, Below.setCell h.quiet (p := ⟨w.heap.size + 1, 0, none⟩) (by show w.heap.size ≤ w.heap.size + 1; omega) _⟩

end Go.Proofs.YtgcjlgaapiefiabGreat

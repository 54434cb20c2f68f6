import Derived.Test.YtgcjlgaapiefiaaQJwH
import Derived.Test.YtgcjlgaapiefiaaQChk
import Derived.Test.YtgcjlgaapiefiaaQKpA

/-
  Walks of the statements without the document's answer: awake, valid, refuses.
-/
namespace Go.Proofs.Ytgcjlgaapiefiaa
open Go.RowKit Go.Sort

def dAwake : Def := ⟨[⟨false, false, 0, 1⟩], 0, 1⟩
def sAwake : List Cmd := [⟨1, 7, 0, 0, 0, ⟨#[]⟩, false⟩, ⟨2, 7, 0, 0, 0, ⟨#[]⟩, false⟩, ⟨3, 7, 1, 1, 0, ⟨#[]⟩, false⟩]
theorem awake_ok : dAwake.ok = true := by decide
theorem awake_answers : (playR dAwake sAwake).answers = [noR 0, ⟨0, 1, 0, 1⟩, noR 0] := by rfl
theorem awake_log : (playR dAwake sAwake).log = sAwake := by rfl
theorem awake_world : worldR dAwake sAwake = ⟨0, [⟨7, 3, false, 1, 0, false, 1, 0, 0, 0, 0, [⟨1, 0, 1⟩]⟩], []⟩ := by rfl

set_option maxRecDepth 100000 in
set_option maxHeartbeats 4000000 in
theorem awake_any (w : World) : Calls Try.prog 22 #[] w fun e w' => e = .returned (.bool true) ∧ Quiet w w' := by
  have hq0 : ∀ (w : World) o, Quiet w (w.alloc o) := fun w o => (Below.refl _ _).alloc (Nat.le_refl _) _
  have HRun : Hid (∀ V a b, DefIs V (.agg #[.slice a 1 1, .int .i64 0, .int .i64 1]) dAwake → Cmds V (.slice b 3 3) sAwake → Calls Try.prog 16 #[.agg #[.slice a 1 1, .int .i64 0, .int .i64 1], .slice b 3 3] V fun e w' => Quiet V w' ∧ ∃ aa ac, e = .returned (.tuple #[.slice aa 3 ac, .int .i64 0]) ∧ Answers w' (.slice aa 3 ac) [noR 0, ⟨0, 1, 0, 1⟩, noR 0]) := fun V a b h1 h2 =>
    (runM_any _ _ dAwake sAwake V h1 h2 (by decide) (by intro c hc; simp [sAwake] at hc; rcases hc with rfl | rfl | rfl <;> decide)).mono (by
      rintro e w' ⟨hq, hc⟩
      rcases hc with ⟨q, _⟩ | ⟨_, aa, ac, rfl, ho⟩
      · rw [awake_ok] at q; simp at q
      · rw [awake_answers] at ho
        exact ⟨hq, aa, ac, rfl, own_answers ho rfl⟩)
  have HSt : Hid (∀ V a b, DefIs V (.agg #[.slice a 1 1, .int .i64 0, .int .i64 1]) dAwake → Cmds V (.slice b 3 3) sAwake → Calls Try.prog 19 #[.agg #[.slice a 1 1, .int .i64 0, .int .i64 1], .slice b 3 3] V fun e w' => Quiet V w' ∧ ∃ ia ic ra m rc, e = .returned (.tuple #[.agg #[.int .i64 0, .slice ia 1 ic, .slice ra m rc], .int .i64 0]) ∧ InstsAt w' (.slice ia 1 ic) [⟨7, 3, false, 1, 0, false, 1, 0, 0, 0, 0, [⟨1, 0, 1⟩]⟩]) := fun V a b h1 h2 =>
    (stateM_any _ _ dAwake sAwake V h1 h2 (by decide) (by intro c hc; simp [sAwake] at hc; rcases hc with rfl | rfl | rfl <;> decide)).mono (by
      rintro e w' ⟨hq, hc⟩
      rcases hc with ⟨q, _⟩ | ⟨_, ia, n, ic, ra, m, rc, rfl, hI, _⟩
      · rw [awake_ok] at q; simp at q
      · rw [awake_log, awake_world] at hI
        obtain ⟨hn, _⟩ := hI.len
        simp at hn
        subst hn
        refine ⟨hq, ia, ic, ra, m, rc, ?_, hI⟩
        rw [awake_log, awake_world])
  go_enter Try.func22, Try.ntmps22
  go_wp2_with fail
  refine calls_gen (fun V => DefIs V (.agg #[.slice (some ⟨w.heap.size, 0, none⟩) 1 1, .int .i64 0, .int .i64 1]) dAwake ∧ Cmds V (.slice (some ⟨w.heap.size + 1 + 1, 0, none⟩) 3 3) sAwake ∧ Blk V (w.heap.size + 1) #[.slice (some ⟨w.heap.size, 0, none⟩) 1 1, .int .i64 0, .int .i64 1] 24 ∧ Quiet w V) ?_ ?_
  · refine ⟨⟨_, _, _, rfl, ?_⟩, ?_, (Blk.new' (by simp)).alloc _, ((hq0 _ _).after (hq0 _ _)).after (hq0 _ _)⟩
    · refine own_arr (base := w.heap.size) (e := 71) (n := 1) (xs := stepVals dAwake.steps) ?_ rfl (by intro x hx; simp [stepVals, dAwake] at hx; subst hx; rfl)
      exact ⟨rfl, .inr ⟨w.heap.size, 1, _, rfl, Nat.le_refl _, ((Blk.new' rfl).alloc _).alloc _, Nat.le_refl _, by unfold maxLen; omega, rfl, rfl⟩⟩
    · refine own_cmds (base := w.heap.size) (n := 3) ?_ rfl (by decide)
      exact ⟨rfl, .inr ⟨w.heap.size + 1 + 1, 3, _, rfl, by omega, Blk.new' (by simp), Nat.le_refl _, by unfold maxLen; omega, rfl, rfl⟩⟩
  rintro V ⟨hd, hc, bd, hqV⟩
  refine (HRun.out V _ _ hd hc).mono ?_
  rintro e w1 ⟨hq1, aa, ac, rfl, hA⟩
  replace bd := bd.quiet hq1
  have gd := bd.cell
  have zd := bd.lt
  go_wp2_with fail
  refine (HSt.out w1 _ _ (hd.quiet hq1) (hc.quiet hq1)).mono ?_
  rintro e w2 ⟨hq2, ia, ic, ra, m, rc, rfl, hI⟩
  obtain ⟨b, off, rfl, hb, a0, a1, a2, a3⟩ := Answers.cell (Arr.quiet hA hq2) 1 (by decide)
  obtain ⟨g, o, la, ln, lc, rfl, hg, hx, hE⟩ := hI.get 0 (by decide)
  obtain ⟨c0, c1, c2, c3, c4, c5, c6, c7, c8, c9, c10, c11⟩ := hx.twelve
  obtain ⟨hln, _⟩ := hE.len
  simp at hln
  subst hln
  obtain ⟨eb, eo, rfl, heb, e0, e1, e2⟩ := hE.cell 0 (by decide)
  simp at a0 a1 a2 a3 c0 c1 c2 c3 c4 c5 c6 c7 c8 c9 c10 c11 e0 e1 e2
  clear gd zd
  go_upto_region 5 with (fail)
  refine wp_gen (fun U => Blk U w2.heap.size #[.int .i64 0, .slice (some ⟨g, o, none⟩) 1 ic, .slice ra m rc] 38 ∧ Quiet w2 U) ⟨Blk.new' rfl, hq0 _ _⟩ ?_
  rintro U ⟨bw, hqU⟩
  have gw := bw.cell
  have zw := bw.lt
  have k0 := ((bcell hqU).1 _ _ hb).trans a0
  have k1 := ((bcell hqU).1 _ _ hb).trans a1
  have k3 := ((bcell hqU).1 _ _ hb).trans a3
  have x0 := ((bcell hqU).1 _ _ hg).trans c0
  have x1 := ((bcell hqU).1 _ _ hg).trans c1
  have x2 := ((bcell hqU).1 _ _ hg).trans c2
  have x3 := ((bcell hqU).1 _ _ hg).trans c3
  have x4 := ((bcell hqU).1 _ _ hg).trans c4
  have x5 := ((bcell hqU).1 _ _ hg).trans c5
  have x6 := ((bcell hqU).1 _ _ hg).trans c6
  have x7 := ((bcell hqU).1 _ _ hg).trans c7
  have x8 := ((bcell hqU).1 _ _ hg).trans c8
  have x9 := ((bcell hqU).1 _ _ hg).trans c9
  have x10 := ((bcell hqU).1 _ _ hg).trans c10
  have x11 := ((bcell hqU).1 _ _ hg).trans c11
  have y0 := ((bcell hqU).1 _ _ heb).trans e0
  have hsU := hqU.size
  have hqF : Quiet w U := ((hqV.after hq1).after hq2).after hqU
  clear a0 a1 a2 a3 c0 c1 c2 c3 c4 c5 c6 c7 c8 c9 c10 c11 e0 e1 e2 hx hE hI hA
  have zb : b < U.heap.size := Nat.lt_of_lt_of_le hb hsU
  have zg : g < U.heap.size := Nat.lt_of_lt_of_le hg hsU
  have ze : eb < U.heap.size := Nat.lt_of_lt_of_le heb hsU
  go_upto_region 8 with (fail)
  refine wp_gen (fun U2 => Blk U2 U.heap.size #[.int .i64 7, .int .i64 3, .bool false, .int .i64 1, .int .i64 0, .bool false, .int .i64 1, .int .i64 0, .int .i64 0, .int .i64 0, .int .i64 0, .slice (some ⟨eb, eo, none⟩) 1 lc] 46 ∧ Quiet U U2) ⟨Blk.new' rfl, hq0 _ _⟩ ?_
  rintro U2 ⟨bi, hq3⟩
  have gi := bi.cell
  have zi := bi.lt
  have k0' := ((bcell hq3).1 _ _ zb).trans k0
  have k1' := ((bcell hq3).1 _ _ zb).trans k1
  have k3' := ((bcell hq3).1 _ _ zb).trans k3
  have y0' := ((bcell hq3).1 _ _ ze).trans y0
  clear k0 k1 k3 x0 x1 x2 x3 x4 x5 x6 x7 x8 x9 x10 x11 y0 gw zw
  go_wp2
  go_ret
  exact ⟨rfl, hqF.after hq3⟩

set_option maxRecDepth 100000 in
set_option maxHeartbeats 4000000 in
theorem refuses_any (dv sv : Value) (d : Def) (s : List Cmd) (w : World) (hd : DefIs w dv d) (hok : d.ok = false) (h : Cmds w sv s) (hl : s.length ≤ 1048576) (hcr : ∀ c ∈ s, c.reason.size ≤ 9223372036854775807) :
    Calls Try.prog 24 #[dv, sv] w fun e w' => e = .returned (.bool true) ∧ Quiet w w' := by
  have hq0 : ∀ (w : World) o, Quiet w (w.alloc o) := fun w o => (Below.refl _ _).alloc (Nat.le_refl _) _
  have hd0 := hd
  obtain ⟨da, dn, dcap, rfl, hst⟩ := hd
  clear hst
  go_enter Try.func24, Try.ntmps24
  go_wp2_with fail
  refine calls_gen (fun V => Blk V w.heap.size #[.slice da dn dcap, .int .i64 d.quorum, .int .i64 d.expiry] 24 ∧ Quiet w V) ⟨Blk.new' rfl, hq0 _ _⟩ ?_
  rintro V ⟨bd, hqV⟩
  refine (runM_any _ sv d s V (hd0.quiet hqV) (h.quiet hqV) hl hcr).mono ?_
  rintro e w1 ⟨hq1, hc1⟩
  rcases hc1 with ⟨_, rfl⟩ | ⟨q, _⟩
  rotate_left
  · rw [hok] at q; simp at q
  replace bd := bd.quiet hq1
  have gd := bd.cell
  have zd := bd.lt
  go_wp2_with fail
  refine (stateM_any _ sv d s w1 (hd0.quiet (hqV.after hq1)) (h.quiet (hqV.after hq1)) hl hcr).mono ?_
  rintro e w2 ⟨hq2, hc2⟩
  rcases hc2 with ⟨_, rfl⟩ | ⟨q, _⟩
  rotate_left
  · rw [hok] at q; simp at q
  go_wp2
  go_ret
  exact ⟨rfl, ((hqV.after hq1).after hq2).after (hq0 _ _)⟩

end Go.Proofs.Ytgcjlgaapiefiaa

/-
  Walks of the statements without the document's answer: valid.
-/
namespace Go.Proofs.Ytgcjlgaapiefiaa
open Go.RowKit Go.Sort

theorem ok_parts (d : Def) : d.ok = (headOk d.steps.length d.quorum d.expiry && stepsOk d.steps) := by
  rw [headOk_eq]; unfold Def.ok
  simp [Bool.and_assoc]

set_option maxRecDepth 100000 in
set_option maxHeartbeats 2000000 in
theorem valid_any (v : Value) (d : Def) (w : World) (h : DefIs w v d) :
    Calls Try.prog 23 #[v] w fun e w' => e = .returned (.bool d.ok) ∧ Quiet w w' := by
  have hq0 : ∀ (w : World) o, Quiet w (w.alloc o) := fun w o => (Below.refl _ _).alloc (Nat.le_refl _) _
  obtain ⟨a, n, cap, rfl, h⟩ := h
  have HOK : Hid (d.ok = (headOk d.steps.length d.quorum d.expiry && stepsOk d.steps)) := ok_parts d
  rw [HOK.out]
  clear HOK
  have hn : n = d.steps.length := by obtain ⟨_, _, h1, _⟩ := h; simp [stepVals] at h1; exact h1.2.1
  have hm : n ≤ maxLen := by obtain ⟨_, _, h1, h2, h3, _⟩ := h; simp [stepVals] at h1 h2; omega
  unfold maxLen at hm
  rw [← hn]
  have HN : Hid (n = d.steps.length) := hn
  clear hn
  generalize d.quorum = q at *
  generalize d.expiry = e at *
  generalize d.steps = l at *
  have hbad : ¬ (1 ≤ n ∧ n ≤ 6 ∧ 0 ≤ q ∧ q ≤ 3 ∧ 1 ≤ e ∧ e ≤ 50) → headOk n q e = false := by
    intro hh
    rw [headOk_eq]
    simp only [within, Bool.and_eq_false_iff, decide_eq_false_iff_not]
    omega
  by_cases t1 : (n : Int) < 1
  · rw [hbad (by omega)]
    go_enter Try.func23, Try.ntmps23
    go_wp2
    go_ret
    exact ⟨rfl, hq0 _ _⟩
  by_cases t2 : (6 : Int) < n
  · rw [hbad (by omega)]
    go_enter Try.func23, Try.ntmps23
    go_wp2
    go_ret
    exact ⟨rfl, hq0 _ _⟩
  by_cases t3 : q < 0
  · rw [hbad (by omega)]
    go_enter Try.func23, Try.ntmps23
    go_wp2
    go_ret
    exact ⟨rfl, hq0 _ _⟩
  by_cases t4 : 3 < q
  · rw [hbad (by omega)]
    go_enter Try.func23, Try.ntmps23
    go_wp2
    go_ret
    exact ⟨rfl, hq0 _ _⟩
  by_cases t5 : e < 1
  · rw [hbad (by omega)]
    go_enter Try.func23, Try.ntmps23
    go_wp2
    go_ret
    exact ⟨rfl, hq0 _ _⟩
  by_cases t6 : 50 < e
  · rw [hbad (by omega)]
    go_enter Try.func23, Try.ntmps23
    go_wp2
    go_ret
    exact ⟨rfl, hq0 _ _⟩
  have hgood : headOk n q e = true := by
    rw [headOk_eq]
    simp only [within, Bool.and_eq_true, decide_eq_true_eq]
    omega
  rw [hgood]
  clear hbad hgood
  simp only [Bool.true_and]
  go_enter Try.func23, Try.ntmps23
  go_wp2
  go_loopw [3, 4] (fun p i wr => ∃ k : Nat, k ≤ n ∧ i = .int .i64 k ∧ p = .int .i64 (pivots (l.take k)) ∧ (l.take k).all Step.ok = true ∧ Blk wr w.heap.size #[.slice a n cap, .int .i64 q, .int .i64 e] 24 ∧ Quiet w wr) (fun _ i _ => n - (intOf i).toNat)
  case atStart => exact ⟨0, Nat.zero_le _, rfl, by simp [pivots], by simp, Blk.new' rfl, hq0 _ _⟩
  case round =>
    obtain ⟨k, hk, rfl, rfl, hall, bd, hbel⟩ := hrel
    have HA : Hid ((l.take k).all Step.ok = true) := hall
    clear hall
    have hpl : (pivots (l.take k) : Int) ≤ k := by have := pivots_le (l.take k); simp at this; omega
    have gd := bd.cell
    have zd := bd.lt
    by_cases hlt : k < n
    · have hkl : k < l.length := by have := HN.out; omega
      obtain ⟨b, off, rfl, hb, c0, c1, c2, c3⟩ := (h.quiet hbel).step k hkl
      have HP' : Hid (pivots (l.take (k + 1)) = pivots (l.take k) + (if l[k].pivot then 1 else 0)) := pivots_take l k hkl
      have HB : Hid (∀ (h : l[k].ok = false), stepsOk l = false) := stepsOk_bad l k hkl
      have HC : Hid ((l.take (k + 1)).all Step.ok = ((l.take k).all Step.ok && l[k].ok)) := all_take l k hkl
      revert c0 c1 c2 c3 HP' HB HC
      generalize l[k] = s
      obtain ⟨u, p, r, t⟩ := s
      intro c0 c1 c2 c3 HP' HB HC
      simp only at c0 c1 c2 c3
      have HSO : Hid (Step.ok ⟨u, p, r, t⟩ = (decide (0 ≤ r) && (decide (r ≤ 3) && (decide (0 < t) && decide (t ≤ 20))))) := by show Step.ok ⟨u, p, r, t⟩ = _; rw [stepOk_eq]
      have hki : (0 : Int) ≤ (k : Int) := by omega
      have hkj : (k : Int) < (n : Int) := by omega
      by_cases s1 : r < 0
      · have HF : Hid (stepsOk l = false) := HB.out (by rw [HSO.out]; simp; omega)
        go_wp2
        go_ret
        exact ⟨ret_bool HF.out.symm, hbel.after (hq0 _ _)⟩
      by_cases s2 : 3 < r
      · have HF : Hid (stepsOk l = false) := HB.out (by rw [HSO.out]; simp; omega)
        go_wp2
        go_ret
        exact ⟨ret_bool HF.out.symm, hbel.after (hq0 _ _)⟩
      by_cases s3 : t < 1
      · have HF : Hid (stepsOk l = false) := HB.out (by rw [HSO.out]; simp; omega)
        go_wp2
        go_ret
        exact ⟨ret_bool HF.out.symm, hbel.after (hq0 _ _)⟩
      by_cases s4 : 20 < t
      · have HF : Hid (stepsOk l = false) := HB.out (by rw [HSO.out]; simp; omega)
        go_wp2
        go_ret
        exact ⟨ret_bool HF.out.symm, hbel.after (hq0 _ _)⟩
      have HY : Hid (Step.ok ⟨u, p, r, t⟩ = true) := by show Step.ok _ = true; rw [HSO.out]; simp; omega
      cases p
      all_goals
        go_wp2
        go_roundw
        case rel => exact ⟨k + 1, by omega, by go_num, by rw [HP'.out]; simp, by rw [HC.out, HA.out, HY.out]; rfl, bd.alloc _, hbel.after (hq0 _ _)⟩
        case measure => simp [intOf]; omega
    · have hkn : k = l.length := by have := HN.out; omega
      have HL : Hid (stepsOk l = decide (pivots (l.take k) < 2)) := by
        show stepsOk l = _
        have e : l.take k = l := by rw [hkn]; simp
        have := HA.out
        rw [e] at this ⊢
        unfold stepsOk
        rw [this]
        simp only [Bool.true_and]
        congr 1
        exact propext (by omega)
      go_wp2
      go_ret
      exact ⟨ret_bool (by
        have e : l.take k = l := by rw [hkn]; simp
        rw [HL.out, e]
        simp
        try omega), hbel⟩

end Go.Proofs.Ytgcjlgaapiefiaa

/-
  Walks of the statements without the document's answer: turned.
-/
namespace Go.Proofs.Ytgcjlgaapiefiaa
open Go.RowKit Go.Sort

theorem settled_take (l : List Entry) (k : Nat) (h : k < l.length) : settledR (l.take (k + 1)) = settledStep (settledR (l.take k)) l[k] := by
  rw [List.take_succ_eq_append_getElem h, settledR_snoc]
theorem settledStep_up {n : Int} {e : Entry} (h : e.kind = 1 ∨ e.kind = 2) : settledStep n e = n + 1 := by unfold settledStep; rw [if_pos h]
theorem settledStep_down {n : Int} {e : Entry} (h : e.kind = 3 ∨ e.kind = 4) : settledStep n e = n - 1 := by unfold settledStep; rw [if_neg (by omega)]

set_option maxRecDepth 100000 in
set_option maxHeartbeats 8000000 in
theorem turned_any (dv : Value) (d : Def) (w : World) (hd : DefIs w dv d) (hok : d.ok = true) (x : Inst) (la : Option Addr) (ln lc : Nat) (hE : Ents w (.slice la ln lc) x.ledger) (hL : LedI d x) (hG : Good d x) (hs0 : x.settled = settledR x.ledger) :
    Calls Try.prog 25 #[dv, .agg #[.int .i64 x.id, .int .i64 x.mode, .bool x.stuck, .int .i64 x.settled, .int .i64 x.target, .bool x.resume, .int .i64 x.keys, .int .i64 x.key, .int .i64 x.due, .int .i64 x.tries, .int .i64 x.wake, .slice la ln lc]] w fun e w' => e = .returned (.bool true) ∧ Quiet w w' := by
  have hq0 : ∀ (w : World) o, Quiet w (w.alloc o) := fun w o => (Below.refl _ _).alloc (Nat.le_refl _) _
  obtain ⟨da, dn, dcap, rfl, hst⟩ := hd
  have hdn : dn = d.steps.length := by obtain ⟨_, _, h1, _⟩ := hst; simp [stepVals] at h1; exact h1.2.1
  have hd6 : dn ≤ 6 := by have := quorum_ok hok; omega
  have HDN : Hid (dn = d.steps.length) := hdn
  clear hdn
  obtain ⟨hln, hlm⟩ := hE.len
  have HLN : Hid (ln = x.ledger.length) := hln
  clear hln
  have HLed : Hid (LedOk d x.ledger) := hL.led
  clear hL
  have HSs : Hid (x.settled = settledR x.ledger) := hs0
  clear hs0
  go_enter Try.func25, Try.ntmps25
  go_wp2
  go_loopw [5, 6] (fun n i wr => ∃ k : Nat, k ≤ ln ∧ i = .int .i64 k ∧ n = .int .i64 (settledR (x.ledger.take k)) ∧ 0 ≤ settledR (x.ledger.take k) ∧ settledR (x.ledger.take k) ≤ 6 ∧ Blk wr w.heap.size #[.slice da dn dcap, .int .i64 d.quorum, .int .i64 d.expiry] 24 ∧ Blk wr (w.heap.size + 1) #[.int .i64 x.id, .int .i64 x.mode, .bool x.stuck, .int .i64 x.settled, .int .i64 x.target, .bool x.resume, .int .i64 x.keys, .int .i64 x.key, .int .i64 x.due, .int .i64 x.tries, .int .i64 x.wake, .slice la ln lc] 46 ∧ Quiet w wr) (fun _ i _ => ln - (intOf i).toNat)
  case atStart => exact ⟨0, Nat.zero_le _, rfl, rfl, by show (0 : Int) ≤ 0; decide, by show (0 : Int) ≤ 6; decide, (Blk.new' rfl).alloc _, Blk.new' (by simp), (hq0 _ _).after (hq0 _ _)⟩
  case round =>
    obtain ⟨k, hk, rfl, rfl, hn0, hn6, bd, bi, hq⟩ := hrel
    have gd := bd.cell
    have zd := bd.lt
    have gi := bi.cell
    have zi := bi.lt
    by_cases hlt : k < ln
    · have hkl : k < x.ledger.length := by have := HLN.out; omega
      obtain ⟨b, off, rfl, hb, c0, c1, c2⟩ := (hE.quiet hq).cell k hkl
      have HS : Hid (settledR (x.ledger.take (k + 1)) = settledStep (settledR (x.ledger.take k)) x.ledger[k]) := settled_take _ k hkl
      have hEnt := HLed.out k hkl
      generalize settledR (x.ledger.take k) = n at *
      generalize x.ledger[k] = e at *
      have hki : (0 : Int) ≤ (k : Int) := by omega
      have hkj : (k : Int) < (ln : Int) := by omega
      rcases hEnt with ⟨hkind, hstep, q0, q1⟩ | ⟨hkind, hstep, q0, q1, q2, q3⟩
      · have HU : Hid (settledStep n e = n + 1) := settledStep_up hkind
        have q1' : n < (dn : Int) := by have := HDN.out; omega
        have hstep' : (e.step == n) = true := by simp [hstep]
        rcases hkind with hkd | hkd
        · have t1 : (e.kind == 1) = true := by simp [hkd]
          clear hkd
          go_wp2
          go_roundw
          case rel => exact ⟨k + 1, by omega, by go_num, by rw [HS.out, HU.out], by rw [HS.out, HU.out]; omega, by rw [HS.out, HU.out]; omega, bd.alloc _, bi.alloc _, hq.after (hq0 _ _)⟩
          case measure => simp [intOf]; omega
        · have t1 : (e.kind == 1) = false := by simp [hkd]
          have t2 : (e.kind == 2) = true := by simp [hkd]
          clear hkd
          go_wp2
          go_roundw
          case rel => exact ⟨k + 1, by omega, by go_num, by rw [HS.out, HU.out], by rw [HS.out, HU.out]; omega, by rw [HS.out, HU.out]; omega, bd.alloc _, bi.alloc _, hq.after (hq0 _ _)⟩
          case measure => simp [intOf]; omega
      · have HU : Hid (settledStep n e = n - 1) := settledStep_down hkind
        obtain ⟨m, hm⟩ : ∃ m : Nat, (m : Int) = n - 1 := ⟨(n - 1).toNat, by omega⟩
        have hml : m < d.steps.length := by omega
        obtain ⟨sb, so, rfl, hsb, s0, s1, s2, s3⟩ := (hst.quiet hq).step m hml
        have hsr : stepR d (n - 1) = d.steps[m] := by
          obtain ⟨h', e'⟩ := stepR_get (d := d) (i := n - 1) (by omega) (by omega)
          rw [e']; congr 1; omega
        rw [hsr] at q2 q3
        rw [q2] at s1
        have hmd : (m : Int) < (dn : Int) := by have := HDN.out; omega
        have hm0 : (0 : Int) ≤ (m : Int) := by omega
        have hstep' : e.step = (m : Int) := by omega
        have hnm : n = (m : Int) + 1 := by omega
        subst hnm
        rw [hstep'] at c1
        have HU2 : Hid (settledStep ((m : Int) + 1) e = (m : Int)) := by show settledStep _ e = _; rw [HU.out]; omega
        clear hm hsr hstep hstep' HU q0 q1
        have zsb : sb < wr.heap.size := hsb
        rcases hkind with hkd | hkd
        · have t1 : (e.kind == 1) = false := by simp [hkd]
          have t2 : (e.kind == 2) = false := by simp [hkd]
          have t3 : (e.kind == 3) = true := by simp [hkd]
          rw [q3 hkd] at s0
          clear hkd q3
          go_wp2
          go_roundw
          case rel => exact ⟨k + 1, by omega, by go_num, by rw [HS.out, HU2.out], by rw [HS.out, HU2.out]; omega, by rw [HS.out, HU2.out]; omega, bd.alloc _, bi.alloc _, hq.after (hq0 _ _)⟩
          case measure => simp [intOf]; omega
        · have t1 : (e.kind == 1) = false := by simp [hkd]
          have t2 : (e.kind == 2) = false := by simp [hkd]
          have t3 : (e.kind == 3) = false := by simp [hkd]
          have t4 : (e.kind == 4) = true := by simp [hkd]
          clear hkd q3
          go_wp2
          go_roundw
          case rel => exact ⟨k + 1, by omega, by go_num, by rw [HS.out, HU2.out], by rw [HS.out, HU2.out]; omega, by rw [HS.out, HU2.out]; omega, bd.alloc _, bi.alloc _, hq.after (hq0 _ _)⟩
          case measure => simp [intOf]; omega
    · have hkn : x.ledger.take k = x.ledger := by have := HLN.out; rw [List.take_of_length_le (by omega)]
      rw [hkn] at hn0 hn6 ⊢
      have hmodes := hG.modes
      rw [← HSs.out] at hmodes hn0 hn6 ⊢
      have hdl : (d.steps.length : Int) = (dn : Int) := by have := HDN.out; omega
      rw [hdl] at hmodes
      have hss : (x.settled == x.settled) = true := by simp
      rcases hmodes with ⟨m1, m2, m3, m4, m5⟩ | ⟨m1, m2, m3, m4, m5⟩ | ⟨m1, m2, m3, m4⟩ | ⟨m1, m2, m3, m4, m5, m6⟩
      · have t1 : (x.mode == 1) = true := by simp [m1]
        have m4' : (x.target == 0) = true := by simp [m4]
        clear m1 m4
        go_wp2
        go_ret
        exact ⟨ret_bool (by simp), hq⟩
      · have t1 : (x.mode == 1) = false := by simp [m1]
        have t2 : (x.mode == 2) = true := by simp [m1]
        clear m1
        cases hr : x.resume
        · have m5' : (x.target == 0) = true := by simp [m5 hr]
          clear m5
          rw [hr] at gi
          go_wp2
          go_ret
          exact ⟨ret_bool (by simp), hq⟩
        · clear m5
          rw [hr] at gi
          go_wp2
          go_ret
          exact ⟨ret_bool (by simp), hq⟩
      · have t1 : (x.mode == 1) = false := by simp [m1]
        have t2 : (x.mode == 2) = false := by simp [m1]
        have t3 : (x.mode == 3) = true := by simp [m1]
        have m2' : (x.key == 0) = true := by simp [m2]
        have m4' : (x.settled == (dn : Int)) = true := by simp [m4]
        clear m1 m2 m4
        rw [m3] at gi
        go_wp2
        go_ret
        exact ⟨ret_bool (by simp), hq⟩
      · have t1 : (x.mode == 1) = false := by simp [m1]
        have t2 : (x.mode == 2) = false := by simp [m1]
        have t3 : (x.mode == 3) = false := by simp [m1]
        have t4 : (x.mode == 4) = true := by simp [m1]
        have m2' : (x.key == 0) = true := by simp [m2]
        have m4' : (x.settled == 0) = true := by simp [m4]
        clear m1 m2 m4 m5 m6
        rw [m3] at gi
        go_wp2
        go_ret
        exact ⟨ret_bool (by simp), hq⟩

end Go.Proofs.Ytgcjlgaapiefiaa

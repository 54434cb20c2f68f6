import Derived.Test.YtgcjlgaapiefiabGreatQFs
import Derived.Test.YtgcjlgaapiefiabGreatQPlyM
import Derived.Test.YtgcjlgaapiefiabGreatQLog
import Derived.Test.YtgcjlgaapiefiabGreatQFw
import Derived.Test.YtgcjlgaapiefiabGreatQAl

/-
  What the six calls of a round answer, whether or not there is a definition.
-/
namespace Go.Proofs.YtgcjlgaapiefiabGreat
open Go.RowKit Go.Sort

theorem RowsMem.low {α : Type} {t e : TypeId} {m s : Nat} {cells : α → Value → List Value} {inner : α → List Value} {len : α → Nat} {base base' : Nat} {w : World} {ia : Option Addr} {n ic : Nat} {xs : List α} (h : RowsMem t e m s cells inner len base w ia n ic xs) (hb : base' ≤ base) : RowsMem t e m s cells inner len base' w ia n ic xs := by
  obtain ⟨ps, e1, e2⟩ := h
  exact ⟨ps, e1, e2.count, own_base e2.own hb, fun p hp => by obtain ⟨a, k, c, q1, q2, q3⟩ := e2.each p hp; exact ⟨a, k, c, q1, q2, own_base q3 hb⟩, e2.apart⟩

theorem nilU_answers (w : World) : Answers w (.slice none 0 0) [] := ⟨none, 0, rfl, Nat.le_refl _, Nat.zero_le _, by simp, .inl rfl⟩
theorem nilU_insts (w : World) : InstsAt w (.slice none 0 0) [] := ⟨[], rfl, ⟨none, 0, rfl, Nat.le_refl _, Nat.zero_le _, by simp [instVals], .inl rfl⟩, by simp⟩
theorem nilU_reqs (w : World) : ReqsAt w (.slice none 0 0) [] := ⟨[], rfl, ⟨none, 0, rfl, Nat.le_refl _, Nat.zero_le _, by simp [reqVals], .inl rfl⟩, by simp⟩

/-- A journal is read as the world that it was written of. -/
theorem read_all {d : Def} (hok : d.ok = true) {l : List Cmd} (h : LogOk d l) : worldR d (readR d [] (bytesR l)).1 = worldR d l := by
  have e : restOf (bytesR l) 0 = (bytesR l).extract 0 (bytesN l) := by unfold restOf; rfl
  obtain ⟨j, l', h1, h2, _, h4, _, h6⟩ := read_journal hok (bytesR l) l [] [] 0 (bytesN l) (bytesR l).size (by simpa using h) (LogOk.nil d) rfl e (Nat.le_refl _) (by omega) (by omega)
  have hj : j = l.length := by
    rcases h6 with h6 | h6
    · exact h6
    · have h7 : bytesN l = bytesN (l.take (j + 1)) + bytesN (l.drop (j + 1)) := by rw [← bytesN_append, List.take_append_drop]
      omega
  subst hj
  rw [List.take_length] at h4
  unfold readR
  rw [h2]
  simpa using h4

/-- The world, the answers, the journal. -/
def worldU (d : Def) (s : List Cmd) : WorldR := if d.ok then worldR d (playR d s).log else ⟨0, [], []⟩
def ansU (d : Def) (s : List Cmd) : List Answer := if d.ok then (playR d s).answers else []
def jouU (d : Def) (s : List Cmd) : ByteArray := if d.ok then bytesR (playR d s).log else ⟨#[]⟩

theorem playU_log (d : Def) (s : List Cmd) : LogOk d (playR d s).log ∧ (playR d s).log.length ≤ s.length ∧ (playR d s).answers.length = s.length := by
  obtain ⟨h1, h2, h3⟩ := playFold d s s.length (Nat.le_refl _)
  rw [List.take_length] at h1 h2 h3
  exact ⟨h1.log, h2, h3⟩
theorem worldU_bd (d : Def) (s : List Cmd) (hl : s.length ≤ 1048576) : (worldU d s).insts.length ≤ 4 ∧ (worldU d s).reqs.length ≤ 1000 ∧ (∀ x ∈ (worldU d s).insts, x.ledger.length ≤ 2199023255552) ∧ ∀ r ∈ (worldU d s).reqs, r.bys.length ≤ 2199023255552 := by
  unfold worldU
  cases hok : d.ok
  · simp
  · obtain ⟨h1, h2, _⟩ := playU_log d s
    obtain ⟨hb, h4⟩ := worldR_bd hok h1 (by omega)
    simp only [if_true]
    refine ⟨h4, hb.count, fun x hx => ?_, fun r hr => ?_⟩
    · have := (hb.insts x hx).2.2.2.2.2.2; omega
    · have := (hb.reqs r hr).1; omega

theorem refState_u (dv sv : Value) (d : Def) (s : List Cmd) (w : World) (hd : DefIs w dv d) (h : Cmds w sv s) (hl : s.length ≤ 1048576) (hcr : ∀ c ∈ s, c.reason.size ≤ 9223372036854775807) : Calls Tryz.prog 11 #[dv, sv] w fun e w' => Quiet w w' ∧ ∃ ia n ic ra m rc, e = .returned (.tuple #[.agg #[.int .i64 (worldU d s).clock, .slice ia n ic, .slice ra m rc], .int .i64 (chk d.ok)]) ∧
    ∀ w2 : World, (∀ k, w.heap.size ≤ k → k < w'.heap.size → w2.heap[k]? = w'.heap[k]?) → InstsAt w2 (.slice ia n ic) (worldU d s).insts ∧ ReqsAt w2 (.slice ra m rc) (worldU d s).reqs := by
  refine (refStateF_any dv sv d s (played_all s) w hd h (by omega) hcr).mono ?_
  rintro e w' ⟨hq, hc⟩
  refine ⟨hq, ?_⟩
  unfold worldU
  rcases hc with ⟨hok, rfl⟩ | ⟨hok, ia, n, ic, ra, m, rc, rfl, hI, hR, hb⟩
  · rw [hok]
    exact ⟨none, 0, 0, none, 0, 0, rfl, fun w2 _ => ⟨nilU_insts _, nilU_reqs _⟩⟩
  · rw [hok]
    refine ⟨ia, n, ic, ra, m, rc, rfl, fun w2 hw => ⟨InstsOwn.at (base := w.heap.size) ?_ hb, ReqsOwn.at (base := w.heap.size) ?_⟩⟩
    · obtain ⟨ps, e1, e2, e3⟩ := hI
      exact ⟨ps, e1, own_same e2 (fun k hk => hw k (own_ge e2 k hk).1 (own_ge e2 k hk).2), fun p hp => by
        obtain ⟨a, n, cap, q1, q2, q3⟩ := e3 p hp
        exact ⟨a, n, cap, q1, q2, own_same q3 (fun k hk => hw k (own_ge q3 k hk).1 (own_ge q3 k hk).2)⟩⟩
    · obtain ⟨ps, e1, e2, e3⟩ := hR
      exact ⟨ps, e1, own_same e2 (fun k hk => hw k (own_ge e2 k hk).1 (own_ge e2 k hk).2), fun p hp => by
        obtain ⟨a, n, cap, q1, q2, q3⟩ := e3 p hp
        exact ⟨a, n, cap, q1, q2, own_same q3 (fun k hk => hw k (own_ge q3 k hk).1 (own_ge q3 k hk).2)⟩⟩

theorem state_u (dv sv : Value) (d : Def) (s : List Cmd) (w : World) (hd : DefIs w dv d) (h : Cmds w sv s) (hl : s.length ≤ 1048576) (hcr : ∀ c ∈ s, c.reason.size ≤ 9223372036854775807) : Calls Tryz.prog 12 #[dv, sv] w fun e w' => Quiet w w' ∧ ∃ ia n ic ra m rc, e = .returned (.tuple #[.agg #[.int .i64 (worldU d s).clock, .slice ia n ic, .slice ra m rc], .int .i64 (chk d.ok)]) ∧
    InstsMem w.heap.size w' ia n ic (worldU d s).insts ∧ ReqsMem w.heap.size w' ra m rc (worldU d s).reqs := by
  refine (stateF_any dv sv d s w hd h hl hcr).mono ?_
  rintro e w' ⟨hq, hc⟩
  refine ⟨hq, ?_⟩
  unfold worldU
  rcases hc with ⟨hok, rfl⟩ | ⟨hok, ia, n, ic, ra, m, rc, rfl, B, hB, hI, hR⟩
  · rw [hok]
    exact ⟨none, 0, 0, none, 0, 0, rfl, ⟨[], rfl, rfl, World.ownsRow_nil _ _ _ _, by simp, by simp⟩, ⟨[], rfl, rfl, World.ownsRow_nil _ _ _ _, by simp, by simp⟩⟩
  · rw [hok]
    exact ⟨ia, n, ic, ra, m, rc, rfl, RowsMem.low hI hB, RowsMem.low hR hB⟩

theorem run_u (dv sv : Value) (d : Def) (s : List Cmd) (w : World) (hd : DefIs w dv d) (h : Cmds w sv s) (hl : s.length ≤ 1048576) (hcr : ∀ c ∈ s, c.reason.size ≤ 9223372036854775807) : Calls Tryz.prog 15 #[dv, sv] w fun e w' => Quiet w w' ∧ ∃ aa k ac c, e = .returned (.tuple #[.slice aa k ac, .int .i64 c]) ∧ k = (ansU d s).length ∧ k ≤ 1048576 ∧ w'.ownsRow w.heap.size 86 4 (.slice aa k ac) k (ansVals (ansU d s)) := by
  refine (runM_any dv sv d s w hd h hl hcr).mono ?_
  rintro e w' ⟨hq, hc⟩
  refine ⟨hq, ?_⟩
  unfold ansU
  rcases hc with ⟨hok, rfl⟩ | ⟨hok, aa, ac, rfl, ho⟩
  · rw [hok]
    exact ⟨none, 0, 0, 1, rfl, rfl, by omega, World.ownsRow_nil _ _ _ _⟩
  · rw [hok]
    exact ⟨aa, s.length, ac, 0, rfl, (playU_log d s).2.2.symm, hl, ho⟩

theorem refRun_u (dv sv : Value) (d : Def) (s : List Cmd) (w : World) (hd : DefIs w dv d) (h : Cmds w sv s) (hl : s.length ≤ 1048576) (hcr : ∀ c ∈ s, c.reason.size ≤ 9223372036854775807) : Calls Tryz.prog 16 #[dv, sv] w fun e w' => Quiet w w' ∧ ∃ aa k ac c, e = .returned (.tuple #[.slice aa k ac, .int .i64 c]) ∧ Answers w' (.slice aa k ac) (ansU d s) := by
  refine (refRun_any dv sv d s (played_all s) w hd h (by omega) hcr).mono ?_
  rintro e w' ⟨hq, hc⟩
  refine ⟨hq, ?_⟩
  unfold ansU
  rcases hc with ⟨hok, rfl⟩ | ⟨hok, aa, k, ac, rfl, ho, hk⟩
  · rw [hok]
    exact ⟨none, 0, 0, 1, rfl, nilU_answers _⟩
  · rw [hok]
    exact ⟨aa, k, ac, 0, rfl, own_answers ho hk⟩

theorem refJournal_u (dv sv : Value) (d : Def) (s : List Cmd) (w : World) (hd : DefIs w dv d) (h : Cmds w sv s) (hl : s.length ≤ 1048576) (hcr : ∀ c ∈ s, c.reason.size ≤ 9223372036854775807) : Calls Tryz.prog 19 #[dv, sv] w fun e w' => Quiet w w' ∧ ∃ x c, e = .returned (.tuple #[.string (jouU d s), .int .i64 x, .int .i64 c]) := by
  refine (refJournal_any dv sv d s (played_all s) w hd h (by omega) hcr).mono ?_
  rintro e w' ⟨hq, hc⟩
  refine ⟨hq, ?_⟩
  unfold jouU
  rcases hc with ⟨hok, rfl⟩ | ⟨hok, rfl⟩
  · rw [hok]
    exact ⟨0, 1, rfl⟩
  · rw [hok]
    exact ⟨_, 0, rfl⟩

theorem recover_u (dv : Value) (d : Def) (s : List Cmd) (w : World) (hd : DefIs w dv d) (hl : s.length ≤ 1048576) : Calls Tryz.prog 20 #[dv, .string (jouU d s)] w fun e w' => Quiet w w' ∧ ∃ ia n ic ra m rc x, e = .returned (.tuple #[.agg #[.int .i64 (worldU d s).clock, .slice ia n ic, .slice ra m rc], .int .i64 x, .int .i64 (chk d.ok)]) ∧
    InstsMem w.heap.size w' ia n ic (worldU d s).insts ∧ ReqsMem w.heap.size w' ra m rc (worldU d s).reqs := by
  obtain ⟨h1, h2, _⟩ := playU_log d s
  have hsz : (jouU d s).size ≤ 33554432 := by
    unfold jouU
    split
    · have hb := bytesN_most h1 _ (Nat.le_refl _)
      rw [List.take_length] at hb
      show bytesN (playR d s).log ≤ _
      omega
    · show 0 ≤ _
      omega
  refine (recoverF_any dv d (jouU d s) w hd hsz).mono ?_
  rintro e w' ⟨hq, hc⟩
  refine ⟨hq, ?_⟩
  rcases hc with ⟨hok, rfl⟩ | ⟨hok, ia, n, ic, ra, m, rc, rfl, _, B, hB, hI, hR⟩
  · unfold worldU
    rw [hok]
    exact ⟨none, 0, 0, none, 0, 0, 0, rfl, ⟨[], rfl, rfl, World.ownsRow_nil _ _ _ _, by simp, by simp⟩, ⟨[], rfl, rfl, World.ownsRow_nil _ _ _ _, by simp, by simp⟩⟩
  · have e : worldR d (readR d [] (jouU d s)).1 = worldU d s := by
      unfold worldU jouU
      rw [hok]
      simp only [if_true]
      exact read_all hok h1
    rw [e] at hI hR ⊢
    rw [hok]
    exact ⟨ia, n, ic, ra, m, rc, _, rfl, RowsMem.low hI hB, RowsMem.low hR hB⟩

end Go.Proofs.YtgcjlgaapiefiabGreat

/-
  Marked.round: walked.
-/
namespace Go.Proofs.YtgcjlgaapiefiabGreat
open Go.RowKit Go.Sort

theorem Shelf.wide {S : Nat → Prop} {K K' : Nat} {w : World} {pb : Nat} (h : Shelf S K w pb) (hk : K ≤ K') : Shelf S K' w pb := by
  obtain ⟨la, NL, lc, lvals, ba, NB, bc, bvals, aa, NA, ac, avals, wa, NW, wc, ws, hb, h4, hK, hs, hv, hlt⟩ := h
  exact ⟨la, NL, lc, lvals, ba, NB, bc, bvals, aa, NA, ac, avals, wa, NW, wc, ws, hb, h4, ⟨by omega, by omega, by omega, by omega⟩, hs, hv, hlt⟩

set_option maxRecDepth 100000 in
set_option maxHeartbeats 4000000 in
theorem round_walk (w0 w : World) (pb K : Nat) (S : Nat → Prop) (hS : Shelf S K w pb) (hS0 : ∀ j, S j → w0.heap.size ≤ j) (hB : Quiet w0 w) (hK : K + 9000 ≤ 100000000)
    (da : Option Addr) (dn dcap : Nat) (oa : Option Addr) (on oc : Nat) (qu ex : Int) (sv tv : Value) (ck cd : Int) (xs : List Inst) (rs : List Req) (A : List Answer) (J : ByteArray) (hx4 : xs.length ≤ 4) (hr4 : rs.length ≤ 1000) (hxl : ∀ x ∈ xs, x.ledger.length ≤ 2199023255552) (hrl : ∀ r ∈ rs, r.bys.length ≤ 2199023255552)
    (HRS : Hid (∀ U, Quiet w0 U → Calls Tryz.prog 11 #[.agg #[.slice da dn dcap, .int .i64 qu, .int .i64 ex], sv] U fun e w' => Quiet U w' ∧ ∃ ia n ic ra m rc, e = .returned (.tuple #[.agg #[.int .i64 ck, .slice ia n ic, .slice ra m rc], .int .i64 cd]) ∧ ∀ w2 : World, (∀ k, U.heap.size ≤ k → k < w'.heap.size → w2.heap[k]? = w'.heap[k]?) → InstsAt w2 (.slice ia n ic) xs ∧ ReqsAt w2 (.slice ra m rc) rs))
    (HST : Hid (∀ U, Quiet w0 U → Calls Tryz.prog 12 #[.agg #[.slice oa on oc, .int .i64 qu, .int .i64 ex], tv] U fun e w' => Quiet U w' ∧ ∃ ia n ic ra m rc, e = .returned (.tuple #[.agg #[.int .i64 ck, .slice ia n ic, .slice ra m rc], .int .i64 cd]) ∧ InstsMem U.heap.size w' ia n ic xs ∧ ReqsMem U.heap.size w' ra m rc rs))
    (HRU : Hid (∀ U, Quiet w0 U → Calls Tryz.prog 15 #[.agg #[.slice oa on oc, .int .i64 qu, .int .i64 ex], tv] U fun e w' => Quiet U w' ∧ ∃ aa k ac c, e = .returned (.tuple #[.slice aa k ac, .int .i64 c]) ∧ k = A.length ∧ k ≤ 1048576 ∧ w'.ownsRow U.heap.size 86 4 (.slice aa k ac) k (ansVals A)))
    (HRR : Hid (∀ U, Quiet w0 U → Calls Tryz.prog 16 #[.agg #[.slice da dn dcap, .int .i64 qu, .int .i64 ex], sv] U fun e w' => Quiet U w' ∧ ∃ aa k ac c, e = .returned (.tuple #[.slice aa k ac, .int .i64 c]) ∧ Answers w' (.slice aa k ac) A))
    (HJ : Hid (∀ U, Quiet w0 U → Calls Tryz.prog 19 #[.agg #[.slice da dn dcap, .int .i64 qu, .int .i64 ex], sv] U fun e w' => Quiet U w' ∧ ∃ x c, e = .returned (.tuple #[.string J, .int .i64 x, .int .i64 c])))
    (HRC : Hid (∀ U, Quiet w0 U → Calls Tryz.prog 20 #[.agg #[.slice oa on oc, .int .i64 qu, .int .i64 ex], .string J] U fun e w' => Quiet U w' ∧ ∃ ia n ic ra m rc x, e = .returned (.tuple #[.agg #[.int .i64 ck, .slice ia n ic, .slice ra m rc], .int .i64 x, .int .i64 cd]) ∧ InstsMem U.heap.size w' ia n ic xs ∧ ReqsMem U.heap.size w' ra m rc rs)) :
    Calls Tryz.prog 7 #[.pointer (some ⟨pb, 0, none⟩), .agg #[.slice da dn dcap, .int .i64 qu, .int .i64 ex], sv, .agg #[.slice oa on oc, .int .i64 qu, .int .i64 ex], tv] w fun e w' => e = .returned (.bool true) ∧ (∃ S' : Nat → Prop, Shelf S' (K + 9000) w' pb ∧ ∀ j, S' j → w0.heap.size ≤ j) ∧ Quiet w0 w' := by
  have hq0 : ∀ (w : World) o, Quiet w (w.alloc o) := fun w o => (Below.refl _ _).alloc (Nat.le_refl _) _
  have t0 : (cd != cd) = false := by simp
  have nS : ∀ j, w.heap.size ≤ j → ¬ S j := fun j hj h => by have := hS.lt j h; omega
  have hB0 := hB.size
  go_enter Tryz.func7, Tryz.ntmps7
  go_wp2_with fail
  refine calls_gen (fun V => Blk V w.heap.size #[.slice da dn dcap, .int .i64 qu, .int .i64 ex] 24 ∧ Blk V (w.heap.size + 1) #[.slice oa on oc, .int .i64 qu, .int .i64 ex] 24 ∧ Quiet w V) ⟨(Blk.new' rfl).alloc _, Blk.new' (by simp), (hq0 _ _).after (hq0 _ _)⟩ ?_
  rintro V ⟨bd, bo, hqV⟩
  refine (HRS.out V (hB.after hqV)).mono ?_
  rintro e w1 ⟨hq1, ja, jn, jc, sa, sn, sc, rfl, hW1⟩
  replace bd := bd.quiet hq1
  replace bo := bo.quiet hq1
  have go1 := bo.cell
  have zo1 := bo.lt
  go_wp2_with fail
  refine calls_gen (fun V1 => Blk V1 w1.heap.size #[.int .i64 ck, .slice ja jn jc, .slice sa sn sc] 47 ∧ Quiet w1 V1 ∧ Hid (V1.heap.size = w1.heap.size + 1)) ⟨Blk.new' rfl, hq0 _ _, by show _ = _; simp⟩ ?_
  rintro V1 ⟨bw, hqV1, HV1⟩
  clear go1 zo1
  replace bd := bd.quiet hqV1
  replace bo := bo.quiet hqV1
  have hqA : Quiet w V1 := (hqV.after hq1).after hqV1
  have hqB : Quiet w0 V1 := hB.after hqA
  refine (HST.out V1 hqB).mono ?_
  rintro e w2 ⟨hq2, ia, n, ic, ra, m, rc, rfl, hI, hR⟩
  have bw2 := bw.quiet hq2
  have gw2 := bw2.cell
  have zw2 := bw2.lt
  go_wp2_with (go_at_call 13; refine (num_any _ _).mono ?_; rintro e wn ⟨rfl, hw⟩; rw [hw]; clear hw wn)
  refine calls_gen (fun V2 => Quiet w2 V2) (hq0 _ _) ?_
  intro V2 hqV2
  clear gw2 zw2
  have hqC : Quiet V1 V2 := hq2.after hqV2
  have sV := hqV.size
  have sw1 := hq1.size
  have sV1 := HV1.out
  have sA := hqA.size
  have sC := hqC.size
  have hWk : ∀ w' : World, (∀ k, w.heap.size ≤ k → k < V1.heap.size → w'.heap[k]? = V1.heap[k]?) → InstsAt w' (.slice ja jn jc) xs ∧ ReqsAt w' (.slice sa sn sc) rs := fun w' h => hW1 w' (fun k h1 h2 => (h k (by omega) (by omega)).trans (hqV1.block k h2))
  have HWK : Hid _ := hWk
  clear hWk hW1
  have kp0 : ∀ k, w.heap.size ≤ k → k < V1.heap.size → V2.heap[k]? = V1.heap[k]? := fun k _ h2 => hqC.block k h2
  refine (markW_any w0 V2 w0.heap.size pb K V1.heap.size S (hS.quiet (hqA.after hqC)) (fun j h => by have := hS.lt j h; omega) hS0 (hqB.after hqC) (by omega) ck ia n ic ra m rc xs rs (hI.quiet (hq := hqV2)) (hR.quiet (hq := hqV2)) hxl (by omega) hrl (by omega) (by omega) ja jn jc sa sn sc (fun w' h => HWK.out w' (fun k h1 h2 => (h k h2 (nS k h1)).trans (kp0 k h1 h2)))).mono ?_
  rintro e w3 ⟨rfl, ⟨S1, hS1, hS1B⟩, hfr3, hsz3, hB3'⟩
  have hB3 : Quiet w0 w3 := hB3'
  clear hB3'
  have kp3 : ∀ k, w.heap.size ≤ k → k < V1.heap.size → w3.heap[k]? = V1.heap[k]? := fun k h1 h2 => (hfr3 k h2 (nS k h1)).trans (kp0 k h1 h2)
  replace hS1 := hS1.wide (K' := K + 4020) (by omega)
  have bd3 : Blk w3 w.heap.size #[.slice da dn dcap, .int .i64 qu, .int .i64 ex] 24 := (kp3 _ (by omega) bd.lt).trans bd
  have bo3 : Blk w3 (w.heap.size + 1) #[.slice oa on oc, .int .i64 qu, .int .i64 ex] 24 := (kp3 _ (by omega) bo.lt).trans bo
  clear hfr3 kp0 hI hR bw2 hqV2 hq2 hqC
  have go3 := bo3.cell
  have zo3 := bo3.lt
  go_wp2_with fail
  refine (HRU.out w3 hB3).mono ?_
  rintro e w4 ⟨hq4, aa, k, ac, c4, rfl, hk4, hk4m, hown4⟩
  have HK4 : Hid (k = A.length) := hk4
  clear hk4
  replace bd3 := bd3.quiet hq4
  replace bo3 := bo3.quiet hq4
  clear go3 zo3
  have gd4 := bd3.cell
  have zd4 := bd3.lt
  go_wp2_with fail
  refine (HRR.out w4 (hB3.after hq4)).mono ?_
  rintro e w5 ⟨hq5, ba, kb, bc, c5, rfl, hA5⟩
  clear gd4 zd4
  replace bd3 := bd3.quiet hq5
  replace bo3 := bo3.quiet hq5
  have hown5 := own_quiet hown4 hq5
  go_wp2_with fail
  refine (sameAnswers_eq _ _ A w5 (own_answers hown5 HK4.out) hA5).mono ?_
  rintro e w6 ⟨rfl, hq6⟩
  replace bd3 := bd3.quiet hq6
  replace bo3 := bo3.quiet hq6
  have hown6 := own_quiet hown5 hq6
  have hq36 : Quiet w3 w6 := (hq4.after hq5).after hq6
  have s36 := hq36.size
  clear hown4 hown5 hA5 hq4 hq5 hq6
  go_wp2_with fail
  refine (answers_sh w0 w6 w0.heap.size pb (K + 4020) S1 (hS1.quiet hq36) (by omega) aa k ac _ (own_base hown6 (Nat.zero_le _)) (by omega) (hB3.after hq36) (fun j h => by rcases hS1B j h with h1 | h1; exact hS0 j h1; omega) (fun j hj => ⟨by have := (own_ge hown6 j hj).1; omega, fun h => by have := (own_ge hown6 j hj).1; have := hS1.lt j h; omega⟩)).mono ?_
  rintro e w7 ⟨rfl, ⟨S2, hSh7⟩, hB7'⟩
  have hB7 : Quiet w0 w7 := hB7'
  clear hB7'
  have s67 := hSh7.size
  have nS2 : ∀ j, w.heap.size ≤ j → j < V1.heap.size → ¬ S2 j := fun j h1 h2 h => by
    rcases hSh7.only j h with h3 | h3 | h3
    · rcases hS1B j h3 with h4 | h4
      · exact nS j h1 h4
      · omega
    · have := (own_ge hown6 j h3).1; omega
    · omega
  have hS20 : ∀ j, S2 j → w0.heap.size ≤ j := fun j h => by
    rcases hSh7.only j h with h3 | h3 | h3
    · rcases hS1B j h3 with h4 | h4
      · exact hS0 j h4
      · omega
    · have := (own_ge hown6 j h3).1; omega
    · omega
  have kp7 : ∀ k, w.heap.size ≤ k → k < V1.heap.size → w7.heap[k]? = V1.heap[k]? := fun k h1 h2 => ((hSh7.same k (by omega) (nS2 k h1 h2)).trans (hq36.block k (by omega))).trans (kp3 k h1 h2)
  have bd7 : Blk w7 w.heap.size #[.slice da dn dcap, .int .i64 qu, .int .i64 ex] 24 := (kp7 _ (by omega) bd.lt).trans bd
  have bo7 : Blk w7 (w.heap.size + 1) #[.slice oa on oc, .int .i64 qu, .int .i64 ex] 24 := (kp7 _ (by omega) bo.lt).trans bo
  have hS7 := hSh7.shelf
  clear hSh7 hown6 bd3 bo3 hS1 hS1B kp3
  have gd7 := bd7.cell
  have zd7 := bd7.lt
  go_wp2_with fail
  refine (HJ.out w7 hB7).mono ?_
  rintro e w8 ⟨hq8, x8, c8, rfl⟩
  clear gd7 zd7
  have bo8 := bo7.quiet hq8
  have go8 := bo8.cell
  have zo8 := bo8.lt
  go_wp2_with fail
  refine (HRC.out w8 (hB7.after hq8)).mono ?_
  rintro e w9 ⟨hq9, ia9, n9, ic9, ra9, m9, rc9, x9, rfl, hI9, hR9⟩
  clear go8 zo8
  have s78 := hq8.size
  have s89 := hq9.size
  have bw7 : Blk w7 w1.heap.size #[.int .i64 ck, .slice ja jn jc, .slice sa sn sc] 47 := (kp7 _ (by omega) bw.lt).trans bw
  have bw9 := (bw7.quiet hq8).quiet hq9
  have gw9 := bw9.cell
  have zw9 := bw9.lt
  go_wp2_with (go_at_call 13; refine (num_any _ _).mono ?_; rintro e wn ⟨rfl, hw⟩; rw [hw]; clear hw wn)
  refine calls_gen (fun V9 => Quiet w9 V9) (hq0 _ _) ?_
  intro V9 hqV9
  clear gw9 zw9
  have hq79 : Quiet w7 V9 := (hq8.after hq9).after hqV9
  have s79 := hq79.size
  have s99 := hqV9.size
  have kp9 : ∀ k, w.heap.size ≤ k → k < V1.heap.size → V9.heap[k]? = V1.heap[k]? := fun k h1 h2 => (hq79.block k (by omega)).trans (kp7 k h1 h2)
  refine (markW_any w0 V9 w0.heap.size pb (K + 4020 + 4) w8.heap.size S2 (hS7.quiet hq79) (fun j h => by have := hS7.lt j h; omega) hS20 (hB7.after hq79) (by omega) ck ia9 n9 ic9 ra9 m9 rc9 xs rs (hI9.quiet (hq := hqV9)) (hR9.quiet (hq := hqV9)) hxl (by omega) hrl (by omega) (by omega) ja jn jc sa sn sc (fun w' h => HWK.out w' (fun k h1 h2 => (h k (by omega) (nS2 k h1 h2)).trans (kp9 k h1 h2)))).mono ?_
  rintro e w10 ⟨rfl, ⟨S3, hS3, hS3B⟩, _, hsz10, hB10⟩
  go_wp2_with fail
  refine (still_sh w10 pb _ S3 hS3).mono ?_
  rintro e w11 ⟨rfl, hw11⟩
  subst hw11
  go_wp2
  go_ret
  refine ⟨rfl, ⟨S3, hS3.wide (by omega), fun j h => ?_⟩, hB10⟩
  rcases hS3B j h with h1 | h1
  · exact hS20 j h1
  · omega

end Go.Proofs.YtgcjlgaapiefiabGreat

/-
  The statement Fresh: walked.
-/
namespace Go.Proofs.YtgcjlgaapiefiabGreat
open Go.RowKit Go.Sort

/-- The empty book. -/
theorem shelf_nil {w : World} {pb : Nat} (h : Blk w pb #[.slice none 0 0, .slice none 0 0, .slice none 0 0, .slice none 0 0] 34) : Shelf (fun j => j = pb) 0 w pb := by
  have n0 : InS (fun j => j = pb) (.slice none 0 0) := fun j hj => by simp [Value.ownBlock] at hj
  exact ⟨none, 0, 0, [], none, 0, 0, [], none, 0, 0, [], none, 0, 0, [], ⟨h, World.ownsRow_nil _ _ _ _, World.ownsRow_nil _ _ _ _, World.ownsRow_nil _ _ _ _, World.ownsRow_nil _ _ _ _, fun i hi => by simp at hi, fun i hi => by simp at hi, fun i hi => by simp at hi, fun i hi => by simp at hi, ⟨by omega, by omega, by omega, by omega⟩⟩,
    ⟨rfl, rfl, rfl, rfl⟩, ⟨Nat.le_refl _, Nat.le_refl _, Nat.le_refl _, Nat.le_refl _⟩, ⟨rfl, n0, n0, n0, n0⟩, ⟨by simp, by simp, by simp, by simp⟩, fun j hj => by rw [hj]; exact h.lt⟩

set_option maxRecDepth 100000 in
set_option maxHeartbeats 4000000 in
theorem fresh_walk (dv sv : Value) (d : Def) (s : List Cmd) (w : World) (hd : DefIs w dv d) (h : Cmds w sv s) (hl : s.length ≤ 1048576) (hcr : ∀ c ∈ s, c.reason.size ≤ 9223372036854775807) (hdl : d.steps.length ≤ 1048576) :
    Calls Tryz.prog 3 #[dv, sv] w fun e w' => e = .returned (.bool true) ∧ Quiet w w' := by
  have hq0 : ∀ (w : World) o, Quiet w (w.alloc o) := fun w o => (Below.refl _ _).alloc (Nat.le_refl _) _
  have hd0 := hd
  obtain ⟨da, dn, dcap, rfl, hst⟩ := hd
  clear hst
  obtain ⟨sa, sn, scap, rfl⟩ := h.1.shape
  go_enter Tryz.func3, Tryz.ntmps3
  go_wp2_with fail
  refine calls_gen (fun V => Blk V w.heap.size #[.slice da dn dcap, .int .i64 d.quorum, .int .i64 d.expiry] 24 ∧ Quiet w V) ⟨Blk.new' rfl, hq0 _ _⟩ ?_
  rintro V ⟨bd, hqV⟩
  refine (defC_any _ d V (hd0.quiet hqV) hdl).mono ?_
  rintro e w1 ⟨db, rfl, hD, hq1⟩
  obtain ⟨dl, HDL⟩ : ∃ dl, Hid (dl = d.steps.length) := ⟨_, rfl⟩
  rw [← HDL.out]
  replace bd := bd.quiet hq1
  replace hqV : Quiet w w1 := hqV.after hq1
  clear hq1
  go_wp2_with fail
  refine calls_gen (fun U => Blk U w1.heap.size #[.slice (some ⟨db, 0, none⟩) dl (dl + 2), .int .i64 d.quorum, .int .i64 d.expiry] 24 ∧ Quiet w1 U) ⟨Blk.new' rfl, hq0 _ _⟩ ?_
  rintro U ⟨bo, hqU⟩
  replace bd := bd.quiet hqU
  replace hD := hD.quiet hqU
  replace hqV : Quiet w U := hqV.after hqU
  clear hqU
  refine (commands_any _ s U (h.quiet hqV) hl).mono ?_
  rintro e w2 ⟨cb, rfl, hC, hq2⟩
  obtain ⟨cl, HCL⟩ : ∃ cl, Hid (cl = s.length) := ⟨_, rfl⟩
  rw [← HCL.out]
  replace bd := bd.quiet hq2
  replace bo := bo.quiet hq2
  replace hD := hD.quiet hq2
  replace hqV : Quiet w w2 := hqV.after hq2
  clear hq2
  have HOD : Hid (∀ W, Quiet w2 W → DefIs W (.agg #[.slice (some ⟨db, 0, none⟩) dl (dl + 2), .int .i64 d.quorum, .int .i64 d.expiry]) d) := fun W hW => by rw [HDL.out]; exact (hD.quiet hW).is (by unfold maxLen; omega)
  have HOC : Hid (∀ W, Quiet w2 W → Cmds W (.slice (some ⟨cb, 0, none⟩) cl (cl + 2)) s) := fun W hW => by rw [HCL.out]; exact (hC.quiet hW).is hl
  have HD : Hid (∀ W, Quiet w2 W → DefIs W (.agg #[.slice da dn dcap, .int .i64 d.quorum, .int .i64 d.expiry]) d) := fun W hW => hd0.quiet (hqV.after hW)
  have HC : Hid (∀ W, Quiet w2 W → Cmds W (.slice sa sn scap) s) := fun W hW => h.quiet (hqV.after hW)
  obtain ⟨b1, b2, b3, b4⟩ := worldU_bd d s hl
  have HR : Hid (∀ (X : World) (K : Nat) (S : Nat → Prop), Shelf S K X w2.heap.size → (∀ j, S j → w2.heap.size ≤ j) → Quiet w2 X → K + 9000 ≤ 100000000 → Calls Tryz.prog 7 #[.pointer (some ⟨w2.heap.size, 0, none⟩), .agg #[.slice da dn dcap, .int .i64 d.quorum, .int .i64 d.expiry], .slice sa sn scap, .agg #[.slice (some ⟨db, 0, none⟩) dl (dl + 2), .int .i64 d.quorum, .int .i64 d.expiry], .slice (some ⟨cb, 0, none⟩) cl (cl + 2)] X fun e w' => e = .returned (.bool true) ∧ (∃ S' : Nat → Prop, Shelf S' (K + 9000) w' w2.heap.size ∧ ∀ j, S' j → w2.heap.size ≤ j) ∧ Quiet w2 w') := fun X K S hS hS0 hX hK =>
    round_walk w2 X w2.heap.size K S hS hS0 hX hK da dn dcap (some ⟨db, 0, none⟩) dl (dl + 2) d.quorum d.expiry (.slice sa sn scap) (.slice (some ⟨cb, 0, none⟩) cl (cl + 2)) (worldU d s).clock (chk d.ok) (worldU d s).insts (worldU d s).reqs (ansU d s) (jouU d s) b1 b2 b3 b4
      (fun U hU => refState_u _ _ d s U (HD.out U hU) (HC.out U hU) hl hcr) (fun U hU => state_u _ _ d s U (HOD.out U hU) (HOC.out U hU) hl hcr) (fun U hU => run_u _ _ d s U (HOD.out U hU) (HOC.out U hU) hl hcr) (fun U hU => refRun_u _ _ d s U (HD.out U hU) (HC.out U hU) hl hcr) (fun U hU => refJournal_u _ _ d s U (HD.out U hU) (HC.out U hU) hl hcr) (fun U hU => recover_u _ d s U (HOD.out U hU) hl)
  have HDS : Hid (∀ W, Quiet w2 W → Calls Tryz.prog 8 #[.agg #[.slice (some ⟨db, 0, none⟩) dl (dl + 2), .int .i64 d.quorum, .int .i64 d.expiry], .agg #[.slice da dn dcap, .int .i64 d.quorum, .int .i64 d.expiry]] W fun e w' => e = .returned (.bool true) ∧ Quiet W w') := fun W hW => by rw [HDL.out]; exact defStill_any _ d db W (HD.out W hW) (hD.quiet hW) hdl
  have HCS : Hid (∀ W, Quiet w2 W → Calls Tryz.prog 9 #[.slice (some ⟨cb, 0, none⟩) cl (cl + 2), .slice sa sn scap] W fun e w' => e = .returned (.bool true) ∧ Quiet W w') := fun W hW => by rw [HCL.out]; exact commandsStill_any _ s cb W (HC.out W hW) (hC.quiet hW) hl
  clear HOD HOC HD HC b1 b2 b3 b4 hD hC hcr hl hdl hd0 h
  have gd := bd.cell
  have zd := bd.lt
  have go := bo.cell
  have zo := bo.lt
  go_wp2_with fail
  refine calls_gen (fun X => Blk X w2.heap.size #[.slice none 0 0, .slice none 0 0, .slice none 0 0, .slice none 0 0] 34 ∧ Quiet w2 X) ⟨Blk.new' rfl, hq0 _ _⟩ ?_
  rintro X ⟨bm, hqX⟩
  refine (HR.out X 0 _ (shelf_nil bm) (fun j hj => by omega) hqX (by omega)).mono ?_
  rintro e w3 ⟨rfl, ⟨S1, hS1, hS10⟩, hq3⟩
  clear gd zd go zo bm hqX
  have bd3 := bd.quiet hq3
  have bo3 := bo.quiet hq3
  have gd := bd3.cell
  have zd := bd3.lt
  have go := bo3.cell
  have zo := bo3.lt
  go_wp2_with fail
  refine (HR.out w3 _ S1 hS1 hS10 hq3 (by omega)).mono ?_
  rintro e w4 ⟨rfl, _, hq4⟩
  clear gd zd go zo bd3 bo3 hS1 hS10
  have bd4 := bd.quiet hq4
  have bo4 := bo.quiet hq4
  have gd := bd4.cell
  have zd := bd4.lt
  have go := bo4.cell
  have zo := bo4.lt
  go_wp2_with fail
  refine (HDS.out w4 hq4).mono ?_
  rintro e w5 ⟨rfl, hq5⟩
  clear gd zd go zo
  go_wp2_with fail
  refine (HCS.out w5 (hq4.after hq5)).mono ?_
  rintro e w6 ⟨rfl, hq6⟩
  go_wp2
  go_ret
  exact ⟨rfl, ((hqV.after hq4).after hq5).after hq6⟩

end Go.Proofs.YtgcjlgaapiefiabGreat

/-
  The statement Fresh, up to the bound.
-/
namespace Go.Proofs.YtgcjlgaapiefiabGreat
open Go.ChangeShapes Go.WideShapes Go.ChangeAt Go.RowKit Go.Deep

section
variable {H : Type} {enc : TypeId × Value → H} {w : World} {base : Nat} {spare : Nat → Bool} {held : Bool}
theorem bulkF_one (e : DataW H) : 1 ≤ Rows.uptoBulk e := by
  cases e with
  | lit l => cases l <;> simp [Rows.uptoBulk]
  | nil => simp [Rows.uptoBulk]
  | ptr d => simp [Rows.uptoBulk]
  | slice elems spare => simp [Rows.uptoBulk]
  | agg parts => simp [Rows.uptoBulk]
  | iface t d => simp [Rows.uptoBulk]
  | map entries => simp [Rows.uptoBulk]
  | held h => simp [Rows.uptoBulk]
theorem bulkFAll_len : ∀ es : List (DataW H), es.length ≤ Rows.uptoBulkAll es
  | [] => Nat.zero_le _
  | e :: es => by
    have h0 := bulkF_one e
    have h1 := bulkFAll_len es
    simp only [Rows.uptoBulkAll, List.length_cons]; omega
set_option maxRecDepth 100000 in
theorem def_openF {r : Reach} {b0 : Nat} {v : Value} {d : DataW H} {p : List MemPlace} (hv : Value.okWide Tryz.prog w r b0 24 v) (h : DataW.Trod enc Tryz.prog w base spare held 24 v d p) :
    ∃ D : Def, DefIs w v D ∧ D.steps.length + 4 ≤ Rows.uptoBulk d := by
  obtain ⟨D, hD⟩ := def_open hv h
  refine ⟨D, hD, ?_⟩
  obtain ⟨a, n, cap, rfl, hst⟩ := hD
  obtain ⟨fuel, hf⟩ := h
  obtain ⟨xs, k, _, hx, hl, hlen, hfs⟩ := DataW.trod_struct Tryz.underlying24 hf
  have h0 := hfs 0 _ rfl
  match xs, hlen with
  | [y0, y1, y2], _ =>
    have h0' : DataW.trod enc Tryz.prog w base spare held k 22 [.slice a n cap] = some y0 := by
      have hc : Tryz.prog.cellsOf 22 = 1 := by kernel_rfl
      simpa [Value.cells, hc] using h0
    obtain ⟨zs, harr, _, hz⟩ := trod_rows Tryz.underlying22 Tryz.underlying41 (by kernel_rfl) (by kernel_rfl) (by decide) h0'
    have hzl : zs.length = D.steps.length := by
      obtain ⟨_, _, e1, _⟩ := harr
      obtain ⟨_, _, e2, _⟩ := hst
      simp only [Value.slice.injEq] at e1 e2
      simp [stepVals] at e2
      omega
    have hb : D.steps.length + 1 ≤ Rows.uptoBulk y0.1 := by
      rcases hz with ⟨hz0, hz⟩ | ⟨el, sp, hz, he⟩
      · subst hz
        have := bulkF_one y0.1
        simp at hzl
        omega
      · rw [hz]
        have := bulkFAll_len el
        simp only [Rows.uptoBulk]
        omega
    have h1 := bulkF_one y1.1
    have h2 := bulkF_one y2.1
    simp only [Prod.mk.injEq] at hx
    rw [hx.1]
    simp only [List.map_cons, List.map_nil, Rows.uptoBulk, Rows.uptoBulkAll]
    omega
end

set_option maxRecDepth 100000 in
theorem fresh_contract (H : Type) (enc : TypeId × Value → H) (W : World) (base : Nat) (args : Array Value) (ds gs : List (DataW H)) (before : List MemPlace)
    (hval0 : ∀ (j : Nat) t v, Tryz.f3.params[j]? = some t → args[j]? = some v → Value.okWide Tryz.prog W .any base t v)
    (hW : DataW.Whole enc Tryz.prog Tryz.f3.params.toList Rows.freshSpec.vars false W args.toList ds gs before) (hk : Rows.uptoSmall H (ds ++ gs) = true) :
    Calls Tryz.prog 3 args W fun e W' => ∃ v, e = .returned v ∧ Rows.freshSpec.post enc Tryz.prog Tryz.f3 false true false false W args v W' := by
  have hval : ∀ (j : Nat) t v, Tryz.f3.params[j]? = some t → args[j]? = some v → Value.okWide Tryz.prog W .any base t v := hval0
  have hW' := hW
  obtain ⟨p, q, hA0, hV, rfl, hfz, hnd⟩ := hW
  have hA : DataW.TrodAll enc Tryz.prog W 0 (fun _ => true) true Tryz.f3.params.toList args.toList ds p := hA0
  rw [Tryz.params3] at hA hval
  obtain ⟨v0, vs0, d0, ds0, p0, q0, hargs, rfl, rfl, h0, r0⟩ := trodAll_cons hA
  obtain ⟨v1, vs1, d1, ds1, p1, q1, hargs1, rfl, rfl, h1, r1⟩ := trodAll_cons r0
  obtain ⟨rfl, rfl, rfl⟩ := trodAll_nil r1
  obtain rfl : args = #[v0, v1] := by cases args; simp_all
  obtain ⟨rfl, rfl⟩ := trodVars_none hV
  have k0 := h0
  have k1 := h1
  have lt0 : ∀ x ∈ p0, x.block < W.heap.size := by obtain ⟨m, hm⟩ := k0; exact DataW.trod_lt m _ _ _ hm
  have lt1 : ∀ x ∈ p1, x.block < W.heap.size := by obtain ⟨m, hm⟩ := k1; exact DataW.trod_lt m _ _ _ hm
  obtain ⟨D, hD, hDb⟩ := def_openF (hval 0 24 v0 rfl rfl) h0
  have hbulk : Rows.uptoBulk d0 + Rows.uptoBulk d1 ≤ 1048576 := by
    have h : Rows.uptoBulkAll ([d0, d1] ++ []) ≤ 1048576 := of_decide_eq_true hk
    simp only [List.append_nil, Rows.uptoBulkAll] at h
    omega
  obtain ⟨l, hl, hn, hr⟩ := cmds_open (hval 1 25 v1 rfl rfl) h1 (by omega)
  clear hA0 hval0
  refine (fresh_walk v0 v1 D l W hD hl (by omega) hr (by omega)).mono fun e W' ⟨he, bel⟩ => ?_
  subst he
  exact ⟨_, rfl, _, _, _, [], _, [], hW', trodAll_mk1 (shut_bool Tryz.underlying4 _), (trodAll_cons_mk (Below.trod laidOut (by kernel_rfl) (of_decide_eq_true (by kernel_rfl)) k0 bel lt0) (trodAll_cons_mk (Below.trod laidOut (by kernel_rfl) (of_decide_eq_true (by kernel_rfl)) k1 bel lt1) trodAll_mk0)), rfl, bel.frame _, fun h => by cases h⟩

set_option maxRecDepth 100000 in
theorem fresh_lifted (os : Os) (started : os.Started) (H : Type) (enc : TypeId × Value → H) (F : Stop.Interp) :
    ReturnsInHanded {} Tryz.checked os 3 .any ((Rows.OpenSpec.upto Rows.freshSpec).pre6 enc Tryz.prog Tryz.f3 Rows.freshUptoRow.domain false) (((Rows.OpenSpec.upto Rows.freshSpec).at F).post enc Tryz.prog Tryz.f3 false true false false) := by
  refine returnsInHanded_of_cond (C := Tryz.checked) (s := Rows.OpenSpec.upto Rows.freshSpec) (k := Rows.uptoSmall) rfl own started (by kernel_rfl) Tryz.func3
    (OpenSpec.witness (enc := enc) (C := Tryz.checked) (s := Rows.OpenSpec.upto Rows.freshSpec) (k := Rows.uptoSmall) rfl false ⟨#[], #[.agg #[.slice none 0 0, .int .i64 0, .int .i64 0], .slice none 0 0], []⟩ 8 (by kernel_rfl) (by kernel_rfl) (by kernel_rfl)
      (x := ([.agg [.nil, .lit (.int .i64 0), .lit (.int .i64 0)], .nil], [], [])) (by kernel_rfl) rfl (by kernel_rfl)) ?_
  intro W base args ds gs before hval hW _ hk _
  exact fresh_contract H enc W base args ds gs before hval hW hk

theorem fresh_holds : Rows.FreshUptoSaid :=
  OpenClaim.holds_of_cond 3 Tryz.f3 rfl rfl rfl rfl rfl rfl rfl ⟨rfl, rfl, rfl, rfl, rfl⟩ rfl rfl rfl rfl rfl (by kernel_rfl) Tryz.func3 (by kernel_rfl)
    (of_decide_eq_true (by kernel_rfl)) (by unfold Func.isWrapper; first | (rw [if_pos (by decide +kernel)]; kernel_rfl) | (rw [if_neg (by decide +kernel)]; exact ⟨rfl, rfl⟩))
    (fun os started H enc _ F => fresh_lifted os started H enc F)
#print axioms fresh_holds

end Go.Proofs.YtgcjlgaapiefiabGreat

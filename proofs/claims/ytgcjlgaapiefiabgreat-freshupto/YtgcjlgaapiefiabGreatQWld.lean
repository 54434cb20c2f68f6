import Derived.Test.YtgcjlgaapiefiabGreatQAnsC
import Derived.Test.YtgcjlgaapiefiabGreatQLog

/-
  Walks of the document's answer: world.
-/
namespace Go.Proofs.YtgcjlgaapiefiabGreat
open Go.RowKit

theorem Tryz.info78 : (Tryz.prog.info? 78).map (fun i => (i.zero, i.size, i.bytes)) = some (some (.agg #[.int .i64 0, .int .i64 0, .bool false, .int .i64 0, .int .i64 0, .bool false, .int .i64 0, .int .i64 0, .int .i64 0, .int .i64 0, .int .i64 0, .slice none 0 0]), 12, 112) := by kernel_rfl

/-- An instance with its ledger, which lies in memory of its own. -/
def LedOwn (base : Nat) (w : World) (p : Inst × Value) : Prop := ∃ a n cap, p.2 = .slice a n cap ∧ n = p.1.ledger.length ∧ w.ownsRow base 92 3 p.2 n (ents p.1.ledger)
def instVals (ps : List (Inst × Value)) : List (List Value) := ps.map fun p => p.1.cells p.2
/-- A slice of instances that the call made. -/
def InstsOwn (base : Nat) (w : World) (v : Value) (xs : List Inst) : Prop :=
  ∃ ps : List (Inst × Value), ps.map (·.1) = xs ∧ w.ownsRow base 78 12 v ps.length (instVals ps).flatten ∧ ∀ p ∈ ps, LedOwn base w p

theorem ReqsOwn.quiet {base : Nat} {w w' : World} {v : Value} {rs : List Req} (h : ReqsOwn base w v rs) (hq : Quiet w w') : ReqsOwn base w' v rs := by
  obtain ⟨ps, h1, h2, h3⟩ := h
  exact ⟨ps, h1, own_quiet h2 hq, fun p hp => by obtain ⟨a, n, cap, e1, e2, e3⟩ := h3 p hp; exact ⟨a, n, cap, e1, e2, own_quiet e3 hq⟩⟩
theorem InstsOwn.quiet {base : Nat} {w w' : World} {v : Value} {rs : List Inst} (h : InstsOwn base w v rs) (hq : Quiet w w') : InstsOwn base w' v rs := by
  obtain ⟨ps, h1, h2, h3⟩ := h
  exact ⟨ps, h1, own_quiet h2 hq, fun p hp => by obtain ⟨a, n, cap, e1, e2, e3⟩ := h3 p hp; exact ⟨a, n, cap, e1, e2, own_quiet e3 hq⟩⟩
theorem ReqsOwn.base {base base' : Nat} {w : World} {v : Value} {rs : List Req} (h : ReqsOwn base w v rs) (hb : base' ≤ base) : ReqsOwn base' w v rs := by
  obtain ⟨ps, h1, h2, h3⟩ := h
  exact ⟨ps, h1, own_base h2 hb, fun p hp => by obtain ⟨a, n, cap, e1, e2, e3⟩ := h3 p hp; exact ⟨a, n, cap, e1, e2, own_base e3 hb⟩⟩
/-- .. behind an append to a row of another element type. -/
theorem ReqsOwn.grown {base base2 : Nat} {w w' : World} {o : Obj} {v v2 : Value} {rs : List Req} {e2 : TypeId} {m2 n2 : Nat} {xs2 : List Value} (h : ReqsOwn base w v rs) (h2 : w.ownsRow base2 e2 m2 v2 n2 xs2) (hr : 83 ≠ e2) (hi : 3 ≠ e2) (hg : (w.alloc o).grownBy w' v2.ownBlock) : ReqsOwn base w' v rs := by
  obtain ⟨ps, q1, q2, q3⟩ := h
  exact ⟨ps, q1, own_other q2 h2 hr hg, fun p hp => by obtain ⟨a, n, cap, t1, t2, t3⟩ := q3 p hp; exact ⟨a, n, cap, t1, t2, own_other t3 h2 hi hg⟩⟩
theorem ReqsOwn.set {base : Nat} {w : World} {v : Value} {rs : List Req} (h : ReqsOwn base w v rs) {p : Addr} {cs : Array Value} {t : TypeId} (hb : Blk w p.block cs t) (hr : 83 ≠ t) (hi : 3 ≠ t) (u : Value) : ReqsOwn base (w.setCell p u) v rs := by
  obtain ⟨ps, q1, q2, q3⟩ := h
  exact ⟨ps, q1, ownsRow_setCell_other q2 (own_ne q2 hb hr) u, fun q hq => by obtain ⟨a, n, cap, t1, t2, t3⟩ := q3 q hq; exact ⟨a, n, cap, t1, t2, ownsRow_setCell_other t3 (own_ne t3 hb hi) u⟩⟩

set_option maxRecDepth 100000 in
set_option maxHeartbeats 4000000 in
theorem world_any (dv v : Value) (d : Def) (l : List Cmd) (w : World) (hd : DefIs w dv d) (hok : StepsOk d) (h : Cmds w v l) (ht : TicksOk l) (hl : l.length ≤ 549755813888) (he0 : 0 ≤ d.expiry) (he1 : d.expiry ≤ 50) (hap : ApprovesOk d l)
    (hfo : ∀ id, FactsOk d id (factsR d l id)) :
    Calls Tryz.prog 29 #[dv, v] w fun e w' => ∃ (ia : Option Addr) (ic : Nat) (ra : Option Addr) (rn rc : Nat), e = .returned (.agg #[.int .i64 (clockR l), .slice ia (startedR l).length ic, .slice ra rn rc]) ∧
      InstsOwn w.heap.size w' (.slice ia (startedR l).length ic) (worldR d l).insts ∧ ReqsOwn w.heap.size w' (.slice ra rn rc) (worldR d l).reqs ∧ rn = (requestsR d l).length ∧ Quiet w w' := by
  obtain ⟨i0, hi, hz0, hz1, hz2⟩ := info_parts Tryz.info78
  have hd0 := hd
  obtain ⟨da, dn, dcap, rfl, hst⟩ := hd
  clear hst
  have hsl := startedR_len l
  go_enter Tryz.func29, Tryz.ntmps29
  go_wp2_with fail
  refine calls_gen (fun W => Blk W w.heap.size #[.slice da dn dcap, .int .i64 d.quorum, .int .i64 d.expiry] 24 ∧ Blk W (w.heap.size + 1) #[.int .i64 0, .slice none 0 0, .slice none 0 0] 47 ∧ Blk W (w.heap.size + 1 + 1) #[.int .i64 0, .slice none 0 0, .slice none 0 0] 47 ∧ Quiet w W) ⟨?_, ?_, Blk.new' (by simp), (((Below.refl _ _).alloc (Nat.le_refl _) _).alloc (by simp) _).alloc (by simp; omega) _⟩ ?_
  · repeat (first | (refine Blk.new' ?_; simp; done) | refine Blk.alloc ?_ _)
  · repeat (first | (refine Blk.new' ?_; simp; done) | refine Blk.alloc ?_ _)
  rintro W ⟨b0, b1, b2, hqW⟩
  refine (clock_any _ l _ (h.quiet hqW) ht).mono ?_
  rintro e w1 ⟨rfl, rfl⟩
  have g0 := b0.cell
  have g2 := b2.cell
  have f2 := b2.frozen
  go_wp2_with fail
  refine calls_gen (fun W => Blk W w.heap.size #[.slice da dn dcap, .int .i64 d.quorum, .int .i64 d.expiry] 24 ∧ Blk W (w.heap.size + 1) #[.int .i64 0, .slice none 0 0, .slice none 0 0] 47 ∧ Blk W (w.heap.size + 1 + 1) #[.int .i64 (clockR l), .slice none 0 0, .slice none 0 0] 47 ∧ Quiet w W) ⟨b0.other _ (by simp; omega), b1.other _ (by simp), by simpa using b2.set 0 (.int .i64 (clockR l)), hqW.setCell (by show w.heap.size ≤ w.heap.size + 1 + 1; omega) _⟩ ?_
  clear g0 g2 f2 b0 b1 b2 hqW
  rintro W ⟨b0, b1, b2, hqW⟩
  refine (requests_any _ _ d l _ (hd0.quiet hqW) (h.quiet hqW) ht (by omega) he0 he1).mono ?_
  rintro e w2 ⟨rv, rfl, hreq, hq2⟩
  obtain ⟨rn, HRN, ra, rc, rfl⟩ : ∃ rn, Hid (rn = (requestsR d l).length) ∧ ∃ ra rc, rv = .slice ra rn rc := by
    obtain ⟨ps, q1, q2, _⟩ := hreq
    obtain ⟨ra, rc, e⟩ := own_shape q2
    exact ⟨ps.length, by show ps.length = _; rw [← q1]; simp, ra, rc, e⟩
  replace hreq := hreq.base hqW.size
  replace b0 := b0.quiet hq2
  replace b1 := b1.quiet hq2
  replace b2 := b2.quiet hq2
  replace hq2 : Quiet w w2 := hqW.after hq2
  have g2 := b2.cell
  have f2 := b2.frozen
  go_wp2_with fail
  refine calls_gen (fun W => Blk W w.heap.size #[.slice da dn dcap, .int .i64 d.quorum, .int .i64 d.expiry] 24 ∧ Blk W (w.heap.size + 1) #[.int .i64 0, .slice none 0 0, .slice none 0 0] 47 ∧ Blk W (w.heap.size + 1 + 1) #[.int .i64 (clockR l), .slice none 0 0, .slice ra rn rc] 47 ∧ ReqsOwn w.heap.size W (.slice ra rn rc) (requestsR d l) ∧ Quiet w W) ⟨b0.other _ (by simp; omega), b1.other _ (by simp), by simpa using b2.set 2 (.slice ra rn rc), hreq.set b2 (by decide) (by decide) _, hq2.setCell (by show w.heap.size ≤ w.heap.size + 1 + 1; omega) _⟩ ?_
  clear g2 f2 b0 b1 b2 hq2 hreq hqW
  rintro W ⟨b0, b1, b2, hreq, hqW⟩
  refine (started_any _ l _ (h.quiet hqW)).mono ?_
  rintro e w3 ⟨sv, rfl, hids, hq3⟩
  obtain ⟨sa, sc, rfl⟩ := own_shape hids
  replace hreq := hreq.quiet hq3
  replace b0 := b0.quiet hq3
  replace b1 := b1.quiet hq3
  replace b2 := b2.quiet hq3
  replace hids := own_base hids hqW.size
  replace hq3 : Quiet w w3 := hqW.after hq3
  clear hqW
  have HW : Hid ((worldR d l).insts = (startedR l).map (instanceR d l)) := rfl
  have HW2 : Hid ((worldR d l).reqs = requestsR d l) := rfl
  generalize hids0 : startedR l = ids at *
  have HIDS : Hid (startedR l = ids) := hids0
  clear hids0
  generalize hns : ids.length = ns at *
  have HNS : Hid (ids.length = ns) := hns
  clear hns
  go_wp2
  go_loopw [7] (fun i wr => ∃ (k : Nat) (ia : Option Addr) (ic : Nat), k ≤ ns ∧ i = .int .i64 k ∧ Blk wr (w.heap.size + 1 + 1) #[.int .i64 (clockR l), .slice ia k ic, .slice ra rn rc] 47 ∧ InstsOwn w.heap.size wr (.slice ia k ic) ((ids.take k).map (instanceR d l)) ∧
    ReqsOwn w.heap.size wr (.slice ra rn rc) (requestsR d l) ∧ Blk wr w.heap.size #[.slice da dn dcap, .int .i64 d.quorum, .int .i64 d.expiry] 24 ∧ Blk wr (w.heap.size + 1) #[.int .i64 0, .slice none 0 0, .slice none 0 0] 47 ∧ wr.ownsRow w.heap.size 3 1 (.slice sa ns sc) ns (ints ids) ∧ Quiet w wr) (fun i _ => ns - (intOf i).toNat)
  case atStart => exact ⟨0, none, 0, Nat.zero_le _, rfl, b2, ⟨[], rfl, World.ownsRow_nil _ _ _ _, by simp⟩, hreq, b0, b1, hids, hq3⟩
  case round =>
    clear b0 b1 b2 hreq hids hq3
    obtain ⟨k, ia, ic, hk, rfl, b2, hins, hreq, b0, b1, hids, hqr⟩ := hrel
    have g0 := b0.cell
    have g2 := b2.cell
    have f2 := b2.frozen
    have z0 := b0.lt
    have z2 := b2.lt
    by_cases hlt : k < ns
    · have hkl : k < ids.length := by have := HNS.out; omega
      have hints : Ints wr (.slice sa ns sc) ids := own_ints (by rw [HNS.out]; exact hids)
      obtain ⟨sb, so, rfl, hsb, s0⟩ := hints.cell k hkl
      have HT : Hid ((ids.take (k + 1)).map (instanceR d l) = (ids.take k).map (instanceR d l) ++ [instanceR d l ids[k]]) := by
        show (ids.take (k + 1)).map (instanceR d l) = _
        rw [List.take_succ_eq_append_getElem hkl, List.map_append]; rfl
      generalize ids[k] = id at *
      have hki : (0 : Int) ≤ (k : Int) := by omega
      have hkj : (k : Int) < (ns : Int) := by omega
      have HI : Hid (∀ W, Quiet wr W → Calls Tryz.prog 48 #[.agg #[.slice da dn dcap, .int .i64 d.quorum, .int .i64 d.expiry], v, .int .i64 id] W fun e w' => ∃ a n cap, e = .returned ((instanceR d l id).val (.slice a n cap)) ∧ w'.ownsRow W.heap.size 92 3 (.slice a n cap) n (ents (instanceR d l id).ledger) ∧ n = (instanceR d l id).ledger.length ∧ Quiet W w') := fun W hW =>
        instance_any _ _ d l id W (hd0.quiet (hqr.after hW)) hok (h.quiet (hqr.after hW)) ht hl he0 he1 hap (hfo id)
      generalize instanceR d l id = x at *
      go_wp2_with fail
      go_cut [8] (fun s8 wc => ∃ (xb : Nat) (a3 : Option Addr) (n3 cap3 : Nat), s8 = .pointer (some ⟨xb, 0, none⟩) ∧ Blk wc xb #[.int .i64 x.id, .int .i64 x.mode, .bool x.stuck, .int .i64 x.settled, .int .i64 x.target, .bool x.resume, .int .i64 x.keys, .int .i64 x.key, .int .i64 x.due, .int .i64 x.tries, .int .i64 x.wake, .slice a3 n3 cap3] 78 ∧ wc.ownsRow w.heap.size 92 3 (.slice a3 n3 cap3) n3 (ents x.ledger) ∧ Hid (n3 = x.ledger.length) ∧ Quiet wr wc)
      case first =>
        go_region_with (first | (go_at_call 48; refine (HI.out _ ?_).mono ?_; (first | exact Below.drew (Below.refl _ _) | exact Below.drew ((Below.refl _ _).alloc (Nat.le_refl _) _)); rintro e w4 ⟨a3, n3, cap3, rfl, hown3, hn3, hq4⟩; have HN3 : Hid (n3 = x.ledger.length) := hn3; clear hn3; have bc1 := (bcell hq4).1; have bf1 := (bcell hq4).2; simp only [Inst.val]))
        all_goals (try go_wp2)
        all_goals
          go_meet
          case rel =>
            have hsz : w.heap.size ≤ wr.heap.size := hqr.size
            refine ⟨_, a3, n3, cap3, rfl, ?_, ?_, HN3, ?_⟩
            · first | (with_reducible exact Blk.new' rfl) | exact (Blk.quiet (Blk.drew (Blk.new' rfl)) hq4).set12 (by simp) _ _ _ _ _ _ _ _ _ _ _ _
            · first | (with_reducible exact World.ownsRow.alloc (own_base hown3 (by simp; omega)) _) | exact own_set12 (own_base hown3 (by simp; omega)) (Blk.quiet (Blk.drew (Blk.new' rfl)) hq4) (by decide) _ _ _ _ _ _ _ _ _ _ _ _
            · first | (with_reducible exact Below.alloc (Quiet.after (Below.drew (Below.refl _ _)) hq4) (Quiet.after (Below.drew (Below.refl _ _)) hq4).size _) | exact Below.set12 (Quiet.after (Below.drew ((Below.refl _ _).alloc (Nat.le_refl _) _)) hq4) (Nat.le_refl _) _ _ _ _ _ _ _ _ _ _ _ _
      case rest =>
        obtain ⟨xb, a3, n3, cap3, rfl, q, hown3, HN3, hqc⟩ := hcut
        replace b0 := b0.quiet hqc
        replace b1 := b1.quiet hqc
        replace b2 := b2.quiet hqc
        replace hreq := hreq.quiet hqc
        replace hids := own_quiet hids hqc
        obtain ⟨ps, HP, hrow, hled⟩ := hins.quiet hqc
        have HP' : Hid (ps.map (·.1) = (ids.take k).map (instanceR d l)) := HP
        have hpl : ps.length = k := by have := congrArg List.length HP; have e := HNS.out; simp at this; omega
        have HPL : Hid (ps.length = k) := hpl
        rw [hpl] at hrow
        clear HP hpl hins
        replace hqr : Quiet w wc := hqr.after hqc
        clear g0 g2 f2 z0 z2 hints hsb s0 HI hqc
        have g2 := b2.cell
        have f2 := b2.frozen
        have z2 := b2.lt
        have gq := q.cell
        go_wp2_with (at_builtin; refine wpList_append_own _ rfl _ _ 44 rfl w.heap.size 78 i0 (.agg #[.int .i64 0, .int .i64 0, .bool false, .int .i64 0, .int .i64 0, .bool false, .int .i64 0, .int .i64 0, .int .i64 0, .int .i64 0, .int .i64 0, .slice none 0 0]) 12 112 Tryz.underlying44 hi hz0 hz1 hz2 rfl (by decide) _ _ _ rfl (hrow.alloc _) ⟨wc.heap.size, 0, none⟩ 1 1 (x.cells (.slice a3 n3 cap3)) rfl rfl ?c1 ?c2 ?c3 ?c4 ?c5 ?_)
        case c1 =>
          have := World.news_of_block (heap_alloc_new wc (.cells #[.int .i64 x.id, .int .i64 x.mode, .bool x.stuck, .int .i64 x.settled, .int .i64 x.target, .bool x.resume, .int .i64 x.keys, .int .i64 x.key, .int .i64 x.due, .int .i64 x.tries, .int .i64 x.wake, .slice a3 n3 cap3] 78))
          simpa [Inst.cells] using this
        case c2 => intro u hu; simp [Inst.cells] at hu; rcases hu with rfl | rfl | rfl | rfl | rfl | rfl | rfl | rfl | rfl | rfl | rfl | rfl <;> rfl
        case c3 => unfold maxLen; have := HNS.out; omega
        case c4 => have := HNS.out; omega
        case c5 => have := hqr.size; simp; omega
        intro v' w4 hown4 hgrow _
        obtain ⟨ia4, ic4, rfl⟩ := own_shape hown4
        have hq4 : Quiet w w4 := Below.grown (hqr.alloc hqr.size _) hgrow (by have := hqr.size; simp; omega) (fun k hk => (own_ge hrow k hk).1)
        replace hreq := hreq.grown hrow (by decide) (by decide) hgrow
        replace hids := own_other hids hrow (by decide) hgrow
        have hled4 : ∀ p ∈ ps ++ [(x, .slice a3 n3 cap3)], LedOwn w.heap.size w4 p := by
          intro p hp
          rcases List.mem_append.1 hp with hp | hp
          · obtain ⟨a, n, cap, e1, e2, e3⟩ := hled p hp
            exact ⟨a, n, cap, e1, e2, own_other e3 hrow (by decide) hgrow⟩
          · simp at hp; subst hp
            exact ⟨a3, n3, cap3, rfl, HN3.out, own_other hown3 hrow (by decide) hgrow⟩
        replace b0 := (b0.alloc _).grown hgrow (fun e => own_ne hrow b0 (by decide) e.symm)
        replace b1 := (b1.alloc _).grown hgrow (fun e => own_ne hrow b1 (by decide) e.symm)
        replace b2 := (b2.alloc _).grown hgrow (fun e => own_ne hrow b2 (by decide) e.symm)
        clear g2 f2 z2 gq q hgrow hrow hled hown3 hqr
        have g2 := b2.cell
        have f2 := b2.frozen
        go_wp2
        go_roundw
        case rel =>
          refine ⟨k + 1, ia4, ic4, by omega, by go_num, by simpa using b2.set 1 (.slice ia4 (k + 1) ic4), ⟨ps ++ [(x, .slice a3 n3 cap3)], ?_, ?_, ?_⟩, hreq.set b2 (by decide) (by decide) _, b0.other _ (by simp; omega), b1.other _ (by simp), ownsRow_setCell_other hids (own_ne hids b2 (by decide)) _, hq4.setCell (by show w.heap.size ≤ w.heap.size + 1 + 1; omega) _⟩
          · rw [HT.out, ← HP'.out]; simp
          · have e : (ps ++ [(x, Value.slice a3 n3 cap3)]).length = k + 1 := by have := HPL.out; simp; omega
            rw [e]
            exact ownsRow_setCell_other (by simpa [instVals] using hown4) (own_ne hown4 b2 (by decide)) _
          · intro p hp
            obtain ⟨a, n, cap, e1, e2, e3⟩ := hled4 p hp
            exact ⟨a, n, cap, e1, e2, ownsRow_setCell_other e3 (own_ne e3 b2 (by decide)) _⟩
        case measure => simp [intOf]; omega
    · have hkn : k = ns := by omega
      subst hkn
      have HE : Hid ((ids.take k).map (instanceR d l) = ids.map (instanceR d l)) := by
        show (ids.take k).map (instanceR d l) = _
        rw [List.take_of_length_le (by have := HNS.out; omega)]
      have g1 := b1.cell
      have f1 := b1.frozen
      go_wp2
      refine bodyPost_ret (v := .agg #[.int .i64 (clockR l), .slice ia k ic, .slice ra rn rc]) (by simp [results, Tryz.results29, go_sem, g1]) rfl ⟨ia, ic, ra, rn, rc, by rw [HIDS.out, HNS.out], ?_, ?_, HRN.out, ?_⟩
      · rw [HIDS.out, HNS.out, HW.out, ← HE.out]
        obtain ⟨ps, q1, q2, q3⟩ := hins
        refine ⟨ps, q1, ?_, fun p hp => ?_⟩
        · iterate 3 refine ownsRow_setCell_other ?_ (own_ne q2 b1 (by decide)) _
          exact q2
        · obtain ⟨a, n, cap, e1, e2, e3⟩ := q3 p hp
          refine ⟨a, n, cap, e1, e2, ?_⟩
          iterate 3 refine ownsRow_setCell_other ?_ (own_ne e3 b1 (by decide)) _
          exact e3
      · rw [HW2.out]
        exact ((hreq.set b1 (by decide) (by decide) _).set (b1.set 0 _) (by decide) (by decide) _).set ((b1.set 0 _).set 1 _) (by decide) (by decide) _
      · exact ((hqr.setCell (by show w.heap.size ≤ w.heap.size + 1; omega) _).setCell (by show w.heap.size ≤ w.heap.size + 1; omega) _).setCell (by show w.heap.size ≤ w.heap.size + 1; omega) _

end Go.Proofs.YtgcjlgaapiefiabGreat

/-
  The document's answer and world, behind every log that came about.
-/
namespace Go.Proofs.YtgcjlgaapiefiabGreat
open Go.RowKit

theorem ok_steps {d : Def} (h : d.ok = true) : 0 < d.steps.length ∧ 0 ≤ d.expiry ∧ d.expiry ≤ 50 := by
  simp only [Def.ok, within, Bool.and_eq_true, decide_eq_true_eq] at h
  omega

theorem answer_log (dv v : Value) (d : Def) (l : List Cmd) (c : Cmd) (w : World) (hd : DefIs w dv d) (hok : d.ok = true) (h : Cmds w v l) (hlog : LogOk d l) (hl : l.length ≤ 549755813888) (hcr : c.reason.size ≤ 9223372036854775807) :
    Calls Tryz.prog 43 #[dv, v, c.val] w fun e w' => e = .returned (answerR d l c).val ∧ Quiet w w' := by
  obtain ⟨h1, h2, h3⟩ := ok_steps hok
  exact answer_any dv v d l c w hd (stepsOk_of d hok) h hlog.ticks hl h2 h3 hlog.approves (fun id => hlog.factsIn h1 id) (fun id hm => hlog.back h1 id hm) hcr

theorem world_log (dv v : Value) (d : Def) (l : List Cmd) (w : World) (hd : DefIs w dv d) (hok : d.ok = true) (h : Cmds w v l) (hlog : LogOk d l) (hl : l.length ≤ 549755813888) :
    Calls Tryz.prog 29 #[dv, v] w fun e w' => ∃ (ia : Option Addr) (ic : Nat) (ra : Option Addr) (rn rc : Nat), e = .returned (.agg #[.int .i64 (clockR l), .slice ia (startedR l).length ic, .slice ra rn rc]) ∧
      InstsOwn w.heap.size w' (.slice ia (startedR l).length ic) (worldR d l).insts ∧ ReqsOwn w.heap.size w' (.slice ra rn rc) (worldR d l).reqs ∧ rn = (requestsR d l).length ∧ Quiet w w' := by
  obtain ⟨h1, h2, h3⟩ := ok_steps hok
  exact world_any dv v d l w hd (stepsOk_of d hok) h hlog.ticks hl h2 h3 hlog.approves (fun id => hlog.factsIn h1 id)

end Go.Proofs.YtgcjlgaapiefiabGreat

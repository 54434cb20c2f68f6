import Derived.Test.YtgcjlgaapiefiabGreatQFac

/-
  Walks of the document's answer: instance.
-/
namespace Go.Proofs.YtgcjlgaapiefiabGreat
open Go.RowKit

/-- The facts of an instance are such that no step is asked for that there is not. -/
def FactsOk (d : Def) (id : Int) (fs : List Fact) : Prop := ∀ k (hk : k < fs.length), fs[k].kind = 1 ∨ fs[k].kind = 3 → InSteps d (instFold d id (fs.take k))

theorem own_grown {w w' : World} {base base2 : Nat} {e e2 : TypeId} {m m2 : Nat} {v v2 : Value} {n n2 : Nat} {xs xs2 : List Value} (h : w.ownsRow base e m v n xs) (h2 : w.ownsRow base2 e2 m2 v2 n2 xs2) (hne : e ≠ e2)
    (hg : w.grownBy w' v2.ownBlock) : w'.ownsRow base e m v n xs := by
  have hge := own_ge h
  obtain ⟨h1, hv⟩ := h
  refine ⟨h1, ?_⟩
  rcases hv with hv | ⟨g, cap, cur, rfl, hb, hh, r⟩
  · exact .inl hv
  · refine .inr ⟨g, cap, cur, rfl, hb, ?_, r⟩
    rw [hg.block g (hge g rfl).2 ?_]
    · exact hh
    · intro e'
      exact own_ne h2 (b := g) (cs := cur) (t := e) hh (fun x => hne x.symm) e'.symm

theorem facts_cell {w : World} {n cap : Nat} {a : Option Addr} {l : List Fact} (h : Arr w 5 (.slice a n cap) (l.map Fact.cells)) (k : Nat) (hk : k < l.length) :
    ∃ b off, a = some ⟨b, off, none⟩ ∧ b < w.heap.size ∧
      w.cell? ⟨b, off + k * 5, none⟩ = some (.int .i64 l[k].kind) ∧ w.cell? ⟨b, off + k * 5 + 1, none⟩ = some (.int .i64 l[k].at_) ∧ w.cell? ⟨b, off + k * 5 + 2, none⟩ = some (.int .i64 l[k].what) ∧
      w.cell? ⟨b, off + k * 5 + 3, none⟩ = some (.int .i64 l[k].target) ∧ w.cell? ⟨b, off + k * 5 + 4, none⟩ = some (.int .i64 l[k].ref) := by
  obtain ⟨b, off, ha, hx⟩ := h.row k (by simpa using hk)
  simp only [List.getElem_map] at hx
  exact ⟨b, off, ha, hx.lt, hx 0 _ rfl, hx 1 _ rfl, hx 2 _ rfl, hx 3 _ rfl, hx 4 _ rfl⟩

set_option maxRecDepth 100000 in
set_option maxHeartbeats 2000000 in
theorem instance_any (dv v : Value) (d : Def) (l : List Cmd) (id : Int) (w : World) (hd : DefIs w dv d) (hok : StepsOk d) (h : Cmds w v l) (ht : TicksOk l) (hl : l.length ≤ 549755813888) (he0 : 0 ≤ d.expiry) (he1 : d.expiry ≤ 50) (hap : ApprovesOk d l)
    (hfo : FactsOk d id (factsR d l id)) :
    Calls Tryz.prog 48 #[dv, v, .int .i64 id] w fun e w' => ∃ a n cap, e = .returned ((instanceR d l id).val (.slice a n cap)) ∧ w'.ownsRow w.heap.size 92 3 (.slice a n cap) n (ents (instanceR d l id).ledger) ∧ n = (instanceR d l id).ledger.length ∧ Quiet w w' := by
  have hd0 := hd
  obtain ⟨a, n, cap, rfl⟩ := h.1.shape
  obtain ⟨da, dn, dcap, rfl, hst⟩ := hd
  have hfat := factsTo_at d l id l.length ht
  have hflen := factsTo_len d l id l.length
  have HI : Hid (instanceR d l id = { instFold d id (factsR d l id) with settled := settledR (instFold d id (factsR d l id)).ledger }) := rfl
  change ∀ f ∈ factsR d l id, _ at hfat
  change (factsR d l id).length ≤ _ at hflen
  go_enter Tryz.func48, Tryz.ntmps48
  go_wp2_with fail
  refine calls_gen (fun W => Blk W w.heap.size #[.slice da dn dcap, .int .i64 d.quorum, .int .i64 d.expiry] 24 ∧ Blk W (w.heap.size + 1) #[.int .i64 0, .int .i64 0, .bool false, .int .i64 0, .int .i64 0, .bool false, .int .i64 0, .int .i64 0, .int .i64 0, .int .i64 0, .int .i64 0, .slice none 0 0] 78 ∧ Blk W (w.heap.size + 1 + 1) #[.int .i64 id, .int .i64 1, .bool false, .int .i64 0, .int .i64 0, .bool false, .int .i64 0, .int .i64 0, .int .i64 0, .int .i64 0, .int .i64 0, .slice none 0 0] 78 ∧ Quiet w W) ⟨?_, ?_, Blk.new' (by simp), (((Below.refl _ _).alloc (Nat.le_refl _) _).alloc (by simp) _).alloc (by simp; omega) _⟩ ?_
  · repeat (first | (refine Blk.new' ?_; simp; done) | refine Blk.alloc ?_ _)
  · repeat (first | (refine Blk.new' ?_; simp; done) | refine Blk.alloc ?_ _)
  rintro W ⟨b0, b1, b2, hqW⟩
  refine (facts_any _ _ d l id _ (hd0.quiet hqW) (h.quiet hqW) ht (by omega) he0 he1 hap).mono ?_
  rintro e w1 ⟨fa, fn, fcap, rfl, hfrow, hfn, hq1⟩
  replace b0 := b0.quiet hq1
  replace b1 := b1.quiet hq1
  replace b2 := b2.quiet hq1
  have hfrow' := own_base hfrow hqW.size
  replace hq1 : Quiet w w1 := hqW.after hq1
  clear hqW hfrow W
  generalize factsR d l id = fs at *
  have HFN : Hid (fn = fs.length) := hfn
  have hfb : fn ≤ 549755813888 := by omega
  clear hfn hst hflen
  go_wp2
  go_loopw [9] (fun i wr => ∃ (k : Nat) (a' : Option Addr) (n' cap' : Nat), k ≤ fn ∧ i = .int .i64 k ∧ Blk wr (w.heap.size + 1 + 1) #[.int .i64 (instFold d id (fs.take k)).id, .int .i64 (instFold d id (fs.take k)).mode, .bool (instFold d id (fs.take k)).stuck, .int .i64 (instFold d id (fs.take k)).settled, .int .i64 (instFold d id (fs.take k)).target, .bool (instFold d id (fs.take k)).resume, .int .i64 (instFold d id (fs.take k)).keys, .int .i64 (instFold d id (fs.take k)).key, .int .i64 (instFold d id (fs.take k)).due, .int .i64 (instFold d id (fs.take k)).tries, .int .i64 (instFold d id (fs.take k)).wake, .slice a' n' cap'] 78 ∧ Led w wr (instFold d id (fs.take k)).ledger a' n' cap' ∧
    Blk wr w.heap.size #[.slice da dn dcap, .int .i64 d.quorum, .int .i64 d.expiry] 24 ∧ Blk wr (w.heap.size + 1) #[.int .i64 0, .int .i64 0, .bool false, .int .i64 0, .int .i64 0, .bool false, .int .i64 0, .int .i64 0, .int .i64 0, .int .i64 0, .int .i64 0, .slice none 0 0] 78 ∧ wr.ownsRow w.heap.size 118 5 (.slice fa fn fcap) fn (factVals fs) ∧ Quiet w wr) (fun i _ => fn - (intOf i).toNat)
  case atStart => exact ⟨0, none, 0, 0, Nat.zero_le _, rfl, by simpa [instFold, startR] using b2, ⟨World.ownsRow_nil _ _ _ _, rfl, by simp [instFold, startR]⟩, b0, b1, hfrow', hq1⟩
  case round =>
    clear b0 b1 b2 hfrow' hq1
    obtain ⟨k, a', n', cap', hk, rfl, b2, hled, b0, b1, hfrow, hqr⟩ := hrel
    have g0 := b0.cell
    have g2 := b2.cell
    have f2 := b2.frozen
    by_cases hlt : k < fn
    · have hkl : k < fs.length := by have := HFN.out; omega
      have hbd := instFold_bd d id fs k (by omega)
      obtain ⟨fb, fo, rfl, hfbl, c0, c1, c2, c3, c4⟩ := facts_cell (own_facts hfrow HFN.out) k hkl
      have HS : Hid (instFold d id (fs.take (k + 1)) = afterR d (instFold d id (fs.take k)) fs[k]) := instFold_snoc d id fs k hkl
      have hin := hfo k hkl
      obtain ⟨t0, t1⟩ := hfat fs[k] (List.getElem_mem hkl)
      generalize fs[k] = f at *
      have hlen' : (instFold d id (fs.take (k + 1))).ledger.length ≤ k + 1 := (instFold_bd d id fs (k + 1) (by omega)).2.2.2.2
      generalize hX : instFold d id (fs.take k) = x at *
      rw [HS.out] at hlen'
      clear hX
      have hki : (0 : Int) ≤ (k : Int) := by omega
      have hkj : (k : Int) < (fn : Int) := by omega
      have HA : Hid (∀ W, Quiet wr W → Calls Tryz.prog 62 #[.agg #[.slice da dn dcap, .int .i64 d.quorum, .int .i64 d.expiry], x.val (.slice a' n' cap'), f.val] W fun e w' => Gives w W (Value.slice a' n' cap').ownBlock (afterR d x f) e w') := fun W hW =>
        after_any w W (hqr.after hW) _ d hd0 hok x a' n' cap' (hled.quiet hW) f hin t0 t1 hbd.1 (by omega) hbd.2.2.1 (by omega)
      clear hbd hin
      go_wp2_with fail
      go_region_with (first | (go_at_call 62; refine (HA.out _ ?_).mono ?_; (exact Below.drew (Below.refl _ _)); rintro e w2 ⟨a2, n2, cap2, rfl, hown2, hn2, hg2⟩; have HN2 : Hid (n2 = (afterR d x f).ledger.length) := hn2; clear hn2; have q2 := b2.drew.grown hg2 (fun e => own_ne hled.own b2 (by decide) e.symm); have q2c := q2.cell; have q2f := q2.frozen; simp only [Inst.val]))
      all_goals (try go_wp2)
      all_goals
        go_roundw
        case rel =>
          refine ⟨k + 1, a2, n2, cap2, by omega, by go_num, ?_, ?_, ?_, ?_, ?_, ?_⟩
          · rw [HS.out]; exact q2.set12 (by simp) _ _ _ _ _ _ _ _ _ _ _ _
          · rw [HS.out]; exact ⟨own_set12 hown2 q2 (by decide) _ _ _ _ _ _ _ _ _ _ _ _, HN2.out, by omega⟩
          · exact (b0.drew.grown hg2 (fun e => own_ne hled.own b0 (by decide) e.symm)).other12 (by omega) _ _ _ _ _ _ _ _ _ _ _ _
          · exact (b1.drew.grown hg2 (fun e => own_ne hled.own b1 (by decide) e.symm)).other12 (by omega) _ _ _ _ _ _ _ _ _ _ _ _
          · exact own_set12 (own_grown (World.ownsRow.drew hfrow) (World.ownsRow.drew hled.own) (by decide) hg2) q2 (by decide) _ _ _ _ _ _ _ _ _ _ _ _
          · exact Below.set12 (quiet_of_grown (Below.drew hqr) hg2 (fun k hk => (own_ge hled.own k hk).1)) (by omega) _ _ _ _ _ _ _ _ _ _ _ _
        case measure => simp [intOf]; omega
    · have HE : Hid (instFold d id (fs.take k) = instFold d id fs) := by
        have := HFN.out
        show instFold d id (fs.take k) = _
        rw [List.take_of_length_le (by omega)]
      have g1 := b1.cell
      have f1 := b1.frozen
      rw [HE.out] at b2 hled g2
      have hE := hled.ents
      generalize instFold d id fs = x at *
      go_wp2_with fail
      refine (settled_any _ x.ledger _ hE).mono ?_
      rintro e w1 ⟨rfl, rfl⟩
      go_wp2
      refine bodyPost_ret (v := Inst.val { x with settled := settledR x.ledger } (.slice a' n' cap')) (by simp [results, Tryz.results48, go_sem, Inst.val, g1]) rfl ⟨a', n', cap', by rw [HI.out], ?_, by rw [HI.out]; exact hled.len, ?_⟩
      · rw [HI.out]; exact own_set12 (ownsRow_setCell_other hled.own (own_ne hled.own b2 (by decide)) _) (b1.other _ (by simp)) (by decide) _ _ _ _ _ _ _ _ _ _ _ _
      · exact Below.set12 (hqr.setCell (by show w.heap.size ≤ w.heap.size + 1 + 1; omega) _) (by omega) _ _ _ _ _ _ _ _ _ _ _ _

end Go.Proofs.YtgcjlgaapiefiabGreat

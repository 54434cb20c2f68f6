import Derived.Test.YtgcjlgaapiefiabGreatQReqA
import Derived.Test.YtgcjlgaapiefiabGreatQData

/-
  Walks of the document's answer: carried.
-/
namespace Go.Proofs.YtgcjlgaapiefiabGreat
open Go.RowKit

theorem At.nine {w : World} {b o : Nat} {x0 x1 x2 x3 x4 x5 x6 x7 x8 : Value} (h : At w b o [x0, x1, x2, x3, x4, x5, x6, x7, x8]) :
    w.cell? ⟨b, o, none⟩ = some x0 ∧ w.cell? ⟨b, o + 1, none⟩ = some x1 ∧ w.cell? ⟨b, o + 2, none⟩ = some x2 ∧ w.cell? ⟨b, o + 3, none⟩ = some x3 ∧ w.cell? ⟨b, o + 4, none⟩ = some x4 ∧ w.cell? ⟨b, o + 5, none⟩ = some x5 ∧ w.cell? ⟨b, o + 6, none⟩ = some x6 ∧ w.cell? ⟨b, o + 7, none⟩ = some x7 ∧ w.cell? ⟨b, o + 8, none⟩ = some x8 :=
  ⟨h 0 x0 rfl, h 1 x1 rfl, h 2 x2 rfl, h 3 x3 rfl, h 4 x4 rfl, h 5 x5 rfl, h 6 x6 rfl, h 7 x7 rfl, h 8 x8 rfl⟩

theorem own_reqs {w : World} {base : Nat} {v : Value} {n : Nat} {ps : List (Req × Value)} (h : w.ownsRow base 83 9 v n (reqVals ps).flatten) (hn : n = ps.length) : Arr w 9 v (reqVals ps) :=
  own_arr (base := base) (e := 83) (n := n) h (by simp [reqVals, hn]) (by intro x hx; simp [reqVals] at hx; obtain ⟨a, b, _, rfl⟩ := hx; rfl)

theorem reqs_cell {w : World} {n cap : Nat} {a : Option Addr} {ps : List (Req × Value)} (h : Arr w 9 (.slice a n cap) (reqVals ps)) (k : Nat) (hk : k < ps.length) :
    ∃ b off, a = some ⟨b, off, none⟩ ∧ b < w.heap.size ∧
      w.cell? ⟨b, off + k * 9, none⟩ = some (.int .i64 ps[k].1.number) ∧ w.cell? ⟨b, off + k * 9 + 1, none⟩ = some (.int .i64 ps[k].1.inst) ∧ w.cell? ⟨b, off + k * 9 + 2, none⟩ = some (.int .i64 ps[k].1.what) ∧
      w.cell? ⟨b, off + k * 9 + 3, none⟩ = some (.int .i64 ps[k].1.target) ∧ w.cell? ⟨b, off + k * 9 + 4, none⟩ = some (.int .i64 ps[k].1.who) ∧ w.cell? ⟨b, off + k * 9 + 5, none⟩ = some (.string ps[k].1.reason) ∧
      w.cell? ⟨b, off + k * 9 + 6, none⟩ = some ps[k].2 ∧ w.cell? ⟨b, off + k * 9 + 7, none⟩ = some (.int .i64 ps[k].1.upto) ∧ w.cell? ⟨b, off + k * 9 + 8, none⟩ = some (.bool ps[k].1.closed) := by
  obtain ⟨b, off, ha, hx⟩ := h.row k (by simpa [reqVals] using hk)
  simp only [reqVals, List.getElem_map] at hx
  exact ⟨b, off, ha, hx.lt, hx.nine⟩

theorem Blk.set5 {w : World} {b : Nat} {cs : Array Value} {t : TypeId} (h : Blk w b cs t) (hs : cs.size = 5) (v0 v1 v2 v3 v4 : Value) :
    Blk (((((w.setCell ⟨b, 0, none⟩ v0).setCell ⟨b, 1, none⟩ v1).setCell ⟨b, 2, none⟩ v2).setCell ⟨b, 3, none⟩ v3).setCell ⟨b, 4, none⟩ v4) b #[v0, v1, v2, v3, v4] t := by
  obtain ⟨cs⟩ := cs
  match cs, hs with
  | [_, _, _, _, _], _ => simpa using ((((h.set 0 v0).set 1 v1).set 2 v2).set 3 v3).set 4 v4
theorem Below.set5 {B : Nat} {w0 w : World} (h : Below B w0 w) {b : Nat} (hb : B ≤ b) (v0 v1 v2 v3 v4 : Value) :
    Below B w0 (((((w.setCell ⟨b, 0, none⟩ v0).setCell ⟨b, 1, none⟩ v1).setCell ⟨b, 2, none⟩ v2).setCell ⟨b, 3, none⟩ v3).setCell ⟨b, 4, none⟩ v4) :=
  ((((h.setCell hb v0).setCell hb v1).setCell hb v2).setCell hb v3).setCell hb v4
theorem requestR_bys (d : Def) (l : List Cmd) (k : Nat) (number : Int) : (requestR d l k number).bys.length ≤ l.length := by
  unfold requestR
  have h1 := reqFold_len d number (l.drop (k + 1)) (reqBase d (l.take k) (l.getD k default) number)
  have h2 : (reqBase d (l.take k) (l.getD k default) number).bys.length = 0 := rfl
  have h3 : (l.drop (k + 1)).length ≤ l.length := by simp
  omega
theorem requestsTo_bys (d : Def) (l : List Cmd) (m : Nat) : ∀ r ∈ requestsTo d l m, r.bys.length ≤ l.length := by
  induction m with
  | zero => intro r hr; simp [requestsTo] at hr
  | succ m ih =>
    intro r hr
    unfold requestsTo at hr
    split at hr
    · rcases List.mem_append.1 hr with hr | hr
      · exact ih r hr
      · simp at hr; subst hr; exact requestR_bys ..
    · exact ih r hr
theorem requests_bys (d : Def) (l : List Cmd) (k : Nat) : ((requestsR d l).getD k default).bys.length ≤ l.length := by
  by_cases h : k < (requestsR d l).length
  · have : (requestsR d l).getD k default = (requestsR d l)[k] := by simp [List.getD, h]
    rw [this]; exact requestsTo_bys d l l.length _ (List.getElem_mem h)
  · have : (requestsR d l).getD k default = default := by simp [List.getD, h]
    rw [this]; exact Nat.zero_le _

set_option maxRecDepth 100000 in
set_option maxHeartbeats 2000000 in
theorem carried_any (dv v : Value) (d : Def) (l : List Cmd) (id : Int) (w : World) (hd : DefIs w dv d) (h : Cmds w v l) (ht : TicksOk l) (hl : l.length ≤ 1099511627776) (hl0 : 0 < l.length) (he0 : 0 ≤ d.expiry) (he1 : d.expiry ≤ 50)
    (hap : (l.getD (l.length - 1) default).kind = 6 → 1 ≤ (l.getD (l.length - 1) default).a ∧ (l.getD (l.length - 1) default).a ≤ (requestsR d l).length) :
    Calls Tryz.prog 76 #[dv, v, .int .i64 id] w fun e w' => e = .returned (.tuple #[(carriedR d l id).1.val, .bool (carriedR d l id).2]) ∧ Quiet w w' := by
  obtain ⟨a, n, cap, rfl⟩ := h.1.shape
  obtain ⟨hn, hm⟩ := h.len
  have hd0 := hd
  obtain ⟨da, dn, dcap, rfl, hst⟩ := hd
  obtain ⟨m, hm1⟩ : ∃ m, n = m + 1 := ⟨n - 1, by omega⟩
  subst hm1
  have hml : m < l.length := by omega
  obtain ⟨b, off, rfl, hb, c0, c1, c2, c3, c4, c5, c6⟩ := h.cell m hml
  have HG : l.getD (l.length - 1) default = l[m] := by rw [show l.length - 1 = m by omega]; simp [List.getD, hml]
  rw [HG] at hap
  have HR : Hid (carriedR d l id = (let c := l[m]; let rs := requestsR d l; let n := carriedN d c rs; if n = 0 then (⟨0, 0, 0, 0, 0⟩, false) else if (rs.getD (n - 1).toNat default).inst = id then (⟨4, clockR l, (rs.getD (n - 1).toNat default).what, (rs.getD (n - 1).toNat default).target, n⟩, true) else (⟨0, 0, 0, 0, 0⟩, false))) := by
    show carriedR d l id = _
    unfold carriedR; rw [HG]
  clear HG hst hn
  have hq0 : ∀ o, Quiet w (w.alloc o) := fun o => (Below.refl _ _).alloc (Nat.le_refl _) _
  have ca := fun o => (bcell (hq0 o)).1
  generalize l[m] = c at *
  go_enter Tryz.func76, Tryz.ntmps76
  go_wp2_with fail
  refine calls_gen (fun W => Blk W w.heap.size #[.slice da dn dcap, .int .i64 d.quorum, .int .i64 d.expiry] 24 ∧ Blk W (w.heap.size + 1) #[.int .i64 0, .int .i64 0, .int .i64 0, .int .i64 0, .int .i64 0] 118 ∧
    Blk W (w.heap.size + 1 + 1) #[.int .i64 c.kind, .int .i64 c.inst, .int .i64 c.a, .int .i64 c.b, .int .i64 c.who, .string c.reason, .bool c.dry] 43 ∧ Quiet w W) ⟨?_, ?_, Blk.new' (by simp), (((Below.refl _ _).alloc (Nat.le_refl _) _).alloc (by simp) _).alloc (by simp; omega) _⟩ ?_
  · repeat (first | (refine Blk.new' ?_; simp; done) | refine Blk.alloc ?_ _)
  · repeat (first | (refine Blk.new' ?_; simp; done) | refine Blk.alloc ?_ _)
  rintro W ⟨b0, b1, b2, hqW⟩
  refine (requests_any _ _ d l _ (hd0.quiet hqW) (h.quiet hqW) ht hl he0 he1).mono ?_
  rintro e w1 ⟨v', rfl, ⟨ps, HP, hrow, hby⟩, hq1⟩
  obtain ⟨a1, cap1, rfl⟩ := own_shape hrow
  replace b0 := b0.quiet hq1
  replace b1 := b1.quiet hq1
  replace b2 := b2.quiet hq1
  replace hq1 : Quiet w w1 := hqW.after hq1
  have harr := own_reqs hrow rfl
  clear ca hq0 hqW c0 c1 c2 c3 c4 c5 c6
  have g0 := b0.cell
  have g1 := b1.cell
  have f1 := b1.frozen
  have g2 := b2.cell
  have HK : ∀ k (hk : k < ps.length), Hid ((requestsR d l).getD k default = ps[k].1) := fun k hk => by
    show (requestsR d l).getD k default = _
    rw [← HP]; simp [List.getD, hk]
  have hpl : (requestsR d l).length = ps.length := by rw [← HP]; simp
  rw [hpl] at hap
  have hpm : ps.length ≤ 1099511627776 := by have := requestsTo_len d l l.length; unfold requestsR at hpl; omega
  have HZ : ∀ (N : Int), carriedN d c (requestsR d l) = N → N = 0 → Hid (carriedR d l id = (⟨0, 0, 0, 0, 0⟩, false)) := fun N h1 h2 => by
    show carriedR d l id = _
    rw [HR.out]; simp only [h1, h2, if_pos]
  have HO : ∀ k (hk : k < ps.length), carriedN d c (requestsR d l) = (k : Int) + 1 → ps[k].1.inst ≠ id → Hid (carriedR d l id = (⟨0, 0, 0, 0, 0⟩, false)) := fun k hk h1 h2 => by
    show carriedR d l id = _
    rw [HR.out]; simp only [h1]
    rw [if_neg (by omega), show ((k : Int) + 1 - 1).toNat = k by omega, (HK k hk).out, if_neg h2]
  have HS : ∀ k (hk : k < ps.length), carriedN d c (requestsR d l) = (k : Int) + 1 → ps[k].1.inst = id → Hid (carriedR d l id = (⟨4, clockR l, ps[k].1.what, ps[k].1.target, (k : Int) + 1⟩, true)) := fun k hk h1 h2 => by
    show carriedR d l id = _
    rw [HR.out]; simp only [h1]
    rw [if_neg (by omega), show ((k : Int) + 1 - 1).toNat = k by omega, (HK k hk).out, if_pos h2]
  have HN : Hid (carriedN d c (requestsR d l) = if c.kind = 5 ∧ d.quorum = 0 then ((requestsR d l).length : Int) else if c.kind = 6 ∧ (((requestsR d l).getD (c.a - 1).toNat default).bys.length : Int) = d.quorum then c.a else 0) := rfl
  generalize hrs : requestsR d l = rs at *
  clear HR HP
  cases h5 : c.kind == 5
  · cases h6 : c.kind == 6
    · have HX := HZ 0 (by simp at h5 h6; rw [HN.out]; simp [h5, h6]) rfl
      clear HZ HO HS HN HK hpl hrs hap
      go_wp2_with fail
      go_quiet (fail)
      go_wp2
      refine bodyPost_ret (v := .tuple #[Fact.val ⟨0, 0, 0, 0, 0⟩, .bool false]) (by simp [results, Tryz.results76, go_sem, Fact.val, g1]) rfl ⟨by rw [HX.out], ?_⟩
      iterate 5 refine Below.setCell ?_ (by show w.heap.size ≤ w.heap.size + 1; omega) _
      exact hq1.drewN
    · obtain ⟨ha0, ha1⟩ := hap (by simpa using h6)
      obtain ⟨k, hk⟩ : ∃ k : Nat, c.a = (k : Int) + 1 := ⟨(c.a - 1).toNat, by omega⟩
      have hkp : k < ps.length := by omega
      obtain ⟨rb, ro, rfl, hrb, r0, r1, r2, r3, r4, r5, r6, r7, r8⟩ := reqs_cell harr k hkp
      have hrne : rb ≠ w.heap.size + 1 := fun e => own_ne hrow b1 (by decide) (by simp [Value.ownBlock, e])
      have hrk : ∀ (W : World) (i j : Nat) (v : Value), (W.setCell ⟨w.heap.size + 1, i, none⟩ v).cell? ⟨rb, j, none⟩ = W.cell? ⟨rb, j, none⟩ := fun W i j v => World.cell?_of_block (Below.heap_setCell _ _ _ _ hrne)
      obtain ⟨ya, yn, ycap, hy, hyn, _⟩ := hby ps[k] (List.getElem_mem hkp)
      rw [hy] at r6
      have hyb : yn ≤ 2199023255552 := by
        have e := HK k hkp
        have := requests_bys d l k
        rw [← hrs] at e; rw [e.out] at this
        omega
      have HY : Hid (yn = ps[k].1.bys.length) := hyn
      clear hyn hy
      have HC : Hid (c.a = (k : Int) + 1) := hk
      have g2' : ∀ j, w1.cell? ⟨w.heap.size + 1 + 1, j, none⟩ = #[.int .i64 c.kind, .int .i64 c.inst, .int .i64 ((k : Int) + 1), .int .i64 c.b, .int .i64 c.who, .string c.reason, .bool c.dry][j]? := by rw [← hk]; exact g2
      clear g2 hk ha0 ha1
      have hki : (0 : Int) ≤ (k : Int) := by omega
      have hkj : (k : Int) < (ps.length : Int) := by omega
      cases hq : (yn : Int) == d.quorum
      · have HX := HZ 0 (by simp at h5 h6 hq; rw [HN.out]; rw [HC.out, show ((k : Int) + 1 - 1).toNat = k by omega, (HK k hkp).out, ← HY.out]; simp [h5, hq]) rfl
        clear HZ HO HS HN HK hpl hrs hap
        generalize ps[k] = pk at *
        go_wp2_with fail
        go_quiet (fail)
        go_wp2
        refine bodyPost_ret (v := .tuple #[Fact.val ⟨0, 0, 0, 0, 0⟩, .bool false]) (by simp [results, Tryz.results76, go_sem, Fact.val, g1]) rfl ⟨by rw [HX.out], ?_⟩
        iterate 5 refine Below.setCell ?_ (by show w.heap.size ≤ w.heap.size + 1; omega) _
        exact hq1.drewN
      · have hcn : carriedN d c rs = (k : Int) + 1 := by simp at h5 h6 hq; rw [HN.out]; rw [HC.out, show ((k : Int) + 1 - 1).toNat = k by omega, (HK k hkp).out, ← HY.out]; simp [h6, hq]
        have HX0 : Hid (ps[k].1.inst ≠ id → Hid (carriedR d l id = (⟨0, 0, 0, 0, 0⟩, false))) := HO k hkp hcn
        have HX1 : Hid (ps[k].1.inst = id → Hid (carriedR d l id = (⟨4, clockR l, ps[k].1.what, ps[k].1.target, (k : Int) + 1⟩, true))) := HS k hkp hcn
        clear hcn
        clear HZ HO HS HN HK hpl hrs hap
        generalize ps[k] = pk at *
        cases hid : pk.1.inst != id
        · go_wp2_with fail
          go_quiet (fail)
          go_wp2_with fail
          have hw1 : IntKind.i64.wrap ((k : Int) + 1 - 1) = (k : Int) := by rw [IntKind.wrap_i64]; omega
          have hw2 : IntKind.i64.wrap (k : Int) = (k : Int) := by rw [IntKind.wrap_i64]; omega
          have hkn : (0 : Int) ≤ (k : Int) := by omega
          go_cut [7] (fun s wc => s = .bool true ∧ Blk wc (w.heap.size + 1) #[.int .i64 4, .int .i64 (clockR l), .int .i64 pk.1.what, .int .i64 pk.1.target, .int .i64 ((k : Int) + 1)] 118 ∧ Quiet w wc)
          case first =>
            go_region_held3 (fun w' => w'.cell? ⟨rb, ro + k * 9 + 2, none⟩ = some (.int .i64 pk.1.what) ∧ w'.cell? ⟨rb, ro + k * 9 + 3, none⟩ = some (.int .i64 pk.1.target)) (go_keep) (first | (go_at_call 45; refine (clock_any _ l _ ?_ ht).mono ?_; (exact h.quiet (by first | exact hq1 | exact Below.drew hq1 | exact hq1.drewN | exact Below.drew hq1.drewN)); rintro e w' ⟨rfl, rfl⟩))
            all_goals (try go_wp2)
            all_goals
              go_meet
              case rel =>
                refine ⟨rfl, ?_, ?_⟩
                · exact b1.drewN.set5 (by simp) _ _ _ _ _
                · exact Below.set5 hq1.drewN (by omega) _ _ _ _ _
          case rest =>
            obtain ⟨rfl, q1, hqc⟩ := hcut
            have g1' := q1.cell
            go_wp2
            refine bodyPost_ret (v := .tuple #[Fact.val ⟨4, clockR l, pk.1.what, pk.1.target, (k : Int) + 1⟩, .bool true]) (by simp [results, Tryz.results76, go_sem, Fact.val, g1']) rfl ⟨by rw [(HX1.out (by simpa using hid)).out], hqc⟩
        · go_wp2_with fail
          go_quiet (fail)
          go_wp2
          refine bodyPost_ret (v := .tuple #[Fact.val ⟨0, 0, 0, 0, 0⟩, .bool false]) (by simp [results, Tryz.results76, go_sem, Fact.val, g1]) rfl ⟨by rw [(HX0.out (by simpa using hid)).out], ?_⟩
          iterate 5 refine Below.setCell ?_ (by show w.heap.size ≤ w.heap.size + 1; omega) _
          exact hq1.drewN
  · have h6 : (c.kind == 6) = false := by simp at h5 ⊢; omega
    cases hq : d.quorum == 0
    · have HX := HZ 0 (by simp at h5 h6 hq; rw [HN.out]; simp [h6, hq]) rfl
      clear HZ HO HS HN HK hpl hrs hap
      go_wp2_with fail
      go_quiet (fail)
      go_wp2
      refine bodyPost_ret (v := .tuple #[Fact.val ⟨0, 0, 0, 0, 0⟩, .bool false]) (by simp [results, Tryz.results76, go_sem, Fact.val, g1]) rfl ⟨by rw [HX.out], ?_⟩
      iterate 5 refine Below.setCell ?_ (by show w.heap.size ≤ w.heap.size + 1; omega) _
      exact hq1.drewN
    · by_cases hz : ps.length = 0
      · have HX := HZ 0 (by simp at h5 h6 hq; rw [HN.out]; simp [h5, hq, hpl, hz]) rfl
        clear HZ HO HS HN HK hpl hrs hap
        have hz' : ((ps.length : Int) == 0) = true := by simp [hz]
        clear hz
        go_wp2
        refine bodyPost_ret (v := .tuple #[Fact.val ⟨0, 0, 0, 0, 0⟩, .bool false]) (by simp [results, Tryz.results76, go_sem, Fact.val, g1]) rfl ⟨by rw [HX.out], ?_⟩
        iterate 5 refine Below.setCell ?_ (by show w.heap.size ≤ w.heap.size + 1; omega) _
        exact hq1
      · obtain ⟨k, hk⟩ : ∃ k : Nat, ps.length = k + 1 := ⟨ps.length - 1, by omega⟩
        have hkp : k < ps.length := by omega
        obtain ⟨rb, ro, rfl, hrb, r0, r1, r2, r3, r4, r5, r6, r7, r8⟩ := reqs_cell harr k hkp
        have hrne : rb ≠ w.heap.size + 1 := fun e => own_ne hrow b1 (by decide) (by simp [Value.ownBlock, e])
        have hrk : ∀ (W : World) (i j : Nat) (v : Value), (W.setCell ⟨w.heap.size + 1, i, none⟩ v).cell? ⟨rb, j, none⟩ = W.cell? ⟨rb, j, none⟩ := fun W i j v => World.cell?_of_block (Below.heap_setCell _ _ _ _ hrne)
        have hcn : carriedN d c rs = (k : Int) + 1 := by simp at h5 h6 hq; rw [HN.out]; simp [h5, hq, hpl, hk]
        have HX0 : Hid (ps[k].1.inst ≠ id → Hid (carriedR d l id = (⟨0, 0, 0, 0, 0⟩, false))) := HO k hkp hcn
        have HX1 : Hid (ps[k].1.inst = id → Hid (carriedR d l id = (⟨4, clockR l, ps[k].1.what, ps[k].1.target, (k : Int) + 1⟩, true))) := HS k hkp hcn
        clear hcn
        clear HZ HO HS HN HK hpl hrs hap hz harr hrow hby
        generalize hpk : ps[k] = pk at *
        clear hpk hkp
        generalize hgl : ps.length = pl at *
        clear hgl
        subst hk
        clear ps
        cases hid : pk.1.inst != id
        · go_wp2_with fail
          have hw1 : IntKind.i64.wrap ((k : Int) + 1 - 1) = (k : Int) := by rw [IntKind.wrap_i64]; omega
          have hw2 : IntKind.i64.wrap (k : Int) = (k : Int) := by rw [IntKind.wrap_i64]; omega
          have hkn : (0 : Int) ≤ (k : Int) := by omega
          go_cut [7] (fun s wc => s = .bool true ∧ Blk wc (w.heap.size + 1) #[.int .i64 4, .int .i64 (clockR l), .int .i64 pk.1.what, .int .i64 pk.1.target, .int .i64 ((k : Int) + 1)] 118 ∧ Quiet w wc)
          case first =>
            go_region_held3 (fun w' => w'.cell? ⟨rb, ro + k * 9 + 2, none⟩ = some (.int .i64 pk.1.what) ∧ w'.cell? ⟨rb, ro + k * 9 + 3, none⟩ = some (.int .i64 pk.1.target)) (go_keep) (first | (go_at_call 45; refine (clock_any _ l _ ?_ ht).mono ?_; (exact h.quiet (by first | exact hq1 | exact Below.drew hq1 | exact hq1.drewN | exact Below.drew hq1.drewN)); rintro e w' ⟨rfl, rfl⟩))
            all_goals (try go_wp2)
            all_goals
              go_meet
              case rel =>
                refine ⟨rfl, ?_, ?_⟩
                · exact (b1.set5 (by simp) _ _ _ _ _).drew
                · exact Below.drew (Below.set5 hq1 (by omega) _ _ _ _ _)
          case rest =>
            obtain ⟨rfl, q1, hqc⟩ := hcut
            have g1' := q1.cell
            go_wp2
            refine bodyPost_ret (v := .tuple #[Fact.val ⟨4, clockR l, pk.1.what, pk.1.target, (k : Int) + 1⟩, .bool true]) (by simp [results, Tryz.results76, go_sem, Fact.val, g1']) rfl ⟨by rw [(HX1.out (by simpa using hid)).out], hqc⟩
        · go_wp2
          refine bodyPost_ret (v := .tuple #[Fact.val ⟨0, 0, 0, 0, 0⟩, .bool false]) (by simp [results, Tryz.results76, go_sem, Fact.val, g1]) rfl ⟨by rw [(HX0.out (by simpa using hid)).out], ?_⟩
          iterate 5 refine Below.setCell ?_ (by show w.heap.size ≤ w.heap.size + 1; omega) _
          exact hq1

end Go.Proofs.YtgcjlgaapiefiabGreat

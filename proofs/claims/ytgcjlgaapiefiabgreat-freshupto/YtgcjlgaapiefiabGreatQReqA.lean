import Derived.Test.YtgcjlgaapiefiabGreatQRefB
import Derived.Test.YtgcjlgaapiefiabGreatQData
import Derived.Deep.RegionHeld3
import Derived.Deep.RegionLaw
import Derived.Deep.AppendLies
import Derived.Deep.RegionWith

/-
  Walks of the document's answer: request.
-/
namespace Go.Proofs.YtgcjlgaapiefiabGreat
open Go.RowKit

theorem wp_gen {P : Program} {c : Code} {Q : Exit → Act → World → Prop} {a : Act} {w : World} (R : World → Prop) (hR : R w) (h : ∀ w', R w' → Code.wp P c Q a w') : Code.wp P c Q a w := h w hR

theorem Cmds.take {w : World} {a : Option Addr} {n cap : Nat} {l : List Cmd} (h : Cmds w (.slice a n cap) l) (k : Nat) (hk : k ≤ l.length) : Cmds w (.slice a k cap) (l.take k) := by
  obtain ⟨⟨a', cap', h1, h2, h3, h4, h5⟩, h6⟩ := h
  simp only [Value.slice.injEq, List.length_map] at h1
  obtain ⟨rfl, rfl, rfl⟩ := h1
  simp only [List.length_map] at h2
  refine ⟨⟨a, cap, by simp [hk], by simp; omega, h3, ?_, ?_⟩, by simp; omega⟩
  · intro x hx; exact h4 x (by rw [List.map_take] at hx; exact List.mem_of_mem_take hx)
  · rcases h5 with h5 | ⟨b, off, ha, hx⟩
    · left; simp at h5; simp [h5]
    · right
      refine ⟨b, off, ha, fun i x hi => hx i x ?_⟩
      rw [List.map_take, List.getElem?_take] at hi
      split at hi
      · exact hi
      · simp at hi

theorem Cmds.cap {w : World} {a : Option Addr} {n cap : Nat} {l : List Cmd} (h : Cmds w (.slice a n cap) l) : n ≤ cap ∧ cap ≤ 9223372036854775807 := by
  obtain ⟨⟨a', cap', h1, h2, h3, h4, h5⟩, h6⟩ := h
  simp only [Value.slice.injEq, List.length_map] at h1
  obtain ⟨rfl, rfl, rfl⟩ := h1
  simp at h2
  unfold maxLen at h3
  omega

set_option maxRecDepth 100000 in
set_option maxHeartbeats 2000000 in
theorem request_any (dv v : Value) (d : Def) (l : List Cmd) (k : Nat) (number : Int) (w : World) (hd : DefIs w dv d) (h : Cmds w v l) (ht : TicksOk l) (hk : k < l.length) (he0 : 0 ≤ d.expiry) (he1 : d.expiry ≤ 50) :
    Calls Tryz.prog 60 #[dv, v, .int .i64 k, .int .i64 number] w fun e w' => ∃ a n cap, e = .returned ((requestR d l k number).val (.slice a n cap)) ∧
      w'.ownsRow w.heap.size 3 1 (.slice a n cap) n (ints (requestR d l k number).bys) ∧ n = (requestR d l k number).bys.length ∧ Quiet w w' := by
  obtain ⟨i0, hi, hz0, hz1, hz2⟩ := info_parts Tryz.info3
  obtain ⟨a, n, cap, rfl⟩ := h.1.shape
  obtain ⟨hn, hm⟩ := h.len
  obtain ⟨hc1, hc2⟩ := h.cap
  have hkn : k < n := by omega
  obtain ⟨b, off, rfl, hb, c0, c1, c2, c3, c4, c5, c6⟩ := h.cell k hk
  have hct := (ht.take k).bd
  have HD : Hid (l.getD k default = l[k]) := by show l.getD k default = _; simp [List.getD, hk]
  have HB0 : Hid (reqAt d l k number 0 = reqBase d (l.take k) l[k] number) := by
    show reqAt d l k number 0 = _
    unfold reqAt; rw [HD.out]; rfl
  have HT := h.take k (by omega)
  have htk := ht.take k
  clear HD
  obtain ⟨da, dn, dcap, rfl, hst⟩ := hd
  have HN : Hid (n = l.length) := hn
  clear hn
  have hq0 : ∀ o, Quiet w (w.alloc o) := fun o => (Below.refl _ _).alloc (Nat.le_refl _) _
  have ca := fun o => (bcell (hq0 o)).1
  generalize hlk : l[k] = c at c0 c1 c2 c3 c4 c5 c6 HB0
  clear hlk
  go_enter Tryz.func60, Tryz.ntmps60
  go_wp2_with fail
  refine wp_gen (fun W => Blk W w.heap.size #[.slice da dn dcap, .int .i64 d.quorum, .int .i64 d.expiry] 24 ∧ Blk W (w.heap.size + 1) #[.int .i64 0, .int .i64 0, .int .i64 0, .int .i64 0, .int .i64 0, .string ⟨#[]⟩, .slice none 0 0, .int .i64 0, .bool false] 83 ∧
    Blk W (w.heap.size + 1 + 1) #[.int .i64 c.kind, .int .i64 c.inst, .int .i64 c.a, .int .i64 c.b, .int .i64 c.who, .string c.reason, .bool c.dry] 43 ∧
    Blk W (w.heap.size + 1 + 1 + 1) #[.int .i64 number, .int .i64 c.inst, .int .i64 c.a, .int .i64 0, .int .i64 c.who, .string c.reason, .slice none 0 0, .int .i64 0, .bool (d.quorum == 0)] 83 ∧ Quiet w W) ⟨?_, ?_, ?_, ?_, ?_⟩ ?_
  · repeat (first | (refine Blk.new' ?_; simp; done) | refine Blk.alloc ?_ _)
  · repeat (first | (refine Blk.new' ?_; simp; done) | refine Blk.alloc ?_ _)
  · repeat (first | (refine Blk.new' ?_; simp; done) | refine Blk.alloc ?_ _)
  · exact Blk.new' (by simp)
  · exact ((((Below.refl _ _).alloc (Nat.le_refl _) _).alloc (by simp) _).alloc (by simp; omega) _).alloc (by simp; omega) _
  clear ca hq0
  rintro W ⟨b0, b1, b2, b3, hqW⟩
  have g0 := b0.cell
  have g3 := b3.cell
  have f3 := b3.frozen
  have HTW := HT.quiet hqW
  have hki : (0 : Int) ≤ (k : Int) := by omega
  have hkc : (k : Int) ≤ (cap : Int) := by omega
  have hkm : k ≤ cap := by omega
  have HW : IntKind.i64.wrap (clockR (l.take k) + d.expiry) = clockR (l.take k) + d.expiry := by
    have := hct.1; have := hct.2
    rw [IntKind.wrap_i64]; omega
  have HW' : Hid _ := HW
  clear HW
  go_cut [] (fun wc => Blk wc w.heap.size #[.slice da dn dcap, .int .i64 d.quorum, .int .i64 d.expiry] 24 ∧ Blk wc (w.heap.size + 1) #[.int .i64 0, .int .i64 0, .int .i64 0, .int .i64 0, .int .i64 0, .string ⟨#[]⟩, .slice none 0 0, .int .i64 0, .bool false] 83 ∧
    Blk wc (w.heap.size + 1 + 1) #[.int .i64 c.kind, .int .i64 c.inst, .int .i64 c.a, .int .i64 c.b, .int .i64 c.who, .string c.reason, .bool c.dry] 43 ∧
    Blk wc (w.heap.size + 1 + 1 + 1) #[.int .i64 number, .int .i64 c.inst, .int .i64 c.a, .int .i64 0, .int .i64 c.who, .string c.reason, .slice none 0 0, .int .i64 (clockR (l.take k) + d.expiry), .bool (d.quorum == 0)] 83 ∧ Quiet w wc)
  case first =>
    go_region_with (first | (go_at_call 45; refine (clock_any _ (l.take k) _ ?_ htk).mono ?_; (exact HTW); rintro e w' ⟨rfl, rfl⟩))
    all_goals (try go_wp2)
    all_goals
      go_meet
      case rel =>
        refine ⟨b0.other _ (by simp; omega), b1.other _ (by simp), b2.other _ (by simp), ?_, Below.drew (hqW.setCell (by show w.heap.size ≤ w.heap.size + 1 + 1 + 1; omega) _)⟩
        rw [HW'.out]
        simpa using (b3.set 7 (.int .i64 (clockR (l.take k) + d.expiry))).drew
  case rest =>
    obtain ⟨e0, e1, e2, e3, hqc⟩ := hcut
    clear b0 b1 b2 b3 g0 g3 f3 hqW HTW HW' W
    have g2 := e2.cell
    have g3 := e3.cell
    have f3 := e3.frozen
    have HA0 : Hid (reqAt d l k number 0 = ⟨number, c.inst, c.a, if c.a = 5 then c.b else 0, c.who, c.reason, [], clockR (l.take k) + d.expiry, decide (d.quorum = 0)⟩) := HB0.out
    clear HB0
    have HA1 : Hid (reqAt d l k number 0 = ⟨number, c.inst, c.a, if c.a = 5 then c.b else 0, c.who, c.reason, [], clockR (l.take k) + d.expiry, d.quorum == 0⟩) := by
      show reqAt d l k number 0 = _
      rw [HA0.out]; congr 1
    clear HA0
    cases h5 : c.a == 5
    all_goals
      go_wp2_with fail
      go_loopw [11] (fun i wr => ∃ (m j : Nat) (a' : Option Addr) (n' cap' : Nat), Hid (m = k + 1 + j) ∧ m ≤ n ∧ i = .int .i64 (m : Int) ∧
        Blk wr (w.heap.size + 1 + 1 + 1) #[.int .i64 (reqAt d l k number j).number, .int .i64 (reqAt d l k number j).inst, .int .i64 (reqAt d l k number j).what, .int .i64 (reqAt d l k number j).target, .int .i64 (reqAt d l k number j).who, .string (reqAt d l k number j).reason, .slice a' n' cap', .int .i64 (reqAt d l k number j).upto, .bool (reqAt d l k number j).closed] 83 ∧ wr.ownsRow w.heap.size 3 1 (.slice a' n' cap') n' (ints (reqAt d l k number j).bys) ∧ Hid (n' = (reqAt d l k number j).bys.length) ∧
        Blk wr w.heap.size #[.slice da dn dcap, .int .i64 d.quorum, .int .i64 d.expiry] 24 ∧ Blk wr (w.heap.size + 1) #[.int .i64 0, .int .i64 0, .int .i64 0, .int .i64 0, .int .i64 0, .string ⟨#[]⟩, .slice none 0 0, .int .i64 0, .bool false] 83 ∧ Quiet w wr) (fun i _ => n - (intOf i).toNat)
      case atStart =>
        simp at h5
        refine ⟨k + 1, 0, none, 0, 0, rfl, by omega, by simp, ?_, ?_, ?_, ?_, ?_, ?_⟩
        · rw [HA1.out]; first | simpa [h5] using e3 | simpa [h5] using e3.set 3 (.int .i64 c.b)
        · rw [HA1.out]; exact World.ownsRow_nil _ _ _ _
        · rw [HA1.out]; rfl
        · first | exact e0 | exact e0.other _ (by simp; omega)
        · first | exact e1 | exact e1.other _ (by simp)
        · first | exact hqc | exact hqc.setCell (by show w.heap.size ≤ w.heap.size + 1 + 1 + 1; omega) _
      case round =>
        obtain ⟨m, j, a', n', cap', HM, hmn, rfl, r3, hown, HL, r0, r1, hqr⟩ := hrel
        clear e0 e1 e2 e3 g2 g3 f3 hqc h5 HA1 c0 c1 c2 c3 c4 c5 c6 hct
        have hjl := reqAt_len d l k number j
        have g0 := r0.cell
        have g3 := r3.cell
        have f3 := r3.frozen
        have z3 := r3.lt
        have hbc := (bcell hqr).1
        by_cases hlt : m < n
        · have hkl : m < l.length := by have := HN.out; omega
          obtain ⟨b', off', hbo, hb', c0, c1, c2, c3, c4, c5, c6⟩ := h.cell m hkl
          simp only [Option.some.injEq, Addr.mk.injEq, and_true] at hbo
          obtain ⟨rfl, rfl⟩ := hbo
          have HS : Hid (reqAt d l k number (j + 1) = reqStep d number (reqAt d l k number j) l[m]) := by
            have e := HM.out
            subst e
            exact reqAt_succ d l k number j hkl
          have hnj : n' ≤ 2199023255552 := by have := HL.out; have := HM.out; omega
          generalize l[m] = x at *
          generalize hR : reqAt d l k number j = R at *
          cases h1 : x.a == number
          · have HS' : Hid (reqAt d l k number (j + 1) = R) := by
              show reqAt d l k number (j + 1) = R
              simp at h1; rw [HS.out]; unfold reqStep; simp [h1]
            clear HS hR
            go_wp2
            go_roundw
            case rel => exact ⟨m + 1, j + 1, a', n', cap', by have := HM.out; show m + 1 = _; omega, by omega, by go_num, by rw [HS'.out]; exact r3, by rw [HS'.out]; exact hown, by rw [HS'.out]; exact HL, r0, r1, hqr⟩
            case measure => simp [intOf]; omega
          · cases h6 : x.kind == 6
            · cases h7 : x.kind == 7
              · have HS' : Hid (reqAt d l k number (j + 1) = R) := by
                  show reqAt d l k number (j + 1) = R
                  simp at h1 h6 h7; rw [HS.out]; unfold reqStep; simp [h1, h6, h7]
                clear HS hR
                go_wp2
                go_roundw
                case rel => exact ⟨m + 1, j + 1, a', n', cap', by have := HM.out; show m + 1 = _; omega, by omega, by go_num, by rw [HS'.out]; exact r3, by rw [HS'.out]; exact hown, by rw [HS'.out]; exact HL, r0, r1, hqr⟩
                case measure => simp [intOf]; omega
              · have HS' : Hid (reqAt d l k number (j + 1) = { R with closed := true }) := by
                  show reqAt d l k number (j + 1) = _
                  simp at h1 h6 h7; rw [HS.out]; unfold reqStep; simp [h1, h7]
                clear HS hR
                go_wp2
                go_roundw
                case rel => exact ⟨m + 1, j + 1, a', n', cap', by have := HM.out; show m + 1 = _; omega, by omega, by go_num, by rw [HS'.out]; simpa using r3.set 8 (.bool true), by rw [HS'.out]; exact ownsRow_setCell_other hown (own_ne hown r3 (by decide)) _, by rw [HS'.out]; exact HL, r0.other _ (by simp; omega), r1.other _ (by simp), hqr.setCell (by show w.heap.size ≤ w.heap.size + 1 + 1 + 1; omega) _⟩
                case measure => simp [intOf]; omega
            · have h7 : (x.kind == 7) = false := by simp at h6 ⊢; omega
              have HS' : Hid (reqAt d l k number (j + 1) = { R with bys := R.bys ++ [x.who], closed := decide (((R.bys ++ [x.who]).length : Int) = d.quorum) }) := by
                show reqAt d l k number (j + 1) = _
                simp at h1 h6; rw [HS.out]; unfold reqStep; simp [h1, h6]
              clear HS hR
              have hn0 : (0 : Int) ≤ (m : Int) := by omega
              have hn1 : (m : Int) < (n : Int) := by omega
              go_wp2_with fail
              go_cut [] (fun wc => ∃ (a2 : Option Addr) (cap2 : Nat), Blk wc (w.heap.size + 1 + 1 + 1) #[.int .i64 R.number, .int .i64 R.inst, .int .i64 R.what, .int .i64 R.target, .int .i64 R.who, .string R.reason, .slice a2 (n' + 1) cap2, .int .i64 R.upto, .bool R.closed] 83 ∧ wc.ownsRow w.heap.size 3 1 (.slice a2 (n' + 1) cap2) (n' + 1) (ints (R.bys ++ [x.who])) ∧ Blk wc w.heap.size #[.slice da dn dcap, .int .i64 d.quorum, .int .i64 d.expiry] 24 ∧ Blk wc (w.heap.size + 1) #[.int .i64 0, .int .i64 0, .int .i64 0, .int .i64 0, .int .i64 0, .string ⟨#[]⟩, .slice none 0 0, .int .i64 0, .bool false] 83 ∧ Quiet w wc)
              case first =>
                go_region_law (refine step_append_lies _ (by rfl) (.tmp 67) (.tmp 73) 81 (by rfl) w.heap.size 3 i0 (.int .i64 0) 1 8 Tryz.underlying81 hi hz0 hz1 hz2 rfl (by decide) (.slice a' n' cap') n' (ints R.bys) (by simp [Act.eval]) (by exact World.ownsRow.drew (hown.alloc _)) ⟨wr.heap.size, 0, none⟩ 1 1 [.int .i64 x.who] (by simp [Act.eval]) rfl (by exact cell_one_new _ _ _) (by intro u hu; simp at hu; subst hu; rfl) (by decide) (by unfold maxLen; omega) (by omega) (by have := hqr.size; simp; omega) (wr.heap.size + 1) (by simp) ?_; intro g2 cap2 w1 hown2 hgrow hat hlt2; have q3 := (Blk.drew (r3.alloc (.cells #[.int .i64 x.who] 3))).grown hgrow (fun e => own_ne hown r3 (by decide) e.symm); have q3c := q3.cell; have q3f := q3.frozen)
                all_goals (try go_wp2)
                all_goals
                  go_meet
                  case rel =>
                    refine ⟨_, _, by simpa using q3.set 6 _, ?_, ?_, ?_, ?_⟩
                    · exact ownsRow_setCell_other (by simpa [ints] using hown2) (own_ne hown2 q3 (by decide)) _
                    · exact ((Blk.drew (r0.alloc _)).grown hgrow (fun e => own_ne hown r0 (by decide) e.symm)).other _ (by simp; omega)
                    · exact ((Blk.drew (r1.alloc _)).grown hgrow (fun e => own_ne hown r1 (by decide) e.symm)).other _ (by simp)
                    · exact Below.setCell (Below.grown (Below.drew (hqr.alloc hqr.size _)) hgrow (by have := hqr.size; simp; omega) (fun k hk => (own_ge hown k hk).1)) (by show w.heap.size ≤ w.heap.size + 1 + 1 + 1; omega) _
              case rest =>
                obtain ⟨a2, cap2, q3, hown2, q0, q1, hq2⟩ := hcut
                clear g0 g3 f3 r0 r1 r3 hown hqr hbc z3
                have hbc := (bcell hq2).1
                have g0 := q0.cell
                have g3 := q3.cell
                have f3 := q3.frozen
                go_wp2
                go_roundw
                case rel =>
                  have hr := own_ne hown2 q3 (by decide)
                  refine ⟨m + 1, j + 1, a2, n' + 1, cap2, by have := HM.out; show m + 1 = _; omega, by omega, by go_num, ?_, ?_, ?_, ?_, ?_, ?_⟩
                  · rw [HS'.out]
                    have e : decide (((R.bys ++ [x.who]).length : Int) = d.quorum) = (((n' + 1 : Nat) : Int) == d.quorum) := by
                      have := HL.out; rw [Bool.eq_iff_iff]; simp; omega
                    rw [e]
                    simpa using q3.set 8 _
                  · rw [HS'.out]; exact ownsRow_setCell_other hown2 hr _
                  · rw [HS'.out]; have := HL.out; show n' + 1 = _; simp; omega
                  · exact q0.other _ (by simp; omega)
                  · exact q1.other _ (by simp)
                  · exact hq2.setCell (by show w.heap.size ≤ w.heap.size + 1 + 1 + 1; omega) _
                case measure => simp [intOf]; omega
        · have HE : Hid (reqAt d l k number j = requestR d l k number) := reqAt_end d l k number j (by have := HN.out; have := HM.out; omega)
          have g1 := r1.cell
          have f1 := r1.frozen
          generalize hR : reqAt d l k number j = R at *
          clear hR
          go_wp2
          refine bodyPost_ret (v := Req.val R (.slice a' n' cap')) (by simp [results, Tryz.results60, go_sem, Req.val, g1]) rfl ⟨a', n', cap', by rw [HE.out], ?_, by rw [← HE.out]; exact HL.out, ?_⟩
          · rw [← HE.out]
            have hr := own_ne hown r1 (by decide)
            iterate 9 refine ownsRow_setCell_other ?_ hr _
            exact hown
          · iterate 9 refine Below.setCell ?_ (by show w.heap.size ≤ w.heap.size + 1; omega) _
            exact hqr

end Go.Proofs.YtgcjlgaapiefiabGreat

/-
  Walks of the document's answer: requests.
-/
namespace Go.Proofs.YtgcjlgaapiefiabGreat
open Go.RowKit

theorem Tryz.info83 : (Tryz.prog.info? 83).map (fun i => (i.zero, i.size, i.bytes)) = some (some (.agg #[.int .i64 0, .int .i64 0, .int .i64 0, .int .i64 0, .int .i64 0, .string ⟨#[]⟩, .slice none 0 0, .int .i64 0, .bool false]), 9, 96) := by kernel_rfl

/-- An owned row stays, where another of another element type is appended to. -/
theorem own_other {w w' : World} {o : Obj} {base base2 : Nat} {e e2 : TypeId} {m m2 : Nat} {v v2 : Value} {n n2 : Nat} {xs xs2 : List Value} (h : w.ownsRow base e m v n xs) (h2 : w.ownsRow base2 e2 m2 v2 n2 xs2) (hne : e ≠ e2)
    (hg : (w.alloc o).grownBy w' v2.ownBlock) : w'.ownsRow base e m v n xs := by
  have hge := own_ge h
  obtain ⟨h1, hv⟩ := h
  refine ⟨h1, ?_⟩
  rcases hv with hv | ⟨g, cap, cur, rfl, hb, hh, r⟩
  · exact .inl hv
  · refine .inr ⟨g, cap, cur, rfl, hb, ?_, r⟩
    have hlt := (hge g rfl).2
    rw [hg.block g (by simp; omega) ?_]
    · rw [Below.heap_alloc _ _ _ hlt]; exact hh
    · intro e'
      exact own_ne h2 (b := g) (cs := cur) (t := e) hh (fun x => hne x.symm) e'.symm

theorem own_base {w : World} {base base' : Nat} {e : TypeId} {m : Nat} {v : Value} {n : Nat} {xs : List Value} (h : w.ownsRow base e m v n xs) (hb : base' ≤ base) : w.ownsRow base' e m v n xs := by
  obtain ⟨h1, hv⟩ := h
  refine ⟨h1, ?_⟩
  rcases hv with hv | ⟨g, cap, cur, rfl, hg, r⟩
  · exact .inl hv
  · exact .inr ⟨g, cap, cur, rfl, by omega, r⟩

/-- A request with its list of approvals, which lies in memory of its own. -/
def ByOwn (base : Nat) (w : World) (p : Req × Value) : Prop := ∃ a n cap, p.2 = .slice a n cap ∧ n = p.1.bys.length ∧ w.ownsRow base 3 1 p.2 n (ints p.1.bys)
def reqVals (ps : List (Req × Value)) : List (List Value) := ps.map fun p => p.1.cells p.2
/-- A slice of requests that the call made. -/
def ReqsOwn (base : Nat) (w : World) (v : Value) (rs : List Req) : Prop :=
  ∃ ps : List (Req × Value), ps.map (·.1) = rs ∧ w.ownsRow base 83 9 v ps.length (reqVals ps).flatten ∧ ∀ p ∈ ps, ByOwn base w p

set_option maxRecDepth 100000 in
set_option maxHeartbeats 1000000 in
theorem requests_any (dv v : Value) (d : Def) (l : List Cmd) (w : World) (hd : DefIs w dv d) (h : Cmds w v l) (ht : TicksOk l) (hl : l.length ≤ 1099511627776) (he0 : 0 ≤ d.expiry) (he1 : d.expiry ≤ 50) :
    Calls Tryz.prog 46 #[dv, v] w fun e w' => ∃ v', e = .returned v' ∧ ReqsOwn w.heap.size w' v' (requestsR d l) ∧ Quiet w w' := by
  obtain ⟨i0, hi, hz0, hz1, hz2⟩ := info_parts Tryz.info83
  obtain ⟨a, n, cap, rfl⟩ := h.1.shape
  obtain ⟨hn, hm⟩ := h.len
  have hn40 : n ≤ 1099511627776 := by omega
  have HN : Hid (n = l.length) := hn
  have hd0 := hd
  obtain ⟨da, dn, dcap, rfl, hst⟩ := hd
  clear hn hst
  go_enter Tryz.func46, Tryz.ntmps46
  go_wp2
  go_loopw [5, 6] (fun v i wr => ∃ (k : Nat) (a' : Option Addr) (n' cap' : Nat), k ≤ n ∧ i = .int .i64 k ∧ v = .slice a' n' cap' ∧ Hid (n' = (requestsTo d l k).length) ∧ ReqsOwn w.heap.size wr (.slice a' n' cap') (requestsTo d l k) ∧
    Blk wr w.heap.size #[.slice da dn dcap, .int .i64 d.quorum, .int .i64 d.expiry] 24 ∧ Quiet w wr) (fun _ i _ => n - (intOf i).toNat)
  case atStart => exact ⟨0, none, 0, 0, Nat.zero_le _, rfl, rfl, rfl, ⟨[], rfl, World.ownsRow_nil _ _ _ _, by simp⟩, Blk.new' rfl, (Below.refl _ _).alloc (Nat.le_refl _) _⟩
  case round =>
    obtain ⟨k, a', n', cap', hk, rfl, rfl, HL, hown, b0, hqr⟩ := hrel
    have hlen := requestsTo_len d l k
    have g0 := b0.cell
    have hbc := (bcell hqr).1
    by_cases hlt : k < n
    · have hkl : k < l.length := by have := HN.out; omega
      obtain ⟨b, off, rfl, hb, c0, _⟩ := h.cell k hkl
      have hn' : n' ≤ 1099511627776 := by have := HL.out; omega
      have HG : Hid (l.getD k default = l[k]) := by show l.getD k default = _; simp [List.getD, hkl]
      have HS : Hid (requestsTo d l (k + 1) = if l[k].kind = 5 then requestsTo d l k ++ [requestR d l k ((requestsTo d l k).length + 1)] else requestsTo d l k) := by
        show requestsTo d l (k + 1) = _
        rw [← HG.out]; rfl
      clear HG
      generalize l[k] = c at *
      cases h5 : c.kind == 5
      · have HS' : Hid (requestsTo d l (k + 1) = requestsTo d l k) := by
          simp at h5; show requestsTo d l (k + 1) = _; rw [HS.out, if_neg h5]
        clear HS
        go_wp2
        go_roundw
        case rel => exact ⟨k + 1, a', n', cap', by omega, by go_num, rfl, by rw [HS'.out]; exact HL, by rw [HS'.out]; exact hown, b0, hqr⟩
        case measure => simp [intOf]; omega
      · have HS' : Hid (requestsTo d l (k + 1) = requestsTo d l k ++ [requestR d l k ((n' : Int) + 1)]) := by
          simp at h5; show requestsTo d l (k + 1) = _; rw [HS.out, if_pos h5, HL.out]
        clear HS
        obtain ⟨ps, HP, hrow, hby⟩ := hown
        have HP' : Hid (ps.map (·.1) = requestsTo d l k) := HP
        have hpl : ps.length = n' := by have := HL.out; rw [← HP] at this; simp at this; omega
        have HPL : Hid (ps.length = n') := hpl
        rw [hpl] at hrow
        clear HP hpl
        go_wp2_with fail
        refine (request_any _ _ d l k ((n' : Int) + 1) _ (hd0.quiet hqr) (h.quiet hqr) ht hkl he0 he1).mono ?_
        rintro e w1 ⟨a1, n1, cap1, rfl, hown1, hn1, hq1⟩
        have HN1 : Hid (n1 = (requestR d l k ((n' : Int) + 1)).bys.length) := hn1
        clear hn1
        generalize requestR d l k ((n' : Int) + 1) = r at *
        have hrow1 := own_quiet hrow hq1
        have hby1 : ∀ p ∈ ps, ByOwn w.heap.size w1 p := fun p hp => by
          obtain ⟨a, n, cap, e1, e2, e3⟩ := hby p hp
          exact ⟨a, n, cap, e1, e2, own_quiet e3 hq1⟩
        replace b0 := b0.quiet hq1
        have hown1' : w1.ownsRow w.heap.size 3 1 (.slice a1 n1 cap1) n1 (ints r.bys) := own_base hown1 hqr.size
        replace hqr : Quiet w w1 := hqr.after hq1
        clear hrow hby g0 hbc hq1 hown1
        have hbc := (bcell hqr).1
        simp only [Req.val]
        go_wp2_with (at_builtin; refine wpList_append_own _ rfl _ _ 45 rfl w.heap.size 83 i0 (.agg #[.int .i64 0, .int .i64 0, .int .i64 0, .int .i64 0, .int .i64 0, .string ⟨#[]⟩, .slice none 0 0, .int .i64 0, .bool false]) 9 96 Tryz.underlying45 hi hz0 hz1 hz2 rfl (by decide) _ _ _ rfl ((hrow1.alloc _).alloc _) ⟨w1.heap.size + 1, 0, none⟩ 1 1 (r.cells (.slice a1 n1 cap1)) rfl rfl ?c1 ?c2 ?c3 ?c4 ?c5 ?_)
        case c1 =>
          have := World.news_of_block (heap_alloc_new (w1.alloc (.cells #[.int .i64 r.number, .int .i64 r.inst, .int .i64 r.what, .int .i64 r.target, .int .i64 r.who, .string r.reason, .slice a1 n1 cap1, .int .i64 r.upto, .bool r.closed] 83)) (.cells #[.int .i64 r.number, .int .i64 r.inst, .int .i64 r.what, .int .i64 r.target, .int .i64 r.who, .string r.reason, .slice a1 n1 cap1, .int .i64 r.upto, .bool r.closed] 83))
          simpa [Req.cells] using this
        case c2 => intro u hu; simp [Req.cells] at hu; rcases hu with rfl | rfl | rfl | rfl | rfl | rfl | rfl | rfl | rfl <;> rfl
        case c3 => unfold maxLen; omega
        case c4 => omega
        case c5 => have := hqr.size; simp; omega
        intro v' w2 hown2 hgrow _
        obtain ⟨a2, cap2, rfl⟩ := own_shape hown2
        have hq2 : Quiet w w2 := Below.grown ((hqr.alloc hqr.size _).alloc (by have := hqr.size; simp; omega) _) hgrow (by have := hqr.size; simp; omega) (fun k hk => (own_ge hrow1 k hk).1)
        replace b0 := ((b0.alloc _).alloc _).grown hgrow (fun e => own_ne hrow1 b0 (by decide) e.symm)
        have hby2 : ∀ p ∈ ps ++ [(r, .slice a1 n1 cap1)], ByOwn w.heap.size w2 p := by
          intro p hp
          rcases List.mem_append.1 hp with hp | hp
          · obtain ⟨a, n, cap, e1, e2, e3⟩ := hby1 p hp
            exact ⟨a, n, cap, e1, e2, own_other (e3.alloc _) (hrow1.alloc _) (by decide) hgrow⟩
          · simp at hp; subst hp
            exact ⟨a1, n1, cap1, rfl, HN1.out, own_other (hown1'.alloc _) (hrow1.alloc _) (by decide) hgrow⟩
        clear hgrow hrow1 hby1 hown1' hbc hqr
        go_wp2
        go_roundw
        case rel =>
          refine ⟨k + 1, a2, n' + 1, cap2, by omega, by go_num, rfl, ?_, ⟨ps ++ [(r, .slice a1 n1 cap1)], ?_, ?_, hby2⟩, b0, hq2⟩
          · rw [HS'.out]; have := HL.out; show n' + 1 = _; simp; omega
          · rw [HS'.out, ← HP'.out]; simp
          · have e : (ps ++ [(r, Value.slice a1 n1 cap1)]).length = n' + 1 := by have := HPL.out; simp; omega
            rw [e]; simpa [reqVals] using hown2
        case measure => simp [intOf]; omega
    · have HE : Hid (requestsTo d l k = requestsR d l) := by
        have := HN.out; show _ = requestsTo d l l.length; rw [show k = l.length by omega]
      go_wp2
      go_ret
      exact ⟨_, rfl, by rw [← HE.out]; exact hown, hqr⟩

end Go.Proofs.YtgcjlgaapiefiabGreat

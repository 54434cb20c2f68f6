import Derived.Test.YtgcjlgaapiefiabGreatQReqB
import Derived.Test.YtgcjlgaapiefiabGreatQData

/-
  Walks of the document's answer: facts.
-/
namespace Go.Proofs.YtgcjlgaapiefiabGreat
open Go.RowKit

theorem Tryz.info118 : (Tryz.prog.info? 118).map (fun i => (i.zero, i.size, i.bytes)) = some (some (.agg #[.int .i64 0, .int .i64 0, .int .i64 0, .int .i64 0, .int .i64 0]), 5, 40) := by kernel_rfl

theorem Blk.other5 {w : World} {b c : Nat} {cs : Array Value} {t : TypeId} (h : Blk w c cs t) (hc : c ≠ b) (v0 v1 v2 v3 v4 : Value) :
    Blk (((((w.setCell ⟨b, 0, none⟩ v0).setCell ⟨b, 1, none⟩ v1).setCell ⟨b, 2, none⟩ v2).setCell ⟨b, 3, none⟩ v3).setCell ⟨b, 4, none⟩ v4) c cs t :=
  ((((h.other v0 hc).other v1 hc).other v2 hc).other v3 hc).other v4 hc

def factVals (l : List Fact) : List Value := (l.map Fact.cells).flatten
theorem own_facts {w : World} {base : Nat} {v : Value} {n : Nat} {l : List Fact} (h : w.ownsRow base 118 5 v n (factVals l)) (hn : n = l.length) : Arr w 5 v (l.map Fact.cells) :=
  own_arr (base := base) (e := 118) (n := n) h (by simp [hn]) (by intro x hx; simp at hx; obtain ⟨a, _, rfl⟩ := hx; rfl)

set_option maxRecDepth 100000 in
set_option maxHeartbeats 2000000 in
theorem facts_any (dv v : Value) (d : Def) (l : List Cmd) (id : Int) (w : World) (hd : DefIs w dv d) (h : Cmds w v l) (ht : TicksOk l) (hl : l.length ≤ 1099511627776) (he0 : 0 ≤ d.expiry) (he1 : d.expiry ≤ 50) (hap : ApprovesOk d l) :
    Calls Tryz.prog 61 #[dv, v, .int .i64 id] w fun e w' => ∃ a n cap, e = .returned (.slice a n cap) ∧ w'.ownsRow w.heap.size 118 5 (.slice a n cap) n (factVals (factsR d l id)) ∧ n = (factsR d l id).length ∧ Quiet w w' := by
  obtain ⟨i0, hi, hz0, hz1, hz2⟩ := info_parts Tryz.info118
  obtain ⟨a, n, cap, rfl⟩ := h.1.shape
  obtain ⟨hn, hm⟩ := h.len
  obtain ⟨hc1, hc2⟩ := h.cap
  have hn40 : n ≤ 1099511627776 := by omega
  have HN : Hid (n = l.length) := hn
  have hd0 := hd
  obtain ⟨da, dn, dcap, rfl, hst⟩ := hd
  clear hn hst
  go_enter Tryz.func61, Tryz.ntmps61
  go_wp2
  go_loopw [7, 8] (fun v i wr => ∃ (k : Nat) (a' : Option Addr) (n' cap' : Nat), k ≤ n ∧ i = .int .i64 k ∧ v = .slice a' n' cap' ∧ Hid (n' = (factsTo d l id k).length) ∧ wr.ownsRow w.heap.size 118 5 (.slice a' n' cap') n' (factVals (factsTo d l id k)) ∧
    Blk wr w.heap.size #[.slice da dn dcap, .int .i64 d.quorum, .int .i64 d.expiry] 24 ∧ Quiet w wr) (fun _ i _ => n - (intOf i).toNat)
  case atStart => exact ⟨0, none, 0, 0, Nat.zero_le _, rfl, rfl, rfl, World.ownsRow_nil _ _ _ _, Blk.new' rfl, (Below.refl _ _).alloc (Nat.le_refl _) _⟩
  case round =>
    obtain ⟨k, a', n', cap', hk, rfl, rfl, HL, hrow, b0, hqr⟩ := hrel
    have hlen := factsTo_len d l id k
    have g0 := b0.cell
    have hbc := (bcell hqr).1
    by_cases hlt : k < n
    · have hkl : k < l.length := by have := HN.out; omega
      have HT := h.take k (by omega)
      have HT1 := h.take (k + 1) (by omega)
      have htk := ht.take k
      have htk1 := ht.take (k + 1)
      have hap1 := hap k hkl
      have HLAST : Hid ((l.take (k + 1)).getD ((l.take (k + 1)).length - 1) default = l[k]) := by
        show (l.take (k + 1)).getD ((l.take (k + 1)).length - 1) default = l[k]
        have e : (l.take (k + 1)).length - 1 = k := by simp; omega
        rw [e]; simp [List.getD, hkl]
      obtain ⟨b, off, rfl, hb, c0, c1, c2, c3, c4, c5, c6⟩ := h.cell k hkl
      have hn' : n' ≤ 1099511627776 := by have := HL.out; omega
      have HS : Hid (factsTo d l id (k + 1) = factsTo d l id k ++ factOf d l id k l[k]) := by
        show factsTo d l id (k + 1) = _
        have : l.getD k default = l[k] := by simp [List.getD, hkl]
        rw [← this]; rfl
      have HC : Hid (∀ o, Cmds (wr.alloc o) (.slice (some ⟨b, off, none⟩) k cap) (l.take k)) := fun o => (HT.quiet hqr).quiet ((Below.refl _ _).alloc (Nat.le_refl _) _)
      have hkc : (k : Int) ≤ (cap : Int) := by omega
      have hkc' : k ≤ cap := by omega
      generalize l[k] = c at *
      generalize hnow : clockR (l.take k) = now at *
      have HNOW : Hid (clockR (l.take k) = now) := hnow
      clear hnow
      have keep : ∀ (HX : Hid (factOf d l id k c = [])), Hid (factsTo d l id (k + 1) = factsTo d l id k) := fun HX => by
        show factsTo d l id (k + 1) = _
        rw [HS.out, HX.out, List.append_nil]
      have join : ∀ f (HX : Hid (factOf d l id k c = [f])), Hid (factsTo d l id (k + 1) = factsTo d l id k ++ [f]) := fun f HX => by
        show factsTo d l id (k + 1) = _
        rw [HS.out, HX.out]
      cases h5 : c.kind == 5
      · cases h6 : c.kind == 6
        · cases hin : c.inst == id
          · have HK := keep (by show factOf d l id k c = []; unfold factOf; simp at *; simp [*])
            clear keep join HS
            go_wp2_with (first | (go_at_call 45; refine (clock_any _ (l.take k) _ (HC.out _) htk).mono ?_; rw [HNOW.out]; rintro e w' ⟨rfl, rfl⟩))
            all_goals
              go_roundw
              case rel => exact ⟨k + 1, a', n', cap', by omega, by go_num, rfl, by rw [HK.out]; exact HL, by rw [HK.out]; exact hrow.alloc _, b0.alloc _, hqr.alloc hqr.size _⟩
              case measure => simp [intOf]; omega
          · cases h2 : c.kind == 2
            · cases h3 : c.kind == 3
              · have HK := keep (by show factOf d l id k c = []; unfold factOf; simp at *; simp [*])
                clear keep join HS
                go_wp2_with (first | (go_at_call 45; refine (clock_any _ (l.take k) _ (HC.out _) htk).mono ?_; rw [HNOW.out]; rintro e w' ⟨rfl, rfl⟩))
                all_goals
                  go_roundw
                  case rel => exact ⟨k + 1, a', n', cap', by omega, by go_num, rfl, by rw [HK.out]; exact HL, by rw [HK.out]; exact hrow.alloc _, b0.alloc _, hqr.alloc hqr.size _⟩
                  case measure => simp [intOf]; omega
              · cases hb1 : c.b == 1
                · have HK := join ⟨3, now, 0, 0, 0⟩ (by show factOf d l id k c = _; unfold factOf; rw [HNOW.out]; simp at *; simp [*])
                  clear keep join HS
                  go_wp2_with (first | (go_at_call 45; refine (clock_any _ (l.take k) _ (HC.out _) htk).mono ?_; rw [HNOW.out]; rintro e w' ⟨rfl, rfl⟩) | (at_builtin; refine wpList_append_own _ rfl _ _ 114 rfl w.heap.size 118 i0 (.agg #[.int .i64 0, .int .i64 0, .int .i64 0, .int .i64 0, .int .i64 0]) 5 40 Tryz.underlying114 hi hz0 hz1 hz2 rfl (by decide) _ _ _ rfl ((hrow.alloc _).alloc _) ⟨wr.heap.size + 1, 0, none⟩ 1 1 [.int .i64 3, .int .i64 now, .int .i64 0, .int .i64 0, .int .i64 0] rfl rfl ?qa3 ?qb3 ?qc3 ?qd3 ?qe3 ?_))
                  case qa3 =>
                    have := World.news_of_block (heap_alloc_new (wr.alloc (.cells #[.int .i64 c.kind, .int .i64 c.inst, .int .i64 c.a, .int .i64 c.b, .int .i64 c.who, .string c.reason, .bool c.dry] 43)) (.cells #[.int .i64 3, .int .i64 now, .int .i64 0, .int .i64 0, .int .i64 0] 118))
                    simpa using this
                  case qb3 => intro u hu; simp at hu; rcases hu with rfl | rfl | rfl <;> rfl
                  case qc3 => unfold maxLen; omega
                  case qd3 => omega
                  case qe3 => have := hqr.size; simp; omega
                  intro v' w2 hown2 hgrow _
                  obtain ⟨a2, cap2, rfl⟩ := own_shape hown2
                  have hq2 : Quiet w w2 := Below.grown ((hqr.alloc hqr.size _).alloc (by have := hqr.size; simp; omega) _) hgrow (by have := hqr.size; simp; omega) (fun k hk => (own_ge hrow k hk).1)
                  replace b0 := ((b0.alloc _).alloc _).grown hgrow (fun e => own_ne hrow b0 (by decide) e.symm)
                  clear hgrow hrow hbc g0 hqr
                  go_wp2
                  go_roundw
                  case rel => exact ⟨k + 1, a2, n' + 1, cap2, by omega, by go_num, rfl, by rw [HK.out]; have := HL.out; show n' + 1 = _; simp; omega, by rw [HK.out]; simpa [factVals, Fact.cells] using hown2, b0, hq2⟩
                  case measure => simp [intOf]; omega
                · have HK := join ⟨2, now, 0, 0, 0⟩ (by show factOf d l id k c = _; unfold factOf; rw [HNOW.out]; simp at *; simp [*])
                  clear keep join HS
                  go_wp2_with (first | (go_at_call 45; refine (clock_any _ (l.take k) _ (HC.out _) htk).mono ?_; rw [HNOW.out]; rintro e w' ⟨rfl, rfl⟩) | (at_builtin; refine wpList_append_own _ rfl _ _ 114 rfl w.heap.size 118 i0 (.agg #[.int .i64 0, .int .i64 0, .int .i64 0, .int .i64 0, .int .i64 0]) 5 40 Tryz.underlying114 hi hz0 hz1 hz2 rfl (by decide) _ _ _ rfl ((hrow.alloc _).alloc _) ⟨wr.heap.size + 1, 0, none⟩ 1 1 [.int .i64 2, .int .i64 now, .int .i64 0, .int .i64 0, .int .i64 0] rfl rfl ?qa2 ?qb2 ?qc2 ?qd2 ?qe2 ?_))
                  case qa2 =>
                    have := World.news_of_block (heap_alloc_new (wr.alloc (.cells #[.int .i64 c.kind, .int .i64 c.inst, .int .i64 c.a, .int .i64 c.b, .int .i64 c.who, .string c.reason, .bool c.dry] 43)) (.cells #[.int .i64 2, .int .i64 now, .int .i64 0, .int .i64 0, .int .i64 0] 118))
                    simpa using this
                  case qb2 => intro u hu; simp at hu; rcases hu with rfl | rfl | rfl <;> rfl
                  case qc2 => unfold maxLen; omega
                  case qd2 => omega
                  case qe2 => have := hqr.size; simp; omega
                  intro v' w2 hown2 hgrow _
                  obtain ⟨a2, cap2, rfl⟩ := own_shape hown2
                  have hq2 : Quiet w w2 := Below.grown ((hqr.alloc hqr.size _).alloc (by have := hqr.size; simp; omega) _) hgrow (by have := hqr.size; simp; omega) (fun k hk => (own_ge hrow k hk).1)
                  replace b0 := ((b0.alloc _).alloc _).grown hgrow (fun e => own_ne hrow b0 (by decide) e.symm)
                  clear hgrow hrow hbc g0 hqr
                  go_wp2
                  go_roundw
                  case rel => exact ⟨k + 1, a2, n' + 1, cap2, by omega, by go_num, rfl, by rw [HK.out]; have := HL.out; show n' + 1 = _; simp; omega, by rw [HK.out]; simpa [factVals, Fact.cells] using hown2, b0, hq2⟩
                  case measure => simp [intOf]; omega
            · have HK := join ⟨1, now, 0, 0, 0⟩ (by show factOf d l id k c = _; unfold factOf; rw [HNOW.out]; simp at *; simp [*])
              clear keep join HS
              go_wp2_with (first | (go_at_call 45; refine (clock_any _ (l.take k) _ (HC.out _) htk).mono ?_; rw [HNOW.out]; rintro e w' ⟨rfl, rfl⟩) | (at_builtin; refine wpList_append_own _ rfl _ _ 114 rfl w.heap.size 118 i0 (.agg #[.int .i64 0, .int .i64 0, .int .i64 0, .int .i64 0, .int .i64 0]) 5 40 Tryz.underlying114 hi hz0 hz1 hz2 rfl (by decide) _ _ _ rfl ((hrow.alloc _).alloc _) ⟨wr.heap.size + 1, 0, none⟩ 1 1 [.int .i64 1, .int .i64 now, .int .i64 0, .int .i64 0, .int .i64 0] rfl rfl ?qa1 ?qb1 ?qc1 ?qd1 ?qe1 ?_))
              case qa1 =>
                have := World.news_of_block (heap_alloc_new (wr.alloc (.cells #[.int .i64 c.kind, .int .i64 c.inst, .int .i64 c.a, .int .i64 c.b, .int .i64 c.who, .string c.reason, .bool c.dry] 43)) (.cells #[.int .i64 1, .int .i64 now, .int .i64 0, .int .i64 0, .int .i64 0] 118))
                simpa using this
              case qb1 => intro u hu; simp at hu; rcases hu with rfl | rfl | rfl <;> rfl
              case qc1 => unfold maxLen; omega
              case qd1 => omega
              case qe1 => have := hqr.size; simp; omega
              intro v' w2 hown2 hgrow _
              obtain ⟨a2, cap2, rfl⟩ := own_shape hown2
              have hq2 : Quiet w w2 := Below.grown ((hqr.alloc hqr.size _).alloc (by have := hqr.size; simp; omega) _) hgrow (by have := hqr.size; simp; omega) (fun k hk => (own_ge hrow k hk).1)
              replace b0 := ((b0.alloc _).alloc _).grown hgrow (fun e => own_ne hrow b0 (by decide) e.symm)
              clear hgrow hrow hbc g0 hqr
              go_wp2
              go_roundw
              case rel => exact ⟨k + 1, a2, n' + 1, cap2, by omega, by go_num, rfl, by rw [HK.out]; have := HL.out; show n' + 1 = _; simp; omega, by rw [HK.out]; simpa [factVals, Fact.cells] using hown2, b0, hq2⟩
              case measure => simp [intOf]; omega
        · have h2 : (c.kind == 2) = false := by simp at *; omega
          have h3 : (c.kind == 3) = false := by simp at *; omega
          have hF : factOf d l id k c = if (carriedR d (l.take (k + 1)) id).2 then [(carriedR d (l.take (k + 1)) id).1] else [] := by
            unfold factOf
            rw [if_neg (fun h => by simp at h2; exact h2 h.1), if_neg (fun h => by simp at h3; exact h3 h.1), if_neg (fun h => by simp at h3; exact h3 h.1), if_pos (by simp at h6; exact .inr h6)]
          have hcarry : ∀ (W : World), Quiet wr W → Calls Tryz.prog 76 #[.agg #[.slice da dn dcap, .int .i64 d.quorum, .int .i64 d.expiry], .slice (some ⟨b, off, none⟩) (k + 1) cap, .int .i64 id] W fun e w' => e = .returned (.tuple #[(carriedR d (l.take (k + 1)) id).1.val, .bool (carriedR d (l.take (k + 1)) id).2]) ∧ Quiet W w' := fun W hW =>
            carried_any _ _ d (l.take (k + 1)) id W (hd0.quiet (hqr.after hW)) ((HT1.quiet hqr).quiet hW) htk1 (by simp; omega) (by simp; omega) he0 he1 (by rw [HLAST.out]; exact hap1)
          obtain ⟨⟨f, ok⟩, hfok⟩ : ∃ q, carriedR d (l.take (k + 1)) id = q := ⟨_, rfl⟩
          rw [hfok] at hF hcarry
          have HK0 : Hid (ok = false → factsTo d l id (k + 1) = factsTo d l id k) := fun h => (keep (by rw [hF, h]; rfl)).out
          have HK1 : Hid (ok = true → factsTo d l id (k + 1) = factsTo d l id k ++ [f]) := fun h => (join f (by rw [hF, h]; rfl)).out
          have HCA : Hid (∀ (W : World), Quiet wr W → Calls Tryz.prog 76 #[.agg #[.slice da dn dcap, .int .i64 d.quorum, .int .i64 d.expiry], .slice (some ⟨b, off, none⟩) (k + 1) cap, .int .i64 id] W fun e w' => e = .returned (.tuple #[f.val, .bool ok]) ∧ Quiet W w') := hcarry
          clear hcarry hF hfok keep join HS
          have hk1 : (k : Int) + 1 ≤ (cap : Int) := by omega
          have hk1' : k + 1 ≤ cap := by omega
          go_wp2_with (first | (go_at_call 45; refine (clock_any _ (l.take k) _ (HC.out _) htk).mono ?_; rw [HNOW.out]; rintro e w' ⟨rfl, rfl⟩))
          refine wp_gen (fun W => Blk W w.heap.size #[.slice da dn dcap, .int .i64 d.quorum, .int .i64 d.expiry] 24 ∧ Quiet wr W) ⟨b0.alloc _, (Below.refl _ _).alloc (Nat.le_refl _) _⟩ ?_
          rintro W ⟨d0, hqW⟩
          have gd := d0.cell
          have zd := d0.lt
          have hw1 : IntKind.i64.wrap ((k : Int) + 1) = (k : Int) + 1 := by rw [IntKind.wrap_i64]; omega
          have hw2 : ((k : Int) + 1).toNat = k + 1 := by omega
          have hw3 : (0 : Int) ≤ (k : Int) + 1 := by omega
          go_cut [12, 13] (fun s12 s13 wc => ∃ fb, s12 = .pointer (some ⟨fb, 0, none⟩) ∧ s13 = .bool ok ∧ Blk wc fb #[.int .i64 f.kind, .int .i64 f.at_, .int .i64 f.what, .int .i64 f.target, .int .i64 f.ref] 118 ∧ Blk wc w.heap.size #[.slice da dn dcap, .int .i64 d.quorum, .int .i64 d.expiry] 24 ∧ Quiet wr wc)
          case first =>
            go_region_with (first | (go_at_call 76; refine (HCA.out _ ?_).mono ?_; (first | exact Below.drew hqW | exact Below.drew (hqW.alloc hqW.size _)); rintro e w1 ⟨rfl, hq1⟩; have bc1 := (bcell hq1).1; have bf1 := (bcell hq1).2; simp only [Fact.val]))
            all_goals (try go_wp2)
            all_goals
              go_meet
              case rel =>
                have hsz : wr.heap.size ≤ W.heap.size := hqW.size
                refine ⟨_, rfl, rfl, ?_, ?_, ?_⟩
                · first | (with_reducible exact Blk.new' rfl) | exact (Blk.quiet (Blk.drew (Blk.new' rfl)) hq1).set5 (by simp) _ _ _ _ _
                · first | (with_reducible exact Blk.alloc (Blk.quiet (Blk.drew d0) hq1) _) | exact (Blk.quiet (Blk.drew (d0.alloc _)) hq1).other5 (by omega) _ _ _ _ _
                · first | (with_reducible exact Below.alloc (Quiet.after (Below.drew hqW) hq1) (Quiet.after (Below.drew hqW) hq1).size _) | exact Below.set5 (Quiet.after (Below.drew (hqW.alloc hqW.size _)) hq1) (by omega) _ _ _ _ _
          case rest =>
            obtain ⟨fb, rfl, rfl, q1, d0', hqc⟩ := hcut
            clear gd zd d0 hqW b0 g0 hbc
            have gq := q1.cell
            have zq := q1.lt
            have hrow1 := own_quiet hrow hqc
            have hqwc : Quiet w wc := hqr.after hqc
            clear hrow
            cases hok : ok
            · have HK := HK0.out hok
              have HK' : Hid (factsTo d l id (k + 1) = factsTo d l id k) := HK
              clear HK HK0 HK1
              go_wp2
              go_roundw
              case rel => exact ⟨k + 1, a', n', cap', by omega, by go_num, rfl, by rw [HK'.out]; exact HL, by rw [HK'.out]; exact hrow1, d0', hqwc⟩
              case measure => simp [intOf]; omega
            · have HK := HK1.out hok
              have HK' : Hid (factsTo d l id (k + 1) = factsTo d l id k ++ [f]) := HK
              clear HK HK0 HK1
              go_wp2_with (at_builtin; refine wpList_append_own _ rfl _ _ 114 rfl w.heap.size 118 i0 (.agg #[.int .i64 0, .int .i64 0, .int .i64 0, .int .i64 0, .int .i64 0]) 5 40 Tryz.underlying114 hi hz0 hz1 hz2 rfl (by decide) _ _ _ rfl (hrow1.alloc _) ⟨wc.heap.size, 0, none⟩ 1 1 [.int .i64 f.kind, .int .i64 f.at_, .int .i64 f.what, .int .i64 f.target, .int .i64 f.ref] rfl rfl ?qaB ?qbB ?qcB ?qdB ?qeB ?_)
              case qaB =>
                have := World.news_of_block (heap_alloc_new wc (.cells #[.int .i64 f.kind, .int .i64 f.at_, .int .i64 f.what, .int .i64 f.target, .int .i64 f.ref] 118))
                simpa using this
              case qbB => intro u hu; simp at hu; rcases hu with rfl | rfl | rfl | rfl | rfl <;> rfl
              case qcB => unfold maxLen; omega
              case qdB => omega
              case qeB => have := hqwc.size; simp; omega
              intro v' w2 hown2 hgrow _
              obtain ⟨a2, cap2, rfl⟩ := own_shape hown2
              have hq2 : Quiet w w2 := Below.grown (hqwc.alloc hqwc.size _) hgrow (by have := hqwc.size; simp; omega) (fun k hk => (own_ge hrow1 k hk).1)
              replace d0' := (d0'.alloc _).grown hgrow (fun e => own_ne hrow1 d0' (by decide) e.symm)
              clear hgrow hrow1 gq zq q1 hqc hqwc
              go_wp2
              go_roundw
              case rel => exact ⟨k + 1, a2, n' + 1, cap2, by omega, by go_num, rfl, by rw [HK'.out]; have := HL.out; show n' + 1 = _; simp; omega, by rw [HK'.out]; simpa [factVals, Fact.cells] using hown2, d0', hq2⟩
              case measure => simp [intOf]; omega
      · have h2 : (c.kind == 2) = false := by simp at *; omega
        have h3 : (c.kind == 3) = false := by simp at *; omega
        have hF : factOf d l id k c = if (carriedR d (l.take (k + 1)) id).2 then [(carriedR d (l.take (k + 1)) id).1] else [] := by
          unfold factOf
          rw [if_neg (fun h => by simp at h2; exact h2 h.1), if_neg (fun h => by simp at h3; exact h3 h.1), if_neg (fun h => by simp at h3; exact h3 h.1), if_pos (by simp at h5; exact .inl h5)]
        have hcarry : ∀ (W : World), Quiet wr W → Calls Tryz.prog 76 #[.agg #[.slice da dn dcap, .int .i64 d.quorum, .int .i64 d.expiry], .slice (some ⟨b, off, none⟩) (k + 1) cap, .int .i64 id] W fun e w' => e = .returned (.tuple #[(carriedR d (l.take (k + 1)) id).1.val, .bool (carriedR d (l.take (k + 1)) id).2]) ∧ Quiet W w' := fun W hW =>
          carried_any _ _ d (l.take (k + 1)) id W (hd0.quiet (hqr.after hW)) ((HT1.quiet hqr).quiet hW) htk1 (by simp; omega) (by simp; omega) he0 he1 (by rw [HLAST.out]; exact hap1)
        obtain ⟨⟨f, ok⟩, hfok⟩ : ∃ q, carriedR d (l.take (k + 1)) id = q := ⟨_, rfl⟩
        rw [hfok] at hF hcarry
        have HK0 : Hid (ok = false → factsTo d l id (k + 1) = factsTo d l id k) := fun h => (keep (by rw [hF, h]; rfl)).out
        have HK1 : Hid (ok = true → factsTo d l id (k + 1) = factsTo d l id k ++ [f]) := fun h => (join f (by rw [hF, h]; rfl)).out
        have HCA : Hid (∀ (W : World), Quiet wr W → Calls Tryz.prog 76 #[.agg #[.slice da dn dcap, .int .i64 d.quorum, .int .i64 d.expiry], .slice (some ⟨b, off, none⟩) (k + 1) cap, .int .i64 id] W fun e w' => e = .returned (.tuple #[f.val, .bool ok]) ∧ Quiet W w') := hcarry
        clear hcarry hF hfok keep join HS
        have hk1 : (k : Int) + 1 ≤ (cap : Int) := by omega
        have hk1' : k + 1 ≤ cap := by omega
        go_wp2_with (first | (go_at_call 45; refine (clock_any _ (l.take k) _ (HC.out _) htk).mono ?_; rw [HNOW.out]; rintro e w' ⟨rfl, rfl⟩))
        refine wp_gen (fun W => Blk W w.heap.size #[.slice da dn dcap, .int .i64 d.quorum, .int .i64 d.expiry] 24 ∧ Quiet wr W) ⟨b0.alloc _, (Below.refl _ _).alloc (Nat.le_refl _) _⟩ ?_
        rintro W ⟨d0, hqW⟩
        have gd := d0.cell
        have zd := d0.lt
        have hw1 : IntKind.i64.wrap ((k : Int) + 1) = (k : Int) + 1 := by rw [IntKind.wrap_i64]; omega
        have hw2 : ((k : Int) + 1).toNat = k + 1 := by omega
        have hw3 : (0 : Int) ≤ (k : Int) + 1 := by omega
        go_cut [12, 13] (fun s12 s13 wc => ∃ fb, s12 = .pointer (some ⟨fb, 0, none⟩) ∧ s13 = .bool ok ∧ Blk wc fb #[.int .i64 f.kind, .int .i64 f.at_, .int .i64 f.what, .int .i64 f.target, .int .i64 f.ref] 118 ∧ Blk wc w.heap.size #[.slice da dn dcap, .int .i64 d.quorum, .int .i64 d.expiry] 24 ∧ Quiet wr wc)
        case first =>
          go_region_with (first | (go_at_call 76; refine (HCA.out _ ?_).mono ?_; (first | exact Below.drew hqW | exact Below.drew (hqW.alloc hqW.size _)); rintro e w1 ⟨rfl, hq1⟩; have bc1 := (bcell hq1).1; have bf1 := (bcell hq1).2; simp only [Fact.val]))
          all_goals (try go_wp2)
          all_goals
            go_meet
            case rel =>
              have hsz : wr.heap.size ≤ W.heap.size := hqW.size
              refine ⟨_, rfl, rfl, ?_, ?_, ?_⟩
              · first | (with_reducible exact Blk.new' rfl) | exact (Blk.quiet (Blk.drew (Blk.new' rfl)) hq1).set5 (by simp) _ _ _ _ _
              · first | (with_reducible exact Blk.alloc (Blk.quiet (Blk.drew d0) hq1) _) | exact (Blk.quiet (Blk.drew (d0.alloc _)) hq1).other5 (by omega) _ _ _ _ _
              · first | (with_reducible exact Below.alloc (Quiet.after (Below.drew hqW) hq1) (Quiet.after (Below.drew hqW) hq1).size _) | exact Below.set5 (Quiet.after (Below.drew (hqW.alloc hqW.size _)) hq1) (by omega) _ _ _ _ _
        case rest =>
          obtain ⟨fb, rfl, rfl, q1, d0', hqc⟩ := hcut
          clear gd zd d0 hqW b0 g0 hbc
          have gq := q1.cell
          have zq := q1.lt
          have hrow1 := own_quiet hrow hqc
          have hqwc : Quiet w wc := hqr.after hqc
          clear hrow
          cases hok : ok
          · have HK := HK0.out hok
            have HK' : Hid (factsTo d l id (k + 1) = factsTo d l id k) := HK
            clear HK HK0 HK1
            go_wp2
            go_roundw
            case rel => exact ⟨k + 1, a', n', cap', by omega, by go_num, rfl, by rw [HK'.out]; exact HL, by rw [HK'.out]; exact hrow1, d0', hqwc⟩
            case measure => simp [intOf]; omega
          · have HK := HK1.out hok
            have HK' : Hid (factsTo d l id (k + 1) = factsTo d l id k ++ [f]) := HK
            clear HK HK0 HK1
            go_wp2_with (at_builtin; refine wpList_append_own _ rfl _ _ 114 rfl w.heap.size 118 i0 (.agg #[.int .i64 0, .int .i64 0, .int .i64 0, .int .i64 0, .int .i64 0]) 5 40 Tryz.underlying114 hi hz0 hz1 hz2 rfl (by decide) _ _ _ rfl (hrow1.alloc _) ⟨wc.heap.size, 0, none⟩ 1 1 [.int .i64 f.kind, .int .i64 f.at_, .int .i64 f.what, .int .i64 f.target, .int .i64 f.ref] rfl rfl ?qaC ?qbC ?qcC ?qdC ?qeC ?_)
            case qaC =>
              have := World.news_of_block (heap_alloc_new wc (.cells #[.int .i64 f.kind, .int .i64 f.at_, .int .i64 f.what, .int .i64 f.target, .int .i64 f.ref] 118))
              simpa using this
            case qbC => intro u hu; simp at hu; rcases hu with rfl | rfl | rfl | rfl | rfl <;> rfl
            case qcC => unfold maxLen; omega
            case qdC => omega
            case qeC => have := hqwc.size; simp; omega
            intro v' w2 hown2 hgrow _
            obtain ⟨a2, cap2, rfl⟩ := own_shape hown2
            have hq2 : Quiet w w2 := Below.grown (hqwc.alloc hqwc.size _) hgrow (by have := hqwc.size; simp; omega) (fun k hk => (own_ge hrow1 k hk).1)
            replace d0' := (d0'.alloc _).grown hgrow (fun e => own_ne hrow1 d0' (by decide) e.symm)
            clear hgrow hrow1 gq zq q1 hqc hqwc
            go_wp2
            go_roundw
            case rel => exact ⟨k + 1, a2, n' + 1, cap2, by omega, by go_num, rfl, by rw [HK'.out]; have := HL.out; show n' + 1 = _; simp; omega, by rw [HK'.out]; simpa [factVals, Fact.cells] using hown2, d0', hq2⟩
            case measure => simp [intOf]; omega
    · have HE : Hid (factsTo d l id k = factsR d l id) := by
        have := HN.out; show _ = factsTo d l id l.length; rw [show k = l.length by omega]
      go_wp2
      go_ret
      exact ⟨a', n', cap', rfl, by rw [← HE.out]; exact hrow, by rw [← HE.out]; exact HL.out, hqr⟩

end Go.Proofs.YtgcjlgaapiefiabGreat

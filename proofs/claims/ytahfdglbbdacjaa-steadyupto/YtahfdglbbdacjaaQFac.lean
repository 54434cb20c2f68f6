import Derived.Test.YtahfdglbbdacjaaQReqB
import Derived.Test.YtahfdglbbdacjaaQData

/-
  Walks of the document's answer: facts.
-/
namespace Go.Proofs.Ytahfdglbbdacjaa
open Go.RowKit

theorem Try.info112 : (Try.prog.info? 112).map (fun i => (i.zero, i.size, i.bytes)) = some (some (.agg #[.int .i64 0, .int .i64 0, .int .i64 0, .int .i64 0, .int .i64 0]), 5, 40) := by kernel_rfl

theorem Blk.other5 {w : World} {b c : Nat} {cs : Array Value} {t : TypeId} (h : Blk w c cs t) (hc : c ≠ b) (v0 v1 v2 v3 v4 : Value) :
    Blk (((((w.setCell ⟨b, 0, none⟩ v0).setCell ⟨b, 1, none⟩ v1).setCell ⟨b, 2, none⟩ v2).setCell ⟨b, 3, none⟩ v3).setCell ⟨b, 4, none⟩ v4) c cs t :=
  ((((h.other v0 hc).other v1 hc).other v2 hc).other v3 hc).other v4 hc

def factVals (l : List Fact) : List Value := (l.map Fact.cells).flatten
theorem own_facts {w : World} {base : Nat} {v : Value} {n : Nat} {l : List Fact} (h : w.ownsRow base 112 5 v n (factVals l)) (hn : n = l.length) : Arr w 5 v (l.map Fact.cells) :=
  own_arr (base := base) (e := 112) (n := n) h (by simp [hn]) (by intro x hx; simp at hx; obtain ⟨a, _, rfl⟩ := hx; rfl)

set_option maxRecDepth 100000 in
set_option maxHeartbeats 2000000 in
theorem facts_any (dv v : Value) (d : Def) (l : List Cmd) (id : Int) (w : World) (hd : DefIs w dv d) (h : Cmds w v l) (ht : TicksOk l) (hl : l.length ≤ 1099511627776) (he0 : 0 ≤ d.expiry) (he1 : d.expiry ≤ 50) (hap : ApprovesOk d l) :
    Calls Try.prog 77 #[dv, v, .int .i64 id] w fun e w' => ∃ a n cap, e = .returned (.slice a n cap) ∧ w'.ownsRow w.heap.size 112 5 (.slice a n cap) n (factVals (factsR d l id)) ∧ n = (factsR d l id).length ∧ Quiet w w' := by
  obtain ⟨i0, hi, hz0, hz1, hz2⟩ := info_parts Try.info112
  obtain ⟨a, n, cap, rfl⟩ := h.1.shape
  obtain ⟨hn, hm⟩ := h.len
  obtain ⟨hc1, hc2⟩ := h.cap
  have hn40 : n ≤ 1099511627776 := by omega
  have HN : Hid (n = l.length) := hn
  have hd0 := hd
  obtain ⟨da, dn, dcap, rfl, hst⟩ := hd
  clear hn hst
  go_enter Try.func77, Try.ntmps77
  go_wp2
  go_loopw [7, 8] (fun v i wr => ∃ (k : Nat) (a' : Option Addr) (n' cap' : Nat), k ≤ n ∧ i = .int .i64 k ∧ v = .slice a' n' cap' ∧ Hid (n' = (factsTo d l id k).length) ∧ wr.ownsRow w.heap.size 112 5 (.slice a' n' cap') n' (factVals (factsTo d l id k)) ∧
    Blk wr w.heap.size #[.slice da dn dcap, .int .i64 d.quorum, .int .i64 d.expiry] 24 ∧ Quiet w wr) (fun _ i _ => n - (intOf i).toNat)
  case atStart => exact ⟨0, none, 0, 0, Nat.zero_le _, rfl, rfl, rfl, World.ownsRow_nil _ _ _ _, Blk.new' rfl, (Below.refl _ _).alloc (Nat.le_refl _) _⟩
  case round =>
    obtain ⟨k, a', n', cap', hk, rfl, rfl, HL, hrow, b0, hqr⟩ := hrel
    have hlen := factsTo_len d l id k
    have g0 := b0.cell
    have hbc := (bcell hqr).1
    by_cases hlt : k < n
    · have hkl : k < l.length := by have := HN.out; omega
      have HT := h.take k (by omega)
      have HT1 := h.take (k + 1) (by omega)
      have htk := ht.take k
      have htk1 := ht.take (k + 1)
      have hap1 := hap k hkl
      have HLAST : Hid ((l.take (k + 1)).getD ((l.take (k + 1)).length - 1) default = l[k]) := by
        show (l.take (k + 1)).getD ((l.take (k + 1)).length - 1) default = l[k]
        have e : (l.take (k + 1)).length - 1 = k := by simp; omega
        rw [e]; simp [List.getD, hkl]
      obtain ⟨b, off, rfl, hb, c0, c1, c2, c3, c4, c5, c6⟩ := h.cell k hkl
      have hn' : n' ≤ 1099511627776 := by have := HL.out; omega
      have HS : Hid (factsTo d l id (k + 1) = factsTo d l id k ++ factOf d l id k l[k]) := by
        show factsTo d l id (k + 1) = _
        have : l.getD k default = l[k] := by simp [List.getD, hkl]
        rw [← this]; rfl
      have HC : Hid (∀ o, Cmds (wr.alloc o) (.slice (some ⟨b, off, none⟩) k cap) (l.take k)) := fun o => (HT.quiet hqr).quiet ((Below.refl _ _).alloc (Nat.le_refl _) _)
      have hkc : (k : Int) ≤ (cap : Int) := by omega
      have hkc' : k ≤ cap := by omega
      generalize l[k] = c at *
      generalize hnow : clockR (l.take k) = now at *
      have HNOW : Hid (clockR (l.take k) = now) := hnow
      clear hnow
      have keep : ∀ (HX : Hid (factOf d l id k c = [])), Hid (factsTo d l id (k + 1) = factsTo d l id k) := fun HX => by
        show factsTo d l id (k + 1) = _
        rw [HS.out, HX.out, List.append_nil]
      have join : ∀ f (HX : Hid (factOf d l id k c = [f])), Hid (factsTo d l id (k + 1) = factsTo d l id k ++ [f]) := fun f HX => by
        show factsTo d l id (k + 1) = _
        rw [HS.out, HX.out]
      cases h5 : c.kind == 5
      · cases h6 : c.kind == 6
        · cases hin : c.inst == id
          · have HK := keep (by show factOf d l id k c = []; unfold factOf; simp at *; simp [*])
            clear keep join HS
            go_wp2_with (first | (go_at_call 52; refine (clock_any _ (l.take k) _ (HC.out _) htk).mono ?_; rw [HNOW.out]; rintro e w' ⟨rfl, rfl⟩))
            all_goals
              go_roundw
              case rel => exact ⟨k + 1, a', n', cap', by omega, by go_num, rfl, by rw [HK.out]; exact HL, by rw [HK.out]; exact hrow.alloc _, b0.alloc _, hqr.alloc hqr.size _⟩
              case measure => simp [intOf]; omega
          · cases h2 : c.kind == 2
            · cases h3 : c.kind == 3
              · have HK := keep (by show factOf d l id k c = []; unfold factOf; simp at *; simp [*])
                clear keep join HS
                go_wp2_with (first | (go_at_call 52; refine (clock_any _ (l.take k) _ (HC.out _) htk).mono ?_; rw [HNOW.out]; rintro e w' ⟨rfl, rfl⟩))
                all_goals
                  go_roundw
                  case rel => exact ⟨k + 1, a', n', cap', by omega, by go_num, rfl, by rw [HK.out]; exact HL, by rw [HK.out]; exact hrow.alloc _, b0.alloc _, hqr.alloc hqr.size _⟩
                  case measure => simp [intOf]; omega
              · cases hb1 : c.b == 1
                · have HK := join ⟨3, now, 0, 0, 0⟩ (by show factOf d l id k c = _; unfold factOf; rw [HNOW.out]; simp at *; simp [*])
                  clear keep join HS
                  go_wp2_with (first | (go_at_call 52; refine (clock_any _ (l.take k) _ (HC.out _) htk).mono ?_; rw [HNOW.out]; rintro e w' ⟨rfl, rfl⟩) | (at_builtin; refine wpList_append_own _ rfl _ _ 108 rfl w.heap.size 112 i0 (.agg #[.int .i64 0, .int .i64 0, .int .i64 0, .int .i64 0, .int .i64 0]) 5 40 Try.underlying108 hi hz0 hz1 hz2 rfl (by decide) _ _ _ rfl ((hrow.alloc _).alloc _) ⟨wr.heap.size + 1, 0, none⟩ 1 1 [.int .i64 3, .int .i64 now, .int .i64 0, .int .i64 0, .int .i64 0] rfl rfl ?qa3 ?qb3 ?qc3 ?qd3 ?qe3 ?_))
                  case qa3 =>
                    have := World.news_of_block (heap_alloc_new (wr.alloc (.cells #[.int .i64 c.kind, .int .i64 c.inst, .int .i64 c.a, .int .i64 c.b, .int .i64 c.who, .string c.reason, .bool c.dry] 55)) (.cells #[.int .i64 3, .int .i64 now, .int .i64 0, .int .i64 0, .int .i64 0] 112))
                    simpa using this
                  case qb3 => intro u hu; simp at hu; rcases hu with rfl | rfl | rfl <;> rfl
                  case qc3 => unfold maxLen; omega
                  case qd3 => omega
                  case qe3 => have := hqr.size; simp; omega
                  intro v' w2 hown2 hgrow _
                  obtain ⟨a2, cap2, rfl⟩ := own_shape hown2
                  have hq2 : Quiet w w2 := Below.grown ((hqr.alloc hqr.size _).alloc (by have := hqr.size; simp; omega) _) hgrow (by have := hqr.size; simp; omega) (fun k hk => (own_ge hrow k hk).1)
                  replace b0 := ((b0.alloc _).alloc _).grown hgrow (fun e => own_ne hrow b0 (by decide) e.symm)
                  clear hgrow hrow hbc g0 hqr
                  go_wp2
                  go_roundw
                  case rel => exact ⟨k + 1, a2, n' + 1, cap2, by omega, by go_num, rfl, by rw [HK.out]; have := HL.out; show n' + 1 = _; simp; omega, by rw [HK.out]; simpa [factVals, Fact.cells] using hown2, b0, hq2⟩
                  case measure => simp [intOf]; omega
                · have HK := join ⟨2, now, 0, 0, 0⟩ (by show factOf d l id k c = _; unfold factOf; rw [HNOW.out]; simp at *; simp [*])
                  clear keep join HS
                  go_wp2_with (first | (go_at_call 52; refine (clock_any _ (l.take k) _ (HC.out _) htk).mono ?_; rw [HNOW.out]; rintro e w' ⟨rfl, rfl⟩) | (at_builtin; refine wpList_append_own _ rfl _ _ 108 rfl w.heap.size 112 i0 (.agg #[.int .i64 0, .int .i64 0, .int .i64 0, .int .i64 0, .int .i64 0]) 5 40 Try.underlying108 hi hz0 hz1 hz2 rfl (by decide) _ _ _ rfl ((hrow.alloc _).alloc _) ⟨wr.heap.size + 1, 0, none⟩ 1 1 [.int .i64 2, .int .i64 now, .int .i64 0, .int .i64 0, .int .i64 0] rfl rfl ?qa2 ?qb2 ?qc2 ?qd2 ?qe2 ?_))
                  case qa2 =>
                    have := World.news_of_block (heap_alloc_new (wr.alloc (.cells #[.int .i64 c.kind, .int .i64 c.inst, .int .i64 c.a, .int .i64 c.b, .int .i64 c.who, .string c.reason, .bool c.dry] 55)) (.cells #[.int .i64 2, .int .i64 now, .int .i64 0, .int .i64 0, .int .i64 0] 112))
                    simpa using this
                  case qb2 => intro u hu; simp at hu; rcases hu with rfl | rfl | rfl <;> rfl
                  case qc2 => unfold maxLen; omega
                  case qd2 => omega
                  case qe2 => have := hqr.size; simp; omega
                  intro v' w2 hown2 hgrow _
                  obtain ⟨a2, cap2, rfl⟩ := own_shape hown2
                  have hq2 : Quiet w w2 := Below.grown ((hqr.alloc hqr.size _).alloc (by have := hqr.size; simp; omega) _) hgrow (by have := hqr.size; simp; omega) (fun k hk => (own_ge hrow k hk).1)
                  replace b0 := ((b0.alloc _).alloc _).grown hgrow (fun e => own_ne hrow b0 (by decide) e.symm)
                  clear hgrow hrow hbc g0 hqr
                  go_wp2
                  go_roundw
                  case rel => exact ⟨k + 1, a2, n' + 1, cap2, by omega, by go_num, rfl, by rw [HK.out]; have := HL.out; show n' + 1 = _; simp; omega, by rw [HK.out]; simpa [factVals, Fact.cells] using hown2, b0, hq2⟩
                  case measure => simp [intOf]; omega
            · have HK := join ⟨1, now, 0, 0, 0⟩ (by show factOf d l id k c = _; unfold factOf; rw [HNOW.out]; simp at *; simp [*])
              clear keep join HS
              go_wp2_with (first | (go_at_call 52; refine (clock_any _ (l.take k) _ (HC.out _) htk).mono ?_; rw [HNOW.out]; rintro e w' ⟨rfl, rfl⟩) | (at_builtin; refine wpList_append_own _ rfl _ _ 108 rfl w.heap.size 112 i0 (.agg #[.int .i64 0, .int .i64 0, .int .i64 0, .int .i64 0, .int .i64 0]) 5 40 Try.underlying108 hi hz0 hz1 hz2 rfl (by decide) _ _ _ rfl ((hrow.alloc _).alloc _) ⟨wr.heap.size + 1, 0, none⟩ 1 1 [.int .i64 1, .int .i64 now, .int .i64 0, .int .i64 0, .int .i64 0] rfl rfl ?qa1 ?qb1 ?qc1 ?qd1 ?qe1 ?_))
              case qa1 =>
                have := World.news_of_block (heap_alloc_new (wr.alloc (.cells #[.int .i64 c.kind, .int .i64 c.inst, .int .i64 c.a, .int .i64 c.b, .int .i64 c.who, .string c.reason, .bool c.dry] 55)) (.cells #[.int .i64 1, .int .i64 now, .int .i64 0, .int .i64 0, .int .i64 0] 112))
                simpa using this
              case qb1 => intro u hu; simp at hu; rcases hu with rfl | rfl | rfl <;> rfl
              case qc1 => unfold maxLen; omega
              case qd1 => omega
              case qe1 => have := hqr.size; simp; omega
              intro v' w2 hown2 hgrow _
              obtain ⟨a2, cap2, rfl⟩ := own_shape hown2
              have hq2 : Quiet w w2 := Below.grown ((hqr.alloc hqr.size _).alloc (by have := hqr.size; simp; omega) _) hgrow (by have := hqr.size; simp; omega) (fun k hk => (own_ge hrow k hk).1)
              replace b0 := ((b0.alloc _).alloc _).grown hgrow (fun e => own_ne hrow b0 (by decide) e.symm)
              clear hgrow hrow hbc g0 hqr
              go_wp2
              go_roundw
              case rel => exact ⟨k + 1, a2, n' + 1, cap2, by omega, by go_num, rfl, by rw [HK.out]; have := HL.out; show n' + 1 = _; simp; omega, by rw [HK.out]; simpa [factVals, Fact.cells] using hown2, b0, hq2⟩
              case measure => simp [intOf]; omega
        · have h2 : (c.kind == 2) = false := by simp at *; omega
          have h3 : (c.kind == 3) = false := by simp at *; omega
          have hF : factOf d l id k c = if (carriedR d (l.take (k + 1)) id).2 then [(carriedR d (l.take (k + 1)) id).1] else [] := by
            unfold factOf
            rw [if_neg (fun h => by simp at h2; exact h2 h.1), if_neg (fun h => by simp at h3; exact h3 h.1), if_neg (fun h => by simp at h3; exact h3 h.1), if_pos (by simp at h6; exact .inr h6)]
          have hcarry : ∀ (W : World), Quiet wr W → Calls Try.prog 95 #[.agg #[.slice da dn dcap, .int .i64 d.quorum, .int .i64 d.expiry], .slice (some ⟨b, off, none⟩) (k + 1) cap, .int .i64 id] W fun e w' => e = .returned (.tuple #[(carriedR d (l.take (k + 1)) id).1.val, .bool (carriedR d (l.take (k + 1)) id).2]) ∧ Quiet W w' := fun W hW =>
            carried_any _ _ d (l.take (k + 1)) id W (hd0.quiet (hqr.after hW)) ((HT1.quiet hqr).quiet hW) htk1 (by simp; omega) (by simp; omega) he0 he1 (by rw [HLAST.out]; exact hap1)
          obtain ⟨⟨f, ok⟩, hfok⟩ : ∃ q, carriedR d (l.take (k + 1)) id = q := ⟨_, rfl⟩
          rw [hfok] at hF hcarry
          have HK0 : Hid (ok = false → factsTo d l id (k + 1) = factsTo d l id k) := fun h => (keep (by rw [hF, h]; rfl)).out
          have HK1 : Hid (ok = true → factsTo d l id (k + 1) = factsTo d l id k ++ [f]) := fun h => (join f (by rw [hF, h]; rfl)).out
          have HCA : Hid (∀ (W : World), Quiet wr W → Calls Try.prog 95 #[.agg #[.slice da dn dcap, .int .i64 d.quorum, .int .i64 d.expiry], .slice (some ⟨b, off, none⟩) (k + 1) cap, .int .i64 id] W fun e w' => e = .returned (.tuple #[f.val, .bool ok]) ∧ Quiet W w') := hcarry
          clear hcarry hF hfok keep join HS
          have hk1 : (k : Int) + 1 ≤ (cap : Int) := by omega
          have hk1' : k + 1 ≤ cap := by omega
          go_wp2_with (first | (go_at_call 52; refine (clock_any _ (l.take k) _ (HC.out _) htk).mono ?_; rw [HNOW.out]; rintro e w' ⟨rfl, rfl⟩))
          refine wp_gen (fun W => Blk W w.heap.size #[.slice da dn dcap, .int .i64 d.quorum, .int .i64 d.expiry] 24 ∧ Quiet wr W) ⟨b0.alloc _, (Below.refl _ _).alloc (Nat.le_refl _) _⟩ ?_
          rintro W ⟨d0, hqW⟩
          have gd := d0.cell
          have zd := d0.lt
          have hw1 : IntKind.i64.wrap ((k : Int) + 1) = (k : Int) + 1 := by rw [IntKind.wrap_i64]; omega
          have hw2 : ((k : Int) + 1).toNat = k + 1 := by omega
          have hw3 : (0 : Int) ≤ (k : Int) + 1 := by omega
          go_cut [12, 13] (fun s12 s13 wc => ∃ fb, s12 = .pointer (some ⟨fb, 0, none⟩) ∧ s13 = .bool ok ∧ Blk wc fb #[.int .i64 f.kind, .int .i64 f.at_, .int .i64 f.what, .int .i64 f.target, .int .i64 f.ref] 112 ∧ Blk wc w.heap.size #[.slice da dn dcap, .int .i64 d.quorum, .int .i64 d.expiry] 24 ∧ Quiet wr wc)
          case first =>
            go_region_with (first | (go_at_call 95; refine (HCA.out _ ?_).mono ?_; (first | exact Below.drew hqW | exact Below.drew (hqW.alloc hqW.size _)); rintro e w1 ⟨rfl, hq1⟩; have bc1 := (bcell hq1).1; have bf1 := (bcell hq1).2; simp only [Fact.val]))
            all_goals (try go_wp2)
            all_goals
              go_meet
              case rel =>
                have hsz : wr.heap.size ≤ W.heap.size := hqW.size
                refine ⟨_, rfl, rfl, ?_, ?_, ?_⟩
                · first | (with_reducible exact Blk.new' rfl) | exact (Blk.quiet (Blk.drew (Blk.new' rfl)) hq1).set5 (by simp) _ _ _ _ _
                · first | (with_reducible exact Blk.alloc (Blk.quiet (Blk.drew d0) hq1) _) | exact (Blk.quiet (Blk.drew (d0.alloc _)) hq1).other5 (by omega) _ _ _ _ _
                · first | (with_reducible exact Below.alloc (Quiet.after (Below.drew hqW) hq1) (Quiet.after (Below.drew hqW) hq1).size _) | exact Below.set5 (Quiet.after (Below.drew (hqW.alloc hqW.size _)) hq1) (by omega) _ _ _ _ _
          case rest =>
            obtain ⟨fb, rfl, rfl, q1, d0', hqc⟩ := hcut
            clear gd zd d0 hqW b0 g0 hbc
            have gq := q1.cell
            have zq := q1.lt
            have hrow1 := own_quiet hrow hqc
            have hqwc : Quiet w wc := hqr.after hqc
            clear hrow
            cases hok : ok
            · have HK := HK0.out hok
              have HK' : Hid (factsTo d l id (k + 1) = factsTo d l id k) := HK
              clear HK HK0 HK1
              go_wp2
              go_roundw
              case rel => exact ⟨k + 1, a', n', cap', by omega, by go_num, rfl, by rw [HK'.out]; exact HL, by rw [HK'.out]; exact hrow1, d0', hqwc⟩
              case measure => simp [intOf]; omega
            · have HK := HK1.out hok
              have HK' : Hid (factsTo d l id (k + 1) = factsTo d l id k ++ [f]) := HK
              clear HK HK0 HK1
              go_wp2_with (at_builtin; refine wpList_append_own _ rfl _ _ 108 rfl w.heap.size 112 i0 (.agg #[.int .i64 0, .int .i64 0, .int .i64 0, .int .i64 0, .int .i64 0]) 5 40 Try.underlying108 hi hz0 hz1 hz2 rfl (by decide) _ _ _ rfl (hrow1.alloc _) ⟨wc.heap.size, 0, none⟩ 1 1 [.int .i64 f.kind, .int .i64 f.at_, .int .i64 f.what, .int .i64 f.target, .int .i64 f.ref] rfl rfl ?qaB ?qbB ?qcB ?qdB ?qeB ?_)
              case qaB =>
                have := World.news_of_block (heap_alloc_new wc (.cells #[.int .i64 f.kind, .int .i64 f.at_, .int .i64 f.what, .int .i64 f.target, .int .i64 f.ref] 112))
                simpa using this
              case qbB => intro u hu; simp at hu; rcases hu with rfl | rfl | rfl | rfl | rfl <;> rfl
              case qcB => unfold maxLen; omega
              case qdB => omega
              case qeB => have := hqwc.size; simp; omega
              intro v' w2 hown2 hgrow _
              obtain ⟨a2, cap2, rfl⟩ := own_shape hown2
              have hq2 : Quiet w w2 := Below.grown (hqwc.alloc hqwc.size _) hgrow (by have := hqwc.size; simp; omega) (fun k hk => (own_ge hrow1 k hk).1)
              replace d0' := (d0'.alloc _).grown hgrow (fun e => own_ne hrow1 d0' (by decide) e.symm)
              clear hgrow hrow1 gq zq q1 hqc hqwc
              go_wp2
              go_roundw
              case rel => exact ⟨k + 1, a2, n' + 1, cap2, by omega, by go_num, rfl, by rw [HK'.out]; have := HL.out; show n' + 1 = _; simp; omega, by rw [HK'.out]; simpa [factVals, Fact.cells] using hown2, d0', hq2⟩
              case measure => simp [intOf]; omega
      · have h2 : (c.kind == 2) = false := by simp at *; omega
        have h3 : (c.kind == 3) = false := by simp at *; omega
        have hF : factOf d l id k c = if (carriedR d (l.take (k + 1)) id).2 then [(carriedR d (l.take (k + 1)) id).1] else [] := by
          unfold factOf
          rw [if_neg (fun h => by simp at h2; exact h2 h.1), if_neg (fun h => by simp at h3; exact h3 h.1), if_neg (fun h => by simp at h3; exact h3 h.1), if_pos (by simp at h5; exact .inl h5)]
        have hcarry : ∀ (W : World), Quiet wr W → Calls Try.prog 95 #[.agg #[.slice da dn dcap, .int .i64 d.quorum, .int .i64 d.expiry], .slice (some ⟨b, off, none⟩) (k + 1) cap, .int .i64 id] W fun e w' => e = .returned (.tuple #[(carriedR d (l.take (k + 1)) id).1.val, .bool (carriedR d (l.take (k + 1)) id).2]) ∧ Quiet W w' := fun W hW =>
          carried_any _ _ d (l.take (k + 1)) id W (hd0.quiet (hqr.after hW)) ((HT1.quiet hqr).quiet hW) htk1 (by simp; omega) (by simp; omega) he0 he1 (by rw [HLAST.out]; exact hap1)
        obtain ⟨⟨f, ok⟩, hfok⟩ : ∃ q, carriedR d (l.take (k + 1)) id = q := ⟨_, rfl⟩
        rw [hfok] at hF hcarry
        have HK0 : Hid (ok = false → factsTo d l id (k + 1) = factsTo d l id k) := fun h => (keep (by rw [hF, h]; rfl)).out
        have HK1 : Hid (ok = true → factsTo d l id (k + 1) = factsTo d l id k ++ [f]) := fun h => (join f (by rw [hF, h]; rfl)).out
        have HCA : Hid (∀ (W : World), Quiet wr W → Calls Try.prog 95 #[.agg #[.slice da dn dcap, .int .i64 d.quorum, .int .i64 d.expiry], .slice (some ⟨b, off, none⟩) (k + 1) cap, .int .i64 id] W fun e w' => e = .returned (.tuple #[f.val, .bool ok]) ∧ Quiet W w') := hcarry
        clear hcarry hF hfok keep join HS
        have hk1 : (k : Int) + 1 ≤ (cap : Int) := by omega
        have hk1' : k + 1 ≤ cap := by omega
        go_wp2_with (first | (go_at_call 52; refine (clock_any _ (l.take k) _ (HC.out _) htk).mono ?_; rw [HNOW.out]; rintro e w' ⟨rfl, rfl⟩))
        refine wp_gen (fun W => Blk W w.heap.size #[.slice da dn dcap, .int .i64 d.quorum, .int .i64 d.expiry] 24 ∧ Quiet wr W) ⟨b0.alloc _, (Below.refl _ _).alloc (Nat.le_refl _) _⟩ ?_
        rintro W ⟨d0, hqW⟩
        have gd := d0.cell
        have zd := d0.lt
        have hw1 : IntKind.i64.wrap ((k : Int) + 1) = (k : Int) + 1 := by rw [IntKind.wrap_i64]; omega
        have hw2 : ((k : Int) + 1).toNat = k + 1 := by omega
        have hw3 : (0 : Int) ≤ (k : Int) + 1 := by omega
        go_cut [12, 13] (fun s12 s13 wc => ∃ fb, s12 = .pointer (some ⟨fb, 0, none⟩) ∧ s13 = .bool ok ∧ Blk wc fb #[.int .i64 f.kind, .int .i64 f.at_, .int .i64 f.what, .int .i64 f.target, .int .i64 f.ref] 112 ∧ Blk wc w.heap.size #[.slice da dn dcap, .int .i64 d.quorum, .int .i64 d.expiry] 24 ∧ Quiet wr wc)
        case first =>
          go_region_with (first | (go_at_call 95; refine (HCA.out _ ?_).mono ?_; (first | exact Below.drew hqW | exact Below.drew (hqW.alloc hqW.size _)); rintro e w1 ⟨rfl, hq1⟩; have bc1 := (bcell hq1).1; have bf1 := (bcell hq1).2; simp only [Fact.val]))
          all_goals (try go_wp2)
          all_goals
            go_meet
            case rel =>
              have hsz : wr.heap.size ≤ W.heap.size := hqW.size
              refine ⟨_, rfl, rfl, ?_, ?_, ?_⟩
              · first | (with_reducible exact Blk.new' rfl) | exact (Blk.quiet (Blk.drew (Blk.new' rfl)) hq1).set5 (by simp) _ _ _ _ _
              · first | (with_reducible exact Blk.alloc (Blk.quiet (Blk.drew d0) hq1) _) | exact (Blk.quiet (Blk.drew (d0.alloc _)) hq1).other5 (by omega) _ _ _ _ _
              · first | (with_reducible exact Below.alloc (Quiet.after (Below.drew hqW) hq1) (Quiet.after (Below.drew hqW) hq1).size _) | exact Below.set5 (Quiet.after (Below.drew (hqW.alloc hqW.size _)) hq1) (by omega) _ _ _ _ _
        case rest =>
          obtain ⟨fb, rfl, rfl, q1, d0', hqc⟩ := hcut
          clear gd zd d0 hqW b0 g0 hbc
          have gq := q1.cell
          have zq := q1.lt
          have hrow1 := own_quiet hrow hqc
          have hqwc : Quiet w wc := hqr.after hqc
          clear hrow
          cases hok : ok
          · have HK := HK0.out hok
            have HK' : Hid (factsTo d l id (k + 1) = factsTo d l id k) := HK
            clear HK HK0 HK1
            go_wp2
            go_roundw
            case rel => exact ⟨k + 1, a', n', cap', by omega, by go_num, rfl, by rw [HK'.out]; exact HL, by rw [HK'.out]; exact hrow1, d0', hqwc⟩
            case measure => simp [intOf]; omega
          · have HK := HK1.out hok
            have HK' : Hid (factsTo d l id (k + 1) = factsTo d l id k ++ [f]) := HK
            clear HK HK0 HK1
            go_wp2_with (at_builtin; refine wpList_append_own _ rfl _ _ 108 rfl w.heap.size 112 i0 (.agg #[.int .i64 0, .int .i64 0, .int .i64 0, .int .i64 0, .int .i64 0]) 5 40 Try.underlying108 hi hz0 hz1 hz2 rfl (by decide) _ _ _ rfl (hrow1.alloc _) ⟨wc.heap.size, 0, none⟩ 1 1 [.int .i64 f.kind, .int .i64 f.at_, .int .i64 f.what, .int .i64 f.target, .int .i64 f.ref] rfl rfl ?qaC ?qbC ?qcC ?qdC ?qeC ?_)
            case qaC =>
              have := World.news_of_block (heap_alloc_new wc (.cells #[.int .i64 f.kind, .int .i64 f.at_, .int .i64 f.what, .int .i64 f.target, .int .i64 f.ref] 112))
              simpa using this
            case qbC => intro u hu; simp at hu; rcases hu with rfl | rfl | rfl | rfl | rfl <;> rfl
            case qcC => unfold maxLen; omega
            case qdC => omega
            case qeC => have := hqwc.size; simp; omega
            intro v' w2 hown2 hgrow _
            obtain ⟨a2, cap2, rfl⟩ := own_shape hown2
            have hq2 : Quiet w w2 := Below.grown (hqwc.alloc hqwc.size _) hgrow (by have := hqwc.size; simp; omega) (fun k hk => (own_ge hrow1 k hk).1)
            replace d0' := (d0'.alloc _).grown hgrow (fun e => own_ne hrow1 d0' (by decide) e.symm)
            clear hgrow hrow1 gq zq q1 hqc hqwc
            go_wp2
            go_roundw
            case rel => exact ⟨k + 1, a2, n' + 1, cap2, by omega, by go_num, rfl, by rw [HK'.out]; have := HL.out; show n' + 1 = _; simp; omega, by rw [HK'.out]; simpa [factVals, Fact.cells] using hown2, d0', hq2⟩
            case measure => simp [intOf]; omega
    · have HE : Hid (factsTo d l id k = factsR d l id) := by
        have := HN.out; show _ = factsTo d l id l.length; rw [show k = l.length by omega]
      go_wp2
      go_ret
      exact ⟨a', n', cap', rfl, by rw [← HE.out]; exact hrow, by rw [← HE.out]; exact HL.out, hqr⟩

end Go.Proofs.Ytahfdglbbdacjaa

/-
  Walks of the document's answer: instance.
-/
namespace Go.Proofs.Ytahfdglbbdacjaa
open Go.RowKit

/-- The facts of an instance are such that no step is asked for that there is not. -/
def FactsOk (d : Def) (id : Int) (fs : List Fact) : Prop := ∀ k (hk : k < fs.length), fs[k].kind = 1 ∨ fs[k].kind = 3 → InSteps d (instFold d id (fs.take k))

theorem own_grown {w w' : World} {base base2 : Nat} {e e2 : TypeId} {m m2 : Nat} {v v2 : Value} {n n2 : Nat} {xs xs2 : List Value} (h : w.ownsRow base e m v n xs) (h2 : w.ownsRow base2 e2 m2 v2 n2 xs2) (hne : e ≠ e2)
    (hg : w.grownBy w' v2.ownBlock) : w'.ownsRow base e m v n xs := by
  have hge := own_ge h
  obtain ⟨h1, hv⟩ := h
  refine ⟨h1, ?_⟩
  rcases hv with hv | ⟨g, cap, cur, rfl, hb, hh, r⟩
  · exact .inl hv
  · refine .inr ⟨g, cap, cur, rfl, hb, ?_, r⟩
    rw [hg.block g (hge g rfl).2 ?_]
    · exact hh
    · intro e'
      exact own_ne h2 (b := g) (cs := cur) (t := e) hh (fun x => hne x.symm) e'.symm

theorem facts_cell {w : World} {n cap : Nat} {a : Option Addr} {l : List Fact} (h : Arr w 5 (.slice a n cap) (l.map Fact.cells)) (k : Nat) (hk : k < l.length) :
    ∃ b off, a = some ⟨b, off, none⟩ ∧ b < w.heap.size ∧
      w.cell? ⟨b, off + k * 5, none⟩ = some (.int .i64 l[k].kind) ∧ w.cell? ⟨b, off + k * 5 + 1, none⟩ = some (.int .i64 l[k].at_) ∧ w.cell? ⟨b, off + k * 5 + 2, none⟩ = some (.int .i64 l[k].what) ∧
      w.cell? ⟨b, off + k * 5 + 3, none⟩ = some (.int .i64 l[k].target) ∧ w.cell? ⟨b, off + k * 5 + 4, none⟩ = some (.int .i64 l[k].ref) := by
  obtain ⟨b, off, ha, hx⟩ := h.row k (by simpa using hk)
  simp only [List.getElem_map] at hx
  exact ⟨b, off, ha, hx.lt, hx 0 _ rfl, hx 1 _ rfl, hx 2 _ rfl, hx 3 _ rfl, hx 4 _ rfl⟩

set_option maxRecDepth 100000 in
set_option maxHeartbeats 2000000 in
theorem instance_any (dv v : Value) (d : Def) (l : List Cmd) (id : Int) (w : World) (hd : DefIs w dv d) (hok : StepsOk d) (h : Cmds w v l) (ht : TicksOk l) (hl : l.length ≤ 549755813888) (he0 : 0 ≤ d.expiry) (he1 : d.expiry ≤ 50) (hap : ApprovesOk d l)
    (hfo : FactsOk d id (factsR d l id)) :
    Calls Try.prog 55 #[dv, v, .int .i64 id] w fun e w' => ∃ a n cap, e = .returned ((instanceR d l id).val (.slice a n cap)) ∧ w'.ownsRow w.heap.size 50 3 (.slice a n cap) n (ents (instanceR d l id).ledger) ∧ n = (instanceR d l id).ledger.length ∧ Quiet w w' := by
  have hd0 := hd
  obtain ⟨a, n, cap, rfl⟩ := h.1.shape
  obtain ⟨da, dn, dcap, rfl, hst⟩ := hd
  have hfat := factsTo_at d l id l.length ht
  have hflen := factsTo_len d l id l.length
  have HI : Hid (instanceR d l id = { instFold d id (factsR d l id) with settled := settledR (instFold d id (factsR d l id)).ledger }) := rfl
  change ∀ f ∈ factsR d l id, _ at hfat
  change (factsR d l id).length ≤ _ at hflen
  go_enter Try.func55, Try.ntmps55
  go_wp2_with fail
  refine calls_gen (fun W => Blk W w.heap.size #[.slice da dn dcap, .int .i64 d.quorum, .int .i64 d.expiry] 24 ∧ Blk W (w.heap.size + 1) #[.int .i64 0, .int .i64 0, .bool false, .int .i64 0, .int .i64 0, .bool false, .int .i64 0, .int .i64 0, .int .i64 0, .int .i64 0, .int .i64 0, .slice none 0 0] 47 ∧ Blk W (w.heap.size + 1 + 1) #[.int .i64 id, .int .i64 1, .bool false, .int .i64 0, .int .i64 0, .bool false, .int .i64 0, .int .i64 0, .int .i64 0, .int .i64 0, .int .i64 0, .slice none 0 0] 47 ∧ Quiet w W) ⟨?_, ?_, Blk.new' (by simp), (((Below.refl _ _).alloc (Nat.le_refl _) _).alloc (by simp) _).alloc (by simp; omega) _⟩ ?_
  · repeat (first | (refine Blk.new' ?_; simp; done) | refine Blk.alloc ?_ _)
  · repeat (first | (refine Blk.new' ?_; simp; done) | refine Blk.alloc ?_ _)
  rintro W ⟨b0, b1, b2, hqW⟩
  refine (facts_any _ _ d l id _ (hd0.quiet hqW) (h.quiet hqW) ht (by omega) he0 he1 hap).mono ?_
  rintro e w1 ⟨fa, fn, fcap, rfl, hfrow, hfn, hq1⟩
  replace b0 := b0.quiet hq1
  replace b1 := b1.quiet hq1
  replace b2 := b2.quiet hq1
  have hfrow' := own_base hfrow hqW.size
  replace hq1 : Quiet w w1 := hqW.after hq1
  clear hqW hfrow W
  generalize factsR d l id = fs at *
  have HFN : Hid (fn = fs.length) := hfn
  have hfb : fn ≤ 549755813888 := by omega
  clear hfn hst hflen
  go_wp2
  go_loopw [9] (fun i wr => ∃ (k : Nat) (a' : Option Addr) (n' cap' : Nat), k ≤ fn ∧ i = .int .i64 k ∧ Blk wr (w.heap.size + 1 + 1) #[.int .i64 (instFold d id (fs.take k)).id, .int .i64 (instFold d id (fs.take k)).mode, .bool (instFold d id (fs.take k)).stuck, .int .i64 (instFold d id (fs.take k)).settled, .int .i64 (instFold d id (fs.take k)).target, .bool (instFold d id (fs.take k)).resume, .int .i64 (instFold d id (fs.take k)).keys, .int .i64 (instFold d id (fs.take k)).key, .int .i64 (instFold d id (fs.take k)).due, .int .i64 (instFold d id (fs.take k)).tries, .int .i64 (instFold d id (fs.take k)).wake, .slice a' n' cap'] 47 ∧ Led w wr (instFold d id (fs.take k)).ledger a' n' cap' ∧
    Blk wr w.heap.size #[.slice da dn dcap, .int .i64 d.quorum, .int .i64 d.expiry] 24 ∧ Blk wr (w.heap.size + 1) #[.int .i64 0, .int .i64 0, .bool false, .int .i64 0, .int .i64 0, .bool false, .int .i64 0, .int .i64 0, .int .i64 0, .int .i64 0, .int .i64 0, .slice none 0 0] 47 ∧ wr.ownsRow w.heap.size 112 5 (.slice fa fn fcap) fn (factVals fs) ∧ Quiet w wr) (fun i _ => fn - (intOf i).toNat)
  case atStart => exact ⟨0, none, 0, 0, Nat.zero_le _, rfl, by simpa [instFold, startR] using b2, ⟨World.ownsRow_nil _ _ _ _, rfl, by simp [instFold, startR]⟩, b0, b1, hfrow', hq1⟩
  case round =>
    clear b0 b1 b2 hfrow' hq1
    obtain ⟨k, a', n', cap', hk, rfl, b2, hled, b0, b1, hfrow, hqr⟩ := hrel
    have g0 := b0.cell
    have g2 := b2.cell
    have f2 := b2.frozen
    by_cases hlt : k < fn
    · have hkl : k < fs.length := by have := HFN.out; omega
      have hbd := instFold_bd d id fs k (by omega)
      obtain ⟨fb, fo, rfl, hfbl, c0, c1, c2, c3, c4⟩ := facts_cell (own_facts hfrow HFN.out) k hkl
      have HS : Hid (instFold d id (fs.take (k + 1)) = afterR d (instFold d id (fs.take k)) fs[k]) := instFold_snoc d id fs k hkl
      have hin := hfo k hkl
      obtain ⟨t0, t1⟩ := hfat fs[k] (List.getElem_mem hkl)
      generalize fs[k] = f at *
      have hlen' : (instFold d id (fs.take (k + 1))).ledger.length ≤ k + 1 := (instFold_bd d id fs (k + 1) (by omega)).2.2.2.2
      generalize hX : instFold d id (fs.take k) = x at *
      rw [HS.out] at hlen'
      clear hX
      have hki : (0 : Int) ≤ (k : Int) := by omega
      have hkj : (k : Int) < (fn : Int) := by omega
      have HA : Hid (∀ W, Quiet wr W → Calls Try.prog 78 #[.agg #[.slice da dn dcap, .int .i64 d.quorum, .int .i64 d.expiry], x.val (.slice a' n' cap'), f.val] W fun e w' => Gives w W (Value.slice a' n' cap').ownBlock (afterR d x f) e w') := fun W hW =>
        after_any w W (hqr.after hW) _ d hd0 hok x a' n' cap' (hled.quiet hW) f hin t0 t1 hbd.1 (by omega) hbd.2.2.1 (by omega)
      clear hbd hin
      go_wp2_with fail
      go_region_with (first | (go_at_call 78; refine (HA.out _ ?_).mono ?_; (exact Below.drew (Below.refl _ _)); rintro e w2 ⟨a2, n2, cap2, rfl, hown2, hn2, hg2⟩; have HN2 : Hid (n2 = (afterR d x f).ledger.length) := hn2; clear hn2; have q2 := b2.drew.grown hg2 (fun e => own_ne hled.own b2 (by decide) e.symm); have q2c := q2.cell; have q2f := q2.frozen; simp only [Inst.val]))
      all_goals (try go_wp2)
      all_goals
        go_roundw
        case rel =>
          refine ⟨k + 1, a2, n2, cap2, by omega, by go_num, ?_, ?_, ?_, ?_, ?_, ?_⟩
          · rw [HS.out]; exact q2.set12 (by simp) _ _ _ _ _ _ _ _ _ _ _ _
          · rw [HS.out]; exact ⟨own_set12 hown2 q2 (by decide) _ _ _ _ _ _ _ _ _ _ _ _, HN2.out, by omega⟩
          · exact (b0.drew.grown hg2 (fun e => own_ne hled.own b0 (by decide) e.symm)).other12 (by omega) _ _ _ _ _ _ _ _ _ _ _ _
          · exact (b1.drew.grown hg2 (fun e => own_ne hled.own b1 (by decide) e.symm)).other12 (by omega) _ _ _ _ _ _ _ _ _ _ _ _
          · exact own_set12 (own_grown (World.ownsRow.drew hfrow) (World.ownsRow.drew hled.own) (by decide) hg2) q2 (by decide) _ _ _ _ _ _ _ _ _ _ _ _
          · exact Below.set12 (quiet_of_grown (Below.drew hqr) hg2 (fun k hk => (own_ge hled.own k hk).1)) (by omega) _ _ _ _ _ _ _ _ _ _ _ _
        case measure => simp [intOf]; omega
    · have HE : Hid (instFold d id (fs.take k) = instFold d id fs) := by
        have := HFN.out
        show instFold d id (fs.take k) = _
        rw [List.take_of_length_le (by omega)]
      have g1 := b1.cell
      have f1 := b1.frozen
      rw [HE.out] at b2 hled g2
      have hE := hled.ents
      generalize instFold d id fs = x at *
      go_wp2_with fail
      refine (settled_any _ x.ledger _ hE).mono ?_
      rintro e w1 ⟨rfl, rfl⟩
      go_wp2
      refine bodyPost_ret (v := Inst.val { x with settled := settledR x.ledger } (.slice a' n' cap')) (by simp [results, Try.results55, go_sem, Inst.val, g1]) rfl ⟨a', n', cap', by rw [HI.out], ?_, by rw [HI.out]; exact hled.len, ?_⟩
      · rw [HI.out]; exact own_set12 (ownsRow_setCell_other hled.own (own_ne hled.own b2 (by decide)) _) (b1.other _ (by simp)) (by decide) _ _ _ _ _ _ _ _ _ _ _ _
      · exact Below.set12 (hqr.setCell (by show w.heap.size ≤ w.heap.size + 1 + 1; omega) _) (by omega) _ _ _ _ _ _ _ _ _ _ _ _

end Go.Proofs.Ytahfdglbbdacjaa

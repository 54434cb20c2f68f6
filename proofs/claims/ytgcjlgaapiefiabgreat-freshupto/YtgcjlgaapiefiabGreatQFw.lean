import Derived.Test.YtgcjlgaapiefiabGreatQFv
import Derived.Deep.RegionHeld3

/-
  Marked.world: walked (made by mkfs13.py).
-/
namespace Go.Proofs.YtgcjlgaapiefiabGreat
open Go.RowKit Go.Sort

set_option maxRecDepth 100000 in
set_option maxHeartbeats 8000000 in
theorem markW_any (w0 w : World) (B0 pb K B : Nat) (S : Nat → Prop) (hS : Shelf S K w pb) (hSB : ∀ j, S j → j < B) (hS0 : ∀ j, S j → B0 ≤ j) (hB : Below B0 w0 w) (hBw : B ≤ w.heap.size)
    (ck : Int) (ia : Option Addr) (n ic : Nat) (ra : Option Addr) (m rc : Nat) (xs : List Inst) (rs : List Req) (hI : InstsMem B w ia n ic xs) (hR : ReqsMem B w ra m rc rs)
    (hxl : ∀ x ∈ xs, x.ledger.length ≤ 2199023255552) (hnx : xs.length ≤ 1048576) (hrl : ∀ r ∈ rs, r.bys.length ≤ 2199023255552) (hnr : rs.length ≤ 1048576) (hK : K + 4 * (xs.length + rs.length + 1) ≤ 100000000)
    (ja : Option Addr) (jn jc : Nat) (sa : Option Addr) (sn sc : Nat) (hW : ∀ w' : World, (∀ k, k < B → ¬ S k → w'.heap[k]? = w.heap[k]?) → InstsAt w' (.slice ja jn jc) xs ∧ ReqsAt w' (.slice sa sn sc) rs) :
    Calls Tryz.prog 14 #[.pointer (some ⟨pb, 0, none⟩), .agg #[.int .i64 ck, .slice ia n ic, .slice ra m rc], .agg #[.int .i64 ck, .slice ja jn jc, .slice sa sn sc]] w fun e w' => e = .returned (.bool true) ∧ (∃ S' : Nat → Prop, Shelf S' (K + 4 * (xs.length + rs.length + 1)) w' pb ∧ (∀ j, S' j → S j ∨ B ≤ j)) ∧ (∀ j, j < B → ¬ S j → w'.heap[j]? = w.heap[j]?) ∧ w.heap.size ≤ w'.heap.size ∧ Below B0 w0 w' := by
  have hq0 : ∀ (w : World) o, Quiet w (w.alloc o) := fun w o => (Below.refl _ _).alloc (Nat.le_refl _) _
  obtain ⟨hn', _⟩ := (hW w (fun _ _ _ => rfl)).1.len
  obtain ⟨hm', _⟩ := (hW w (fun _ _ _ => rfl)).2.len
  obtain ⟨ps, rfl, hrI⟩ := hI
  obtain ⟨qs, rfl, hrR⟩ := hR
  have hn := hrI.count
  have hm := hrR.count
  rw [List.length_map] at hn' hm' hnx hnr hK
  rw [List.length_map] at hK
  rw [List.length_map, List.length_map]
  obtain rfl : jn = n := by omega
  obtain rfl : sn = m := by omega
  have HN : Hid (jn = ps.length) := hn
  have HM : Hid (sn = qs.length) := hm
  have hnn : jn ≤ 1048576 := by omega
  have hmm : sn ≤ 1048576 := by omega
  rw [← hn] at hK ⊢
  rw [← hm] at hK ⊢
  clear hn hm hn' hm' hnx hnr
  have hB0B : B0 ≤ B := by have := hSB pb hS.pb; have := hS0 pb hS.pb; omega
  have t0 : (ck != ck) = false := by simp
  have t1 : ((jn : Int) != (jn : Int)) = false := by simp
  have t2 : ((sn : Int) != (sn : Int)) = false := by simp
  have hni : (jn : Int) ≤ 1048576 := by omega
  have hmi : (sn : Int) ≤ 1048576 := by omega
  go_enter Tryz.func14, Tryz.ntmps14
  go_upto_region 1 with (fail)
  refine wp_gen (fun V => Blk V w.heap.size #[.int .i64 ck, .slice ia jn ic, .slice ra sn rc] 47 ∧ Blk V (w.heap.size + 1) #[.int .i64 ck, .slice ja jn jc, .slice sa sn sc] 47 ∧ Quiet w V ∧ Below B0 w0 V ∧ Hid (V.heap.size = w.heap.size + 2)) ⟨(Blk.new' rfl).alloc _, Blk.new' (by simp), (hq0 _ _).after (hq0 _ _), (hB.alloc (by omega) _).alloc (by simp; omega) _, by show _ = _; simp⟩ ?_
  rintro V ⟨b0V, b1V, hqV, hBV, HVS⟩
  have hszB : B ≤ w.heap.size := hBw
  have hSV := hS.quiet hqV
  have hIV : RowsOf 78 92 12 3 Inst.cells (fun x => ents x.ledger) (fun x => x.ledger.length) B V ia jn ic ps := hrI.same (fun k _ _ hb => hqV.block k hb.lt) (fun k _ _ hb => hqV.block k hb.lt)
  have hRV : RowsOf 83 3 9 1 Req.cells (fun r => ints r.bys) (fun r => r.bys.length) B V ra sn rc qs := hrR.same (fun k _ _ hb => hqV.block k hb.lt) (fun k _ _ hb => hqV.block k hb.lt)
  have hWV : ∀ w' : World, (∀ k, k < B → ¬ S k → w'.heap[k]? = V.heap[k]?) → InstsAt w' (.slice ja jn jc) (ps.map (·.1)) ∧ ReqsAt w' (.slice sa sn sc) (qs.map (·.1)) := fun w' h => hW w' (fun k hk hn => (h k hk hn).trans (hqV.block k (by omega)))
  have hVw : ∀ j, j < B → V.heap[j]? = w.heap[j]? := fun j hj => hqV.block j (by omega)
  have hVsz : w.heap.size ≤ V.heap.size := hqV.size
  have hSn : ∀ j, B ≤ j → ¬ S j := fun j hj h => by have := hSB j h; omega
  have HW : Hid _ := hWV
  have hSpb : S pb := hS.pb
  clear hW hWV hrI hrR hS hB hqV
  have g0 := b0V.cell
  have g1 := b1V.cell
  have z0 := b0V.lt
  have z1 := b1V.lt
  go_wp2
  go_loopw [7, 8] (fun i ok wr => ∃ k : Nat, k ≤ jn ∧ i = .int .i64 k ∧ Sweep ps S K V pb B0 w0 k wr) (fun i _ _ => jn - (intOf i).toNat)
  case atStart => exact ⟨0, Nat.zero_le _, rfl, Sweep.start ps hSV hBV⟩
  case round =>
    clear g0 g1 z0 z1
    obtain ⟨k, hk, rfl, S', hSh, hup, hon, hfr, hsz, hBr⟩ := hrel
    have offb : ∀ {j : Nat} {cs : Array Value} {t : TypeId}, Blk V j cs t → B ≤ j → t ≠ 92 → Blk wr j cs t := fun hb hj ht => (hfr _ hb.lt (off_sweep hon hIV.each hb (hSn _ hj) ht)).trans hb
    have b0 := offb b0V hszB (by decide)
    have b1 := offb b1V (by omega) (by decide)
    by_cases hlt : k < jn
    · have hkl : k < ps.length := by have := HN.out; omega
      have hkx : k < (ps.map (·.1)).length := by simpa using hkl
      obtain ⟨g, la, ln, lc, rfl, hgB, ⟨gcs, hgb⟩, hp2, hln, hown, hat⟩ := rows_at (m := 12) (cells := Inst.cells) (fun _ _ => rfl) hIV k hkl
      have hx := hat wr (hfr g hgb.lt (off_sweep hon hIV.each hgb (hSn g hgB) (by decide)))
      have hnoff : ∀ j, (Value.slice la ln lc).ownBlock = some j → B0 ≤ j ∧ ¬ S' j := fun j hj => ⟨Nat.le_trans hB0B (own_ge hown j hj).1, off_next hIV hon hkl (by rw [hp2]; exact hj) (hSn j (own_ge hown j hj).1)⟩
      have hownr : wr.ownsRow 0 92 3 (.slice la ln lc) ln (ents ps[k].1.ledger) := own_base (own_same hown (fun j hj => hfr j (own_ge hown j hj).2 (hnoff j hj).2)) (Nat.zero_le _)
      have hlb : ps[k].1.ledger.length ≤ 2199023255552 := hxl _ (List.mem_map_of_mem (List.getElem_mem hkl))
      have he : Ents wr (.slice la ln lc) ps[k].1.ledger := own_ents hownr hln hlb
      obtain ⟨b', off', la', ln', lc', rfl, hb', hx', he'⟩ := (HW.out wr (fun j hj hn => hfr j (by omega) (fun h => by rcases hon j h with h1 | ⟨q, p, _, h3, h4⟩ | h1; exact hn h1; (obtain ⟨_, _, _, _, _, q3⟩ := hIV.each p (List.mem_of_getElem? h3); have := (own_ge q3 j h4).1; omega); omega))).1.get k hkx
      have hxk : (ps.map (·.1))[k] = ps[k].1 := by simp
      rw [hxk] at hx' he'
      have hpk : ps[k]? = some (ps[k].1, .slice la ln lc) := by rw [List.getElem?_eq_getElem hkl, ← hp2]
      have HLed : Hid (∀ wq, Quiet wr wq → Calls Tryz.prog 33 #[.pointer (some ⟨pb, 0, none⟩), .slice la ln lc] wq fun e w' => e = .returned (.tuple #[]) ∧ Sweep ps S K V pb B0 w0 (k + 1) w') := fun wq hq =>
        (ledger_sh w0 wq B0 pb (K + 4 * k) S' (hSh.quiet hq) (by omega) la ln lc _ (own_quiet hownr hq) (by rw [hln]; exact hlb) (hBr.trans (Below.mono hq (by have := hSh.lt pb hSh.pb; have := hS0 pb hSV.pb; omega))) (fun j hj => by rcases hon j hj with h1 | ⟨q, p, _, h3, h4⟩ | h1; exact hS0 j h1; (obtain ⟨_, _, _, _, _, q3⟩ := hIV.each p (List.mem_of_getElem? h3); have := (own_ge q3 j h4).1; omega); omega) hnoff).mono (by
          rintro e w3 ⟨rfl, ⟨S'', hs''⟩, hB3⟩
          exact ⟨rfl, Sweep.step hup hon hfr hsz hq hpk hs'' hB3⟩)
      clear hnoff hownr hlb hown hpk hln hp2 hSh
      generalize ps[k].1 = x at *
      simp only [Inst.cells] at hx hx'
      have x0 : ∀ d os, (grow (redrawn wr d) os).cell? ⟨g, k * 12, none⟩ = some (.int .i64 x.id) := fun d os => (At.quiet hx (below_regrown wr d os)) 0 _ rfl
      have x1 := fun d os => (At.quiet hx (below_regrown wr d os)) 1 _ rfl
      have x2 := fun d os => (At.quiet hx (below_regrown wr d os)) 2 _ rfl
      have x3 := fun d os => (At.quiet hx (below_regrown wr d os)) 3 _ rfl
      have x4 := fun d os => (At.quiet hx (below_regrown wr d os)) 4 _ rfl
      have x5 := fun d os => (At.quiet hx (below_regrown wr d os)) 5 _ rfl
      have x6 := fun d os => (At.quiet hx (below_regrown wr d os)) 6 _ rfl
      have x7 := fun d os => (At.quiet hx (below_regrown wr d os)) 7 _ rfl
      have x8 := fun d os => (At.quiet hx (below_regrown wr d os)) 8 _ rfl
      have x9 := fun d os => (At.quiet hx (below_regrown wr d os)) 9 _ rfl
      have x10 := fun d os => (At.quiet hx (below_regrown wr d os)) 10 _ rfl
      have x11 := fun d os => (At.quiet hx (below_regrown wr d os)) 11 _ rfl
      have y0 : ∀ d os, (grow (redrawn wr d) os).cell? ⟨b', off' + k * 12, none⟩ = some (.int .i64 x.id) := fun d os => (At.quiet hx' (below_regrown wr d os)) 0 _ rfl
      have y1 := fun d os => (At.quiet hx' (below_regrown wr d os)) 1 _ rfl
      have y2 := fun d os => (At.quiet hx' (below_regrown wr d os)) 2 _ rfl
      have y3 := fun d os => (At.quiet hx' (below_regrown wr d os)) 3 _ rfl
      have y4 := fun d os => (At.quiet hx' (below_regrown wr d os)) 4 _ rfl
      have y5 := fun d os => (At.quiet hx' (below_regrown wr d os)) 5 _ rfl
      have y6 := fun d os => (At.quiet hx' (below_regrown wr d os)) 6 _ rfl
      have y7 := fun d os => (At.quiet hx' (below_regrown wr d os)) 7 _ rfl
      have y8 := fun d os => (At.quiet hx' (below_regrown wr d os)) 8 _ rfl
      have y9 := fun d os => (At.quiet hx' (below_regrown wr d os)) 9 _ rfl
      have y10 := fun d os => (At.quiet hx' (below_regrown wr d os)) 10 _ rfl
      have y11 := fun d os => (At.quiet hx' (below_regrown wr d os)) 11 _ rfl
      have k0 := fun d os => (b0.quiet (below_regrown wr d os)).cell
      have k1 := fun d os => (b1.quiet (below_regrown wr d os)).cell
      have HCI : Hid (∀ d os, Calls Tryz.prog 32 #[x.val (.slice la ln lc), x.val (.slice la' ln' lc')] (grow (redrawn wr d) os) fun e w'' => e = .returned (.bool true) ∧ ∃ p : Regrown, w'' = grow (redrawn wr p.d) p.os) := fun d os => Calls.regrown_of (sameInstance_eq x la la' ln ln' lc lc' _ (he.quiet (below_regrown wr d os)) (he'.quiet (below_regrown wr d os)))
      have g0 := b0.cell
      have g1 := b1.cell
      have hki : (0 : Int) ≤ (k : Int) := by omega
      have hkj : (k : Int) < (jn : Int) := by omega
      go_wp2_with fail
      refine wp_region_quiet_below mixed (by kernel_rfl) ?_
      repeat (quiet_step (exact HCI.out _ _))
      refine wpQuiet_nil ?_
      intro _ hw'
      obtain ⟨⟨dq, osq⟩, hw''⟩ := hw'
      subst hw''
      have hbq := below_regrown wr dq osq
      clear x0 x1 x2 x3 x4 x5 x6 x7 x8 x9 x10 x11 y0 y1 y2 y3 y4 y5 y6 y7 y8 y9 y10 y11 k0 k1 g0 g1
      generalize grow (redrawn wr dq) osq = wq at *
      replace b0 := b0.quiet hbq
      have x11 := (hx.quiet hbq) 11 _ rfl
      have gq := b0.cell
      have zq := b0.lt
      have zg := lt_of_cell x11
      go_wp2_with fail
      refine (HLed.out wq hbq).mono ?_
      rintro e w3 ⟨rfl, hSw⟩
      go_wp2
      go_roundw
      case rel => exact ⟨k + 1, by omega, by go_num, hSw⟩
      case measure => simp [intOf]; omega
    · obtain rfl : k = jn := by omega
      have hS1B : ∀ j, S' j → S j ∨ B ≤ j := fun j h => by rcases hon j h with h1 | ⟨q, p, _, h3, h4⟩ | h1; exact .inl h1; (obtain ⟨_, _, _, _, _, q3⟩ := hIV.each p (List.mem_of_getElem? h3); exact .inr (own_ge q3 j h4).1); exact .inr (by omega)
      have hnS : ∀ {j : Nat} {cs : Array Value} {t : TypeId}, Blk V j cs t → B ≤ j → t ≠ 92 → ¬ S' j := fun hb hj ht => off_sweep hon hIV.each hb (hSn _ hj) ht
      have hR1 : RowsOf 83 3 9 1 Req.cells (fun r => ints r.bys) (fun r => r.bys.length) B wr ra sn rc qs := hRV.same (fun j _ hj hb => hfr j hb.lt (hnS hb hj (by decide))) (fun j _ hj hb => hfr j hb.lt (hnS hb hj (by decide)))
      have hI1 : wr.ownsRow B 78 12 (.slice ia k ic) k (ps.map fun p => p.1.cells p.2).flatten := own_same hIV.own (fun j hj => by obtain ⟨cs, hb⟩ := own_blk hIV.own hj; exact hfr j hb.lt (hnS hb (own_ge hIV.own j hj).1 (by decide)))
      have hI1n : ∀ j, (Value.slice ia k ic).ownBlock = some j → ¬ S' j := fun j hj => by obtain ⟨cs, hb⟩ := own_blk hIV.own hj; exact hnS hb (own_ge hIV.own j hj).1 (by decide)
      have hR1n : ∀ j, (Value.slice ra sn rc).ownBlock = some j → ¬ S' j := fun j hj => by obtain ⟨cs, hb⟩ := own_blk hRV.own hj; exact hnS hb (own_ge hRV.own j hj).1 (by decide)
      have hQ1n : ∀ q ∈ qs, ∀ j, q.2.ownBlock = some j → ¬ S' j := fun q hq j hj => by obtain ⟨_, _, _, _, _, q3⟩ := hRV.each q hq; obtain ⟨cs, hb⟩ := own_blk q3 hj; exact hnS hb (own_ge q3 j hj).1 (by decide)
      have n0 := hnS b0V hszB (by decide)
      have n1 := hnS b1V (by omega) (by decide)
      have hfr1 : ∀ j, j < B → ¬ S j → wr.heap[j]? = V.heap[j]? := fun j hj hn => hfr j (by omega) (fun h => by rcases hS1B j h with h1 | h1; exact hn h1; omega)
      have HW1 : Hid (∀ w' : World, (∀ j, j < B → ¬ S j → w'.heap[j]? = wr.heap[j]?) → ReqsAt w' (.slice sa sn sc) (qs.map (·.1))) := fun w' h => (HW.out w' (fun j hj hn => (h j hj hn).trans (hfr1 j hj hn))).2
      have hS10 : ∀ j, S' j → B0 ≤ j := fun j h => by rcases hS1B j h with h1 | h1; exact hS0 j h1; omega
      have hszr : B ≤ wr.heap.size := by omega
      have hpbr : pb < wr.heap.size := hSh.lt pb hSh.pb
      have hB0r : B0 ≤ wr.heap.size := by omega
      obtain ⟨K1, HK1⟩ : ∃ K1, Hid (K + 4 * k = K1) := ⟨_, rfl⟩
      rw [HK1.out] at hSh
      have hK1 : K1 + 4 * (sn + 1) ≤ 100000000 := by have := HK1.out; omega
      clear HW hup hon hfr offb hnS hIV hRV b0V b1V hSV hBV
      rename World => V1
      have g0 := b0.cell
      have z0 := b0.lt
      go_wp2
      go_loopw [9, 10] (fun i ok wr => ∃ q : Nat, q ≤ sn ∧ i = .int .i64 q ∧ Sweep qs S' K1 V1 pb B0 w0 q wr) (fun i _ _ => sn - (intOf i).toNat)
      case atStart => exact ⟨0, Nat.zero_le _, rfl, Sweep.start qs hSh hBr⟩
      case round =>
        clear g0 z0
        obtain ⟨q, hq, rfl, S2, hSh2, hup2, hon2, hfr2, hsz2, hBr2⟩ := hrel
        have offb : ∀ {j : Nat} {cs : Array Value} {t : TypeId}, Blk V1 j cs t → ¬ S' j → t ≠ 3 → Blk wr j cs t := fun hb hj ht => (hfr2 _ hb.lt (off_sweep hon2 hR1.each hb hj ht)).trans hb
        have b0s := b0
        replace b0 := offb b0 n0 (by decide)
        replace b1 := offb b1 n1 (by decide)
        by_cases hlt : q < sn
        · have hkl : q < qs.length := by have := HM.out; omega
          have hkx : q < (qs.map (·.1)).length := by simpa using hkl
          obtain ⟨g, la, ln, lc, rfl, hgB, ⟨gcs, hgb⟩, hp2, hln, hown, hat⟩ := rows_at (m := 9) (cells := Req.cells) (fun _ _ => rfl) hR1 q hkl
          have hx := hat wr (hfr2 g hgb.lt (off_sweep hon2 hR1.each hgb (hR1n g rfl) (by decide)))
          have hnoff : ∀ j, (Value.slice la ln lc).ownBlock = some j → B0 ≤ j ∧ ¬ S2 j := fun j hj => ⟨Nat.le_trans hB0B (own_ge hown j hj).1, off_next hR1 hon2 hkl (by rw [hp2]; exact hj) (hQ1n qs[q] (List.getElem_mem hkl) j (by rw [hp2]; exact hj))⟩
          have hownr : wr.ownsRow 0 3 1 (.slice la ln lc) ln (ints qs[q].1.bys) := own_base (own_same hown (fun j hj => hfr2 j (own_ge hown j hj).2 (hnoff j hj).2)) (Nat.zero_le _)
          have hlb : qs[q].1.bys.length ≤ 2199023255552 := hrl _ (List.mem_map_of_mem (List.getElem_mem hkl))
          have he : Ints wr (.slice la ln lc) qs[q].1.bys := own_ints (base := 0) (e := 3) (by have hl2 : ln = qs[q].1.bys.length := hln; rw [← hl2]; exact hownr)
          obtain ⟨b', off', la', ln', lc', rfl, hb', hx', he'⟩ := (HW1.out wr (fun j hj hn => hfr2 j (by omega) (fun h => by rcases hon2 j h with h1 | ⟨q, p, _, h3, h4⟩ | h1; (rcases hS1B j h1 with h2 | h2; exact hn h2; omega); (obtain ⟨_, _, _, _, _, q3⟩ := hR1.each p (List.mem_of_getElem? h3); have := (own_ge q3 j h4).1; omega); omega))).get q hkx
          have hxk : (qs.map (·.1))[q] = qs[q].1 := by simp
          rw [hxk] at hx' he'
          have hpk : qs[q]? = some (qs[q].1, .slice la ln lc) := by rw [List.getElem?_eq_getElem hkl, ← hp2]
          have HLed : Hid (∀ wq, Quiet wr wq → Calls Tryz.prog 35 #[.pointer (some ⟨pb, 0, none⟩), .slice la ln lc] wq fun e w' => e = .returned (.tuple #[]) ∧ Sweep qs S' K1 V1 pb B0 w0 (q + 1) w') := fun wq hq =>
            (by_sh w0 wq B0 pb (K1 + 4 * q) S2 (hSh2.quiet hq) (by omega) la ln lc _ (own_quiet hownr hq) (by rw [hln]; exact hlb) (hBr2.trans (Below.mono hq (by omega))) (fun j hj => by rcases hon2 j hj with h1 | ⟨q, p, _, h3, h4⟩ | h1; exact hS10 j h1; (obtain ⟨_, _, _, _, _, q3⟩ := hR1.each p (List.mem_of_getElem? h3); have := (own_ge q3 j h4).1; omega); omega) hnoff).mono (by
              rintro e w3 ⟨rfl, ⟨S'', hs''⟩, hB3⟩
              exact ⟨rfl, Sweep.step hup2 hon2 hfr2 hsz2 hq hpk hs'' hB3⟩)
          clear hnoff hownr hlb hown hpk hln hp2 hSh2
          generalize qs[q].1 = r at *
          simp only [Req.cells] at hx hx'
          have x0 : ∀ d os, (grow (redrawn wr d) os).cell? ⟨g, q * 9, none⟩ = some (.int .i64 r.number) := fun d os => (At.quiet hx (below_regrown wr d os)) 0 _ rfl
          have x1 := fun d os => (At.quiet hx (below_regrown wr d os)) 1 _ rfl
          have x2 := fun d os => (At.quiet hx (below_regrown wr d os)) 2 _ rfl
          have x3 := fun d os => (At.quiet hx (below_regrown wr d os)) 3 _ rfl
          have x4 := fun d os => (At.quiet hx (below_regrown wr d os)) 4 _ rfl
          have x5 := fun d os => (At.quiet hx (below_regrown wr d os)) 5 _ rfl
          have x6 := fun d os => (At.quiet hx (below_regrown wr d os)) 6 _ rfl
          have x7 := fun d os => (At.quiet hx (below_regrown wr d os)) 7 _ rfl
          have x8 := fun d os => (At.quiet hx (below_regrown wr d os)) 8 _ rfl
          have y0 : ∀ d os, (grow (redrawn wr d) os).cell? ⟨b', off' + q * 9, none⟩ = some (.int .i64 r.number) := fun d os => (At.quiet hx' (below_regrown wr d os)) 0 _ rfl
          have y1 := fun d os => (At.quiet hx' (below_regrown wr d os)) 1 _ rfl
          have y2 := fun d os => (At.quiet hx' (below_regrown wr d os)) 2 _ rfl
          have y3 := fun d os => (At.quiet hx' (below_regrown wr d os)) 3 _ rfl
          have y4 := fun d os => (At.quiet hx' (below_regrown wr d os)) 4 _ rfl
          have y5 := fun d os => (At.quiet hx' (below_regrown wr d os)) 5 _ rfl
          have y6 := fun d os => (At.quiet hx' (below_regrown wr d os)) 6 _ rfl
          have y7 := fun d os => (At.quiet hx' (below_regrown wr d os)) 7 _ rfl
          have y8 := fun d os => (At.quiet hx' (below_regrown wr d os)) 8 _ rfl
          have k0 := fun d os => (b0.quiet (below_regrown wr d os)).cell
          have k1 := fun d os => (b1.quiet (below_regrown wr d os)).cell
          have HCI : Hid (∀ d os, Calls Tryz.prog 34 #[r.val (.slice la ln lc), r.val (.slice la' ln' lc')] (grow (redrawn wr d) os) fun e w'' => e = .returned (.bool true) ∧ ∃ p : Regrown, w'' = grow (redrawn wr p.d) p.os) := fun d os => Calls.regrown_of (sameRequest_eq r la la' ln ln' lc lc' _ (he.quiet (below_regrown wr d os)) (he'.quiet (below_regrown wr d os)))
          have g0 := b0.cell
          have g1 := b1.cell
          have hki : (0 : Int) ≤ (q : Int) := by omega
          have hkj : (q : Int) < (sn : Int) := by omega
          go_wp2_with fail
          refine wp_region_quiet_below mixed (by kernel_rfl) ?_
          repeat (quiet_step (exact HCI.out _ _))
          refine wpQuiet_nil ?_
          intro _ hw'
          obtain ⟨⟨dq, osq⟩, hw''⟩ := hw'
          subst hw''
          have hbq := below_regrown wr dq osq
          clear x0 x1 x2 x3 x4 x5 x6 x7 x8 y0 y1 y2 y3 y4 y5 y6 y7 y8 k0 k1 g0 g1
          generalize grow (redrawn wr dq) osq = wq at *
          replace b0 := b0.quiet hbq
          have x6 := (hx.quiet hbq) 6 _ rfl
          have gq := b0.cell
          have zq := b0.lt
          have zg := lt_of_cell x6
          go_wp2_with fail
          refine (HLed.out wq hbq).mono ?_
          rintro e w3 ⟨rfl, hSw⟩
          go_wp2
          go_roundw
          case rel => exact ⟨q + 1, by omega, by go_num, hSw⟩
          case measure => simp [intOf]; omega
        · obtain rfl : q = sn := by omega
          have hnS2 : ∀ {j : Nat} {cs : Array Value} {t : TypeId}, Blk V1 j cs t → ¬ S' j → t ≠ 3 → ¬ S2 j := fun hb hj ht => off_sweep hon2 hR1.each hb hj ht
          have hI2n : ∀ j, (Value.slice ia k ic).ownBlock = some j → ¬ S2 j ∧ B ≤ j := fun j hj => by obtain ⟨cs, hb⟩ := own_blk hI1 hj; exact ⟨hnS2 hb (hI1n j hj) (by decide), (own_ge hI1 j hj).1⟩
          have hR2n : ∀ j, (Value.slice ra q rc).ownBlock = some j → ¬ S2 j ∧ B ≤ j := fun j hj => by obtain ⟨cs, hb⟩ := own_blk hR1.own hj; exact ⟨hnS2 hb (hR1n j hj) (by decide), (own_ge hR1.own j hj).1⟩
          have hI2 : wr.ownsRow 0 78 12 (.slice ia k ic) k (ps.map fun p => p.1.cells p.2).flatten := own_base (own_same hI1 (fun j hj => hfr2 j (own_ge hI1 j hj).2 (hI2n j hj).1)) (Nat.zero_le _)
          have hR2 : wr.ownsRow 0 83 9 (.slice ra q rc) q (qs.map fun p => p.1.cells p.2).flatten := own_base (own_same hR1.own (fun j hj => hfr2 j (own_ge hR1.own j hj).2 (hR2n j hj).1)) (Nat.zero_le _)
          have hS2B : ∀ j, S2 j → S j ∨ B ≤ j := fun j h => by rcases hon2 j h with h1 | ⟨q, p, _, h3, h4⟩ | h1; exact hS1B j h1; (obtain ⟨_, _, _, _, _, q3⟩ := hR1.each p (List.mem_of_getElem? h3); exact .inr (own_ge q3 j h4).1); exact .inr (by omega)
          have hS20 : ∀ j, S2 j → B0 ≤ j := fun j h => by rcases hS2B j h with h1 | h1; exact hS0 j h1; omega
          have hfrW : ∀ j, j < B → ¬ S j → wr.heap[j]? = w.heap[j]? := fun j hj hn => ((hfr2 j (by omega) (fun h => by rcases hS2B j h with h1 | h1; exact hn h1; omega)).trans (hfr1 j hj hn)).trans (hVw j hj)
          have n0' : ¬ S2 w.heap.size := fun h => by
            rcases hon2 _ h with h1 | ⟨q, p, _, h3, h4⟩ | h1
            · exact n0 h1
            · obtain ⟨_, _, _, _, _, q3⟩ := hR1.each p (List.mem_of_getElem? h3)
              obtain ⟨cs', hb'⟩ := own_blk q3 h4
              exact absurd rfl (Blk.ne b0s hb' (by decide))
            · have := b0s.lt; omega
          obtain ⟨la, NL, lc, lvals, ba, NB, bc, bvals, aa, NA, ac, avals, wa, NW, wwc, ws, hbk, h4, hKs, hs, hv, hlt2⟩ := hSh2
          have gb := hbk.blk.cell
          have zb := hbk.blk.lt
          have hNW := hbk.small.2.2.2
          have hNi : (NW : Int) ≤ 100000000 := by omega
          have hxsI := hI2.1
          have hxsR := hR2.1
          have hlI : ∀ j, (Value.slice ia k ic).ownBlock = some j → j < wr.heap.size := fun j hj => (own_ge hI2 j hj).2
          have hlR : ∀ j, (Value.slice ra q rc).ownBlock = some j → j < wr.heap.size := fun j hj => (own_ge hR2 j hj).2
          have hIR : ∀ j, (Value.slice ia k ic).ownBlock = some j → (Value.slice ra q rc).ownBlock ≠ some j := fun j hj e => by
            obtain ⟨c1, k1⟩ := own_blk hI2 hj
            obtain ⟨c2, k2⟩ := own_blk hR2 e
            exact absurd rfl (Blk.ne k1 k2 (by decide))
          have hw0I : ∀ j, (Value.slice ia k ic).ownBlock = some j → w.heap.size ≠ j := fun j hj => by obtain ⟨c1, k1⟩ := own_blk hI2 hj; exact Blk.ne k1 b0 (by decide)
          have hw0R : ∀ j, (Value.slice ra q rc).ownBlock = some j → w.heap.size ≠ j := fun j hj => by obtain ⟨c1, k1⟩ := own_blk hR2 hj; exact Blk.ne k1 b0 (by decide)
          clear hnS2 hI1 hR1 hI1n hR1n hQ1n n1 hfr1 HW1 hon2 hfr2 offb hS1B hSh hBr hup2 hVw b1
          generalize (ps.map fun p => p.1.cells p.2).flatten = ysI at *
          generalize (qs.map fun p => p.1.cells p.2).flatten = ysR at *
          rename World => W2
          have g0 := b0.cell
          have z0 := b0.lt
          go_upto_region 19 with (fail)
          obtain ⟨Km, HK⟩ : ∃ Km, Hid (77 + (NW : Int) / 4 = Km) := ⟨_, rfl⟩
          rw [HK.out]
          refine wp_gen (fun V => Blk V W2.heap.size #[.int .i64 Km, .int .i64 0, .bool false, .int .i64 0, .int .i64 0, .bool false, .int .i64 0, .int .i64 0, .int .i64 0, .int .i64 0, .int .i64 0, .slice none 0 0] 78 ∧ Blk V (W2.heap.size + 1) #[.int .i64 Km, .int .i64 0, .int .i64 0, .int .i64 0, .int .i64 0, .string ⟨#[]⟩, .slice none 0 0, .int .i64 0, .bool false] 83 ∧ Quiet W2 V ∧ Below B0 w0 V ∧ Hid (V.heap.size = W2.heap.size + 2)) ⟨(Blk.new' rfl).alloc _, Blk.new' (by simp), (hq0 _ _).after (hq0 _ _), (hBr2.alloc (by omega) _).alloc (by simp; omega) _, by show _ = _; simp⟩ ?_
          rintro V3 ⟨bI3, bR3, hq3, hB3, HS3⟩
          have hI3 := own_quiet hI2 hq3
          have hR3 := own_quiet hR2 hq3
          replace b0 := b0.quiet hq3
          clear g0 z0 gb zb hBr2
          have g0 := b0.cell
          have z0 := b0.lt
          go_wp2
          go_loopw [13] (fun i wr => ∃ p : Nat, p ≤ k ∧ i = .int .i64 p ∧ wr.ownsRow 0 78 12 (.slice ia k ic) k (rep (instMark Km) p ++ ysI.drop (p * 12)) ∧ (∀ j, some j ≠ (Value.slice ia k ic).ownBlock → wr.heap[j]? = V3.heap[j]?) ∧ Hid (wr.heap.size = V3.heap.size) ∧ Below B0 w0 wr) (fun i _ => k - (intOf i).toNat)
          case atStart => exact ⟨0, Nat.zero_le _, rfl, by simpa [rep] using hI3, fun _ _ => rfl, rfl, hB3⟩
          case round =>
            clear g0 z0
            obtain ⟨p, hp, rfl, hown, hfr3, HSZ3, hBr3⟩ := hrel
            have hsz3 := HSZ3.out
            have b0r : Blk wr w.heap.size #[.int .i64 ck, .slice ia k ic, .slice ra q rc] 47 := by unfold Blk; rw [hfr3 _ (fun e => hw0I _ e.symm rfl)]; exact b0
            have bIr : Blk wr W2.heap.size #[.int .i64 Km, .int .i64 0, .bool false, .int .i64 0, .int .i64 0, .bool false, .int .i64 0, .int .i64 0, .int .i64 0, .int .i64 0, .int .i64 0, .slice none 0 0] 78 := by unfold Blk; rw [hfr3 _ (fun e => by have := hlI _ e.symm; omega)]; exact bI3
            have bRr : Blk wr (W2.heap.size + 1) #[.int .i64 Km, .int .i64 0, .int .i64 0, .int .i64 0, .int .i64 0, .string ⟨#[]⟩, .slice none 0 0, .int .i64 0, .bool false] 83 := by unfold Blk; rw [hfr3 _ (fun e => by have := hlI _ e.symm; omega)]; exact bR3
            have g0 := b0r.cell
            have z0 := b0r.lt
            have gm := bIr.cell
            have zm := bIr.lt
            by_cases hlt : p < k
            · obtain ⟨g, rfl⟩ : ∃ g, ia = some ⟨g, 0, none⟩ := by
                rcases hown.2 with ⟨hv, h0⟩ | ⟨g, _, _, hv, _⟩
                · omega
                · simp only [Value.slice.injEq] at hv; exact ⟨g, hv.1⟩
              obtain ⟨cur, hcur⟩ := own_blk hown (k := g) rfl
              have hnext := own_rows (r := instMark Km) rfl hown hlt hxsI
              have hlen : (rep (instMark Km) p ++ ysI.drop (p * 12)).length = k * 12 := hown.1
              have hcell : ∀ c, c < 12 → ∃ u, wr.cell? ⟨g, p * 12 + c, none⟩ = some u := fun c hc => by
                obtain ⟨u, hu⟩ : ∃ u, (rep (instMark Km) p ++ ysI.drop (p * 12))[p * 12 + c]? = some u := ⟨_, List.getElem?_eq_getElem (by omega)⟩
                exact ⟨u, addr_add (hown.cells (g := g) rfl (p * 12 + c) u hu)⟩
              obtain ⟨u0', hu0⟩ := hcell 0 (by omega)
              obtain ⟨u1', hu1⟩ := hcell 1 (by omega)
              obtain ⟨u2', hu2⟩ := hcell 2 (by omega)
              obtain ⟨u3', hu3⟩ := hcell 3 (by omega)
              obtain ⟨u4', hu4⟩ := hcell 4 (by omega)
              obtain ⟨u5', hu5⟩ := hcell 5 (by omega)
              obtain ⟨u6', hu6⟩ := hcell 6 (by omega)
              obtain ⟨u7', hu7⟩ := hcell 7 (by omega)
              obtain ⟨u8', hu8⟩ := hcell 8 (by omega)
              obtain ⟨u9', hu9⟩ := hcell 9 (by omega)
              obtain ⟨u10', hu10⟩ := hcell 10 (by omega)
              obtain ⟨u11', hu11⟩ := hcell 11 (by omega)
              simp only [Nat.add_zero] at hu0
              have hf := hcur.frozen
              have hz := hcur.lt
              have hqi : (0 : Int) ≤ (p : Int) := by omega
              have hqj : (p : Int) < (k : Int) := by omega
              have hgB : B0 ≤ g := Nat.le_trans hB0B (hI2n g rfl).2
              have hB2 : Below B0 w0 (wr.setCells g (p * 12) (instMark Km)) := Below.setCells hgB _ _ hBr3
              have hgl : g < W2.heap.size := hlI g rfl
              have hgne : g ≠ W2.heap.size := by omega
              have hgne2 : W2.heap.size ≠ g := by omega
              have hgne3 : w.heap.size ≠ g := hw0I g rfl
              have hgne4 : g ≠ w.heap.size := Ne.symm hgne3
              clear hcell hlen bIr bRr b0r bI3 bR3 b0 hI2 hR2 hI3 hR3 hbk hv hs
              go_wp2
              go_roundw
              case rel =>
                refine ⟨p + 1, by omega, by go_num, hnext, fun j hj => ?_, ?_, hB2⟩
                · have hjg : j ≠ g := fun e => hj (by rw [e]; rfl)
                  show (wr.setCells g (p * 12) (instMark Km)).heap[j]? = _
                  exact (heap_setCells hjg _ _).trans (hfr3 j hj)
                · show (wr.setCells g (p * 12) (instMark Km)).heap.size = _
                  exact (size_setCells _ _).trans HSZ3.out
              case measure => simp [intOf]; omega
            · obtain rfl : p = k := by omega
              have hUI3 : wr.ownsRow 0 78 (instMark Km).length (.slice ia p ic) p (rep (instMark Km) p) := by rw [List.drop_eq_nil_of_le (by omega), List.append_nil] at hown; exact hown
              have hR4 : wr.ownsRow 0 83 9 (.slice ra q rc) q ysR := own_same hR3 (fun j hj => hfr3 j (fun e => hIR j e.symm hj))
              have hBr4 := hBr3
              have hfr4 := hfr3
              have hsz4 := hsz3
              clear bI3 bR3 b0 hown hI3 hR3 hI2 hR2 hfr3 hBr3 HSZ3 hsz3 hlt hxsI gm zm
              have b0 := b0r
              have bI3 := bIr
              have bR3 := bRr
              clear b0r bIr bRr
              rename World => W3
              go_wp2
              go_loopw [14] (fun i wr => ∃ e4 : Nat, e4 ≤ q ∧ i = .int .i64 e4 ∧ wr.ownsRow 0 83 9 (.slice ra q rc) q (rep (reqMark Km) e4 ++ ysR.drop (e4 * 9)) ∧ (∀ j, some j ≠ (Value.slice ra q rc).ownBlock → wr.heap[j]? = W3.heap[j]?) ∧ Hid (wr.heap.size = W3.heap.size) ∧ Below B0 w0 wr) (fun i _ => q - (intOf i).toNat)
              case atStart => exact ⟨0, Nat.zero_le _, rfl, by simpa [rep] using hR4, fun _ _ => rfl, rfl, hBr4⟩
              case round =>
                clear g0 z0
                obtain ⟨e4, hp, rfl, hown, hfr3, HSZ3, hBr3⟩ := hrel
                have hsz3 := HSZ3.out
                have b0r : Blk wr w.heap.size #[.int .i64 ck, .slice ia p ic, .slice ra q rc] 47 := by unfold Blk; rw [hfr3 _ (fun e => hw0R _ e.symm rfl)]; exact b0
                have bIr : Blk wr W2.heap.size #[.int .i64 Km, .int .i64 0, .bool false, .int .i64 0, .int .i64 0, .bool false, .int .i64 0, .int .i64 0, .int .i64 0, .int .i64 0, .int .i64 0, .slice none 0 0] 78 := by unfold Blk; rw [hfr3 _ (fun e => by have := hlR _ e.symm; omega)]; exact bI3
                have bRr : Blk wr (W2.heap.size + 1) #[.int .i64 Km, .int .i64 0, .int .i64 0, .int .i64 0, .int .i64 0, .string ⟨#[]⟩, .slice none 0 0, .int .i64 0, .bool false] 83 := by unfold Blk; rw [hfr3 _ (fun e => by have := hlR _ e.symm; omega)]; exact bR3
                have g0 := b0r.cell
                have z0 := b0r.lt
                have gm := bRr.cell
                have zm := bRr.lt
                by_cases hlt : e4 < q
                · obtain ⟨g, rfl⟩ : ∃ g, ra = some ⟨g, 0, none⟩ := by
                    rcases hown.2 with ⟨hv, h0⟩ | ⟨g, _, _, hv, _⟩
                    · omega
                    · simp only [Value.slice.injEq] at hv; exact ⟨g, hv.1⟩
                  obtain ⟨cur, hcur⟩ := own_blk hown (k := g) rfl
                  have hnext := own_rows (r := reqMark Km) rfl hown hlt hxsR
                  have hlen : (rep (reqMark Km) e4 ++ ysR.drop (e4 * 9)).length = q * 9 := hown.1
                  have hcell : ∀ c, c < 9 → ∃ u, wr.cell? ⟨g, e4 * 9 + c, none⟩ = some u := fun c hc => by
                    obtain ⟨u, hu⟩ : ∃ u, (rep (reqMark Km) e4 ++ ysR.drop (e4 * 9))[e4 * 9 + c]? = some u := ⟨_, List.getElem?_eq_getElem (by omega)⟩
                    exact ⟨u, addr_add (hown.cells (g := g) rfl (e4 * 9 + c) u hu)⟩
                  obtain ⟨u0', hu0⟩ := hcell 0 (by omega)
                  obtain ⟨u1', hu1⟩ := hcell 1 (by omega)
                  obtain ⟨u2', hu2⟩ := hcell 2 (by omega)
                  obtain ⟨u3', hu3⟩ := hcell 3 (by omega)
                  obtain ⟨u4', hu4⟩ := hcell 4 (by omega)
                  obtain ⟨u5', hu5⟩ := hcell 5 (by omega)
                  obtain ⟨u6', hu6⟩ := hcell 6 (by omega)
                  obtain ⟨u7', hu7⟩ := hcell 7 (by omega)
                  obtain ⟨u8', hu8⟩ := hcell 8 (by omega)
                  simp only [Nat.add_zero] at hu0
                  have hf := hcur.frozen
                  have hz := hcur.lt
                  have hqi : (0 : Int) ≤ (e4 : Int) := by omega
                  have hqj : (e4 : Int) < (q : Int) := by omega
                  have hgB : B0 ≤ g := Nat.le_trans hB0B (hR2n g rfl).2
                  have hB2 : Below B0 w0 (wr.setCells g (e4 * 9) (reqMark Km)) := Below.setCells hgB _ _ hBr3
                  have hgl : g < W2.heap.size := hlR g rfl
                  have hgne : g ≠ W2.heap.size + 1 := by omega
                  have hgne2 : W2.heap.size + 1 ≠ g := by omega
                  have hgne3 : w.heap.size ≠ g := hw0R g rfl
                  have hgne4 : g ≠ w.heap.size := Ne.symm hgne3
                  clear hcell hlen bIr bRr b0r bI3 bR3 b0 hR4 hUI3 hbk hv hs
                  go_wp2
                  go_roundw
                  case rel =>
                    refine ⟨e4 + 1, by omega, by go_num, hnext, fun j hj => ?_, ?_, hB2⟩
                    · have hjg : j ≠ g := fun e => hj (by rw [e]; rfl)
                      show (wr.setCells g (e4 * 9) (reqMark Km)).heap[j]? = _
                      exact (heap_setCells hjg _ _).trans (hfr3 j hj)
                    · show (wr.setCells g (e4 * 9) (reqMark Km)).heap.size = _
                      exact (size_setCells _ _).trans HSZ3.out
                  case measure => simp [intOf]; omega
                · obtain rfl : e4 = q := by omega
                  have hUR : wr.ownsRow 0 83 (reqMark Km).length (.slice ra e4 rc) e4 (rep (reqMark Km) e4) := by rw [List.drop_eq_nil_of_le (by omega), List.append_nil] at hown; exact hown
                  have hUI : wr.ownsRow 0 78 (instMark Km).length (.slice ia p ic) p (rep (instMark Km) p) := own_same hUI3 (fun j hj => hfr3 j (fun e => hIR j hj e.symm))
                  have hszU : wr.heap.size = W2.heap.size + 2 := by have := HS3.out; omega
                  have hfrU : ∀ j, j < W2.heap.size → some j ≠ (Value.slice ia p ic).ownBlock → some j ≠ (Value.slice ra e4 rc).ownBlock → wr.heap[j]? = W2.heap[j]? := fun j hj n1 n2 => ((hfr3 j n2).trans (hfr4 j n1)).trans (hq3.block j hj)
                  obtain ⟨jI, fI, fI1, fI2, fI3⟩ := info_parts (show (Tryz.prog.info? 78).map (fun i => (i.zero, i.size, i.bytes)) = some (some (.agg #[.int .i64 0, .int .i64 0, .bool false, .int .i64 0, .int .i64 0, .bool false, .int .i64 0, .int .i64 0, .int .i64 0, .int .i64 0, .int .i64 0, .slice none 0 0]), 12, 112) by kernel_rfl)
                  obtain ⟨jR, fR, fR1, fR2, fR3⟩ := info_parts (show (Tryz.prog.info? 83).map (fun i => (i.zero, i.size, i.bytes)) = some (some (.agg #[.int .i64 0, .int .i64 0, .int .i64 0, .int .i64 0, .int .i64 0, .string ⟨#[]⟩, .slice none 0 0, .int .i64 0, .bool false]), 9, 96) by kernel_rfl)
                  rename World => U
                  clear hown hlt hR4 hUI3 bI3 bR3 b0 hfr3 hfr4 hq3 gm zm hxsR
                  go_upto_region 27 with (fail)
                  go_cut [15] (fun sx wc => ∃ p1 q1 c1 p2 q2 c2 b, sx = .pointer (some ⟨b, 0, none⟩) ∧ Two (instMark Km) (reqMark Km) U wc ia p ic ra e4 rc 1 p1 q1 c1 p2 q2 c2 b)
                  case first =>
                    refine wp_region_held_drew (S := fun w2 => Blk w2 w.heap.size #[.int .i64 ck, .slice ia p ic, .slice ra e4 rc] 47 ∧ Blk w2 W2.heap.size #[.int .i64 Km, .int .i64 0, .bool false, .int .i64 0, .int .i64 0, .bool false, .int .i64 0, .int .i64 0, .int .i64 0, .int .i64 0, .int .i64 0, .slice none 0 0] 78 ∧ Blk w2 (W2.heap.size + 1) #[.int .i64 Km, .int .i64 0, .int .i64 0, .int .i64 0, .int .i64 0, .string ⟨#[]⟩, .slice none 0 0, .int .i64 0, .bool false] 83) (by kernel_rfl) ⟨b0r, bIr, bRr⟩ (fun hHeld => ?_)
                    refine wpAnyH_take (i := 0) (v := .pointer (some ⟨w.heap.size, 1, none⟩)) rfl (by kernel_rfl) (by kernel_rfl) (by kernel_rfl) (fun _ _ _ h => h) (Or.inl ⟨by rfl, ?_⟩) hHeld ?_
                    · intro w2 hSw
                      have y0 := hSw.1.cell
                      have y1 := hSw.2.1.cell
                      have y2 := hSw.2.2.cell
                      go_simp
                    simp only [List.getElem_toArray, List.getElem_cons_zero, Act.put, List.setIfInBounds_toArray, List.set_cons_zero, List.set_cons_succ]
                    refine wpAnyH_take (i := 1) (v := .slice ia p ic) rfl (by kernel_rfl) (by kernel_rfl) (by kernel_rfl) (fun _ _ _ h => h) (Or.inl ⟨by rfl, ?_⟩) hHeld ?_
                    · intro w2 hSw
                      have y0 := hSw.1.cell
                      have y1 := hSw.2.1.cell
                      have y2 := hSw.2.2.cell
                      go_simp
                    simp only [List.getElem_toArray, List.getElem_cons_zero, List.getElem_cons_succ, Act.put, List.setIfInBounds_toArray, List.set_cons_zero, List.set_cons_succ]
                    refine wpAnyH_take (i := 2) (v := .agg #[.int .i64 Km, .int .i64 0, .bool false, .int .i64 0, .int .i64 0, .bool false, .int .i64 0, .int .i64 0, .int .i64 0, .int .i64 0, .int .i64 0, .slice none 0 0]) rfl (by kernel_rfl) (by kernel_rfl) (by kernel_rfl) (fun _ _ _ h => h) (Or.inl ⟨by rfl, ?_⟩) hHeld ?_
                    · intro w2 hSw
                      have y0 := hSw.1.cell
                      have y1 := hSw.2.1.cell
                      have y2 := hSw.2.2.cell
                      go_simp
                    simp only [List.getElem_toArray, List.getElem_cons_zero, List.getElem_cons_succ, Act.put, List.setIfInBounds_toArray, List.set_cons_zero, List.set_cons_succ]
                    refine wpAnyH_take (i := 5) (v := .pointer (some ⟨w.heap.size, 2, none⟩)) rfl (by kernel_rfl) (by kernel_rfl) (by kernel_rfl) (fun _ _ _ h => h) (Or.inl ⟨by rfl, ?_⟩) hHeld ?_
                    · intro w2 hSw
                      have y0 := hSw.1.cell
                      have y1 := hSw.2.1.cell
                      have y2 := hSw.2.2.cell
                      go_simp
                    simp only [List.getElem_toArray, List.getElem_cons_zero, List.getElem_cons_succ, Act.put, List.setIfInBounds_toArray, List.set_cons_zero, List.set_cons_succ]
                    refine wpAnyH_take (i := 6) (v := .slice ra e4 rc) rfl (by kernel_rfl) (by kernel_rfl) (by kernel_rfl) (fun _ _ _ h => h) (Or.inl ⟨by rfl, ?_⟩) hHeld ?_
                    · intro w2 hSw
                      have y0 := hSw.1.cell
                      have y1 := hSw.2.1.cell
                      have y2 := hSw.2.2.cell
                      go_simp
                    simp only [List.getElem_toArray, List.getElem_cons_zero, List.getElem_cons_succ, Act.put, List.setIfInBounds_toArray, List.set_cons_zero, List.set_cons_succ]
                    refine wpAnyH_take (i := 7) (v := .agg #[.int .i64 Km, .int .i64 0, .int .i64 0, .int .i64 0, .int .i64 0, .string ⟨#[]⟩, .slice none 0 0, .int .i64 0, .bool false]) rfl (by kernel_rfl) (by kernel_rfl) (by kernel_rfl) (fun _ _ _ h => h) (Or.inl ⟨by rfl, ?_⟩) hHeld ?_
                    · intro w2 hSw
                      have y0 := hSw.1.cell
                      have y1 := hSw.2.1.cell
                      have y2 := hSw.2.2.cell
                      go_simp
                    simp only [List.getElem_toArray, List.getElem_cons_zero, List.getElem_cons_succ, Act.put, List.setIfInBounds_toArray, List.set_cons_zero, List.set_cons_succ]
                    show wpAnyH _ _ _ _ _ 7 #[true, true, true, false, false, true, true, true, false, false, false, false, false] _ _
                    refine two_appends' _ 140 141 145 146 147 15 138 143 ⟨by decide, by decide, by decide, by decide, by decide, by decide, by decide, by decide, by decide, by decide, by decide, by decide, by decide, by decide, by decide⟩ ⟨by simp, by simp, by simp, by simp, by simp, by simp⟩ ⟨by decide, by decide, by decide, by decide, by decide, by decide⟩ ⟨by decide, by decide, by decide, by decide, by decide, by decide⟩ (fun b1 b2 b3 b4 b5 b6 b7 => #[true, true, true, b1, b2, true, true, true, b3, b4, b5, b6, b7]) 3 4 8 9 10 11 12 1 (by decide) #[.int .i64 Km, .int .i64 0, .bool false, .int .i64 0, .int .i64 0, .bool false, .int .i64 0, .int .i64 0, .int .i64 0, .int .i64 0, .int .i64 0, .slice none 0 0] #[.int .i64 Km, .int .i64 0, .int .i64 0, .int .i64 0, .int .i64 0, .string ⟨#[]⟩, .slice none 0 0, .int .i64 0, .bool false] ?h7 U _ ia p ic ra e4 rc (instMark Km) (reqMark Km) rfl rfl hUI hUR rfl ?hS jI jR _ _ _ _ Tryz.underlying44 Tryz.underlying45 fI fR ⟨fI1, fI2, fI3, rfl⟩ ⟨fR1, fR2, fR3, rfl⟩ (Nat.zero_lt_succ _) (Nat.zero_lt_succ _) (fun x hx => mark_one x (.inl hx)) (fun x hx => mark_one x (.inr hx)) (by unfold maxLen; omega) (by unfold maxLen; omega) (by omega) (by omega) rfl rfl ?hend
                    case h7 =>
                      refine ⟨_, _, _, _, _, _, _, { s1 := fun _ _ _ _ _ _ _ => rfl, s2 := fun _ _ _ _ _ _ _ => rfl, s3 := fun _ _ _ _ _ _ _ => rfl, s4 := fun _ _ _ _ _ _ _ => rfl, s5 := fun _ _ _ _ _ _ _ => rfl, s6 := fun _ _ _ _ _ _ _ => rfl, s7 := fun _ _ _ _ _ _ _ => rfl, ready := okReady_spec (by kernel_rfl), done := okDone_spec (by kernel_rfl), all := by kernel_rfl, p1 := ⟨rfl, rfl, rfl⟩, p2 := ⟨rfl, rfl, rfl⟩, p3 := ⟨rfl, rfl, rfl⟩, p4 := ⟨rfl, rfl, rfl⟩, p5 := ⟨rfl, rfl, rfl⟩, p6 := ⟨rfl, rfl, rfl⟩, p7 := ⟨rfl, rfl, rfl⟩, r1 := ?r1, r2 := rfl, r3 := ?r3, r4 := rfl, r5 := ?r5, r6 := ?r6, r7 := ?r7 }⟩
                      case r1 =>
                        intro a2 w2 h
                        have e0 : a2.eval (.tmp 139) = .agg #[.int .i64 Km, .int .i64 0, .bool false, .int .i64 0, .int .i64 0, .bool false, .int .i64 0, .int .i64 0, .int .i64 0, .int .i64 0, .int .i64 0, .slice none 0 0] := h 139 (by decide) (by decide) (by decide) (by decide) (by decide) (by decide)
                        clear h
                        simp only [Act.eval, Array.getD_eq_getD_getElem?] at e0
                        simp only [List.getElem_toArray, List.getElem_cons_zero, List.getElem_cons_succ]
                        go_simp
                      case r3 =>
                        intro a2 w2 h
                        have e0 : a2.eval (.tmp 144) = .agg #[.int .i64 Km, .int .i64 0, .int .i64 0, .int .i64 0, .int .i64 0, .string ⟨#[]⟩, .slice none 0 0, .int .i64 0, .bool false] := h 144 (by decide) (by decide) (by decide) (by decide) (by decide) (by decide)
                        clear h
                        simp only [Act.eval, Array.getD_eq_getD_getElem?] at e0
                        simp only [List.getElem_toArray, List.getElem_cons_zero, List.getElem_cons_succ]
                        go_simp
                      case r5 =>
                        intro a2 w2 p1 q1 c1 p2 q2 c2 e1 e2
                        simp only [Act.eval, Array.getD_eq_getD_getElem?] at e1 e2
                        simp only [List.getElem_toArray, List.getElem_cons_zero, List.getElem_cons_succ]
                        go_simp
                      case r6 =>
                        intro a2 w2
                        simp only [List.getElem_toArray, List.getElem_cons_zero, List.getElem_cons_succ]
                        go_simp
                      case r7 =>
                        intro a2 w2 b p1 q1 c1 p2 q2 c2 e1 e2 hb
                        have y0 := hb.cell
                        have y1 := hb.frozen
                        have y2 := hb.lt
                        simp only [Act.eval, Array.getD_eq_getD_getElem?] at e1 e2
                        simp only [List.getElem_toArray, List.getElem_cons_zero, List.getElem_cons_succ]
                        go_simp
                    case hS =>
                      intro w2 h
                      exact ⟨(h _ b0r.lt (fun e => hw0I _ e.symm rfl) (fun e => hw0R _ e.symm rfl)).trans b0r, (h _ bIr.lt (fun e => by have := hlI _ e.symm; omega) (fun e => by have := hlR _ e.symm; omega)).trans bIr, (h _ bRr.lt (fun e => by have := hlI _ e.symm; omega) (fun e => by have := hlR _ e.symm; omega)).trans bRr⟩
                    case hend =>
                      intro x1 x3 x5 p1 q1 c1 p2 q2 c2 b w2 hT
                      simp only [Put6, Act.put, List.setIfInBounds_toArray, List.set_cons_zero, List.set_cons_succ]
                      go_wp2
                      go_meet
                      case rel => exact ⟨p1, q1, c1, p2, q2, c2, b, rfl, hT⟩
                  case rest =>
                    obtain ⟨pi1, qi1, ci1, pr1, qr1, cr1, x1b, rfl, T1⟩ := hcut
                    rename World => U1
                    have s1 := T1.size
                    have m1 : ∀ j, j < U.heap.size → (j < W2.heap.size → False) → U1.heap[j]? = U.heap[j]? := fun j h1 h2 => T1.fr j h1 (fun e => h2 (hlI _ e.symm)) (fun e => h2 (hlR _ e.symm))
                    replace b0r : Blk U1 w.heap.size #[.int .i64 ck, .slice ia p ic, .slice ra e4 rc] 47 := (T1.fr _ b0r.lt (fun e => hw0I _ e.symm rfl) (fun e => hw0R _ e.symm rfl)).trans b0r
                    replace bIr : Blk U1 W2.heap.size #[.int .i64 Km, .int .i64 0, .bool false, .int .i64 0, .int .i64 0, .bool false, .int .i64 0, .int .i64 0, .int .i64 0, .int .i64 0, .int .i64 0, .slice none 0 0] 78 := (m1 _ bIr.lt (by omega)).trans bIr
                    replace bRr : Blk U1 (W2.heap.size + 1) #[.int .i64 Km, .int .i64 0, .int .i64 0, .int .i64 0, .int .i64 0, .string ⟨#[]⟩, .slice none 0 0, .int .i64 0, .bool false] 83 := (m1 _ bRr.lt (by omega)).trans bRr
                    clear hUI hUR
                    have hUI := T1.ai.ownl
                    have hUR := T1.ar.ownl
                    go_upto_region 28 with (fail)
                    go_cut [16] (fun sx wc => ∃ p1 q1 c1 p2 q2 c2 b, sx = .pointer (some ⟨b, 0, none⟩) ∧ Two (instMark Km) (reqMark Km) U1 wc ia p ic ra e4 rc 2 p1 q1 c1 p2 q2 c2 b)
                    case first =>
                      refine wp_region_held_drew (S := fun w2 => Blk w2 w.heap.size #[.int .i64 ck, .slice ia p ic, .slice ra e4 rc] 47 ∧ Blk w2 W2.heap.size #[.int .i64 Km, .int .i64 0, .bool false, .int .i64 0, .int .i64 0, .bool false, .int .i64 0, .int .i64 0, .int .i64 0, .int .i64 0, .int .i64 0, .slice none 0 0] 78 ∧ Blk w2 (W2.heap.size + 1) #[.int .i64 Km, .int .i64 0, .int .i64 0, .int .i64 0, .int .i64 0, .string ⟨#[]⟩, .slice none 0 0, .int .i64 0, .bool false] 83) (by kernel_rfl) ⟨b0r, bIr, bRr⟩ (fun hHeld => ?_)
                      refine wpAnyH_take (i := 0) (v := .pointer (some ⟨w.heap.size, 1, none⟩)) rfl (by kernel_rfl) (by kernel_rfl) (by kernel_rfl) (fun _ _ _ h => h) (Or.inl ⟨by rfl, ?_⟩) hHeld ?_
                      · intro w2 hSw
                        have y0 := hSw.1.cell
                        have y1 := hSw.2.1.cell
                        have y2 := hSw.2.2.cell
                        go_simp
                      simp only [List.getElem_toArray, List.getElem_cons_zero, Act.put, List.setIfInBounds_toArray, List.set_cons_zero, List.set_cons_succ]
                      refine wpAnyH_take (i := 1) (v := .slice ia p ic) rfl (by kernel_rfl) (by kernel_rfl) (by kernel_rfl) (fun _ _ _ h => h) (Or.inl ⟨by rfl, ?_⟩) hHeld ?_
                      · intro w2 hSw
                        have y0 := hSw.1.cell
                        have y1 := hSw.2.1.cell
                        have y2 := hSw.2.2.cell
                        go_simp
                      simp only [List.getElem_toArray, List.getElem_cons_zero, List.getElem_cons_succ, Act.put, List.setIfInBounds_toArray, List.set_cons_zero, List.set_cons_succ]
                      refine wpAnyH_take (i := 2) (v := .agg #[.int .i64 Km, .int .i64 0, .bool false, .int .i64 0, .int .i64 0, .bool false, .int .i64 0, .int .i64 0, .int .i64 0, .int .i64 0, .int .i64 0, .slice none 0 0]) rfl (by kernel_rfl) (by kernel_rfl) (by kernel_rfl) (fun _ _ _ h => h) (Or.inl ⟨by rfl, ?_⟩) hHeld ?_
                      · intro w2 hSw
                        have y0 := hSw.1.cell
                        have y1 := hSw.2.1.cell
                        have y2 := hSw.2.2.cell
                        go_simp
                      simp only [List.getElem_toArray, List.getElem_cons_zero, List.getElem_cons_succ, Act.put, List.setIfInBounds_toArray, List.set_cons_zero, List.set_cons_succ]
                      refine wpAnyH_take (i := 3) (v := .agg #[.int .i64 Km, .int .i64 0, .bool false, .int .i64 0, .int .i64 0, .bool false, .int .i64 0, .int .i64 0, .int .i64 0, .int .i64 0, .int .i64 0, .slice none 0 0]) rfl (by kernel_rfl) (by kernel_rfl) (by kernel_rfl) (fun _ _ _ h => h) (Or.inl ⟨by rfl, ?_⟩) hHeld ?_
                      · intro w2 hSw
                        have y0 := hSw.1.cell
                        have y1 := hSw.2.1.cell
                        have y2 := hSw.2.2.cell
                        go_simp
                      simp only [List.getElem_toArray, List.getElem_cons_zero, List.getElem_cons_succ, Act.put, List.setIfInBounds_toArray, List.set_cons_zero, List.set_cons_succ]
                      refine wpAnyH_take (i := 6) (v := .pointer (some ⟨w.heap.size, 2, none⟩)) rfl (by kernel_rfl) (by kernel_rfl) (by kernel_rfl) (fun _ _ _ h => h) (Or.inl ⟨by rfl, ?_⟩) hHeld ?_
                      · intro w2 hSw
                        have y0 := hSw.1.cell
                        have y1 := hSw.2.1.cell
                        have y2 := hSw.2.2.cell
                        go_simp
                      simp only [List.getElem_toArray, List.getElem_cons_zero, List.getElem_cons_succ, Act.put, List.setIfInBounds_toArray, List.set_cons_zero, List.set_cons_succ]
                      refine wpAnyH_take (i := 7) (v := .slice ra e4 rc) rfl (by kernel_rfl) (by kernel_rfl) (by kernel_rfl) (fun _ _ _ h => h) (Or.inl ⟨by rfl, ?_⟩) hHeld ?_
                      · intro w2 hSw
                        have y0 := hSw.1.cell
                        have y1 := hSw.2.1.cell
                        have y2 := hSw.2.2.cell
                        go_simp
                      simp only [List.getElem_toArray, List.getElem_cons_zero, List.getElem_cons_succ, Act.put, List.setIfInBounds_toArray, List.set_cons_zero, List.set_cons_succ]
                      refine wpAnyH_take (i := 8) (v := .agg #[.int .i64 Km, .int .i64 0, .int .i64 0, .int .i64 0, .int .i64 0, .string ⟨#[]⟩, .slice none 0 0, .int .i64 0, .bool false]) rfl (by kernel_rfl) (by kernel_rfl) (by kernel_rfl) (fun _ _ _ h => h) (Or.inl ⟨by rfl, ?_⟩) hHeld ?_
                      · intro w2 hSw
                        have y0 := hSw.1.cell
                        have y1 := hSw.2.1.cell
                        have y2 := hSw.2.2.cell
                        go_simp
                      simp only [List.getElem_toArray, List.getElem_cons_zero, List.getElem_cons_succ, Act.put, List.setIfInBounds_toArray, List.set_cons_zero, List.set_cons_succ]
                      refine wpAnyH_take (i := 9) (v := .agg #[.int .i64 Km, .int .i64 0, .int .i64 0, .int .i64 0, .int .i64 0, .string ⟨#[]⟩, .slice none 0 0, .int .i64 0, .bool false]) rfl (by kernel_rfl) (by kernel_rfl) (by kernel_rfl) (fun _ _ _ h => h) (Or.inl ⟨by rfl, ?_⟩) hHeld ?_
                      · intro w2 hSw
                        have y0 := hSw.1.cell
                        have y1 := hSw.2.1.cell
                        have y2 := hSw.2.2.cell
                        go_simp
                      simp only [List.getElem_toArray, List.getElem_cons_zero, List.getElem_cons_succ, Act.put, List.setIfInBounds_toArray, List.set_cons_zero, List.set_cons_succ]
                      show wpAnyH _ _ _ _ _ 7 #[true, true, true, true, false, false, true, true, true, true, false, false, false, false, false] _ _
                      refine two_appends' _ 152 153 158 159 160 16 149 155 ⟨by decide, by decide, by decide, by decide, by decide, by decide, by decide, by decide, by decide, by decide, by decide, by decide, by decide, by decide, by decide⟩ ⟨by simp, by simp, by simp, by simp, by simp, by simp⟩ ⟨by decide, by decide, by decide, by decide, by decide, by decide⟩ ⟨by decide, by decide, by decide, by decide, by decide, by decide⟩ (fun b1 b2 b3 b4 b5 b6 b7 => #[true, true, true, true, b1, b2, true, true, true, true, b3, b4, b5, b6, b7]) 4 5 10 11 12 13 14 2 (by decide) #[.int .i64 Km, .int .i64 0, .bool false, .int .i64 0, .int .i64 0, .bool false, .int .i64 0, .int .i64 0, .int .i64 0, .int .i64 0, .int .i64 0, .slice none 0 0, .int .i64 Km, .int .i64 0, .bool false, .int .i64 0, .int .i64 0, .bool false, .int .i64 0, .int .i64 0, .int .i64 0, .int .i64 0, .int .i64 0, .slice none 0 0] #[.int .i64 Km, .int .i64 0, .int .i64 0, .int .i64 0, .int .i64 0, .string ⟨#[]⟩, .slice none 0 0, .int .i64 0, .bool false, .int .i64 Km, .int .i64 0, .int .i64 0, .int .i64 0, .int .i64 0, .string ⟨#[]⟩, .slice none 0 0, .int .i64 0, .bool false] ?h7 U1 _ ia p ic ra e4 rc (instMark Km) (reqMark Km) rfl rfl hUI hUR rfl ?hS jI jR _ _ _ _ Tryz.underlying44 Tryz.underlying45 fI fR ⟨fI1, fI2, fI3, rfl⟩ ⟨fR1, fR2, fR3, rfl⟩ (Nat.zero_lt_succ _) (Nat.zero_lt_succ _) (fun x hx => mark_one x (.inl hx)) (fun x hx => mark_one x (.inr hx)) (by unfold maxLen; omega) (by unfold maxLen; omega) (by omega) (by omega) rfl rfl ?hend
                      case h7 =>
                        refine ⟨_, _, _, _, _, _, _, { s1 := fun _ _ _ _ _ _ _ => rfl, s2 := fun _ _ _ _ _ _ _ => rfl, s3 := fun _ _ _ _ _ _ _ => rfl, s4 := fun _ _ _ _ _ _ _ => rfl, s5 := fun _ _ _ _ _ _ _ => rfl, s6 := fun _ _ _ _ _ _ _ => rfl, s7 := fun _ _ _ _ _ _ _ => rfl, ready := okReady_spec (by kernel_rfl), done := okDone_spec (by kernel_rfl), all := by kernel_rfl, p1 := ⟨rfl, rfl, rfl⟩, p2 := ⟨rfl, rfl, rfl⟩, p3 := ⟨rfl, rfl, rfl⟩, p4 := ⟨rfl, rfl, rfl⟩, p5 := ⟨rfl, rfl, rfl⟩, p6 := ⟨rfl, rfl, rfl⟩, p7 := ⟨rfl, rfl, rfl⟩, r1 := ?r1, r2 := rfl, r3 := ?r3, r4 := rfl, r5 := ?r5, r6 := ?r6, r7 := ?r7 }⟩
                        case r1 =>
                          intro a2 w2 h
                          have e0 : a2.eval (.tmp 150) = .agg #[.int .i64 Km, .int .i64 0, .bool false, .int .i64 0, .int .i64 0, .bool false, .int .i64 0, .int .i64 0, .int .i64 0, .int .i64 0, .int .i64 0, .slice none 0 0] := h 150 (by decide) (by decide) (by decide) (by decide) (by decide) (by decide)
                          have e1 : a2.eval (.tmp 151) = .agg #[.int .i64 Km, .int .i64 0, .bool false, .int .i64 0, .int .i64 0, .bool false, .int .i64 0, .int .i64 0, .int .i64 0, .int .i64 0, .int .i64 0, .slice none 0 0] := h 151 (by decide) (by decide) (by decide) (by decide) (by decide) (by decide)
                          clear h
                          simp only [Act.eval, Array.getD_eq_getD_getElem?] at e0 e1
                          simp only [List.getElem_toArray, List.getElem_cons_zero, List.getElem_cons_succ]
                          go_simp
                        case r3 =>
                          intro a2 w2 h
                          have e0 : a2.eval (.tmp 156) = .agg #[.int .i64 Km, .int .i64 0, .int .i64 0, .int .i64 0, .int .i64 0, .string ⟨#[]⟩, .slice none 0 0, .int .i64 0, .bool false] := h 156 (by decide) (by decide) (by decide) (by decide) (by decide) (by decide)
                          have e1 : a2.eval (.tmp 157) = .agg #[.int .i64 Km, .int .i64 0, .int .i64 0, .int .i64 0, .int .i64 0, .string ⟨#[]⟩, .slice none 0 0, .int .i64 0, .bool false] := h 157 (by decide) (by decide) (by decide) (by decide) (by decide) (by decide)
                          clear h
                          simp only [Act.eval, Array.getD_eq_getD_getElem?] at e0 e1
                          simp only [List.getElem_toArray, List.getElem_cons_zero, List.getElem_cons_succ]
                          go_simp
                        case r5 =>
                          intro a2 w2 p1 q1 c1 p2 q2 c2 e1 e2
                          simp only [Act.eval, Array.getD_eq_getD_getElem?] at e1 e2
                          simp only [List.getElem_toArray, List.getElem_cons_zero, List.getElem_cons_succ]
                          go_simp
                        case r6 =>
                          intro a2 w2
                          simp only [List.getElem_toArray, List.getElem_cons_zero, List.getElem_cons_succ]
                          go_simp
                        case r7 =>
                          intro a2 w2 b p1 q1 c1 p2 q2 c2 e1 e2 hb
                          have y0 := hb.cell
                          have y1 := hb.frozen
                          have y2 := hb.lt
                          simp only [Act.eval, Array.getD_eq_getD_getElem?] at e1 e2
                          simp only [List.getElem_toArray, List.getElem_cons_zero, List.getElem_cons_succ]
                          go_simp
                      case hS =>
                        intro w2 h
                        exact ⟨(h _ b0r.lt (fun e => hw0I _ e.symm rfl) (fun e => hw0R _ e.symm rfl)).trans b0r, (h _ bIr.lt (fun e => by have := hlI _ e.symm; omega) (fun e => by have := hlR _ e.symm; omega)).trans bIr, (h _ bRr.lt (fun e => by have := hlI _ e.symm; omega) (fun e => by have := hlR _ e.symm; omega)).trans bRr⟩
                      case hend =>
                        intro x1 x3 x5 p1 q1 c1 p2 q2 c2 b w2 hT
                        simp only [Put6, Act.put, List.setIfInBounds_toArray, List.set_cons_zero, List.set_cons_succ]
                        go_wp2
                        go_meet
                        case rel => exact ⟨p1, q1, c1, p2, q2, c2, b, rfl, hT⟩
                    case rest =>
                      obtain ⟨pi2, qi2, ci2, pr2, qr2, cr2, x2b, rfl, T2⟩ := hcut
                      rename World => U2
                      have s2 := T2.size
                      have m2 : ∀ j, j < U1.heap.size → (j < W2.heap.size → False) → U2.heap[j]? = U1.heap[j]? := fun j h1 h2 => T2.fr j h1 (fun e => h2 (hlI _ e.symm)) (fun e => h2 (hlR _ e.symm))
                      replace b0r : Blk U2 w.heap.size #[.int .i64 ck, .slice ia p ic, .slice ra e4 rc] 47 := (T2.fr _ b0r.lt (fun e => hw0I _ e.symm rfl) (fun e => hw0R _ e.symm rfl)).trans b0r
                      replace bIr : Blk U2 W2.heap.size #[.int .i64 Km, .int .i64 0, .bool false, .int .i64 0, .int .i64 0, .bool false, .int .i64 0, .int .i64 0, .int .i64 0, .int .i64 0, .int .i64 0, .slice none 0 0] 78 := (m2 _ bIr.lt (by omega)).trans bIr
                      replace bRr : Blk U2 (W2.heap.size + 1) #[.int .i64 Km, .int .i64 0, .int .i64 0, .int .i64 0, .int .i64 0, .string ⟨#[]⟩, .slice none 0 0, .int .i64 0, .bool false] 83 := (m2 _ bRr.lt (by omega)).trans bRr
                      clear hUI hUR
                      have hUI := T2.ai.ownl
                      have hUR := T2.ar.ownl
                      go_upto_region 29 with (fail)
                      go_cut [17] (fun sx wc => ∃ p1 q1 c1 p2 q2 c2 b, sx = .pointer (some ⟨b, 0, none⟩) ∧ Two (instMark Km) (reqMark Km) U2 wc ia p ic ra e4 rc 3 p1 q1 c1 p2 q2 c2 b)
                      case first =>
                        refine wp_region_held_drew (S := fun w2 => Blk w2 w.heap.size #[.int .i64 ck, .slice ia p ic, .slice ra e4 rc] 47 ∧ Blk w2 W2.heap.size #[.int .i64 Km, .int .i64 0, .bool false, .int .i64 0, .int .i64 0, .bool false, .int .i64 0, .int .i64 0, .int .i64 0, .int .i64 0, .int .i64 0, .slice none 0 0] 78 ∧ Blk w2 (W2.heap.size + 1) #[.int .i64 Km, .int .i64 0, .int .i64 0, .int .i64 0, .int .i64 0, .string ⟨#[]⟩, .slice none 0 0, .int .i64 0, .bool false] 83) (by kernel_rfl) ⟨b0r, bIr, bRr⟩ (fun hHeld => ?_)
                        refine wpAnyH_take (i := 0) (v := .pointer (some ⟨w.heap.size, 1, none⟩)) rfl (by kernel_rfl) (by kernel_rfl) (by kernel_rfl) (fun _ _ _ h => h) (Or.inl ⟨by rfl, ?_⟩) hHeld ?_
                        · intro w2 hSw
                          have y0 := hSw.1.cell
                          have y1 := hSw.2.1.cell
                          have y2 := hSw.2.2.cell
                          go_simp
                        simp only [List.getElem_toArray, List.getElem_cons_zero, Act.put, List.setIfInBounds_toArray, List.set_cons_zero, List.set_cons_succ]
                        refine wpAnyH_take (i := 1) (v := .slice ia p ic) rfl (by kernel_rfl) (by kernel_rfl) (by kernel_rfl) (fun _ _ _ h => h) (Or.inl ⟨by rfl, ?_⟩) hHeld ?_
                        · intro w2 hSw
                          have y0 := hSw.1.cell
                          have y1 := hSw.2.1.cell
                          have y2 := hSw.2.2.cell
                          go_simp
                        simp only [List.getElem_toArray, List.getElem_cons_zero, List.getElem_cons_succ, Act.put, List.setIfInBounds_toArray, List.set_cons_zero, List.set_cons_succ]
                        refine wpAnyH_take (i := 2) (v := .agg #[.int .i64 Km, .int .i64 0, .bool false, .int .i64 0, .int .i64 0, .bool false, .int .i64 0, .int .i64 0, .int .i64 0, .int .i64 0, .int .i64 0, .slice none 0 0]) rfl (by kernel_rfl) (by kernel_rfl) (by kernel_rfl) (fun _ _ _ h => h) (Or.inl ⟨by rfl, ?_⟩) hHeld ?_
                        · intro w2 hSw
                          have y0 := hSw.1.cell
                          have y1 := hSw.2.1.cell
                          have y2 := hSw.2.2.cell
                          go_simp
                        simp only [List.getElem_toArray, List.getElem_cons_zero, List.getElem_cons_succ, Act.put, List.setIfInBounds_toArray, List.set_cons_zero, List.set_cons_succ]
                        refine wpAnyH_take (i := 3) (v := .agg #[.int .i64 Km, .int .i64 0, .bool false, .int .i64 0, .int .i64 0, .bool false, .int .i64 0, .int .i64 0, .int .i64 0, .int .i64 0, .int .i64 0, .slice none 0 0]) rfl (by kernel_rfl) (by kernel_rfl) (by kernel_rfl) (fun _ _ _ h => h) (Or.inl ⟨by rfl, ?_⟩) hHeld ?_
                        · intro w2 hSw
                          have y0 := hSw.1.cell
                          have y1 := hSw.2.1.cell
                          have y2 := hSw.2.2.cell
                          go_simp
                        simp only [List.getElem_toArray, List.getElem_cons_zero, List.getElem_cons_succ, Act.put, List.setIfInBounds_toArray, List.set_cons_zero, List.set_cons_succ]
                        refine wpAnyH_take (i := 4) (v := .agg #[.int .i64 Km, .int .i64 0, .bool false, .int .i64 0, .int .i64 0, .bool false, .int .i64 0, .int .i64 0, .int .i64 0, .int .i64 0, .int .i64 0, .slice none 0 0]) rfl (by kernel_rfl) (by kernel_rfl) (by kernel_rfl) (fun _ _ _ h => h) (Or.inl ⟨by rfl, ?_⟩) hHeld ?_
                        · intro w2 hSw
                          have y0 := hSw.1.cell
                          have y1 := hSw.2.1.cell
                          have y2 := hSw.2.2.cell
                          go_simp
                        simp only [List.getElem_toArray, List.getElem_cons_zero, List.getElem_cons_succ, Act.put, List.setIfInBounds_toArray, List.set_cons_zero, List.set_cons_succ]
                        refine wpAnyH_take (i := 7) (v := .pointer (some ⟨w.heap.size, 2, none⟩)) rfl (by kernel_rfl) (by kernel_rfl) (by kernel_rfl) (fun _ _ _ h => h) (Or.inl ⟨by rfl, ?_⟩) hHeld ?_
                        · intro w2 hSw
                          have y0 := hSw.1.cell
                          have y1 := hSw.2.1.cell
                          have y2 := hSw.2.2.cell
                          go_simp
                        simp only [List.getElem_toArray, List.getElem_cons_zero, List.getElem_cons_succ, Act.put, List.setIfInBounds_toArray, List.set_cons_zero, List.set_cons_succ]
                        refine wpAnyH_take (i := 8) (v := .slice ra e4 rc) rfl (by kernel_rfl) (by kernel_rfl) (by kernel_rfl) (fun _ _ _ h => h) (Or.inl ⟨by rfl, ?_⟩) hHeld ?_
                        · intro w2 hSw
                          have y0 := hSw.1.cell
                          have y1 := hSw.2.1.cell
                          have y2 := hSw.2.2.cell
                          go_simp
                        simp only [List.getElem_toArray, List.getElem_cons_zero, List.getElem_cons_succ, Act.put, List.setIfInBounds_toArray, List.set_cons_zero, List.set_cons_succ]
                        refine wpAnyH_take (i := 9) (v := .agg #[.int .i64 Km, .int .i64 0, .int .i64 0, .int .i64 0, .int .i64 0, .string ⟨#[]⟩, .slice none 0 0, .int .i64 0, .bool false]) rfl (by kernel_rfl) (by kernel_rfl) (by kernel_rfl) (fun _ _ _ h => h) (Or.inl ⟨by rfl, ?_⟩) hHeld ?_
                        · intro w2 hSw
                          have y0 := hSw.1.cell
                          have y1 := hSw.2.1.cell
                          have y2 := hSw.2.2.cell
                          go_simp
                        simp only [List.getElem_toArray, List.getElem_cons_zero, List.getElem_cons_succ, Act.put, List.setIfInBounds_toArray, List.set_cons_zero, List.set_cons_succ]
                        refine wpAnyH_take (i := 10) (v := .agg #[.int .i64 Km, .int .i64 0, .int .i64 0, .int .i64 0, .int .i64 0, .string ⟨#[]⟩, .slice none 0 0, .int .i64 0, .bool false]) rfl (by kernel_rfl) (by kernel_rfl) (by kernel_rfl) (fun _ _ _ h => h) (Or.inl ⟨by rfl, ?_⟩) hHeld ?_
                        · intro w2 hSw
                          have y0 := hSw.1.cell
                          have y1 := hSw.2.1.cell
                          have y2 := hSw.2.2.cell
                          go_simp
                        simp only [List.getElem_toArray, List.getElem_cons_zero, List.getElem_cons_succ, Act.put, List.setIfInBounds_toArray, List.set_cons_zero, List.set_cons_succ]
                        refine wpAnyH_take (i := 11) (v := .agg #[.int .i64 Km, .int .i64 0, .int .i64 0, .int .i64 0, .int .i64 0, .string ⟨#[]⟩, .slice none 0 0, .int .i64 0, .bool false]) rfl (by kernel_rfl) (by kernel_rfl) (by kernel_rfl) (fun _ _ _ h => h) (Or.inl ⟨by rfl, ?_⟩) hHeld ?_
                        · intro w2 hSw
                          have y0 := hSw.1.cell
                          have y1 := hSw.2.1.cell
                          have y2 := hSw.2.2.cell
                          go_simp
                        simp only [List.getElem_toArray, List.getElem_cons_zero, List.getElem_cons_succ, Act.put, List.setIfInBounds_toArray, List.set_cons_zero, List.set_cons_succ]
                        show wpAnyH _ _ _ _ _ 7 #[true, true, true, true, true, false, false, true, true, true, true, true, false, false, false, false, false] _ _
                        refine two_appends' _ 166 167 173 174 175 17 162 169 ⟨by decide, by decide, by decide, by decide, by decide, by decide, by decide, by decide, by decide, by decide, by decide, by decide, by decide, by decide, by decide⟩ ⟨by simp, by simp, by simp, by simp, by simp, by simp⟩ ⟨by decide, by decide, by decide, by decide, by decide, by decide⟩ ⟨by decide, by decide, by decide, by decide, by decide, by decide⟩ (fun b1 b2 b3 b4 b5 b6 b7 => #[true, true, true, true, true, b1, b2, true, true, true, true, true, b3, b4, b5, b6, b7]) 5 6 12 13 14 15 16 3 (by decide) #[.int .i64 Km, .int .i64 0, .bool false, .int .i64 0, .int .i64 0, .bool false, .int .i64 0, .int .i64 0, .int .i64 0, .int .i64 0, .int .i64 0, .slice none 0 0, .int .i64 Km, .int .i64 0, .bool false, .int .i64 0, .int .i64 0, .bool false, .int .i64 0, .int .i64 0, .int .i64 0, .int .i64 0, .int .i64 0, .slice none 0 0, .int .i64 Km, .int .i64 0, .bool false, .int .i64 0, .int .i64 0, .bool false, .int .i64 0, .int .i64 0, .int .i64 0, .int .i64 0, .int .i64 0, .slice none 0 0] #[.int .i64 Km, .int .i64 0, .int .i64 0, .int .i64 0, .int .i64 0, .string ⟨#[]⟩, .slice none 0 0, .int .i64 0, .bool false, .int .i64 Km, .int .i64 0, .int .i64 0, .int .i64 0, .int .i64 0, .string ⟨#[]⟩, .slice none 0 0, .int .i64 0, .bool false, .int .i64 Km, .int .i64 0, .int .i64 0, .int .i64 0, .int .i64 0, .string ⟨#[]⟩, .slice none 0 0, .int .i64 0, .bool false] ?h7 U2 _ ia p ic ra e4 rc (instMark Km) (reqMark Km) rfl rfl hUI hUR rfl ?hS jI jR _ _ _ _ Tryz.underlying44 Tryz.underlying45 fI fR ⟨fI1, fI2, fI3, rfl⟩ ⟨fR1, fR2, fR3, rfl⟩ (Nat.zero_lt_succ _) (Nat.zero_lt_succ _) (fun x hx => mark_one x (.inl hx)) (fun x hx => mark_one x (.inr hx)) (by unfold maxLen; omega) (by unfold maxLen; omega) (by omega) (by omega) rfl rfl ?hend
                        case h7 =>
                          refine ⟨_, _, _, _, _, _, _, { s1 := fun _ _ _ _ _ _ _ => rfl, s2 := fun _ _ _ _ _ _ _ => rfl, s3 := fun _ _ _ _ _ _ _ => rfl, s4 := fun _ _ _ _ _ _ _ => rfl, s5 := fun _ _ _ _ _ _ _ => rfl, s6 := fun _ _ _ _ _ _ _ => rfl, s7 := fun _ _ _ _ _ _ _ => rfl, ready := okReady_spec (by kernel_rfl), done := okDone_spec (by kernel_rfl), all := by kernel_rfl, p1 := ⟨rfl, rfl, rfl⟩, p2 := ⟨rfl, rfl, rfl⟩, p3 := ⟨rfl, rfl, rfl⟩, p4 := ⟨rfl, rfl, rfl⟩, p5 := ⟨rfl, rfl, rfl⟩, p6 := ⟨rfl, rfl, rfl⟩, p7 := ⟨rfl, rfl, rfl⟩, r1 := ?r1, r2 := rfl, r3 := ?r3, r4 := rfl, r5 := ?r5, r6 := ?r6, r7 := ?r7 }⟩
                          case r1 =>
                            intro a2 w2 h
                            have e0 : a2.eval (.tmp 163) = .agg #[.int .i64 Km, .int .i64 0, .bool false, .int .i64 0, .int .i64 0, .bool false, .int .i64 0, .int .i64 0, .int .i64 0, .int .i64 0, .int .i64 0, .slice none 0 0] := h 163 (by decide) (by decide) (by decide) (by decide) (by decide) (by decide)
                            have e1 : a2.eval (.tmp 164) = .agg #[.int .i64 Km, .int .i64 0, .bool false, .int .i64 0, .int .i64 0, .bool false, .int .i64 0, .int .i64 0, .int .i64 0, .int .i64 0, .int .i64 0, .slice none 0 0] := h 164 (by decide) (by decide) (by decide) (by decide) (by decide) (by decide)
                            have e2 : a2.eval (.tmp 165) = .agg #[.int .i64 Km, .int .i64 0, .bool false, .int .i64 0, .int .i64 0, .bool false, .int .i64 0, .int .i64 0, .int .i64 0, .int .i64 0, .int .i64 0, .slice none 0 0] := h 165 (by decide) (by decide) (by decide) (by decide) (by decide) (by decide)
                            clear h
                            simp only [Act.eval, Array.getD_eq_getD_getElem?] at e0 e1 e2
                            simp only [List.getElem_toArray, List.getElem_cons_zero, List.getElem_cons_succ]
                            go_simp
                          case r3 =>
                            intro a2 w2 h
                            have e0 : a2.eval (.tmp 170) = .agg #[.int .i64 Km, .int .i64 0, .int .i64 0, .int .i64 0, .int .i64 0, .string ⟨#[]⟩, .slice none 0 0, .int .i64 0, .bool false] := h 170 (by decide) (by decide) (by decide) (by decide) (by decide) (by decide)
                            have e1 : a2.eval (.tmp 171) = .agg #[.int .i64 Km, .int .i64 0, .int .i64 0, .int .i64 0, .int .i64 0, .string ⟨#[]⟩, .slice none 0 0, .int .i64 0, .bool false] := h 171 (by decide) (by decide) (by decide) (by decide) (by decide) (by decide)
                            have e2 : a2.eval (.tmp 172) = .agg #[.int .i64 Km, .int .i64 0, .int .i64 0, .int .i64 0, .int .i64 0, .string ⟨#[]⟩, .slice none 0 0, .int .i64 0, .bool false] := h 172 (by decide) (by decide) (by decide) (by decide) (by decide) (by decide)
                            clear h
                            simp only [Act.eval, Array.getD_eq_getD_getElem?] at e0 e1 e2
                            simp only [List.getElem_toArray, List.getElem_cons_zero, List.getElem_cons_succ]
                            go_simp
                          case r5 =>
                            intro a2 w2 p1 q1 c1 p2 q2 c2 e1 e2
                            simp only [Act.eval, Array.getD_eq_getD_getElem?] at e1 e2
                            simp only [List.getElem_toArray, List.getElem_cons_zero, List.getElem_cons_succ]
                            go_simp
                          case r6 =>
                            intro a2 w2
                            simp only [List.getElem_toArray, List.getElem_cons_zero, List.getElem_cons_succ]
                            go_simp
                          case r7 =>
                            intro a2 w2 b p1 q1 c1 p2 q2 c2 e1 e2 hb
                            have y0 := hb.cell
                            have y1 := hb.frozen
                            have y2 := hb.lt
                            simp only [Act.eval, Array.getD_eq_getD_getElem?] at e1 e2
                            simp only [List.getElem_toArray, List.getElem_cons_zero, List.getElem_cons_succ]
                            go_simp
                        case hS =>
                          intro w2 h
                          exact ⟨(h _ b0r.lt (fun e => hw0I _ e.symm rfl) (fun e => hw0R _ e.symm rfl)).trans b0r, (h _ bIr.lt (fun e => by have := hlI _ e.symm; omega) (fun e => by have := hlR _ e.symm; omega)).trans bIr, (h _ bRr.lt (fun e => by have := hlI _ e.symm; omega) (fun e => by have := hlR _ e.symm; omega)).trans bRr⟩
                        case hend =>
                          intro x1 x3 x5 p1 q1 c1 p2 q2 c2 b w2 hT
                          simp only [Put6, Act.put, List.setIfInBounds_toArray, List.set_cons_zero, List.set_cons_succ]
                          go_wp2
                          go_meet
                          case rel => exact ⟨p1, q1, c1, p2, q2, c2, b, rfl, hT⟩
                      case rest =>
                        obtain ⟨pi3, qi3, ci3, pr3, qr3, cr3, x3b, rfl, T3⟩ := hcut
                        rename World => U3
                        have s3 := T3.size
                        have m3 : ∀ j, j < U2.heap.size → (j < W2.heap.size → False) → U3.heap[j]? = U2.heap[j]? := fun j h1 h2 => T3.fr j h1 (fun e => h2 (hlI _ e.symm)) (fun e => h2 (hlR _ e.symm))
                        replace b0r : Blk U3 w.heap.size #[.int .i64 ck, .slice ia p ic, .slice ra e4 rc] 47 := (T3.fr _ b0r.lt (fun e => hw0I _ e.symm rfl) (fun e => hw0R _ e.symm rfl)).trans b0r
                        replace bIr : Blk U3 W2.heap.size #[.int .i64 Km, .int .i64 0, .bool false, .int .i64 0, .int .i64 0, .bool false, .int .i64 0, .int .i64 0, .int .i64 0, .int .i64 0, .int .i64 0, .slice none 0 0] 78 := (m3 _ bIr.lt (by omega)).trans bIr
                        replace bRr : Blk U3 (W2.heap.size + 1) #[.int .i64 Km, .int .i64 0, .int .i64 0, .int .i64 0, .int .i64 0, .string ⟨#[]⟩, .slice none 0 0, .int .i64 0, .bool false] 83 := (m3 _ bRr.lt (by omega)).trans bRr
                        clear hUI hUR
                        have hUI := T3.ai.ownl
                        have hUR := T3.ar.ownl
                        have bx1 : Blk U3 x1b #[.int .i64 0, .slice pi1 qi1 ci1, .slice pr1 qr1 cr1] 47 := (m3 _ (by have := T1.blk.lt; omega) (by have := T1.new; omega)).trans ((m2 _ T1.blk.lt (by have := T1.new; omega)).trans T1.blk)
                        have bx2 : Blk U3 x2b #[.int .i64 0, .slice pi2 qi2 ci2, .slice pr2 qr2 cr2] 47 := (m3 _ T2.blk.lt (by have := T2.new; omega)).trans T2.blk
                        have bx3 : Blk U3 x3b #[.int .i64 0, .slice pi3 qi3 ci3, .slice pr3 qr3 cr3] 47 := T3.blk
                        have hkeep : ∀ j, S2 j → U3.heap[j]? = W2.heap[j]? := fun j hj => by
                          have hj2 := hlt2 j hj
                          have n1 : some j ≠ (Value.slice ia p ic).ownBlock := fun e => (hI2n j e.symm).1 hj
                          have n2 : some j ≠ (Value.slice ra e4 rc).ownBlock := fun e => (hR2n j e.symm).1 hj
                          rw [T3.fr j (by omega) n1 n2, T2.fr j (by omega) n1 n2, T1.fr j (by omega) n1 n2, hfrU j hj2 n1 n2]
                        have hfrB : ∀ j, j < B → ¬ S j → U3.heap[j]? = w.heap[j]? := fun j hj hn => by
                          have hj2 : j < W2.heap.size := by omega
                          have n1 : some j ≠ (Value.slice ia p ic).ownBlock := fun e => by have := (hI2n j e.symm).2; omega
                          have n2 : some j ≠ (Value.slice ra e4 rc).ownBlock := fun e => by have := (hR2n j e.symm).2; omega
                          rw [T3.fr j (by omega) n1 n2, T2.fr j (by omega) n1 n2, T1.fr j (by omega) n1 n2, hfrU j hj2 n1 n2, hfrW j hj hn]
                        have hB03 : Below B0 w0 U3 := by
                          have l1 : ∀ j, (Value.slice ia p ic).ownBlock = some j → B0 ≤ j := fun j hj => Nat.le_trans hB0B (hI2n j hj).2
                          have l2 : ∀ j, (Value.slice ra e4 rc).ownBlock = some j → B0 ≤ j := fun j hj => Nat.le_trans hB0B (hR2n j hj).2
                          exact T3.bel _ _ (T2.bel _ _ (T1.bel _ _ hBr3 l1 l2 (by omega)) l1 l2 (by omega)) l1 l2 (by omega)
                        have FI := four_aft (w := W2) T1.ai T2.ai T3.ai (fun j h1 h2 => m2 j h1 (by omega)) (fun j h1 h2 => m3 j h1 (by omega)) s1 s2 (by omega)
                        have FR := four_aft (w := W2) T1.ar T2.ar T3.ar (fun j h1 h2 => m2 j h1 (by omega)) (fun j h1 h2 => m3 j h1 (by omega)) s1 s2 (by omega)
                        rw [← HK.out] at FI FR
                        have hpb3 : Blk U3 pb #[.slice la NL lc, .slice ba NB bc, .slice aa NA ac, .slice wa NW wwc] 34 := (hkeep pb hs.1).trans hbk.blk
                        have hw3 : U3.ownsRow 0 47 3 (.slice wa NW wwc) NW (ws.map fun x => [Value.int .i64 x.1, x.2.1, x.2.2]).flatten := own_same hbk.wown fun j hj => hkeep j (hs.2.2.2.2 j hj)
                        obtain ⟨jW, fW, fW1, fW2, fW3⟩ := info_parts (show (Tryz.prog.info? 47).map (fun i => (i.zero, i.size, i.bytes)) = some (some (.agg #[.int .i64 0, .slice none 0 0, .slice none 0 0]), 3, 56) by kernel_rfl)
                        have hqX : Quiet U3 (U3.drew.alloc (.cells #[.int .i64 ck, .slice ia p ic, .slice ra e4 rc, .int .i64 0, .slice pi1 qi1 ci1, .slice pr1 qr1 cr1, .int .i64 0, .slice pi2 qi2 ci2, .slice pr2 qr2 cr2, .int .i64 0, .slice pi3 qi3 ci3, .slice pr3 qr3 cr3] 47)) := Below.alloc (Below.drew (Below.refl _ _)) (Nat.le_refl _) _
                        obtain ⟨X, HX⟩ : ∃ X, Hid (U3.drew.alloc (.cells #[.int .i64 ck, .slice ia p ic, .slice ra e4 rc, .int .i64 0, .slice pi1 qi1 ci1, .slice pr1 qr1 cr1, .int .i64 0, .slice pi2 qi2 ci2, .slice pr2 qr2 cr2, .int .i64 0, .slice pi3 qi3 ci3, .slice pr3 qr3 cr3] 47) = X) := ⟨_, rfl⟩
                        rw [HX.out] at hqX
                        have hXs : X.heap.size = U3.heap.size + 1 := by rw [← HX.out]; simp
                        obtain ⟨v4, u4, hr4, e1, e2, e3⟩ := append_mk (P := Tryz.prog) X 32 32 47 jW _ 3 56 Tryz.underlying32 fW fW1 fW2 fW3 rfl (by decide) wa NW wwc _ (own_quiet hw3 hqX) ⟨U3.heap.size, 0, none⟩ 4 4 (by decide) [.int .i64 ck, .slice ia p ic, .slice ra e4 rc, .int .i64 0, .slice pi1 qi1 ci1, .slice pr1 qr1 cr1, .int .i64 0, .slice pi2 qi2 ci2, .slice pr2 qr2 cr2, .int .i64 0, .slice pi3 qi3 ci3, .slice pr3 qr3 cr3] rfl (by rw [← HX.out]; exact World.news_of_block (heap_alloc_new U3.drew (.cells #[.int .i64 ck, .slice ia p ic, .slice ra e4 rc, .int .i64 0, .slice pi1 qi1 ci1, .slice pr1 qr1 cr1, .int .i64 0, .slice pi2 qi2 ci2, .slice pr2 qr2 cr2, .int .i64 0, .slice pi3 qi3 ci3, .slice pr3 qr3 cr3] 47))) (by intro x hx; simp only [List.mem_cons, List.not_mem_nil, or_false] at hx; rcases hx with rfl | rfl | rfl | rfl | rfl | rfl | rfl | rfl | rfl | rfl | rfl | rfl <;> rfl) (by unfold maxLen; omega) (by omega)
                        obtain ⟨wa4, wc4, rfl⟩ := own_shape e1
                        have q4 : (∀ j, j < U3.heap.size → some j ≠ (Value.slice wa NW wwc).ownBlock → u4.heap[j]? = U3.heap[j]?) ∧ U3.heap.size ≤ u4.heap.size ∧ Below B0 w0 u4 ∧ (∀ j, (Value.slice wa4 (NW + 4) wc4).ownBlock = some j → (Value.slice wa NW wwc).ownBlock = some j ∨ U3.heap.size ≤ j) := by
                          have hBX : Below B0 w0 X := by rw [← HX.out]; exact Below.alloc (Below.drew hB03) (by show B0 ≤ U3.heap.size; omega) _
                          rcases e3 with ⟨g, rfl, r2, r3⟩ | ⟨c', r1, r2, _⟩
                          · refine ⟨fun j hj hne => (r3.block j (by omega) (by simpa [Value.ownBlock] using hne)).trans (hqX.block j hj), by have := r3.size; omega, Below.grown hBX r3 (by omega) (fun j hj => hS20 j (hs.2.2.2.2 j (by simpa [Value.ownBlock] using hj))), fun j hj => .inl ?_⟩
                            simp only [Value.slice.injEq] at r2
                            rw [r2.1] at hj
                            exact hj
                          · refine ⟨fun j hj _ => (r2.block j (by omega) (by simp)).trans (hqX.block j hj), by have := r2.size; omega, Below.grown hBX r2 (by omega) (fun j hj => by simp at hj), fun j hj => .inr ?_⟩
                            simp only [Value.slice.injEq] at r1
                            rw [r1.1] at hj
                            simp [Value.ownBlock] at hj
                            omega
                        obtain ⟨f4, s4, hB4, hnb⟩ := q4
                        clear e3
                        have nwa : ∀ j, (j < W2.heap.size → False) → some j ≠ (Value.slice wa NW wwc).ownBlock := fun j hj e => hj (hlt2 j (hs.2.2.2.2 j e.symm))
                        have nw0 : some w.heap.size ≠ (Value.slice wa NW wwc).ownBlock := fun e => n0' (hs.2.2.2.2 _ e.symm)
                        have S4 : Blk u4 w.heap.size #[.int .i64 ck, .slice ia p ic, .slice ra e4 rc] 47 ∧ Blk u4 x1b #[.int .i64 0, .slice pi1 qi1 ci1, .slice pr1 qr1 cr1] 47 ∧ Blk u4 x2b #[.int .i64 0, .slice pi2 qi2 ci2, .slice pr2 qr2 cr2] 47 ∧ Blk u4 x3b #[.int .i64 0, .slice pi3 qi3 ci3, .slice pr3 qr3 cr3] 47 := ⟨(f4 _ b0r.lt nw0).trans b0r, (f4 _ bx1.lt (nwa _ (by have := T1.new; omega))).trans bx1, (f4 _ bx2.lt (nwa _ (by have := T2.new; omega))).trans bx2, (f4 _ bx3.lt (nwa _ (by have := T3.new; omega))).trans bx3⟩
                        have hpb4 : Blk u4 pb #[.slice la NL lc, .slice ba NB bc, .slice aa NA ac, .slice wa NW wwc] 34 := (f4 pb hpb3.lt (fun e => by
                          obtain ⟨cs', hb'⟩ := own_blk hw3 e.symm
                          exact absurd rfl (Blk.ne hpb3 hb' (by decide)))).trans hpb3
                        have S5 : Blk (u4.setCell ⟨pb, 3, none⟩ (.slice wa4 (NW + 4) wc4)) w.heap.size #[.int .i64 ck, .slice ia p ic, .slice ra e4 rc] 47 ∧ Blk (u4.setCell ⟨pb, 3, none⟩ (.slice wa4 (NW + 4) wc4)) x1b #[.int .i64 0, .slice pi1 qi1 ci1, .slice pr1 qr1 cr1] 47 ∧ Blk (u4.setCell ⟨pb, 3, none⟩ (.slice wa4 (NW + 4) wc4)) x2b #[.int .i64 0, .slice pi2 qi2 ci2, .slice pr2 qr2 cr2] 47 ∧ Blk (u4.setCell ⟨pb, 3, none⟩ (.slice wa4 (NW + 4) wc4)) x3b #[.int .i64 0, .slice pi3 qi3 ci3, .slice pr3 qr3 cr3] 47 := ⟨S4.1.other _ (Blk.ne hpb4 S4.1 (by decide)), S4.2.1.other _ (Blk.ne hpb4 S4.2.1 (by decide)), S4.2.2.1.other _ (Blk.ne hpb4 S4.2.2.1 (by decide)), S4.2.2.2.other _ (Blk.ne hpb4 S4.2.2.2 (by decide))⟩
                        have hfin : (∃ S3 : Nat → Prop, Shelf S3 (K + 4 * (p + e4 + 1)) (u4.setCell ⟨pb, 3, none⟩ (.slice wa4 (NW + 4) wc4)) pb ∧ (∀ j, S3 j → S j ∨ B ≤ j)) ∧ (∀ j, j < B → ¬ S j → (u4.setCell ⟨pb, 3, none⟩ (.slice wa4 (NW + 4) wc4)).heap[j]? = w.heap[j]?) ∧ w.heap.size ≤ (u4.setCell ⟨pb, 3, none⟩ (.slice wa4 (NW + 4) wc4)).heap.size ∧ Below B0 w0 (u4.setCell ⟨pb, 3, none⟩ (.slice wa4 (NW + 4) wc4)) := by
                          refine ⟨⟨fun j => S2 j ∨ (Value.slice ia p ic).ownBlock = some j ∨ (Value.slice ra e4 rc).ownBlock = some j ∨ (W2.heap.size ≤ j ∧ j < u4.heap.size), ?_, ?_⟩, ?_, ?_, ?_⟩
                          · have h := shelf_world (K := K1 + 4 * e4) hbk h4 hKs hs hv hlt2 hkeep (by omega) FI FR e1 f4 hnb s4 (by omega)
                            have hk5 : K1 + 4 * e4 + 4 = K + 4 * (p + e4 + 1) := by have := HK1.out; omega
                            rw [hk5] at h
                            exact h
                          · rintro j (h | h | h | h)
                            · exact hS2B j h
                            · exact .inr (hI2n j h).2
                            · exact .inr (hR2n j h).2
                            · exact .inr (by omega)
                          · intro j hj hn
                            rw [Below.heap_setCell _ _ _ _ (fun e => hn (by rw [e]; exact hSpb)), f4 j (by omega) (fun e => by rcases hS2B j (hs.2.2.2.2 j e.symm) with h | h; exact hn h; omega), hfrB j hj hn]
                          · simp [World.setCell]; omega
                          · exact Below.setCell (p := ⟨pb, 3, none⟩) hB4 (hS20 pb hs.1) _
                        clear hbk FI FR f4 hnb e1 e2 hkeep hfrB m1 m2 m3 T1 T2 T3 hv
                        have HR4 : Hid _ := hr4
                        clear hr4
                        go_upto_region 30 with (fail)
                        refine wp_region_held_drew (S := fun w2 => Blk w2 w.heap.size #[.int .i64 ck, .slice ia p ic, .slice ra e4 rc] 47 ∧ Blk w2 x1b #[.int .i64 0, .slice pi1 qi1 ci1, .slice pr1 qr1 cr1] 47 ∧ Blk w2 x2b #[.int .i64 0, .slice pi2 qi2 ci2, .slice pr2 qr2 cr2] 47 ∧ Blk w2 x3b #[.int .i64 0, .slice pi3 qi3 ci3, .slice pr3 qr3 cr3] 47) (by kernel_rfl) ⟨b0r, bx1, bx2, bx3⟩ (fun hHeld => ?_)
                        refine wpAnyH_take (i := 0) (v := .pointer (some ⟨pb, 0, none⟩)) rfl (by kernel_rfl) (by kernel_rfl) (by kernel_rfl) (fun _ _ _ h => h) (Or.inl ⟨by rfl, ?_⟩) hHeld ?_
                        · intro w2 hSw
                          have y0 := hSw.1.cell
                          have y1 := hSw.2.1.cell
                          have y2 := hSw.2.2.1.cell
                          have y3 := hSw.2.2.2.cell
                          go_simp
                        simp only [List.getElem_toArray, List.getElem_cons_zero, Act.put, List.setIfInBounds_toArray, List.set_cons_zero, List.set_cons_succ]
                        refine wpAnyH_take (i := 1) (v := .pointer (some ⟨pb, 0, none⟩)) rfl (by kernel_rfl) (by kernel_rfl) (by kernel_rfl) (fun _ _ _ h => h) (Or.inl ⟨by rfl, ?_⟩) hHeld ?_
                        · intro w2 hSw
                          have y0 := hSw.1.cell
                          have y1 := hSw.2.1.cell
                          have y2 := hSw.2.2.1.cell
                          have y3 := hSw.2.2.2.cell
                          go_simp
                        simp only [List.getElem_toArray, List.getElem_cons_zero, List.getElem_cons_succ, Act.put, List.setIfInBounds_toArray, List.set_cons_zero, List.set_cons_succ]
                        refine wpAnyH_take (i := 2) (v := .pointer (some ⟨pb, 0, none⟩)) rfl (by kernel_rfl) (by kernel_rfl) (by kernel_rfl) (fun _ _ _ h => h) (Or.inl ⟨by rfl, ?_⟩) hHeld ?_
                        · intro w2 hSw
                          have y0 := hSw.1.cell
                          have y1 := hSw.2.1.cell
                          have y2 := hSw.2.2.1.cell
                          have y3 := hSw.2.2.2.cell
                          go_simp
                        simp only [List.getElem_toArray, List.getElem_cons_zero, List.getElem_cons_succ, Act.put, List.setIfInBounds_toArray, List.set_cons_zero, List.set_cons_succ]
                        refine wpAnyH_take (i := 3) (v := .pointer (some ⟨pb, 3, none⟩)) rfl (by kernel_rfl) (by kernel_rfl) (by kernel_rfl) (fun _ _ _ h => h) (Or.inl ⟨by rfl, ?_⟩) hHeld ?_
                        · intro w2 hSw
                          have y0 := hSw.1.cell
                          have y1 := hSw.2.1.cell
                          have y2 := hSw.2.2.1.cell
                          have y3 := hSw.2.2.2.cell
                          go_simp
                        simp only [List.getElem_toArray, List.getElem_cons_zero, List.getElem_cons_succ, Act.put, List.setIfInBounds_toArray, List.set_cons_zero, List.set_cons_succ]
                        refine wpAnyH_take (i := 5) (v := .agg #[.int .i64 ck, .slice ia p ic, .slice ra e4 rc]) rfl (by kernel_rfl) (by kernel_rfl) (by kernel_rfl) (fun _ _ _ h => h) (Or.inl ⟨by rfl, ?_⟩) hHeld ?_
                        · intro w2 hSw
                          have y0 := hSw.1.cell
                          have y1 := hSw.2.1.cell
                          have y2 := hSw.2.2.1.cell
                          have y3 := hSw.2.2.2.cell
                          go_simp
                        simp only [List.getElem_toArray, List.getElem_cons_zero, List.getElem_cons_succ, Act.put, List.setIfInBounds_toArray, List.set_cons_zero, List.set_cons_succ]
                        refine wpAnyH_take (i := 6) (v := .agg #[.int .i64 0, .slice pi1 qi1 ci1, .slice pr1 qr1 cr1]) rfl (by kernel_rfl) (by kernel_rfl) (by kernel_rfl) (fun _ _ _ h => h) (Or.inl ⟨by rfl, ?_⟩) hHeld ?_
                        · intro w2 hSw
                          have y0 := hSw.1.cell
                          have y1 := hSw.2.1.cell
                          have y2 := hSw.2.2.1.cell
                          have y3 := hSw.2.2.2.cell
                          go_simp
                        simp only [List.getElem_toArray, List.getElem_cons_zero, List.getElem_cons_succ, Act.put, List.setIfInBounds_toArray, List.set_cons_zero, List.set_cons_succ]
                        refine wpAnyH_take (i := 7) (v := .agg #[.int .i64 0, .slice pi2 qi2 ci2, .slice pr2 qr2 cr2]) rfl (by kernel_rfl) (by kernel_rfl) (by kernel_rfl) (fun _ _ _ h => h) (Or.inl ⟨by rfl, ?_⟩) hHeld ?_
                        · intro w2 hSw
                          have y0 := hSw.1.cell
                          have y1 := hSw.2.1.cell
                          have y2 := hSw.2.2.1.cell
                          have y3 := hSw.2.2.2.cell
                          go_simp
                        simp only [List.getElem_toArray, List.getElem_cons_zero, List.getElem_cons_succ, Act.put, List.setIfInBounds_toArray, List.set_cons_zero, List.set_cons_succ]
                        refine wpAnyH_take (i := 8) (v := .agg #[.int .i64 0, .slice pi3 qi3 ci3, .slice pr3 qr3 cr3]) rfl (by kernel_rfl) (by kernel_rfl) (by kernel_rfl) (fun _ _ _ h => h) (Or.inl ⟨by rfl, ?_⟩) hHeld ?_
                        · intro w2 hSw
                          have y0 := hSw.1.cell
                          have y1 := hSw.2.1.cell
                          have y2 := hSw.2.2.1.cell
                          have y3 := hSw.2.2.2.cell
                          go_simp
                        simp only [List.getElem_toArray, List.getElem_cons_zero, List.getElem_cons_succ, Act.put, List.setIfInBounds_toArray, List.set_cons_zero, List.set_cons_succ]
                        refine wpAnyH_all (rs := [4, 9]) (by kernel_rfl) (by simp) ?_
                        intro i hi
                        have hi2 : i = 4 ∨ i = 9 := by simpa using hi
                        rcases hi2 with rfl | rfl
                        · skip
                          refine wpOpV (v := .slice wa NW wwc) (w' := U3.drew) rfl rfl ?_ ⟨⟨b0r, bx1, bx2, bx3⟩, ?_⟩
                          · skip
                            have gp := hpb3.cell
                            have gf := hpb3.frozen
                            have gl := hpb3.lt
                            simp only [List.getElem_toArray, List.getElem_cons_zero, List.getElem_cons_succ]
                            go_simp
                          simp only [List.getElem_toArray, List.getElem_cons_zero, List.getElem_cons_succ, Act.put, List.setIfInBounds_toArray, List.set_cons_zero, List.set_cons_succ]
                          refine wpAnyH_val (i := 9) (v := .slice (some ⟨U3.heap.size, 0, none⟩) 4 4) (w' := X) (by kernel_rfl) rfl rfl ?_ ⟨b0r.quiet hqX, bx1.quiet hqX, bx2.quiet hqX, bx3.quiet hqX⟩ ?_
                          · skip
                            rw [← HX.out]
                            simp only [List.getElem_toArray, List.getElem_cons_zero, List.getElem_cons_succ]
                            go_simp
                          simp only [List.getElem_toArray, List.getElem_cons_zero, List.getElem_cons_succ, Act.put, List.setIfInBounds_toArray, List.set_cons_zero, List.set_cons_succ]
                          refine wpAnyH_val (i := 10) (v := .slice wa4 (NW + 4) wc4) (w' := u4) (by kernel_rfl) rfl rfl ?_ S4 ?_
                          · skip
                            exact run_append_op (.tmp 180) (.tmp 185) 32 rfl rfl rfl HR4.out
                          simp only [List.getElem_toArray, List.getElem_cons_zero, List.getElem_cons_succ, Act.put, List.setIfInBounds_toArray, List.set_cons_zero, List.set_cons_succ]
                          refine wpAnyH_val (i := 11) (v := .pointer (some ⟨pb, 0, none⟩)) (w' := u4) (by kernel_rfl) rfl rfl ?_ S4 ?_
                          · skip
                            simp only [List.getElem_toArray, List.getElem_cons_zero, List.getElem_cons_succ]
                            go_simp
                          simp only [List.getElem_toArray, List.getElem_cons_zero, List.getElem_cons_succ, Act.put, List.setIfInBounds_toArray, List.set_cons_zero, List.set_cons_succ]
                          refine wpAnyH_val (i := 12) (v := .pointer (some ⟨pb, 3, none⟩)) (w' := u4) (by kernel_rfl) rfl rfl ?_ S4 ?_
                          · skip
                            simp only [List.getElem_toArray, List.getElem_cons_zero, List.getElem_cons_succ]
                            go_simp
                          simp only [List.getElem_toArray, List.getElem_cons_zero, List.getElem_cons_succ, Act.put, List.setIfInBounds_toArray, List.set_cons_zero, List.set_cons_succ]
                          refine wpAnyH_skp (i := 13) (w' := u4.setCell ⟨pb, 3, none⟩ (.slice wa4 (NW + 4) wc4)) (by kernel_rfl) rfl rfl ?_ S5 ?_
                          · have gp := hpb4.cell
                            have gf := hpb4.frozen
                            have gl := hpb4.lt
                            simp only [List.getElem_toArray, List.getElem_cons_zero, List.getElem_cons_succ]
                            go_simp
                          simp only [List.getElem_toArray, List.getElem_cons_zero, List.getElem_cons_succ, Act.put]
                          refine wpAnyH_done (by kernel_rfl) ?_ _
                          go_wp2
                          go_ret
                          exact ⟨rfl, hfin⟩
                        · skip
                          refine wpOpV (v := .slice (some ⟨U3.heap.size, 0, none⟩) 4 4) (w' := X) rfl rfl ?_ ⟨⟨b0r.quiet hqX, bx1.quiet hqX, bx2.quiet hqX, bx3.quiet hqX⟩, ?_⟩
                          · skip
                            rw [← HX.out]
                            simp only [List.getElem_toArray, List.getElem_cons_zero, List.getElem_cons_succ]
                            go_simp
                          simp only [List.getElem_toArray, List.getElem_cons_zero, List.getElem_cons_succ, Act.put, List.setIfInBounds_toArray, List.set_cons_zero, List.set_cons_succ]
                          refine wpAnyH_val (i := 4) (v := .slice wa NW wwc) (w' := X) (by kernel_rfl) rfl rfl ?_ ⟨b0r.quiet hqX, bx1.quiet hqX, bx2.quiet hqX, bx3.quiet hqX⟩ ?_
                          · skip
                            have gp := (hpb3.quiet hqX).cell
                            have gf := (hpb3.quiet hqX).frozen
                            have gl := (hpb3.quiet hqX).lt
                            simp only [List.getElem_toArray, List.getElem_cons_zero, List.getElem_cons_succ]
                            go_simp
                          simp only [List.getElem_toArray, List.getElem_cons_zero, List.getElem_cons_succ, Act.put, List.setIfInBounds_toArray, List.set_cons_zero, List.set_cons_succ]
                          refine wpAnyH_val (i := 10) (v := .slice wa4 (NW + 4) wc4) (w' := u4) (by kernel_rfl) rfl rfl ?_ S4 ?_
                          · skip
                            exact run_append_op (.tmp 180) (.tmp 185) 32 rfl rfl rfl HR4.out
                          simp only [List.getElem_toArray, List.getElem_cons_zero, List.getElem_cons_succ, Act.put, List.setIfInBounds_toArray, List.set_cons_zero, List.set_cons_succ]
                          refine wpAnyH_val (i := 11) (v := .pointer (some ⟨pb, 0, none⟩)) (w' := u4) (by kernel_rfl) rfl rfl ?_ S4 ?_
                          · skip
                            simp only [List.getElem_toArray, List.getElem_cons_zero, List.getElem_cons_succ]
                            go_simp
                          simp only [List.getElem_toArray, List.getElem_cons_zero, List.getElem_cons_succ, Act.put, List.setIfInBounds_toArray, List.set_cons_zero, List.set_cons_succ]
                          refine wpAnyH_val (i := 12) (v := .pointer (some ⟨pb, 3, none⟩)) (w' := u4) (by kernel_rfl) rfl rfl ?_ S4 ?_
                          · skip
                            simp only [List.getElem_toArray, List.getElem_cons_zero, List.getElem_cons_succ]
                            go_simp
                          simp only [List.getElem_toArray, List.getElem_cons_zero, List.getElem_cons_succ, Act.put, List.setIfInBounds_toArray, List.set_cons_zero, List.set_cons_succ]
                          refine wpAnyH_skp (i := 13) (w' := u4.setCell ⟨pb, 3, none⟩ (.slice wa4 (NW + 4) wc4)) (by kernel_rfl) rfl rfl ?_ S5 ?_
                          · have gp := hpb4.cell
                            have gf := hpb4.frozen
                            have gl := hpb4.lt
                            simp only [List.getElem_toArray, List.getElem_cons_zero, List.getElem_cons_succ]
                            go_simp
                          simp only [List.getElem_toArray, List.getElem_cons_zero, List.getElem_cons_succ, Act.put]
                          refine wpAnyH_done (by kernel_rfl) ?_ _
                          go_wp2
                          go_ret
                          exact ⟨rfl, hfin⟩

end Go.Proofs.YtgcjlgaapiefiabGreat

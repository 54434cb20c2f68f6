import Derived.Test.YtgcjlgaapiefiaaQKwO
import Derived.Test.YtgcjlgaapiefiaaQKpA
import Derived.Test.YtgcjlgaapiefiaaQKwA
import Derived.Test.YtgcjlgaapiefiaaQKwN
import Derived.Test.YtgcjlgaapiefiaaQKwP
import Derived.Deep.RegionHeld3

/-
  The statement Refused: walked (made by mkkw17.py).
-/
namespace Go.Proofs.Ytgcjlgaapiefiaa
open Go.RowKit Go.Sort

theorem Quiet.rf {w : World} : Quiet w w := Below.refl _ _
theorem Quiet.dr {w u : World} (h : Quiet w u) : Quiet w u.drew := Below.drew h
theorem Quiet.dn {w u : World} {n : Nat} (h : Quiet w u) : Quiet w (u.drewN n) := Below.drewN h
theorem Quiet.al {w u : World} {o : Obj} (h : Quiet w u) : Quiet w (u.alloc o) := h.after ((Below.refl _ _).alloc (Nat.le_refl _) _)

set_option maxRecDepth 100000 in
set_option maxHeartbeats 8000000 in
theorem refused_walk (dv sv : Value) (d : Def) (s : List Cmd) (c : Cmd) (hcc : c.reason.size ≤ 9223372036854775807) (w : World) (hd : DefIs w dv d) (hv : SlOk sv) (h : Cmds w sv s) (hl : s.length + 1 ≤ 1048576) (hcr : ∀ c ∈ s, c.reason.size ≤ 9223372036854775807) :
    Calls Try.prog 9 #[dv, sv, c.val] w fun e w' => e = .returned (.bool true) ∧ Quiet w w' := by
  have hq0 : ∀ (w : World) o, Quiet w (w.alloc o) := fun w o => (Below.refl _ _).alloc (Nat.le_refl _) _
  have hd0 := hd
  obtain ⟨da, dn, dcap, rfl, hst⟩ := hd
  clear hst
  unfold Cmd.val
  go_enter Try.func9, Try.ntmps9
  go_wp2_with fail
  refine calls_gen (fun V => Blk V w.heap.size #[.slice da dn dcap, .int .i64 d.quorum, .int .i64 d.expiry] 24 ∧ Blk V (w.heap.size + 1) #[.int .i64 c.kind, .int .i64 c.inst, .int .i64 c.a, .int .i64 c.b, .int .i64 c.who, .string c.reason, .bool c.dry] 54 ∧ Quiet w V) ⟨(Blk.new' rfl).alloc _, Blk.new' (by simp), (hq0 _ _).after (hq0 _ _)⟩ ?_
  rintro V ⟨bd, bc, hqV⟩
  refine (awake_any V).mono ?_
  rintro e w1 ⟨rfl, hq1⟩
  replace bd := bd.quiet hq1
  replace bc := bc.quiet hq1
  replace hqV : Quiet w w1 := hqV.after hq1
  have gd := bd.cell
  have zd := bd.lt
  go_wp2_with fail
  refine (valid_any _ d w1 (hd0.quiet hqV)).mono ?_
  rintro e w2 ⟨rfl, hq2⟩
  replace bd := bd.quiet hq2
  replace bc := bc.quiet hq2
  replace hqV : Quiet w w2 := hqV.after hq2
  clear gd zd hq1 V
  have gd := bd.cell
  have zd := bd.lt
  cases hok : d.ok
  · go_wp2_with fail
    refine (refuses_any _ sv d s w2 (hd0.quiet hqV) hok (h.quiet hqV) (by omega) hcr).mono ?_
    rintro e w3 ⟨rfl, hq3⟩
    go_wp2
    go_ret
    exact ⟨rfl, hqV.after hq3⟩
  have gc := bc.cell
  have zc := bc.lt
  go_upto_region 11 with (fail)
  refine wp_gen (fun V => Blk V w.heap.size #[.slice da dn dcap, .int .i64 d.quorum, .int .i64 d.expiry] 24 ∧ Blk V (w.heap.size + 1) #[.int .i64 c.kind, .int .i64 c.inst, .int .i64 c.a, .int .i64 c.b, .int .i64 c.who, .string c.reason, .bool c.dry] 54 ∧ Blk V w2.heap.size #[.int .i64 c.kind, .int .i64 c.inst, .int .i64 c.a, .int .i64 c.b, .int .i64 c.who, .string c.reason, .bool false] 54 ∧ Blk V (w2.heap.size + 1) #[.int .i64 c.kind, .int .i64 c.inst, .int .i64 c.a, .int .i64 c.b, .int .i64 c.who, .string c.reason, .bool true] 54 ∧ Quiet w2 V) ?setup ?_
  case setup => exact ⟨(bd.alloc _).alloc _, (bc.alloc _).alloc _, (Blk.new' rfl).alloc _, Blk.new' (by simp), (hq0 _ _).after (hq0 _ _)⟩
  rintro V ⟨bd, bc, br, by', hqV2⟩
  replace hqV : Quiet w V := hqV.after hqV2
  replace h := h.quiet hqV
  have hdV := hd0.quiet hqV
  clear gd zd gc zc hq2 hqV2 hd0
  obtain ⟨T, HT⟩ : ∃ T, Hid (playR d s = T) := ⟨_, rfl⟩
  obtain ⟨A, HA⟩ : ∃ A, Hid (ansK d T c = A) := ⟨_, rfl⟩
  obtain ⟨W0, HW0⟩ : ∃ W0, Hid (worldR d T.log = W0) := ⟨_, rfl⟩
  obtain ⟨W1, HW1⟩ : ∃ W1, Hid (worldR d (playStep d T (wetC c)).log = W1) := ⟨_, rfl⟩
  obtain ⟨W2, HW2⟩ : ∃ W2, Hid (worldR d (playStep d T (dryC c)).log = W2) := ⟨_, rfl⟩
  have HP1 : Hid (A.code ≠ 0 → W0 = W1 ∧ W0 = W2) := fun hA => by
    rw [← HW0.out, ← HW1.out, ← HW2.out, no_log d T (wetC c) (by rw [ansK_wet, HA.out]; exact hA), no_log d T (dryC c) (by rw [ansK_dry, HA.out]; exact hA)]
    exact ⟨rfl, rfl⟩
  have HP2 : Hid (c.kind = 8 ∨ c.kind = 9 → W1 = W2) := fun hk => by rw [← HW1.out, ← HW2.out, same_log d T c hk]
  have HP3 : Hid (A.code = 0 → c.kind ≠ 8 → c.kind ≠ 9 → W0 = W2 ∧ W0 ≠ W1) := fun hA h8 h9 => by
    have hA' : (answerR d T.log c).code = 0 := by
      have h1 := HA.out
      unfold ansK at h1
      rw [if_neg h8, if_neg (fun q => h9 q.1), if_neg h9] at h1
      rw [h1]; exact hA
    rw [← HW0.out, ← HW1.out, ← HW2.out, dry_log d T c h8 h9, wet_log d T c h8 h9 hA']
    refine ⟨rfl, ?_⟩
    have hlo := play_logOk d s
    rw [HT.out] at hlo
    exact carry_differs hok hlo hA'
  have hcr1 : ∀ x ∈ s ++ [wetC c], x.reason.size ≤ 9223372036854775807 := by
    intro x hx
    rcases List.mem_append.1 hx with hx | hx
    · exact hcr x hx
    · simp at hx; subst hx; exact hcc
  have hcr2 : ∀ x ∈ s ++ [dryC c], x.reason.size ≤ 9223372036854775807 := by
    intro x hx
    rcases List.mem_append.1 hx with hx | hx
    · exact hcr x hx
    · simp at hx; subst hx; exact hcc
  have HWr : Hid (∀ U, Quiet V U → Calls Try.prog 30 #[sv, .agg #[.int .i64 c.kind, .int .i64 c.inst, .int .i64 c.a, .int .i64 c.b, .int .i64 c.who, .string c.reason, .bool false]] U fun e w' => ∃ ad n cap, e = .returned (.slice (some ad) n cap) ∧ Cmds w' (.slice (some ad) n cap) (s ++ [wetC c]) ∧ Quiet U w') := fun U hU => with_any sv s (wetC c) U hv (h.quiet hU) (by omega)
  have HWd : Hid (∀ U, Quiet V U → Calls Try.prog 30 #[sv, .agg #[.int .i64 c.kind, .int .i64 c.inst, .int .i64 c.a, .int .i64 c.b, .int .i64 c.who, .string c.reason, .bool true]] U fun e w' => ∃ ad n cap, e = .returned (.slice (some ad) n cap) ∧ Cmds w' (.slice (some ad) n cap) (s ++ [dryC c]) ∧ Quiet U w') := fun U hU => with_any sv s (dryC c) U hv (h.quiet hU) (by omega)
  have HLr : Hid (∀ U v, Quiet V U → Cmds U v (s ++ [wetC c]) → Calls Try.prog 29 #[.agg #[.slice da dn dcap, .int .i64 d.quorum, .int .i64 d.expiry], v] U fun e w' => e = .returned (.tuple #[.agg #[.int .i64 A.code, .int .i64 A.number, .int .i64 A.step, .int .i64 A.what], .bool true]) ∧ Quiet U w') := fun U v hU hC => by
    have := last_any _ v d hok s (wetC c) U (hdV.quiet hU) hC hl hcr1
    rw [HT.out, ansK_wet, HA.out] at this
    exact this
  have HLd : Hid (∀ U v, Quiet V U → Cmds U v (s ++ [dryC c]) → Calls Try.prog 29 #[.agg #[.slice da dn dcap, .int .i64 d.quorum, .int .i64 d.expiry], v] U fun e w' => e = .returned (.tuple #[.agg #[.int .i64 A.code, .int .i64 A.number, .int .i64 A.step, .int .i64 A.what], .bool true]) ∧ Quiet U w') := fun U v hU hC => by
    have := last_any _ v d hok s (dryC c) U (hdV.quiet hU) hC hl hcr2
    rw [HT.out, ansK_dry, HA.out] at this
    exact this
  have HS0 : Hid (∀ U, Quiet V U → Calls Try.prog 19 #[.agg #[.slice da dn dcap, .int .i64 d.quorum, .int .i64 d.expiry], sv] U fun e w' => Quiet U w' ∧ ∃ ia n ic ra m rc, e = .returned (.tuple #[.agg #[.int .i64 W0.clock, .slice ia n ic, .slice ra m rc], .int .i64 0]) ∧ WMem w' ia n ic ra m rc W0) := fun U hU => by
    have := stateT_any _ sv d hok s U (hdV.quiet hU) (h.quiet hU) (by omega) hcr
    rw [HT.out, HW0.out] at this
    exact this
  have HSr : Hid (∀ U v, Quiet V U → Cmds U v (s ++ [wetC c]) → Calls Try.prog 19 #[.agg #[.slice da dn dcap, .int .i64 d.quorum, .int .i64 d.expiry], v] U fun e w' => Quiet U w' ∧ ∃ ia n ic ra m rc, e = .returned (.tuple #[.agg #[.int .i64 W1.clock, .slice ia n ic, .slice ra m rc], .int .i64 0]) ∧ WMem w' ia n ic ra m rc W1) := fun U v hU hC => by
    have := stateT_any _ v d hok (s ++ [wetC c]) U (hdV.quiet hU) hC (by simp; omega) hcr1
    rw [playR_snocK, HT.out, HW1.out] at this
    exact this
  have HSd : Hid (∀ U v, Quiet V U → Cmds U v (s ++ [dryC c]) → Calls Try.prog 19 #[.agg #[.slice da dn dcap, .int .i64 d.quorum, .int .i64 d.expiry], v] U fun e w' => Quiet U w' ∧ ∃ ia n ic ra m rc, e = .returned (.tuple #[.agg #[.int .i64 W2.clock, .slice ia n ic, .slice ra m rc], .int .i64 0]) ∧ WMem w' ia n ic ra m rc W2) := fun U v hU hC => by
    have := stateT_any _ v d hok (s ++ [dryC c]) U (hdV.quiet hU) hC (by simp; omega) hcr2
    rw [playR_snocK, HT.out, HW2.out] at this
    exact this
  have HOK : Hid (d.ok = true) := hok
  clear hok hcr hcr1 hcr2 h hdV hv HW0 HW1 HW2 HA HT hcc hl
  have gd := bd.cell
  have zd := bd.lt
  have gr := br.cell
  have zr := br.lt
  have gy := by'.cell
  have zy := by'.lt
  have n1 : w.heap.size ≠ V.heap.size := by omega
  have n2 : w2.heap.size ≠ V.heap.size := by omega
  have n3 : w2.heap.size + 1 ≠ V.heap.size := by omega
  have n4 : V.heap.size ≠ w.heap.size := by omega
  have n5 : V.heap.size ≠ w2.heap.size := by omega
  have n6 : V.heap.size ≠ w2.heap.size + 1 := by omega
  go_cut [11, 12] (fun p b wx => ∃ ab, p = .pointer (some ⟨ab, 0, none⟩) ∧ b = .bool true ∧ Quiet V wx ∧ Blk wx ab #[.int .i64 A.code, .int .i64 A.number, .int .i64 A.step, .int .i64 A.what] 56)
  case first =>
    go_region_held3 (fun w' => (w'.cell? ⟨w.heap.size, 0, none⟩ = some (.slice da dn dcap) ∧ w'.cell? ⟨w.heap.size, 1, none⟩ = some (.int .i64 d.quorum) ∧ w'.cell? ⟨w.heap.size, 2, none⟩ = some (.int .i64 d.expiry)) ∧ w'.cell? ⟨w2.heap.size, 0, none⟩ = some (.int .i64 c.kind) ∧ w'.cell? ⟨w2.heap.size, 1, none⟩ = some (.int .i64 c.inst) ∧ w'.cell? ⟨w2.heap.size, 2, none⟩ = some (.int .i64 c.a) ∧ w'.cell? ⟨w2.heap.size, 3, none⟩ = some (.int .i64 c.b) ∧ w'.cell? ⟨w2.heap.size, 4, none⟩ = some (.int .i64 c.who) ∧ w'.cell? ⟨w2.heap.size, 5, none⟩ = some (.string c.reason) ∧ w'.cell? ⟨w2.heap.size, 6, none⟩ = some (.bool false)) (go_keep) (first | (go_at_call 30; refine (HWr.out _ ?_).mono ?_; (repeat (first | with_reducible exact Quiet.rf | with_reducible refine Quiet.dr ?_ | with_reducible refine Quiet.al ?_ | with_reducible refine Quiet.dn ?_)); rintro e wv ⟨ad, nv, capv, rfl, hCv, hqv⟩; have hqv' : Quiet V wv := Quiet.after (by (repeat (first | with_reducible exact Quiet.rf | with_reducible refine Quiet.dr ?_ | with_reducible refine Quiet.al ?_ | with_reducible refine Quiet.dn ?_))) hqv; have kd := (bd.quiet hqv').cell; have kr := (br.quiet hqv').cell; have kz := hqv'.size; have m1 : w.heap.size ≠ wv.heap.size := Nat.ne_of_lt (Nat.lt_of_lt_of_le bd.lt hqv'.size); have m2 := Ne.symm m1; have m3 : w2.heap.size ≠ wv.heap.size := Nat.ne_of_lt (Nat.lt_of_lt_of_le br.lt hqv'.size); have m4 := Ne.symm m3; (first | (have bz0 := (Blk.drew (Blk.new' (w := V) (b := V.heap.size) rfl)).quiet hqv; have bz0c := bz0.cell; have bz0f := bz0.frozen) | (have bz0 := (Blk.new' (w := V.drew) (b := V.heap.size) rfl).quiet hqv; have bz0c := bz0.cell; have bz0f := bz0.frozen) | (have bz0 := (Blk.new' (w := V) (b := V.heap.size) rfl).quiet hqv; have bz0c := bz0.cell; have bz0f := bz0.frozen) | (have bn := True.intro))) | (go_at_call 29; refine (HLr.out _ _ ?_ ?_).mono ?_; (repeat (first | with_reducible exact hqv' | with_reducible refine Quiet.dr ?_ | with_reducible refine Quiet.al ?_ | with_reducible refine Quiet.dn ?_)); exact hCv.quiet (by (repeat (first | with_reducible exact Quiet.rf | with_reducible refine Quiet.dr ?_ | with_reducible refine Quiet.al ?_ | with_reducible refine Quiet.dn ?_))); rintro e wy ⟨rfl, hqR⟩; have hqy' : Quiet wv wy := Quiet.after (by (repeat (first | with_reducible exact Quiet.rf | with_reducible refine Quiet.dr ?_ | with_reducible refine Quiet.al ?_ | with_reducible refine Quiet.dn ?_))) hqR; have hqyc : Quiet V wy := hqv'.after hqy'; have kd2 := (bd.quiet hqyc).cell; have kr2 := (br.quiet hqyc).cell; have kz2 := hqyc.size; (first | (have bz := bz0.quiet hqy'; have bzc := bz.cell; have bzf := bz.frozen) | (have bz := (Blk.drew (Blk.new' (w := wv) (b := wv.heap.size) rfl)).quiet hqR; have bzc := bz.cell; have bzf := bz.frozen) | (have bz := (Blk.new' (w := wv.drew) (b := wv.heap.size) rfl).quiet hqR; have bzc := bz.cell; have bzf := bz.frozen) | (have bz := (Blk.new' (w := wv) (b := wv.heap.size) rfl).quiet hqR; have bzc := bz.cell; have bzf := bz.frozen) | (have bz := True.intro))))
    all_goals (try go_wp2)
    all_goals
      go_meet
      case rel =>
        refine ⟨_, rfl, rfl, ?_, ?_⟩
        · first | (with_reducible exact hqyc.al) | exact Below.four hqyc (Nat.le_refl _) _ _ _ _ | exact Below.four hqyc hqv'.size _ _ _ _
        · first | (with_reducible exact Blk.new' rfl) | exact bz.four (by simp) _ _ _ _
  case rest =>
    rename World => w11
    obtain ⟨ab, rfl, rfl, hq11, ba⟩ := hcut
    clear gd zd gr zr gy zy n1 n2 n3 n4 n5 n6
    replace bd := bd.quiet hq11
    replace bc := bc.quiet hq11
    replace br := br.quiet hq11
    replace by' := by'.quiet hq11
    replace hqV : Quiet w w11 := hqV.after hq11
    clear HLr
    replace HWr : Hid _ := fun U (hU : Quiet w11 U) => HWr.out U (Quiet.after hq11 hU)
    replace HWd : Hid _ := fun U (hU : Quiet w11 U) => HWd.out U (Quiet.after hq11 hU)
    replace HLd : Hid _ := fun U v (hU : Quiet w11 U) => HLd.out U v (Quiet.after hq11 hU)
    replace HS0 : Hid _ := fun U (hU : Quiet w11 U) => HS0.out U (Quiet.after hq11 hU)
    replace HSr : Hid _ := fun U v (hU : Quiet w11 U) => HSr.out U v (Quiet.after hq11 hU)
    replace HSd : Hid _ := fun U v (hU : Quiet w11 U) => HSd.out U v (Quiet.after hq11 hU)
    have gd := bd.cell
    have zd := bd.lt
    have gr := br.cell
    have zr := br.lt
    have gy := by'.cell
    have zy := by'.lt
    have n1 : w.heap.size ≠ w11.heap.size := by omega
    have n2 : w2.heap.size ≠ w11.heap.size := by omega
    have n3 : w2.heap.size + 1 ≠ w11.heap.size := by omega
    have n4 : w11.heap.size ≠ w.heap.size := by omega
    have n5 : w11.heap.size ≠ w2.heap.size := by omega
    have n6 : w11.heap.size ≠ w2.heap.size + 1 := by omega
    go_wp2_with fail
    go_cut [13, 14] (fun p b wx => ∃ ab, p = .pointer (some ⟨ab, 0, none⟩) ∧ b = .bool true ∧ Quiet w11 wx ∧ Blk wx ab #[.int .i64 A.code, .int .i64 A.number, .int .i64 A.step, .int .i64 A.what] 56)
    case first =>
      go_region_held3 (fun w' => (w'.cell? ⟨w.heap.size, 0, none⟩ = some (.slice da dn dcap) ∧ w'.cell? ⟨w.heap.size, 1, none⟩ = some (.int .i64 d.quorum) ∧ w'.cell? ⟨w.heap.size, 2, none⟩ = some (.int .i64 d.expiry)) ∧ w'.cell? ⟨w2.heap.size + 1, 0, none⟩ = some (.int .i64 c.kind) ∧ w'.cell? ⟨w2.heap.size + 1, 1, none⟩ = some (.int .i64 c.inst) ∧ w'.cell? ⟨w2.heap.size + 1, 2, none⟩ = some (.int .i64 c.a) ∧ w'.cell? ⟨w2.heap.size + 1, 3, none⟩ = some (.int .i64 c.b) ∧ w'.cell? ⟨w2.heap.size + 1, 4, none⟩ = some (.int .i64 c.who) ∧ w'.cell? ⟨w2.heap.size + 1, 5, none⟩ = some (.string c.reason) ∧ w'.cell? ⟨w2.heap.size + 1, 6, none⟩ = some (.bool true)) (go_keep) (first | (go_at_call 30; refine (HWd.out _ ?_).mono ?_; (repeat (first | with_reducible exact Quiet.rf | with_reducible refine Quiet.dr ?_ | with_reducible refine Quiet.al ?_ | with_reducible refine Quiet.dn ?_)); rintro e wv ⟨ad, nv, capv, rfl, hCv, hqv⟩; have hqv' : Quiet w11 wv := Quiet.after (by (repeat (first | with_reducible exact Quiet.rf | with_reducible refine Quiet.dr ?_ | with_reducible refine Quiet.al ?_ | with_reducible refine Quiet.dn ?_))) hqv; have kd := (bd.quiet hqv').cell; have kr := (by'.quiet hqv').cell; have kz := hqv'.size; have m1 : w.heap.size ≠ wv.heap.size := Nat.ne_of_lt (Nat.lt_of_lt_of_le bd.lt hqv'.size); have m2 := Ne.symm m1; have m3 : w2.heap.size + 1 ≠ wv.heap.size := Nat.ne_of_lt (Nat.lt_of_lt_of_le by'.lt hqv'.size); have m4 := Ne.symm m3; (first | (have bz0 := (Blk.drew (Blk.new' (w := w11) (b := w11.heap.size) rfl)).quiet hqv; have bz0c := bz0.cell; have bz0f := bz0.frozen) | (have bz0 := (Blk.new' (w := w11.drew) (b := w11.heap.size) rfl).quiet hqv; have bz0c := bz0.cell; have bz0f := bz0.frozen) | (have bz0 := (Blk.new' (w := w11) (b := w11.heap.size) rfl).quiet hqv; have bz0c := bz0.cell; have bz0f := bz0.frozen) | (have bn := True.intro))) | (go_at_call 29; refine (HLd.out _ _ ?_ ?_).mono ?_; (repeat (first | with_reducible exact hqv' | with_reducible refine Quiet.dr ?_ | with_reducible refine Quiet.al ?_ | with_reducible refine Quiet.dn ?_)); exact hCv.quiet (by (repeat (first | with_reducible exact Quiet.rf | with_reducible refine Quiet.dr ?_ | with_reducible refine Quiet.al ?_ | with_reducible refine Quiet.dn ?_))); rintro e wy ⟨rfl, hqR⟩; have hqy' : Quiet wv wy := Quiet.after (by (repeat (first | with_reducible exact Quiet.rf | with_reducible refine Quiet.dr ?_ | with_reducible refine Quiet.al ?_ | with_reducible refine Quiet.dn ?_))) hqR; have hqyc : Quiet w11 wy := hqv'.after hqy'; have kd2 := (bd.quiet hqyc).cell; have kr2 := (by'.quiet hqyc).cell; have kz2 := hqyc.size; (first | (have bz := bz0.quiet hqy'; have bzc := bz.cell; have bzf := bz.frozen) | (have bz := (Blk.drew (Blk.new' (w := wv) (b := wv.heap.size) rfl)).quiet hqR; have bzc := bz.cell; have bzf := bz.frozen) | (have bz := (Blk.new' (w := wv.drew) (b := wv.heap.size) rfl).quiet hqR; have bzc := bz.cell; have bzf := bz.frozen) | (have bz := (Blk.new' (w := wv) (b := wv.heap.size) rfl).quiet hqR; have bzc := bz.cell; have bzf := bz.frozen) | (have bz := True.intro))))
      all_goals (try go_wp2)
      all_goals
        go_meet
        case rel =>
          refine ⟨_, rfl, rfl, ?_, ?_⟩
          · first | (with_reducible exact hqyc.al) | exact Below.four hqyc (Nat.le_refl _) _ _ _ _ | exact Below.four hqyc hqv'.size _ _ _ _
          · first | (with_reducible exact Blk.new' rfl) | exact bz.four (by simp) _ _ _ _
    case rest =>
      rename World => w12
      obtain ⟨eb, rfl, rfl, hq12, be⟩ := hcut
      clear gd zd gr zr gy zy n1 n2 n3 n4 n5 n6
      replace bd := bd.quiet hq12
      replace bc := bc.quiet hq12
      replace br := br.quiet hq12
      replace by' := by'.quiet hq12
      replace ba := ba.quiet hq12
      replace hqV : Quiet w w12 := hqV.after hq12
      clear HLd
      replace HWr : Hid _ := fun U (hU : Quiet w12 U) => HWr.out U (Quiet.after hq12 hU)
      replace HWd : Hid _ := fun U (hU : Quiet w12 U) => HWd.out U (Quiet.after hq12 hU)
      replace HS0 : Hid _ := fun U (hU : Quiet w12 U) => HS0.out U (Quiet.after hq12 hU)
      replace HSr : Hid _ := fun U v (hU : Quiet w12 U) => HSr.out U v (Quiet.after hq12 hU)
      replace HSd : Hid _ := fun U v (hU : Quiet w12 U) => HSd.out U v (Quiet.after hq12 hU)
      have gd := bd.cell
      have zd := bd.lt
      go_wp2_with fail
      refine (HS0.out w12 Quiet.rf).mono ?_
      rintro e wS ⟨hqS, ia, m1, ic, ra, m2, rc, rfl, hWM⟩
      have hWA0 : WAt (wS.alloc (.cells #[.int .i64 W0.clock, .slice ia m1 ic, .slice ra m2 rc] 38)) wS.heap.size W0 := WAt.new hWM
      clear gd zd
      go_upto_region 14 with (fail)
      refine wp_gen (fun U => WAt U wS.heap.size W0 ∧ Quiet wS U) ⟨hWA0, hq0 _ _⟩ ?_
      rintro w13 ⟨hWA, hqU⟩
      have hq13 : Quiet w12 w13 := hqS.after hqU
      clear hWA0 hWM HS0
      replace bd := bd.quiet hq13
      replace bc := bc.quiet hq13
      replace br := br.quiet hq13
      replace by' := by'.quiet hq13
      replace ba := ba.quiet hq13
      replace be := be.quiet hq13
      replace hqV : Quiet w w13 := hqV.after hq13
      replace HWr : Hid _ := fun U (hU : Quiet w13 U) => HWr.out U (Quiet.after hq13 hU)
      replace HWd : Hid _ := fun U (hU : Quiet w13 U) => HWd.out U (Quiet.after hq13 hU)
      replace HSr : Hid _ := fun U v (hU : Quiet w13 U) => HSr.out U v (Quiet.after hq13 hU)
      replace HSd : Hid _ := fun U v (hU : Quiet w13 U) => HSd.out U v (Quiet.after hq13 hU)
      have gd := bd.cell
      have zd := bd.lt
      have gr := br.cell
      have zr := br.lt
      have gy := by'.cell
      have zy := by'.lt
      have n1 : w.heap.size ≠ w13.heap.size := by omega
      have n2 : w2.heap.size ≠ w13.heap.size := by omega
      have n3 : w2.heap.size + 1 ≠ w13.heap.size := by omega
      have n4 : w13.heap.size ≠ w.heap.size := by omega
      have n5 : w13.heap.size ≠ w2.heap.size := by omega
      have n6 : w13.heap.size ≠ w2.heap.size + 1 := by omega
      go_cut [17, 18] (fun p e wx => ∃ xb, p = .pointer (some ⟨xb, 0, none⟩) ∧ e = .int .i64 0 ∧ Quiet w13 wx ∧ WAt wx xb W1)
      case first =>
        go_region_held3 (fun w' => (w'.cell? ⟨w.heap.size, 0, none⟩ = some (.slice da dn dcap) ∧ w'.cell? ⟨w.heap.size, 1, none⟩ = some (.int .i64 d.quorum) ∧ w'.cell? ⟨w.heap.size, 2, none⟩ = some (.int .i64 d.expiry)) ∧ w'.cell? ⟨w2.heap.size, 0, none⟩ = some (.int .i64 c.kind) ∧ w'.cell? ⟨w2.heap.size, 1, none⟩ = some (.int .i64 c.inst) ∧ w'.cell? ⟨w2.heap.size, 2, none⟩ = some (.int .i64 c.a) ∧ w'.cell? ⟨w2.heap.size, 3, none⟩ = some (.int .i64 c.b) ∧ w'.cell? ⟨w2.heap.size, 4, none⟩ = some (.int .i64 c.who) ∧ w'.cell? ⟨w2.heap.size, 5, none⟩ = some (.string c.reason) ∧ w'.cell? ⟨w2.heap.size, 6, none⟩ = some (.bool false)) (go_keep) (first | (go_at_call 30; refine (HWr.out _ ?_).mono ?_; (repeat (first | with_reducible exact Quiet.rf | with_reducible refine Quiet.dr ?_ | with_reducible refine Quiet.al ?_ | with_reducible refine Quiet.dn ?_)); rintro e wv ⟨ad, nv, capv, rfl, hCv, hqv⟩; have hqv' : Quiet w13 wv := Quiet.after (by (repeat (first | with_reducible exact Quiet.rf | with_reducible refine Quiet.dr ?_ | with_reducible refine Quiet.al ?_ | with_reducible refine Quiet.dn ?_))) hqv; have kd := (bd.quiet hqv').cell; have kr := (br.quiet hqv').cell; have kz := hqv'.size; have m1 : w.heap.size ≠ wv.heap.size := Nat.ne_of_lt (Nat.lt_of_lt_of_le bd.lt hqv'.size); have m2 := Ne.symm m1; have m3 : w2.heap.size ≠ wv.heap.size := Nat.ne_of_lt (Nat.lt_of_lt_of_le br.lt hqv'.size); have m4 := Ne.symm m3; (first | (have bz0 := (Blk.drew (Blk.new' (w := w13) (b := w13.heap.size) rfl)).quiet hqv; have bz0c := bz0.cell; have bz0f := bz0.frozen) | (have bz0 := (Blk.new' (w := w13.drew) (b := w13.heap.size) rfl).quiet hqv; have bz0c := bz0.cell; have bz0f := bz0.frozen) | (have bz0 := (Blk.new' (w := w13) (b := w13.heap.size) rfl).quiet hqv; have bz0c := bz0.cell; have bz0f := bz0.frozen) | (have bn := True.intro))) | (go_at_call 19; refine (HSr.out _ _ ?_ ?_).mono ?_; (repeat (first | with_reducible exact hqv' | with_reducible refine Quiet.dr ?_ | with_reducible refine Quiet.al ?_ | with_reducible refine Quiet.dn ?_)); exact hCv.quiet (by (repeat (first | with_reducible exact Quiet.rf | with_reducible refine Quiet.dr ?_ | with_reducible refine Quiet.al ?_ | with_reducible refine Quiet.dn ?_))); rintro e wy ⟨hqR, ia, n1, ic, ra, m1, rc, rfl, hWM⟩; have hqy' : Quiet wv wy := Quiet.after (by (repeat (first | with_reducible exact Quiet.rf | with_reducible refine Quiet.dr ?_ | with_reducible refine Quiet.al ?_ | with_reducible refine Quiet.dn ?_))) hqR; have hqyc : Quiet w13 wy := hqv'.after hqy'; have kd2 := (bd.quiet hqyc).cell; have kr2 := (br.quiet hqyc).cell; have kz2 := hqyc.size; (first | (have bz := bz0.quiet hqy'; have bzc := bz.cell; have bzf := bz.frozen) | (have bz := (Blk.drew (Blk.new' (w := wv) (b := wv.heap.size) rfl)).quiet hqR; have bzc := bz.cell; have bzf := bz.frozen) | (have bz := (Blk.new' (w := wv.drew) (b := wv.heap.size) rfl).quiet hqR; have bzc := bz.cell; have bzf := bz.frozen) | (have bz := (Blk.new' (w := wv) (b := wv.heap.size) rfl).quiet hqR; have bzc := bz.cell; have bzf := bz.frozen) | (have bz := True.intro))))
        all_goals (try go_wp2)
        all_goals
          go_meet
          case rel =>
            refine ⟨_, rfl, rfl, ?_, ?_⟩
            · first | (with_reducible exact hqyc.al) | exact Below.set3w hqyc (Nat.le_refl _) _ _ _ | exact Below.set3w hqyc hqv'.size _ _ _
            · first | (with_reducible exact WAt.new hWM) | exact WAt.set hWM bz rfl
      case rest =>
        rename World => w14
        obtain ⟨xb1, rfl, rfl, hq14, hX1⟩ := hcut
        clear gd zd gr zr gy zy n1 n2 n3 n4 n5 n6
        replace bd := bd.quiet hq14
        replace bc := bc.quiet hq14
        replace br := br.quiet hq14
        replace by' := by'.quiet hq14
        replace ba := ba.quiet hq14
        replace be := be.quiet hq14
        replace hWA := hWA.quiet hq14
        replace hqV : Quiet w w14 := hqV.after hq14
        clear HSr HWr
        replace HWd : Hid _ := fun U (hU : Quiet w14 U) => HWd.out U (Quiet.after hq14 hU)
        replace HSd : Hid _ := fun U v (hU : Quiet w14 U) => HSd.out U v (Quiet.after hq14 hU)
        have gd := bd.cell
        have zd := bd.lt
        have gr := br.cell
        have zr := br.lt
        have gy := by'.cell
        have zy := by'.lt
        have n1 : w.heap.size ≠ w14.heap.size := by omega
        have n2 : w2.heap.size ≠ w14.heap.size := by omega
        have n3 : w2.heap.size + 1 ≠ w14.heap.size := by omega
        have n4 : w14.heap.size ≠ w.heap.size := by omega
        have n5 : w14.heap.size ≠ w2.heap.size := by omega
        have n6 : w14.heap.size ≠ w2.heap.size + 1 := by omega
        go_wp2_with fail
        go_cut [19, 20] (fun p e wx => ∃ xb, p = .pointer (some ⟨xb, 0, none⟩) ∧ e = .int .i64 0 ∧ Quiet w14 wx ∧ WAt wx xb W2)
        case first =>
          go_region_held3 (fun w' => (w'.cell? ⟨w.heap.size, 0, none⟩ = some (.slice da dn dcap) ∧ w'.cell? ⟨w.heap.size, 1, none⟩ = some (.int .i64 d.quorum) ∧ w'.cell? ⟨w.heap.size, 2, none⟩ = some (.int .i64 d.expiry)) ∧ w'.cell? ⟨w2.heap.size + 1, 0, none⟩ = some (.int .i64 c.kind) ∧ w'.cell? ⟨w2.heap.size + 1, 1, none⟩ = some (.int .i64 c.inst) ∧ w'.cell? ⟨w2.heap.size + 1, 2, none⟩ = some (.int .i64 c.a) ∧ w'.cell? ⟨w2.heap.size + 1, 3, none⟩ = some (.int .i64 c.b) ∧ w'.cell? ⟨w2.heap.size + 1, 4, none⟩ = some (.int .i64 c.who) ∧ w'.cell? ⟨w2.heap.size + 1, 5, none⟩ = some (.string c.reason) ∧ w'.cell? ⟨w2.heap.size + 1, 6, none⟩ = some (.bool true)) (go_keep) (first | (go_at_call 30; refine (HWd.out _ ?_).mono ?_; (repeat (first | with_reducible exact Quiet.rf | with_reducible refine Quiet.dr ?_ | with_reducible refine Quiet.al ?_ | with_reducible refine Quiet.dn ?_)); rintro e wv ⟨ad, nv, capv, rfl, hCv, hqv⟩; have hqv' : Quiet w14 wv := Quiet.after (by (repeat (first | with_reducible exact Quiet.rf | with_reducible refine Quiet.dr ?_ | with_reducible refine Quiet.al ?_ | with_reducible refine Quiet.dn ?_))) hqv; have kd := (bd.quiet hqv').cell; have kr := (by'.quiet hqv').cell; have kz := hqv'.size; have m1 : w.heap.size ≠ wv.heap.size := Nat.ne_of_lt (Nat.lt_of_lt_of_le bd.lt hqv'.size); have m2 := Ne.symm m1; have m3 : w2.heap.size + 1 ≠ wv.heap.size := Nat.ne_of_lt (Nat.lt_of_lt_of_le by'.lt hqv'.size); have m4 := Ne.symm m3; (first | (have bz0 := (Blk.drew (Blk.new' (w := w14) (b := w14.heap.size) rfl)).quiet hqv; have bz0c := bz0.cell; have bz0f := bz0.frozen) | (have bz0 := (Blk.new' (w := w14.drew) (b := w14.heap.size) rfl).quiet hqv; have bz0c := bz0.cell; have bz0f := bz0.frozen) | (have bz0 := (Blk.new' (w := w14) (b := w14.heap.size) rfl).quiet hqv; have bz0c := bz0.cell; have bz0f := bz0.frozen) | (have bn := True.intro))) | (go_at_call 19; refine (HSd.out _ _ ?_ ?_).mono ?_; (repeat (first | with_reducible exact hqv' | with_reducible refine Quiet.dr ?_ | with_reducible refine Quiet.al ?_ | with_reducible refine Quiet.dn ?_)); exact hCv.quiet (by (repeat (first | with_reducible exact Quiet.rf | with_reducible refine Quiet.dr ?_ | with_reducible refine Quiet.al ?_ | with_reducible refine Quiet.dn ?_))); rintro e wy ⟨hqR, ia, n1, ic, ra, m1, rc, rfl, hWM⟩; have hqy' : Quiet wv wy := Quiet.after (by (repeat (first | with_reducible exact Quiet.rf | with_reducible refine Quiet.dr ?_ | with_reducible refine Quiet.al ?_ | with_reducible refine Quiet.dn ?_))) hqR; have hqyc : Quiet w14 wy := hqv'.after hqy'; have kd2 := (bd.quiet hqyc).cell; have kr2 := (by'.quiet hqyc).cell; have kz2 := hqyc.size; (first | (have bz := bz0.quiet hqy'; have bzc := bz.cell; have bzf := bz.frozen) | (have bz := (Blk.drew (Blk.new' (w := wv) (b := wv.heap.size) rfl)).quiet hqR; have bzc := bz.cell; have bzf := bz.frozen) | (have bz := (Blk.new' (w := wv.drew) (b := wv.heap.size) rfl).quiet hqR; have bzc := bz.cell; have bzf := bz.frozen) | (have bz := (Blk.new' (w := wv) (b := wv.heap.size) rfl).quiet hqR; have bzc := bz.cell; have bzf := bz.frozen) | (have bz := True.intro))))
          all_goals (try go_wp2)
          all_goals
            go_meet
            case rel =>
              refine ⟨_, rfl, rfl, ?_, ?_⟩
              · first | (with_reducible exact hqyc.al) | exact Below.set3w hqyc (Nat.le_refl _) _ _ _ | exact Below.set3w hqyc hqv'.size _ _ _
              · first | (with_reducible exact WAt.new hWM) | exact WAt.set hWM bz rfl
        case rest =>
          rename World => w15
          obtain ⟨xb2, rfl, rfl, hq15, hX2⟩ := hcut
          clear gd zd gr zr gy zy n1 n2 n3 n4 n5 n6
          replace bc := bc.quiet hq15
          replace ba := ba.quiet hq15
          replace be := be.quiet hq15
          replace hWA := hWA.quiet hq15
          replace hX1 := hX1.quiet hq15
          replace hqV : Quiet w w15 := hqV.after hq15
          clear HSd HWd bd br by'
          obtain ⟨ia0, n0, ic0, ra0, m0, rc0, b0, M0⟩ := hWA
          obtain ⟨ia1, n1, ic1, ra1, m1, rc1, b1, M1⟩ := hX1
          obtain ⟨ia2, n2, ic2, ra2, m2, rc2, b2, M2⟩ := hX2
          have ga := ba.cell
          have za := ba.lt
          have ge := be.cell
          have ze := be.lt
          have g0 := b0.cell
          have z0 := b0.lt
          have g1 := b1.cell
          have z1 := b1.lt
          have g2 := b2.cell
          have z2 := b2.lt
          have gc := bc.cell
          have zc := bc.lt
          have u1 : (A.code != A.code) = false := by simp
          have u2 : (A.number != A.number) = false := by simp
          have u3 : (A.step != A.step) = false := by simp
          have u4 : (A.what != A.what) = false := by simp
          have HS01 : Hid (∀ U, Quiet w15 U → Calls Try.prog 31 #[.agg #[.int .i64 W0.clock, .slice ia0 n0 ic0, .slice ra0 m0 rc0], .agg #[.int .i64 W1.clock, .slice ia1 n1 ic1, .slice ra1 m1 rc1]] U fun e w' => e = .returned (.bool (eqB (W0 = W1))) ∧ Quiet U w') := fun U hU => sameW_any W0.clock W1.clock _ _ _ _ W0.insts W1.insts W0.reqs W1.reqs U (M0.quiet hU).insts (M1.quiet hU).insts (M0.quiet hU).reqs (M1.quiet hU).reqs
          have HS02 : Hid (∀ U, Quiet w15 U → Calls Try.prog 31 #[.agg #[.int .i64 W0.clock, .slice ia0 n0 ic0, .slice ra0 m0 rc0], .agg #[.int .i64 W2.clock, .slice ia2 n2 ic2, .slice ra2 m2 rc2]] U fun e w' => e = .returned (.bool (eqB (W0 = W2))) ∧ Quiet U w') := fun U hU => sameW_any W0.clock W2.clock _ _ _ _ W0.insts W2.insts W0.reqs W2.reqs U (M0.quiet hU).insts (M2.quiet hU).insts (M0.quiet hU).reqs (M2.quiet hU).reqs
          have HS12 : Hid (∀ U, Quiet w15 U → Calls Try.prog 31 #[.agg #[.int .i64 W1.clock, .slice ia1 n1 ic1, .slice ra1 m1 rc1], .agg #[.int .i64 W2.clock, .slice ia2 n2 ic2, .slice ra2 m2 rc2]] U fun e w' => e = .returned (.bool (eqB (W1 = W2))) ∧ Quiet U w') := fun U hU => sameW_any W1.clock W2.clock _ _ _ _ W1.insts W2.insts W1.reqs W2.reqs U (M1.quiet hU).insts (M2.quiet hU).insts (M1.quiet hU).reqs (M2.quiet hU).reqs
          cases hA : (A.code == 0)
          · have hA0 : A.code ≠ 0 := by simpa using hA
            have hA1 : (A.code != 0) = true := by simpa using hA0
            obtain ⟨e1, e2⟩ := HP1.out hA0
            rw [eqB_true e1] at HS01
            rw [eqB_true e2] at HS02
            clear e1 e2 hA0
            go_wp2_with fail
            refine (HS01.out w15 Quiet.rf).mono ?_
            rintro e wA ⟨rfl, hqA⟩
            have g0' := (b0.quiet hqA).cell
            have z0' := (b0.quiet hqA).lt
            have g2' := (b2.quiet hqA).cell
            have z2' := (b2.quiet hqA).lt
            go_wp2_with fail
            refine (HS02.out wA hqA).mono ?_
            rintro e wB ⟨rfl, hqB⟩
            go_wp2
            go_ret
            exact ⟨rfl, (hqV.after hqA).after hqB⟩
          · have hA0 : A.code = 0 := by simpa using hA
            have hA1 : (A.code != 0) = false := by rw [hA0]; rfl
            have HA0 : Hid (A.code = 0) := hA0
            clear hA0
            by_cases hk : c.kind = 8 ∨ c.kind = 9
            · rw [eqB_true (HP2.out hk)] at HS12
              have hk' : (c.kind == 8) = true ∨ (c.kind == 8) = false ∧ (c.kind == 9) = true := by
                rcases hk with hk | hk
                · exact .inl (by rw [hk]; rfl)
                · exact .inr ⟨by rw [hk]; rfl, by rw [hk]; rfl⟩
              clear hk
              rcases hk' with hk8 | ⟨hk8, hk9⟩
              · go_wp2_with fail
                refine (HS12.out w15 Quiet.rf).mono ?_
                rintro e wA ⟨rfl, hqA⟩
                go_wp2
                go_ret
                exact ⟨rfl, hqV.after hqA⟩
              · go_wp2_with fail
                refine (HS12.out w15 Quiet.rf).mono ?_
                rintro e wA ⟨rfl, hqA⟩
                go_wp2
                go_ret
                exact ⟨rfl, hqV.after hqA⟩
            · obtain ⟨e1, e2⟩ := HP3.out HA0.out (fun q => hk (.inl q)) (fun q => hk (.inr q))
              rw [eqB_true e1] at HS02
              rw [eqB_false e2] at HS01
              have hk8 : (c.kind == 8) = false := by simp; exact fun q => hk (.inl q)
              have hk9 : (c.kind == 9) = false := by simp; exact fun q => hk (.inr q)
              clear hk e1 e2
              go_wp2_with fail
              refine (HS01.out w15 Quiet.rf).mono ?_
              rintro e wA ⟨rfl, hqA⟩
              have g0' := (b0.quiet hqA).cell
              have z0' := (b0.quiet hqA).lt
              have g2' := (b2.quiet hqA).cell
              have z2' := (b2.quiet hqA).lt
              go_wp2_with fail
              refine (HS02.out wA hqA).mono ?_
              rintro e wB ⟨rfl, hqB⟩
              go_wp2
              go_ret
              exact ⟨rfl, (hqV.after hqA).after hqB⟩

end Go.Proofs.Ytgcjlgaapiefiaa

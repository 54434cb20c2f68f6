import Derived.Test.YtgcjlgaapiefiabGreatQPlyA
import Derived.Test.YtgcjlgaapiefiabGreatQChk
import Derived.Test.YtgcjlgaapiefiabGreatQSame

/-
  Walks of the document's answer: Run, State.
-/
namespace Go.Proofs.YtgcjlgaapiefiabGreat
open Go.RowKit

theorem InstsOwn.set {base : Nat} {w : World} {v : Value} {rs : List Inst} (h : InstsOwn base w v rs) {p : Addr} {cs : Array Value} {t : TypeId} (hb : Blk w p.block cs t) (hr : 78 ≠ t) (hi : 92 ≠ t) (u : Value) : InstsOwn base (w.setCell p u) v rs := by
  obtain ⟨ps, q1, q2, q3⟩ := h
  exact ⟨ps, q1, ownsRow_setCell_other q2 (own_ne q2 hb hr) u, fun q hq => by obtain ⟨a, n, cap, t1, t2, t3⟩ := q3 q hq; exact ⟨a, n, cap, t1, t2, ownsRow_setCell_other t3 (own_ne t3 hb hi) u⟩⟩
theorem InstsOwn.base {base base' : Nat} {w : World} {v : Value} {rs : List Inst} (h : InstsOwn base w v rs) (hb : base' ≤ base) : InstsOwn base' w v rs := by
  obtain ⟨ps, h1, h2, h3⟩ := h
  exact ⟨ps, h1, own_base h2 hb, fun p hp => by obtain ⟨a, n, cap, e1, e2, e3⟩ := h3 p hp; exact ⟨a, n, cap, e1, e2, own_base e3 hb⟩⟩

theorem own3I {base : Nat} {w : World} {v : Value} {rs : List Inst} (h : InstsOwn base w v rs) {b : Nat} {cs : Array Value} (hb : Blk w b cs 47) (v0 v1 v2 : Value) : InstsOwn base (((w.setCell ⟨b, 0, none⟩ v0).setCell ⟨b, 1, none⟩ v1).setCell ⟨b, 2, none⟩ v2) v rs :=
  InstsOwn.set (p := ⟨b, 2, none⟩) (InstsOwn.set (p := ⟨b, 1, none⟩) (InstsOwn.set (p := ⟨b, 0, none⟩) h hb (by decide) (by decide) v0) (hb.set 0 v0) (by decide) (by decide) v1) ((hb.set 0 v0).set 1 v1) (by decide) (by decide) v2
theorem own3R {base : Nat} {w : World} {v : Value} {rs : List Req} (h : ReqsOwn base w v rs) {b : Nat} {cs : Array Value} (hb : Blk w b cs 47) (v0 v1 v2 : Value) : ReqsOwn base (((w.setCell ⟨b, 0, none⟩ v0).setCell ⟨b, 1, none⟩ v1).setCell ⟨b, 2, none⟩ v2) v rs :=
  ReqsOwn.set (p := ⟨b, 2, none⟩) (ReqsOwn.set (p := ⟨b, 1, none⟩) (ReqsOwn.set (p := ⟨b, 0, none⟩) h hb (by decide) (by decide) v0) (hb.set 0 v0) (by decide) (by decide) v1) ((hb.set 0 v0).set 1 v1) (by decide) (by decide) v2
theorem Blk.set3 {w : World} {b : Nat} {cs : Array Value} {t : TypeId} (h : Blk w b cs t) (hs : cs.size = 3) (v0 v1 v2 : Value) : Blk (((w.setCell ⟨b, 0, none⟩ v0).setCell ⟨b, 1, none⟩ v1).setCell ⟨b, 2, none⟩ v2) b #[v0, v1, v2] t := by
  obtain ⟨cs⟩ := cs
  match cs, hs with
  | [_, _, _], _ => simpa using ((h.set 0 v0).set 1 v1).set 2 v2
theorem Below.set3 {B : Nat} {w0 w : World} (h : Below B w0 w) {b : Nat} (hb : B ≤ b) (v0 v1 v2 : Value) : Below B w0 (((w.setCell ⟨b, 0, none⟩ v0).setCell ⟨b, 1, none⟩ v1).setCell ⟨b, 2, none⟩ v2) := ((h.setCell hb v0).setCell hb v1).setCell hb v2

/-- What is known of 'played'. -/
def PlayedIs (s : List Cmd) : Prop := ∀ (dv sv : Value) (d : Def) (w : World), DefIs w dv d → d.ok = true → Cmds w sv s → s.length ≤ 4194304 → (∀ c ∈ s, c.reason.size ≤ 9223372036854775807) →
    Calls Tryz.prog 28 #[dv, sv] w fun e w' => ∃ la L lc aa k ac dcs, e = .returned (.pointer (some ⟨w.heap.size + 1, 0, none⟩)) ∧ PlayAt w w' (playR d s) la L lc aa k ac dcs

set_option maxRecDepth 100000 in
set_option maxHeartbeats 2000000 in
theorem refRun_any (dv sv : Value) (d : Def) (s : List Cmd) (hpl : PlayedIs s) (w : World) (hd : DefIs w dv d) (h : Cmds w sv s) (hl : s.length ≤ 4194304) (hcr : ∀ c ∈ s, c.reason.size ≤ 9223372036854775807) :
    Calls Tryz.prog 16 #[dv, sv] w fun e w' => Quiet w w' ∧ ((d.ok = false ∧ e = .returned (.tuple #[.slice none 0 0, .int .i64 1])) ∨
      (d.ok = true ∧ ∃ aa k ac, e = .returned (.tuple #[.slice aa k ac, .int .i64 0]) ∧ w'.ownsRow w.heap.size 86 4 (.slice aa k ac) k (ansVals (playR d s).answers) ∧ k = (playR d s).answers.length)) := by
  have hq0 : ∀ (w : World) o, Quiet w (w.alloc o) := fun w o => (Below.refl _ _).alloc (Nat.le_refl _) _
  have hd0 := hd
  obtain ⟨da, dn, dcap, rfl, hst⟩ := hd
  clear hst
  go_enter Tryz.func16, Tryz.ntmps16
  go_wp2_with fail
  refine calls_gen (fun V => Blk V w.heap.size #[.slice da dn dcap, .int .i64 d.quorum, .int .i64 d.expiry] 24 ∧ Quiet w V) ⟨Blk.new' rfl, hq0 _ _⟩ ?_
  rintro V ⟨bd, hqV⟩
  refine (refCheck_any _ d V (hd0.quiet hqV)).mono ?_
  rintro e w1 ⟨rfl, hq1⟩
  replace bd := bd.quiet hq1
  replace hqV : Quiet w w1 := hqV.after hq1
  clear hq1
  have gd := bd.cell
  cases hok : d.ok
  · have hck : (chk false != 0) = true := by decide
    go_wp2
    refine bodyPost_ret (v := .tuple #[.slice none 0 0, .int .i64 1]) (by simp [results, Tryz.results16, go_sem, chk]) rfl ⟨hqV, .inl ⟨hok, rfl⟩⟩
  · have hck : (chk true != 0) = false := by decide
    have HOK : Hid (d.ok = true) := hok
    have HPl : Hid (Calls Tryz.prog 28 #[.agg #[.slice da dn dcap, .int .i64 d.quorum, .int .i64 d.expiry], sv] w1 fun e w' => ∃ la L lc aa k ac dcs, e = .returned (.pointer (some ⟨w1.heap.size + 1, 0, none⟩)) ∧ PlayAt w1 w' (playR d s) la L lc aa k ac dcs) := hpl _ sv d w1 (hd0.quiet hqV) hok (h.quiet hqV) hl hcr
    clear hok
    go_wp2_with fail
    refine HPl.out.mono ?_
    rintro e w2 ⟨la, L, lc, aa, k, ac, dcs, rfl, hP⟩
    have gt := hP.tape.cell
    go_wp2
    refine bodyPost_ret (v := .tuple #[.slice aa k ac, .int .i64 0]) (by simp [results, Tryz.results16, go_sem]) rfl ⟨hqV.after hP.quiet, .inr ⟨HOK.out, aa, k, ac, rfl, own_base hP.ans hqV.size, hP.cnt⟩⟩

set_option maxRecDepth 100000 in
set_option maxHeartbeats 4000000 in
theorem refState_any (dv sv : Value) (d : Def) (s : List Cmd) (hpl : PlayedIs s) (w : World) (hd : DefIs w dv d) (h : Cmds w sv s) (hl : s.length ≤ 4194304) (hcr : ∀ c ∈ s, c.reason.size ≤ 9223372036854775807) :
    Calls Tryz.prog 11 #[dv, sv] w fun e w' => Quiet w w' ∧ ((d.ok = false ∧ e = .returned (.tuple #[.agg #[.int .i64 0, .slice none 0 0, .slice none 0 0], .int .i64 1])) ∨
      (d.ok = true ∧ ∃ ia n ic ra m rc, e = .returned (.tuple #[.agg #[.int .i64 (worldR d (playR d s).log).clock, .slice ia n ic, .slice ra m rc], .int .i64 0]) ∧ InstsAt w' (.slice ia n ic) (worldR d (playR d s).log).insts ∧ ReqsAt w' (.slice ra m rc) (worldR d (playR d s).log).reqs)) := by
  have hq0 : ∀ (w : World) o, Quiet w (w.alloc o) := fun w o => (Below.refl _ _).alloc (Nat.le_refl _) _
  have hd0 := hd
  obtain ⟨da, dn, dcap, rfl, hst⟩ := hd
  clear hst
  go_enter Tryz.func11, Tryz.ntmps11
  go_wp2_with fail
  refine calls_gen (fun V => Blk V w.heap.size #[.slice da dn dcap, .int .i64 d.quorum, .int .i64 d.expiry] 24 ∧ Blk V (w.heap.size + 1) #[.int .i64 0, .slice none 0 0, .slice none 0 0] 47 ∧ Quiet w V) ⟨(Blk.new' rfl).alloc _, Blk.new' (by simp), (hq0 _ _).alloc (by simp) _⟩ ?_
  rintro V ⟨bd, br, hqV⟩
  refine (refCheck_any _ d V (hd0.quiet hqV)).mono ?_
  rintro e w1 ⟨rfl, hq1⟩
  replace bd := bd.quiet hq1
  replace br := br.quiet hq1
  replace hqV : Quiet w w1 := hqV.after hq1
  clear hq1
  have gd := bd.cell
  have gr := br.cell
  have fr := br.frozen
  cases hok : d.ok
  · have hck : (chk false != 0) = true := by decide
    go_wp2
    refine bodyPost_ret (v := .tuple #[.agg #[.int .i64 0, .slice none 0 0, .slice none 0 0], .int .i64 1]) (by simp [results, Tryz.results11, go_sem, chk, gr]) rfl ⟨?_, .inl ⟨hok, rfl⟩⟩
    exact ((hqV.setCell (p := ⟨w.heap.size + 1, 0, none⟩) (by show w.heap.size ≤ w.heap.size + 1; omega) _).setCell (p := ⟨w.heap.size + 1, 1, none⟩) (by show w.heap.size ≤ w.heap.size + 1; omega) _).setCell (p := ⟨w.heap.size + 1, 2, none⟩) (by show w.heap.size ≤ w.heap.size + 1; omega) _
  · have hck : (chk true != 0) = false := by decide
    have HOK : Hid (d.ok = true) := hok
    have HPl : Hid (Calls Tryz.prog 28 #[.agg #[.slice da dn dcap, .int .i64 d.quorum, .int .i64 d.expiry], sv] w1 fun e w' => ∃ la L lc aa k ac dcs, e = .returned (.pointer (some ⟨w1.heap.size + 1, 0, none⟩)) ∧ PlayAt w1 w' (playR d s) la L lc aa k ac dcs) := hpl _ sv d w1 (hd0.quiet hqV) hok (h.quiet hqV) hl hcr
    clear hok
    obtain ⟨hTok, hTl, _⟩ := playFold d s s.length (Nat.le_refl _)
    rw [List.take_length] at hTok hTl
    go_wp2_with fail
    refine HPl.out.mono ?_
    rintro e w2 ⟨la, L, lc, aa, k, ac, dcs, rfl, hP⟩
    obtain ⟨T, HT⟩ : ∃ T, Hid (playR d s = T) := ⟨_, rfl⟩
    rw [HT.out] at hP hTok hTl
    have gt := hP.tape.cell
    have zt := hP.tape.lt
    replace bd := bd.quiet hP.quiet
    replace br := br.quiet hP.quiet
    have hqW : Quiet w w2 := hqV.after hP.quiet
    have hdW := hd0.quiet hqW
    have hlogW : Cmds w2 (.slice la L lc) T.log := own_cmds hP.log hP.len (by omega)
    have HWl : Hid (∀ U, Quiet w2 U → Calls Tryz.prog 29 #[.agg #[.slice da dn dcap, .int .i64 d.quorum, .int .i64 d.expiry], .slice la L lc] U fun e w' => ∃ (ia : Option Addr) (n ic : Nat) (ra : Option Addr) (rn rc : Nat), e = .returned (.agg #[.int .i64 (clockR T.log), .slice ia n ic, .slice ra rn rc]) ∧ InstsOwn U.heap.size w' (.slice ia n ic) (worldR d T.log).insts ∧ ReqsOwn U.heap.size w' (.slice ra rn rc) (worldR d T.log).reqs ∧ Quiet U w') := fun U hU =>
      (world_log _ _ d T.log U (hdW.quiet hU) HOK.out (hlogW.quiet hU) hTok.log (by omega)).mono (by
        rintro e w' ⟨ia, ic, ra, rn, rc, rfl, h1, h2, _, h3⟩
        exact ⟨ia, _, ic, ra, rn, rc, rfl, h1, h2, h3⟩)
    have HBd : Hid (∀ x ∈ (worldR d T.log).insts, x.ledger.length ≤ 2199023255552) := worldR_bound d T.log (by omega)
    have HCK : Hid ((worldR d T.log).clock = clockR T.log) := rfl
    obtain ⟨WW, HWW⟩ : ∃ WW, Hid (worldR d T.log = WW) := ⟨_, rfl⟩
    rw [HWW.out] at HWl HBd HCK
    generalize clockR T.log = ck at *
    clear gd gr fr
    have gd := bd.cell
    have zd := bd.lt
    have gt' := gt
    go_wp2_with fail
    go_cut [8] (fun s8 wc => ∃ (wb : Nat) (ia : Option Addr) (n ic : Nat) (ra : Option Addr) (rn rc : Nat), s8 = .pointer (some ⟨wb, 0, none⟩) ∧ Blk wc wb #[.int .i64 ck, .slice ia n ic, .slice ra rn rc] 47 ∧ w2.heap.size ≤ wb ∧ InstsOwn w2.heap.size wc (.slice ia n ic) WW.insts ∧ ReqsOwn w2.heap.size wc (.slice ra rn rc) WW.reqs ∧ Quiet w2 wc)
    case first =>
      go_region_with (first | (go_at_call 29; refine (HWl.out _ ?_).mono ?_; (first | exact Below.drew (Below.refl _ _) | exact Below.drew ((Below.refl _ _).alloc (Nat.le_refl _) _)); rintro e w4 ⟨ia, n, ic, ra, rn, rc, rfl, hI, hR, hq4⟩; have bc1 := (bcell hq4).1; have bf1 := (bcell hq4).2))
      all_goals (try go_wp2)
      all_goals
        go_meet
        case rel =>
          refine ⟨_, ia, n, ic, ra, rn, rc, rfl, ?_, ?_, ?_, ?_, ?_⟩
          · first | (with_reducible exact Blk.new' rfl) | exact (Blk.quiet (Blk.drew (Blk.new' rfl)) hq4).set3 (by simp) _ _ _
          · first | (with_reducible exact Nat.le_refl _) | exact hq4.size
          · first | ((with_reducible refine InstsOwn.quiet ?_ (hq0 _ _)); exact InstsOwn.base hI (Nat.le_refl _)) | exact own3I (InstsOwn.base hI (by simp)) (Blk.quiet (Blk.drew (Blk.new' rfl)) hq4) _ _ _
          · first | ((with_reducible refine ReqsOwn.quiet ?_ (hq0 _ _)); exact ReqsOwn.base hR (Nat.le_refl _)) | exact own3R (ReqsOwn.base hR (by simp)) (Blk.quiet (Blk.drew (Blk.new' rfl)) hq4) _ _ _
          · first | (with_reducible exact Below.alloc (Quiet.after (Below.drew (Below.refl _ _)) hq4) (Quiet.after (Below.drew (Below.refl _ _)) hq4).size _) | exact Below.set3 (Quiet.after (Below.drew ((Below.refl _ _).alloc (Nat.le_refl _) _)) hq4) (Nat.le_refl _) _ _ _
    case rest =>
      obtain ⟨wb, ia, n, ic, ra, rn, rc, rfl, bw, hwb, hI, hR, hq4⟩ := hcut
      have hne : w.heap.size + 1 ≠ wb := by have := br.lt; omega
      replace br := br.quiet hq4
      replace hqW : Quiet w wc := hqW.after hq4
      clear gd zd gt gt' zt
      have gr := br.cell
      have fr := br.frozen
      have gw := bw.cell
      have zr := br.lt
      go_wp2
      refine bodyPost_ret (v := .tuple #[.agg #[.int .i64 ck, .slice ia n ic, .slice ra rn rc], .int .i64 0]) (by simp [results, Tryz.results11, go_sem, gr]) rfl ⟨?_, .inr ⟨HOK.out, ia, n, ic, ra, rn, rc, by rw [HT.out, HWW.out, HCK.out], ?_, ?_⟩⟩
      · exact ((hqW.setCell (p := ⟨w.heap.size + 1, 0, none⟩) (by show w.heap.size ≤ w.heap.size + 1; omega) _).setCell (p := ⟨w.heap.size + 1, 1, none⟩) (by show w.heap.size ≤ w.heap.size + 1; omega) _).setCell (p := ⟨w.heap.size + 1, 2, none⟩) (by show w.heap.size ≤ w.heap.size + 1; omega) _
      · rw [HT.out, HWW.out]; exact InstsOwn.at (own3I hI br _ _ _) HBd.out
      · rw [HT.out, HWW.out]; exact ReqsOwn.at (own3R hR br _ _ _)

end Go.Proofs.YtgcjlgaapiefiabGreat

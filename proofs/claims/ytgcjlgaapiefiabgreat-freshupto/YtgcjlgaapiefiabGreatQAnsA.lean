import Derived.Test.YtgcjlgaapiefiabGreatQRefB
import Derived.Test.YtgcjlgaapiefiabGreatQData
import Derived.Test.YtgcjlgaapiefiabGreatQReqB

/-
  Walks of the document's answer: can.
-/
namespace Go.Proofs.YtgcjlgaapiefiabGreat
open Go.RowKit

set_option maxRecDepth 100000 in
set_option maxHeartbeats 2000000 in
theorem can_any (dv : Value) (d : Def) (x : Inst) (a : Option Addr) (n cap : Nat) (what target : Int) (w : World) (hd : DefIs w dv d) (hE : Ents w (.slice a n cap) x.ledger) :
    Calls Tryz.prog 74 #[dv, x.val (.slice a n cap), .int .i64 what, .int .i64 target] w fun e w' => e = .returned (.bool (canR d x what target)) ∧ Quiet w w' := by
  have hd0 := hd
  obtain ⟨da, dn, dcap, rfl, hst⟩ := hd
  unfold Inst.val
  go_enter Tryz.func74, Tryz.ntmps74
  go_wp2_with fail
  refine calls_gen (fun W => Blk W (w.heap.size + 1) #[.int .i64 x.id, .int .i64 x.mode, .bool x.stuck, .int .i64 x.settled, .int .i64 x.target, .bool x.resume, .int .i64 x.keys, .int .i64 x.key, .int .i64 x.due, .int .i64 x.tries, .int .i64 x.wake, .slice a n cap] 78 ∧ Quiet w W) ⟨Blk.new' (by simp), ((Below.refl _ _).alloc (Nat.le_refl _) _).alloc (by simp) _⟩ ?_
  rintro W ⟨b1, hqW⟩
  refine (behind_any _ d _ x.ledger _ (hd0.quiet hqW) (hE.quiet hqW)).mono ?_
  rintro e w1 ⟨rfl, hq1⟩
  replace b1 := b1.quiet hq1
  replace hq1 : Quiet w w1 := hqW.after hq1
  clear hqW W hst
  have g1 := b1.cell
  have hE1 := hE.quiet hq1
  have HR : Hid (canR d x what target = if what = 1 then x.stuck else if what = 2 then x.mode == 1 else if what = 3 then x.mode == 2 else if what = 4 then (x.mode == 1) && decide (behindR d x.ledger < 0) else (x.mode == 1) && (decide (0 ≤ target) && (decide (target < settledR x.ledger) && decide (behindR d x.ledger < target)))) := rfl
  generalize behindR d x.ledger = bz at HR
  cases h1 : what == 1
  · cases h2 : what == 2
    · cases h3 : what == 3
      · cases h4 : what == 4
        · have HR' : Hid (canR d x what target = ((x.mode == 1) && (decide (0 ≤ target) && (decide (target < settledR x.ledger) && decide (bz < target))))) := by
            simp at h1 h2 h3 h4; have := HR.out; rw [if_neg h1, if_neg h2, if_neg h3, if_neg h4] at this; exact this
          clear HR
          generalize hz : settledR x.ledger = z at HR'
          have HZ : Hid (settledR x.ledger = z) := hz
          clear hz
          go_wp2_with (go_at_call 63; refine (settled_any _ x.ledger _ hE1).mono ?_; rw [HZ.out]; rintro e w2 ⟨rfl, rfl⟩)
          all_goals
            go_ret
            refine ⟨ret_bool ?_, hq1⟩
            rw [HR'.out]
            first | (simp [*]; done) | (simp [*]; omega)
        · have HR' : Hid (canR d x what target = ((x.mode == 1) && decide (bz < 0))) := by
            simp at h1 h2 h3 h4; have := HR.out; rw [if_neg h1, if_neg h2, if_neg h3, if_pos h4] at this; exact this
          clear HR
          cases hm : x.mode == 1
          all_goals
            go_wp2
            go_ret
            exact ⟨ret_bool (by rw [HR'.out, hm]; rfl), hq1⟩
      · have HR' : Hid (canR d x what target = (x.mode == 2)) := by
          simp at h1 h2 h3; have := HR.out; rw [if_neg h1, if_neg h2, if_pos h3] at this; exact this
        clear HR
        go_wp2
        go_ret
        exact ⟨ret_bool (by rw [HR'.out]), hq1⟩
    · have HR' : Hid (canR d x what target = (x.mode == 1)) := by
        simp at h1 h2; have := HR.out; rw [if_neg h1, if_pos h2] at this; exact this
      clear HR
      go_wp2
      go_ret
      exact ⟨ret_bool (by rw [HR'.out]), hq1⟩
  · have HR' : Hid (canR d x what target = x.stuck) := by
      simp at h1; have := HR.out; rw [if_pos h1] at this; exact this
    clear HR
    go_wp2
    go_ret
    exact ⟨ret_bool (by rw [HR'.out]), hq1⟩

end Go.Proofs.YtgcjlgaapiefiabGreat

/-
  Walks of the document's answer: picked.
-/
namespace Go.Proofs.YtgcjlgaapiefiabGreat
open Go.RowKit

theorem Blk.set4 {w : World} {b : Nat} {cs : Array Value} {t : TypeId} (h : Blk w b cs t) (hs : cs.size = 4) (v0 v1 v2 v3 : Value) :
    Blk ((((w.setCell ⟨b, 0, none⟩ v0).setCell ⟨b, 1, none⟩ v1).setCell ⟨b, 2, none⟩ v2).setCell ⟨b, 3, none⟩ v3) b #[v0, v1, v2, v3] t := by
  obtain ⟨cs⟩ := cs
  match cs, hs with
  | [_, _, _, _], _ => simpa using (((h.set 0 v0).set 1 v1).set 2 v2).set 3 v3
theorem Below.set4 {B : Nat} {w0 w : World} (h : Below B w0 w) {b : Nat} (hb : B ≤ b) (v0 v1 v2 v3 : Value) :
    Below B w0 ((((w.setCell ⟨b, 0, none⟩ v0).setCell ⟨b, 1, none⟩ v1).setCell ⟨b, 2, none⟩ v2).setCell ⟨b, 3, none⟩ v3) :=
  (((h.setCell hb v0).setCell hb v1).setCell hb v2).setCell hb v3

set_option maxRecDepth 100000 in
set_option maxHeartbeats 2000000 in
theorem picked_any (dv : Value) (d : Def) (x : Inst) (a : Option Addr) (n cap : Nat) (now : Int) (w : World) (hd : DefIs w dv d) (hE : Ents w (.slice a n cap) x.ledger) (hin : x.mode = 2 → InSteps d x) (hk0 : 0 ≤ x.keys) (hk1 : x.keys ≤ 2199023255552) :
    Calls Tryz.prog 75 #[dv, x.val (.slice a n cap), .int .i64 now] w fun e w' => e = .returned (pickAns d x now).val ∧ Quiet w w' := by
  have hd0 := hd
  obtain ⟨da, dn, dcap, rfl, hst⟩ := hd
  have HR : Hid (pickAns d x now = if 2 < x.mode then noR 6 else if x.stuck = true then noR 7 else if 0 < x.key ∧ now < x.due then noR 8 else if 0 < x.key then ⟨0, x.key, atR x, x.mode⟩ else if now < x.wake then noR 9 else if x.mode = 2 ∧ (stepR d (atR x)).undo = false then noR 10 else if x.keys = 30 then noR 5 else ⟨0, x.keys + 1, atR x, x.mode⟩) := rfl
  unfold Inst.val Answer.val
  by_cases hm : 2 < x.mode
  · have HR' : Hid (pickAns d x now = noR 6) := by have := HR.out; rw [if_pos hm] at this; exact this
    clear HR
    go_enter Tryz.func75, Tryz.ntmps75
    go_wp2_with fail
    refine calls_gen (fun W => Blk W (w.heap.size + 1 + 1) #[.int .i64 0, .int .i64 0, .int .i64 0, .int .i64 0] 86 ∧ Quiet w W) ⟨Blk.new' (by simp), (((Below.refl _ _).alloc (Nat.le_refl _) _).alloc (by simp) _).alloc (by simp; omega) _⟩ ?_
    rintro W ⟨b2, hqW⟩
    refine (no_any 6 _).mono ?_
    rintro e w1 ⟨rfl, hq1⟩
    replace b2 := b2.quiet hq1
    replace hq1 : Quiet w w1 := hqW.after hq1
    have g2 := b2.cell
    have f2 := b2.frozen
    simp only [Answer.val]
    go_wp2
    refine bodyPost_ret (v := Answer.val ⟨6, 0, 0, 0⟩) (by simp [results, Tryz.results75, go_sem, Answer.val, g2]) rfl ⟨by rw [HR'.out]; rfl, ?_⟩
    exact Below.set4 hq1 (by omega) _ _ _ _
  replace HR : Hid (pickAns d x now = if x.stuck = true then noR 7 else if 0 < x.key ∧ now < x.due then noR 8 else if 0 < x.key then ⟨0, x.key, atR x, x.mode⟩ else if now < x.wake then noR 9 else if x.mode = 2 ∧ (stepR d (atR x)).undo = false then noR 10 else if x.keys = 30 then noR 5 else ⟨0, x.keys + 1, atR x, x.mode⟩) := by
    have := HR.out; rw [if_neg hm] at this; exact this
  go_enter Tryz.func75, Tryz.ntmps75
  go_wp2_with fail
  refine calls_gen (fun W => Blk W w.heap.size #[.slice da dn dcap, .int .i64 d.quorum, .int .i64 d.expiry] 24 ∧ Blk W (w.heap.size + 1) #[.int .i64 x.id, .int .i64 x.mode, .bool x.stuck, .int .i64 x.settled, .int .i64 x.target, .bool x.resume, .int .i64 x.keys, .int .i64 x.key, .int .i64 x.due, .int .i64 x.tries, .int .i64 x.wake, .slice a n cap] 78 ∧ Blk W (w.heap.size + 1 + 1) #[.int .i64 0, .int .i64 0, .int .i64 0, .int .i64 0] 86 ∧ Quiet w W) ⟨?_, ?_, Blk.new' (by simp), (((Below.refl _ _).alloc (Nat.le_refl _) _).alloc (by simp) _).alloc (by simp; omega) _⟩ ?_
  · repeat (first | (refine Blk.new' ?_; simp; done) | refine Blk.alloc ?_ _)
  · repeat (first | (refine Blk.new' ?_; simp; done) | refine Blk.alloc ?_ _)
  rintro W ⟨b0, b1, b2, hqW⟩
  refine (at_any x a n cap _ (hE.quiet hqW)).mono ?_
  rintro e w1 ⟨rfl, hq1⟩
  replace b0 := b0.quiet hq1
  replace b1 := b1.quiet hq1
  replace b2 := b2.quiet hq1
  replace hq1 : Quiet w w1 := hqW.after hq1
  clear hqW W
  have g0 := b0.cell
  have g1 := b1.cell
  have g2 := b2.cell
  have f2 := b2.frozen
  generalize hs : atR x = s at *
  have REFUSE : ∀ (c : Int) (W : World), Quiet W W → True := fun _ _ _ => trivial
  clear REFUSE
  cases hst1 : x.stuck
  · replace HR : Hid (pickAns d x now = if 0 < x.key ∧ now < x.due then noR 8 else if 0 < x.key then ⟨0, x.key, s, x.mode⟩ else if now < x.wake then noR 9 else if x.mode = 2 ∧ (stepR d s).undo = false then noR 10 else if x.keys = 30 then noR 5 else ⟨0, x.keys + 1, s, x.mode⟩) := by
      have := HR.out; rw [if_neg (by simp [hst1])] at this; exact this
    by_cases hk : 0 < x.key
    · by_cases hdue : now < x.due
      · replace HR : Hid (pickAns d x now = noR 8) := by have := HR.out; rw [if_pos ⟨hk, hdue⟩] at this; exact this
        go_wp2_with (go_at_call 57; refine (no_any 8 _).mono ?_; rintro e w3 ⟨rfl, hq3⟩; have e2 := b2.quiet hq3; have h2 := e2.cell; have k2 := e2.frozen; simp only [Answer.val])
        refine bodyPost_ret (v := Answer.val ⟨8, 0, 0, 0⟩) (by simp [results, Tryz.results75, go_sem, Answer.val, h2]) rfl ⟨by rw [HR.out]; rfl, ?_⟩
        exact Below.set4 (hq1.after hq3) (by omega) _ _ _ _
      · replace HR : Hid (pickAns d x now = ⟨0, x.key, s, x.mode⟩) := by have := HR.out; rw [if_neg (fun h => hdue h.2), if_pos hk] at this; exact this
        go_wp2
        refine bodyPost_ret (v := Answer.val ⟨0, x.key, s, x.mode⟩) (by simp [results, Tryz.results75, go_sem, Answer.val, g2]) rfl ⟨by rw [HR.out]; rfl, ?_⟩
        exact Below.set4 hq1 (by omega) _ _ _ _
    · replace HR : Hid (pickAns d x now = if now < x.wake then noR 9 else if x.mode = 2 ∧ (stepR d s).undo = false then noR 10 else if x.keys = 30 then noR 5 else ⟨0, x.keys + 1, s, x.mode⟩) := by
        have := HR.out; rw [if_neg (fun h => hk h.1), if_neg hk] at this; exact this
      by_cases hwk : now < x.wake
      · replace HR : Hid (pickAns d x now = noR 9) := by have := HR.out; rw [if_pos hwk] at this; exact this
        go_wp2_with (go_at_call 57; refine (no_any 9 _).mono ?_; rintro e w3 ⟨rfl, hq3⟩; have e2 := b2.quiet hq3; have h2 := e2.cell; have k2 := e2.frozen; simp only [Answer.val])
        refine bodyPost_ret (v := Answer.val ⟨9, 0, 0, 0⟩) (by simp [results, Tryz.results75, go_sem, Answer.val, h2]) rfl ⟨by rw [HR.out]; rfl, ?_⟩
        exact Below.set4 (hq1.after hq3) (by omega) _ _ _ _
      · replace HR : Hid (pickAns d x now = if x.mode = 2 ∧ (stepR d s).undo = false then noR 10 else if x.keys = 30 then noR 5 else ⟨0, x.keys + 1, s, x.mode⟩) := by
          have := HR.out; rw [if_neg hwk] at this; exact this
        have rest : ∀ (hu : ¬ (x.mode = 2 ∧ (stepR d s).undo = false)), Hid (pickAns d x now = if x.keys = 30 then noR 5 else ⟨0, x.keys + 1, s, x.mode⟩) := fun hu => by
          have := HR.out; rw [if_neg hu] at this; exact this
        cases hm2 : x.mode == 2
        · replace HR := rest (fun h => by simp at hm2; exact hm2 h.1)
          clear rest
          cases hkk : x.keys == 30
          · replace HR : Hid (pickAns d x now = ⟨0, x.keys + 1, s, x.mode⟩) := by simp at hkk; have := HR.out; rw [if_neg hkk] at this; exact this
            go_wp2
            refine bodyPost_ret (v := Answer.val ⟨0, x.keys + 1, s, x.mode⟩) (by simp [results, Tryz.results75, go_sem, Answer.val, g2]) rfl ⟨by rw [HR.out]; rfl, ?_⟩
            exact Below.set4 hq1 (by omega) _ _ _ _
          · replace HR : Hid (pickAns d x now = noR 5) := by simp at hkk; have := HR.out; rw [if_pos hkk] at this; exact this
            go_wp2_with (go_at_call 57; refine (no_any 5 _).mono ?_; rintro e w3 ⟨rfl, hq3⟩; have e2 := b2.quiet hq3; have h2 := e2.cell; have k2 := e2.frozen; simp only [Answer.val])
            refine bodyPost_ret (v := Answer.val ⟨5, 0, 0, 0⟩) (by simp [results, Tryz.results75, go_sem, Answer.val, h2]) rfl ⟨by rw [HR.out]; rfl, ?_⟩
            exact Below.set4 (hq1.after hq3) (by omega) _ _ _ _
        · have hm2' : x.mode = 2 := by simpa using hm2
          obtain ⟨k, hkl, hka, hsr⟩ := stepR_at (hin hm2')
          rw [hs] at hka hsr
          subst hka
          have hdn : k < dn := by have := hst.len.1; simp [stepVals] at this; omega
          have hdm : dn ≤ 9223372036854775807 := hst.len.2
          obtain ⟨sb, so, rfl, hsb, s0, s1, s2, s3⟩ := (hst.quiet hq1).step k hkl
          have hki : (0 : Int) ≤ (k : Int) := by omega
          have hkj : (k : Int) < (dn : Int) := by omega
          rw [hsr] at HR rest
          clear hsr hst hs hm2'
          generalize d.steps[k] = st at *
          cases hu : st.undo
          · replace HR : Hid (pickAns d x now = noR 10) := by have := HR.out; rw [if_pos ⟨by simpa using hm2, hu⟩] at this; exact this
            clear rest
            go_wp2_with (go_at_call 57; refine (no_any 10 _).mono ?_; rintro e w3 ⟨rfl, hq3⟩; have e2 := b2.quiet hq3; have h2 := e2.cell; have k2 := e2.frozen; simp only [Answer.val])
            refine bodyPost_ret (v := Answer.val ⟨10, 0, 0, 0⟩) (by simp [results, Tryz.results75, go_sem, Answer.val, h2]) rfl ⟨by rw [HR.out]; rfl, ?_⟩
            exact Below.set4 (hq1.after hq3) (by omega) _ _ _ _
          · replace HR := rest (fun h => by simp [hu] at h)
            clear rest
            cases hkk : x.keys == 30
            · replace HR : Hid (pickAns d x now = ⟨0, x.keys + 1, (k : Int), x.mode⟩) := by simp at hkk; have := HR.out; rw [if_neg hkk] at this; exact this
              go_wp2
              refine bodyPost_ret (v := Answer.val ⟨0, x.keys + 1, (k : Int), x.mode⟩) (by simp [results, Tryz.results75, go_sem, Answer.val, g2]) rfl ⟨by rw [HR.out]; rfl, ?_⟩
              exact Below.set4 hq1 (by omega) _ _ _ _
            · replace HR : Hid (pickAns d x now = noR 5) := by simp at hkk; have := HR.out; rw [if_pos hkk] at this; exact this
              go_wp2_with (go_at_call 57; refine (no_any 5 _).mono ?_; rintro e w3 ⟨rfl, hq3⟩; have e2 := b2.quiet hq3; have h2 := e2.cell; have k2 := e2.frozen; simp only [Answer.val])
              refine bodyPost_ret (v := Answer.val ⟨5, 0, 0, 0⟩) (by simp [results, Tryz.results75, go_sem, Answer.val, h2]) rfl ⟨by rw [HR.out]; rfl, ?_⟩
              exact Below.set4 (hq1.after hq3) (by omega) _ _ _ _
  · replace HR : Hid (pickAns d x now = noR 7) := by have := HR.out; rw [if_pos hst1] at this; exact this
    go_wp2_with (go_at_call 57; refine (no_any 7 _).mono ?_; rintro e w3 ⟨rfl, hq3⟩; have e2 := b2.quiet hq3; have h2 := e2.cell; have k2 := e2.frozen; simp only [Answer.val])
    refine bodyPost_ret (v := Answer.val ⟨7, 0, 0, 0⟩) (by simp [results, Tryz.results75, go_sem, Answer.val, h2]) rfl ⟨by rw [HR.out]; rfl, ?_⟩
    exact Below.set4 (hq1.after hq3) (by omega) _ _ _ _

end Go.Proofs.YtgcjlgaapiefiabGreat

/-
  Walks of the document's answer: answered.
-/
namespace Go.Proofs.YtgcjlgaapiefiabGreat
open Go.RowKit

def Cmd.val (c : Cmd) : Value := .agg #[.int .i64 c.kind, .int .i64 c.inst, .int .i64 c.a, .int .i64 c.b, .int .i64 c.who, .string c.reason, .bool c.dry]

set_option maxRecDepth 100000 in
set_option maxHeartbeats 4000000 in
theorem answered_any (dv v : Value) (d : Def) (l : List Cmd) (c : Cmd) (x : Inst) (a : Option Addr) (n cap : Nat) (now : Int) (w : World) (hd : DefIs w dv d) (h : Cmds w v l) (ht : TicksOk l) (hl : l.length ≤ 1099511627776) (he0 : 0 ≤ d.expiry) (he1 : d.expiry ≤ 50)
    (hE : Ents w (.slice a n cap) x.ledger) (hin : x.mode = 2 → InSteps d x) (hk0 : 0 ≤ x.keys) (hk1 : x.keys ≤ 2199023255552) (hcr : c.reason.size ≤ 9223372036854775807) :
    Calls Tryz.prog 59 #[dv, v, c.val, x.val (.slice a n cap), .int .i64 now] w fun e w' => e = .returned (answeredR d l c x now).val ∧ Quiet w w' := by
  have hd0 := hd
  obtain ⟨da, dn, dcap, rfl, hst⟩ := hd
  clear hst
  have HR : Hid (answeredR d l c x now = if c.kind = 2 then pickAns d x now else if c.kind = 3 then (if x.key ≠ c.a ∨ x.key = 0 then noR 11 else noR 0) else askAns d c x (requestsR d l).length) := rfl
  unfold Inst.val Answer.val Cmd.val
  cases h2 : c.kind == 2
  · cases h3 : c.kind == 3
    · replace HR : Hid (answeredR d l c x now = askAns d c x (requestsR d l).length) := by simp at h2 h3; have := HR.out; rw [if_neg h2, if_neg h3] at this; exact this
      go_enter Tryz.func59, Tryz.ntmps59
      go_wp2_with fail
      refine calls_gen (fun W => Blk W w.heap.size #[.slice da dn dcap, .int .i64 d.quorum, .int .i64 d.expiry] 24 ∧ Blk W (w.heap.size + 1) #[.int .i64 c.kind, .int .i64 c.inst, .int .i64 c.a, .int .i64 c.b, .int .i64 c.who, .string c.reason, .bool c.dry] 43 ∧
        Blk W (w.heap.size + 1 + 1) #[.int .i64 x.id, .int .i64 x.mode, .bool x.stuck, .int .i64 x.settled, .int .i64 x.target, .bool x.resume, .int .i64 x.keys, .int .i64 x.key, .int .i64 x.due, .int .i64 x.tries, .int .i64 x.wake, .slice a n cap] 78 ∧ Blk W (w.heap.size + 1 + 1 + 1) #[.int .i64 0, .int .i64 0, .int .i64 0, .int .i64 0] 86 ∧ Quiet w W) ⟨?_, ?_, ?_, Blk.new' (by simp), ((((Below.refl _ _).alloc (Nat.le_refl _) _).alloc (by simp) _).alloc (by simp; omega) _).alloc (by simp; omega) _⟩ ?_
      · repeat (first | (refine Blk.new' ?_; simp; done) | refine Blk.alloc ?_ _)
      · repeat (first | (refine Blk.new' ?_; simp; done) | refine Blk.alloc ?_ _)
      · repeat (first | (refine Blk.new' ?_; simp; done) | refine Blk.alloc ?_ _)
      rintro W ⟨b0, b1, b2, b3, hqW⟩
      refine (requests_any _ _ d l _ (hd0.quiet hqW) (h.quiet hqW) ht hl he0 he1).mono ?_
      rintro e w1 ⟨v', rfl, ⟨ps, HP, hrow, hbyX⟩, hq1⟩
      obtain ⟨a1, cap1, rfl⟩ := own_shape hrow
      have hpl : (requestsR d l).length = ps.length := by rw [← HP]; simp
      have hpb : ps.length ≤ 1099511627776 := by have := requestsTo_len d l l.length; unfold requestsR at hpl; omega
      clear hrow HP hbyX
      replace b0 := b0.quiet hq1
      replace b1 := b1.quiet hq1
      replace b2 := b2.quiet hq1
      replace b3 := b3.quiet hq1
      replace hq1 : Quiet w w1 := hqW.after hq1
      clear hqW W
      have g0 := b0.cell
      have g1 := b1.cell
      have g2 := b2.cell
      go_wp2_with fail
      refine (can_any _ d x a n cap c.a c.b _ (hd0.quiet hq1) (hE.quiet hq1)).mono ?_
      rintro e w2 ⟨rfl, hq2⟩
      replace b0 := b0.quiet hq2
      replace b1 := b1.quiet hq2
      replace b2 := b2.quiet hq2
      replace b3 := b3.quiet hq2
      replace hq2 : Quiet w w2 := hq1.after hq2
      clear hq1 g0 g1 g2 w1
      have g1 := b1.cell
      have g3 := b3.cell
      have f3 := b3.frozen
      rw [hpl] at HR
      clear hpl
      generalize ps.length = pl at *
      replace HR : Hid (answeredR d l c x now = if c.a < 1 ∨ 5 < c.a then noR 2 else if c.who < 0 ∨ 9 < c.who then noR 13 else if (c.reason.size : Int) < 1 ∨ 20 < (c.reason.size : Int) then noR 12 else if canR d x c.a c.b = false then noR 14 else if (pl : Int) = 40 then noR 5 else ⟨0, pl + 1, 0, 0⟩) := HR
      generalize canR d x c.a c.b = cn at *
      by_cases t1 : c.a < 1
      · replace HR : Hid (answeredR d l c x now = noR 2) := by have := HR.out; rw [if_pos (.inl t1)] at this; exact this
        go_wp2_with (go_at_call 57; refine (no_any 2 _).mono ?_; rintro e w4 ⟨rfl, hq4⟩; have e3 := b3.quiet hq4; have h3' := e3.cell; have k3 := e3.frozen; simp only [Answer.val])
        refine bodyPost_ret (v := Answer.val ⟨2, 0, 0, 0⟩) (by simp [results, Tryz.results59, go_sem, Answer.val, h3']) rfl ⟨by rw [HR.out]; rfl, ?_⟩
        exact Below.set4 (hq2.after hq4) (by omega) _ _ _ _
      by_cases t2 : 5 < c.a
      · replace HR : Hid (answeredR d l c x now = noR 2) := by have := HR.out; rw [if_pos (.inr t2)] at this; exact this
        go_wp2_with (go_at_call 57; refine (no_any 2 _).mono ?_; rintro e w4 ⟨rfl, hq4⟩; have e3 := b3.quiet hq4; have h3' := e3.cell; have k3 := e3.frozen; simp only [Answer.val])
        refine bodyPost_ret (v := Answer.val ⟨2, 0, 0, 0⟩) (by simp [results, Tryz.results59, go_sem, Answer.val, h3']) rfl ⟨by rw [HR.out]; rfl, ?_⟩
        exact Below.set4 (hq2.after hq4) (by omega) _ _ _ _
      replace HR : Hid (answeredR d l c x now = if c.who < 0 ∨ 9 < c.who then noR 13 else if (c.reason.size : Int) < 1 ∨ 20 < (c.reason.size : Int) then noR 12 else if cn = false then noR 14 else if (pl : Int) = 40 then noR 5 else ⟨0, pl + 1, 0, 0⟩) := by have := HR.out; rw [if_neg (by omega)] at this; exact this
      by_cases t3 : c.who < 0
      · replace HR : Hid (answeredR d l c x now = noR 13) := by have := HR.out; rw [if_pos (.inl t3)] at this; exact this
        go_wp2_with (go_at_call 57; refine (no_any 13 _).mono ?_; rintro e w4 ⟨rfl, hq4⟩; have e3 := b3.quiet hq4; have h3' := e3.cell; have k3 := e3.frozen; simp only [Answer.val])
        refine bodyPost_ret (v := Answer.val ⟨13, 0, 0, 0⟩) (by simp [results, Tryz.results59, go_sem, Answer.val, h3']) rfl ⟨by rw [HR.out]; rfl, ?_⟩
        exact Below.set4 (hq2.after hq4) (by omega) _ _ _ _
      by_cases t4 : 9 < c.who
      · replace HR : Hid (answeredR d l c x now = noR 13) := by have := HR.out; rw [if_pos (.inr t4)] at this; exact this
        go_wp2_with (go_at_call 57; refine (no_any 13 _).mono ?_; rintro e w4 ⟨rfl, hq4⟩; have e3 := b3.quiet hq4; have h3' := e3.cell; have k3 := e3.frozen; simp only [Answer.val])
        refine bodyPost_ret (v := Answer.val ⟨13, 0, 0, 0⟩) (by simp [results, Tryz.results59, go_sem, Answer.val, h3']) rfl ⟨by rw [HR.out]; rfl, ?_⟩
        exact Below.set4 (hq2.after hq4) (by omega) _ _ _ _
      replace HR : Hid (answeredR d l c x now = if (c.reason.size : Int) < 1 ∨ 20 < (c.reason.size : Int) then noR 12 else if cn = false then noR 14 else if (pl : Int) = 40 then noR 5 else ⟨0, pl + 1, 0, 0⟩) := by have := HR.out; rw [if_neg (by omega)] at this; exact this
      by_cases t5 : (c.reason.size : Int) < 1
      · replace HR : Hid (answeredR d l c x now = noR 12) := by have := HR.out; rw [if_pos (.inl t5)] at this; exact this
        go_wp2_with (go_at_call 57; refine (no_any 12 _).mono ?_; rintro e w4 ⟨rfl, hq4⟩; have e3 := b3.quiet hq4; have h3' := e3.cell; have k3 := e3.frozen; simp only [Answer.val])
        refine bodyPost_ret (v := Answer.val ⟨12, 0, 0, 0⟩) (by simp [results, Tryz.results59, go_sem, Answer.val, h3']) rfl ⟨by rw [HR.out]; rfl, ?_⟩
        exact Below.set4 (hq2.after hq4) (by omega) _ _ _ _
      by_cases t6 : 20 < (c.reason.size : Int)
      · replace HR : Hid (answeredR d l c x now = noR 12) := by have := HR.out; rw [if_pos (.inr t6)] at this; exact this
        go_wp2_with (go_at_call 57; refine (no_any 12 _).mono ?_; rintro e w4 ⟨rfl, hq4⟩; have e3 := b3.quiet hq4; have h3' := e3.cell; have k3 := e3.frozen; simp only [Answer.val])
        refine bodyPost_ret (v := Answer.val ⟨12, 0, 0, 0⟩) (by simp [results, Tryz.results59, go_sem, Answer.val, h3']) rfl ⟨by rw [HR.out]; rfl, ?_⟩
        exact Below.set4 (hq2.after hq4) (by omega) _ _ _ _
      replace HR : Hid (answeredR d l c x now = if cn = false then noR 14 else if (pl : Int) = 40 then noR 5 else ⟨0, pl + 1, 0, 0⟩) := by have := HR.out; rw [if_neg (by omega)] at this; exact this
      cases hcn : cn
      · replace HR : Hid (answeredR d l c x now = noR 14) := by have := HR.out; rw [if_pos hcn] at this; exact this
        go_wp2_with (go_at_call 57; refine (no_any 14 _).mono ?_; rintro e w4 ⟨rfl, hq4⟩; have e3 := b3.quiet hq4; have h3' := e3.cell; have k3 := e3.frozen; simp only [Answer.val])
        refine bodyPost_ret (v := Answer.val ⟨14, 0, 0, 0⟩) (by simp [results, Tryz.results59, go_sem, Answer.val, h3']) rfl ⟨by rw [HR.out]; rfl, ?_⟩
        exact Below.set4 (hq2.after hq4) (by omega) _ _ _ _
      · replace HR : Hid (answeredR d l c x now = if (pl : Int) = 40 then noR 5 else ⟨0, pl + 1, 0, 0⟩) := by have := HR.out; rw [if_neg (by simp [hcn])] at this; exact this
        cases t7 : (pl : Int) == 40
        · replace HR : Hid (answeredR d l c x now = ⟨0, pl + 1, 0, 0⟩) := by simp at t7; have := HR.out; rw [if_neg (by omega)] at this; exact this
          go_wp2
          refine bodyPost_ret (v := Answer.val ⟨0, pl + 1, 0, 0⟩) (by simp [results, Tryz.results59, go_sem, Answer.val, g3]) rfl ⟨by rw [HR.out]; rfl, ?_⟩
          exact Below.set4 hq2 (by omega) _ _ _ _
        · replace HR : Hid (answeredR d l c x now = noR 5) := by simp at t7; have := HR.out; rw [if_pos (by omega)] at this; exact this
          go_wp2_with (go_at_call 57; refine (no_any 5 _).mono ?_; rintro e w4 ⟨rfl, hq4⟩; have e3 := b3.quiet hq4; have h3' := e3.cell; have k3 := e3.frozen; simp only [Answer.val])
          refine bodyPost_ret (v := Answer.val ⟨5, 0, 0, 0⟩) (by simp [results, Tryz.results59, go_sem, Answer.val, h3']) rfl ⟨by rw [HR.out]; rfl, ?_⟩
          exact Below.set4 (hq2.after hq4) (by omega) _ _ _ _
    · replace HR : Hid (answeredR d l c x now = if x.key ≠ c.a ∨ x.key = 0 then noR 11 else noR 0) := by simp at h2 h3; have := HR.out; rw [if_neg h2, if_pos h3] at this; exact this
      cases u1 : x.key != c.a
      · cases u2 : x.key == 0
        · replace HR : Hid (answeredR d l c x now = noR 0) := by simp at u1 u2; have := HR.out; rw [if_neg (by intro h; rcases h with h | h; exact h u1; exact u2 h)] at this; exact this
          go_enter Tryz.func59, Tryz.ntmps59
          go_wp2_with fail
          refine calls_gen (fun W => Blk W w.heap.size #[.slice da dn dcap, .int .i64 d.quorum, .int .i64 d.expiry] 24 ∧ Blk W (w.heap.size + 1) #[.int .i64 c.kind, .int .i64 c.inst, .int .i64 c.a, .int .i64 c.b, .int .i64 c.who, .string c.reason, .bool c.dry] 43 ∧
            Blk W (w.heap.size + 1 + 1) #[.int .i64 x.id, .int .i64 x.mode, .bool x.stuck, .int .i64 x.settled, .int .i64 x.target, .bool x.resume, .int .i64 x.keys, .int .i64 x.key, .int .i64 x.due, .int .i64 x.tries, .int .i64 x.wake, .slice a n cap] 78 ∧ Blk W (w.heap.size + 1 + 1 + 1) #[.int .i64 0, .int .i64 0, .int .i64 0, .int .i64 0] 86 ∧ Quiet w W) ⟨?_, ?_, ?_, Blk.new' (by simp), ((((Below.refl _ _).alloc (Nat.le_refl _) _).alloc (by simp) _).alloc (by simp; omega) _).alloc (by simp; omega) _⟩ ?_
          · repeat (first | (refine Blk.new' ?_; simp; done) | refine Blk.alloc ?_ _)
          · repeat (first | (refine Blk.new' ?_; simp; done) | refine Blk.alloc ?_ _)
          · repeat (first | (refine Blk.new' ?_; simp; done) | refine Blk.alloc ?_ _)
          rintro W ⟨b0, b1, b2, b3, hqW⟩
          refine (no_any 0 _).mono ?_
          rintro e w4 ⟨rfl, hq4⟩
          have e3 := b3.quiet hq4
          have h3' := e3.cell
          have k3 := e3.frozen
          simp only [Answer.val]
          go_wp2
          refine bodyPost_ret (v := Answer.val ⟨0, 0, 0, 0⟩) (by simp [results, Tryz.results59, go_sem, Answer.val, h3']) rfl ⟨by rw [HR.out]; rfl, ?_⟩
          exact Below.set4 (hqW.after hq4) (by omega) _ _ _ _
        · replace HR : Hid (answeredR d l c x now = noR 11) := by simp at u1 u2; have := HR.out; rw [if_pos (.inr u2)] at this; exact this
          go_enter Tryz.func59, Tryz.ntmps59
          go_wp2_with fail
          refine calls_gen (fun W => Blk W w.heap.size #[.slice da dn dcap, .int .i64 d.quorum, .int .i64 d.expiry] 24 ∧ Blk W (w.heap.size + 1) #[.int .i64 c.kind, .int .i64 c.inst, .int .i64 c.a, .int .i64 c.b, .int .i64 c.who, .string c.reason, .bool c.dry] 43 ∧
            Blk W (w.heap.size + 1 + 1) #[.int .i64 x.id, .int .i64 x.mode, .bool x.stuck, .int .i64 x.settled, .int .i64 x.target, .bool x.resume, .int .i64 x.keys, .int .i64 x.key, .int .i64 x.due, .int .i64 x.tries, .int .i64 x.wake, .slice a n cap] 78 ∧ Blk W (w.heap.size + 1 + 1 + 1) #[.int .i64 0, .int .i64 0, .int .i64 0, .int .i64 0] 86 ∧ Quiet w W) ⟨?_, ?_, ?_, Blk.new' (by simp), ((((Below.refl _ _).alloc (Nat.le_refl _) _).alloc (by simp) _).alloc (by simp; omega) _).alloc (by simp; omega) _⟩ ?_
          · repeat (first | (refine Blk.new' ?_; simp; done) | refine Blk.alloc ?_ _)
          · repeat (first | (refine Blk.new' ?_; simp; done) | refine Blk.alloc ?_ _)
          · repeat (first | (refine Blk.new' ?_; simp; done) | refine Blk.alloc ?_ _)
          rintro W ⟨b0, b1, b2, b3, hqW⟩
          refine (no_any 11 _).mono ?_
          rintro e w4 ⟨rfl, hq4⟩
          have e3 := b3.quiet hq4
          have h3' := e3.cell
          have k3 := e3.frozen
          simp only [Answer.val]
          go_wp2
          refine bodyPost_ret (v := Answer.val ⟨11, 0, 0, 0⟩) (by simp [results, Tryz.results59, go_sem, Answer.val, h3']) rfl ⟨by rw [HR.out]; rfl, ?_⟩
          exact Below.set4 (hqW.after hq4) (by omega) _ _ _ _
      · replace HR : Hid (answeredR d l c x now = noR 11) := by simp at u1; have := HR.out; rw [if_pos (.inl u1)] at this; exact this
        go_enter Tryz.func59, Tryz.ntmps59
        go_wp2_with fail
        refine calls_gen (fun W => Blk W w.heap.size #[.slice da dn dcap, .int .i64 d.quorum, .int .i64 d.expiry] 24 ∧ Blk W (w.heap.size + 1) #[.int .i64 c.kind, .int .i64 c.inst, .int .i64 c.a, .int .i64 c.b, .int .i64 c.who, .string c.reason, .bool c.dry] 43 ∧
          Blk W (w.heap.size + 1 + 1) #[.int .i64 x.id, .int .i64 x.mode, .bool x.stuck, .int .i64 x.settled, .int .i64 x.target, .bool x.resume, .int .i64 x.keys, .int .i64 x.key, .int .i64 x.due, .int .i64 x.tries, .int .i64 x.wake, .slice a n cap] 78 ∧ Blk W (w.heap.size + 1 + 1 + 1) #[.int .i64 0, .int .i64 0, .int .i64 0, .int .i64 0] 86 ∧ Quiet w W) ⟨?_, ?_, ?_, Blk.new' (by simp), ((((Below.refl _ _).alloc (Nat.le_refl _) _).alloc (by simp) _).alloc (by simp; omega) _).alloc (by simp; omega) _⟩ ?_
        · repeat (first | (refine Blk.new' ?_; simp; done) | refine Blk.alloc ?_ _)
        · repeat (first | (refine Blk.new' ?_; simp; done) | refine Blk.alloc ?_ _)
        · repeat (first | (refine Blk.new' ?_; simp; done) | refine Blk.alloc ?_ _)
        rintro W ⟨b0, b1, b2, b3, hqW⟩
        refine (no_any 11 _).mono ?_
        rintro e w4 ⟨rfl, hq4⟩
        have e3 := b3.quiet hq4
        have h3' := e3.cell
        have k3 := e3.frozen
        simp only [Answer.val]
        go_wp2
        refine bodyPost_ret (v := Answer.val ⟨11, 0, 0, 0⟩) (by simp [results, Tryz.results59, go_sem, Answer.val, h3']) rfl ⟨by rw [HR.out]; rfl, ?_⟩
        exact Below.set4 (hqW.after hq4) (by omega) _ _ _ _
  · replace HR : Hid (answeredR d l c x now = pickAns d x now) := by simp at h2; have := HR.out; rw [if_pos h2] at this; exact this
    go_enter Tryz.func59, Tryz.ntmps59
    go_wp2_with fail
    refine calls_gen (fun W => Blk W w.heap.size #[.slice da dn dcap, .int .i64 d.quorum, .int .i64 d.expiry] 24 ∧ Blk W (w.heap.size + 1) #[.int .i64 c.kind, .int .i64 c.inst, .int .i64 c.a, .int .i64 c.b, .int .i64 c.who, .string c.reason, .bool c.dry] 43 ∧
      Blk W (w.heap.size + 1 + 1) #[.int .i64 x.id, .int .i64 x.mode, .bool x.stuck, .int .i64 x.settled, .int .i64 x.target, .bool x.resume, .int .i64 x.keys, .int .i64 x.key, .int .i64 x.due, .int .i64 x.tries, .int .i64 x.wake, .slice a n cap] 78 ∧ Blk W (w.heap.size + 1 + 1 + 1) #[.int .i64 0, .int .i64 0, .int .i64 0, .int .i64 0] 86 ∧ Quiet w W) ⟨?_, ?_, ?_, Blk.new' (by simp), ((((Below.refl _ _).alloc (Nat.le_refl _) _).alloc (by simp) _).alloc (by simp; omega) _).alloc (by simp; omega) _⟩ ?_
    · repeat (first | (refine Blk.new' ?_; simp; done) | refine Blk.alloc ?_ _)
    · repeat (first | (refine Blk.new' ?_; simp; done) | refine Blk.alloc ?_ _)
    · repeat (first | (refine Blk.new' ?_; simp; done) | refine Blk.alloc ?_ _)
    rintro W ⟨b0, b1, b2, b3, hqW⟩
    refine (picked_any _ d x a n cap now _ (hd0.quiet hqW) (hE.quiet hqW) hin hk0 hk1).mono ?_
    rintro e w1 ⟨rfl, hq1⟩
    replace b3 := b3.quiet hq1
    replace hq1 : Quiet w w1 := hqW.after hq1
    have g3 := b3.cell
    have f3 := b3.frozen
    generalize pickAns d x now = r at *
    simp only [Answer.val]
    go_wp2
    refine bodyPost_ret (v := Answer.val r) (by simp [results, Tryz.results59, go_sem, Answer.val, g3]) rfl ⟨by rw [HR.out]; rfl, ?_⟩
    exact Below.set4 hq1 (by omega) _ _ _ _

end Go.Proofs.YtgcjlgaapiefiabGreat

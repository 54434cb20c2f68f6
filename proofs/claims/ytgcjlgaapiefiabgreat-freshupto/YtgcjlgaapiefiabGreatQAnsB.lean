import Derived.Test.YtgcjlgaapiefiabGreatQAnsA
import Derived.Test.YtgcjlgaapiefiabGreatQIns

/-
  Walks of the document's answer: decided.
-/
namespace Go.Proofs.YtgcjlgaapiefiabGreat
open Go.RowKit

set_option maxRecDepth 100000 in
set_option maxHeartbeats 4000000 in
theorem decided_any (dv v : Value) (d : Def) (l : List Cmd) (c : Cmd) (now : Int) (w : World) (hd : DefIs w dv d) (hok : StepsOk d) (h : Cmds w v l) (ht : TicksOk l) (hl : l.length ≤ 549755813888) (he0 : 0 ≤ d.expiry) (he1 : d.expiry ≤ 50) (hap : ApprovesOk d l)
    (hfo : ∀ id, FactsOk d id (factsR d l id)) :
    Calls Tryz.prog 58 #[dv, v, c.val, .int .i64 now] w fun e w' => e = .returned (.int .i64 (decidedR d l c now)) ∧ Quiet w w' := by
  have hd0 := hd
  obtain ⟨da, dn, dcap, rfl, hst⟩ := hd
  clear hst
  have HR : Hid (decidedR d l c now = if openR (requestsR d l) c.a now = false then 15
      else if c.kind = 7 then (if c.who = ((requestsR d l).getD (c.a - 1).toNat default).who then 0 else 13)
      else if c.who < 0 ∨ 9 < c.who ∨ c.who = ((requestsR d l).getD (c.a - 1).toNat default).who ∨ ((requestsR d l).getD (c.a - 1).toNat default).bys.any (· == c.who) = true then 13
      else if (((requestsR d l).getD (c.a - 1).toNat default).bys.length : Int) + 1 = d.quorum ∧ canR d (instanceR d l ((requestsR d l).getD (c.a - 1).toNat default).inst) ((requestsR d l).getD (c.a - 1).toNat default).what ((requestsR d l).getD (c.a - 1).toNat default).target = false then 14
      else 0) := rfl
  unfold Cmd.val
  go_enter Tryz.func58, Tryz.ntmps58
  go_wp2_with fail
  refine calls_gen (fun W => Blk W w.heap.size #[.slice da dn dcap, .int .i64 d.quorum, .int .i64 d.expiry] 24 ∧ Blk W (w.heap.size + 1) #[.int .i64 c.kind, .int .i64 c.inst, .int .i64 c.a, .int .i64 c.b, .int .i64 c.who, .string c.reason, .bool c.dry] 43 ∧ Quiet w W) ⟨?_, Blk.new' (by simp), ((Below.refl _ _).alloc (Nat.le_refl _) _).alloc (by simp) _⟩ ?_
  · repeat (first | (refine Blk.new' ?_; simp; done) | refine Blk.alloc ?_ _)
  rintro W ⟨b0, b1, hqW⟩
  refine (requests_any _ _ d l _ (hd0.quiet hqW) (h.quiet hqW) ht (by omega) he0 he1).mono ?_
  rintro e w1 ⟨v', rfl, ⟨ps, HP, hrow, hby⟩, hq1⟩
  obtain ⟨a1, cap1, rfl⟩ := own_shape hrow
  have harr := own_reqs hrow rfl
  replace b0 := b0.quiet hq1
  replace b1 := b1.quiet hq1
  have hqw1 : Quiet w w1 := hqW.after hq1
  clear hq1
  have hpl : (requestsR d l).length = ps.length := by rw [← HP]; simp
  have hpb : ps.length ≤ 1099511627776 := by have := requestsTo_len d l l.length; unfold requestsR at hpl; omega
  have HK : ∀ k (hk : k < ps.length), (requestsR d l).getD k default = ps[k].1 := fun k hk => by rw [← HP]; simp [List.getD, hk]
  have hbb : ∀ k (hk : k < ps.length), ps[k].1.bys.length ≤ 1099511627776 := fun k hk => by have := requests_bys d l k; rw [HK k hk] at this; omega
  have g0 := b0.cell
  have g1 := b1.cell
  by_cases t1 : c.a < 1
  · replace HR : Hid (decidedR d l c now = 15) := by have := HR.out; rw [if_pos (by unfold openR; rw [show decide (1 ≤ c.a) = false by simpa using t1]; rfl)] at this; exact this
    clear HK hbb hby
    go_wp2
    go_ret
    exact ⟨ret_int (by rw [HR.out]), hqw1⟩
  by_cases t2 : (ps.length : Int) < c.a
  · replace HR : Hid (decidedR d l c now = 15) := by have := HR.out; rw [if_pos (by unfold openR; rw [show decide (c.a ≤ ((requestsR d l).length : Int)) = false by rw [hpl]; simpa using t2]; simp)] at this; exact this
    clear HK hbb hby
    go_wp2
    go_ret
    exact ⟨ret_int (by rw [HR.out]), hqw1⟩
  obtain ⟨k, hk⟩ : ∃ k : Nat, c.a = (k : Int) + 1 := ⟨(c.a - 1).toNat, by omega⟩
  have hkp : k < ps.length := by omega
  have hO : openR (requestsR d l) c.a now = (!ps[k].1.closed && decide (now < ps[k].1.upto)) := by
    unfold openR
    rw [hpl, hk, show ((k : Int) + 1 - 1).toNat = k by omega, HK k hkp, show decide (1 ≤ (k : Int) + 1) = true by simp; omega, show decide ((k : Int) + 1 ≤ (ps.length : Int)) = true by simp; omega]
    simp
  rw [hO] at HR
  have hcg : (requestsR d l).getD (c.a - 1).toNat default = ps[k].1 := by rw [hk, show ((k : Int) + 1 - 1).toNat = k by omega]; exact HK k hkp
  rw [hcg] at HR
  obtain ⟨rb, ro, rfl, hrb, r0, r1, r2, r3, r4, r5, r6, r7, r8⟩ := reqs_cell harr k hkp
  obtain ⟨ya, yn, ycap, hy, hyn, hyo⟩ := hby ps[k] (List.getElem_mem hkp)
  rw [hy] at r6 hyo
  have hyb : yn ≤ 1099511627776 := by have := hbb k hkp; omega
  have HYN : Hid (yn = ps[k].1.bys.length) := hyn
  have hints : Ints w1 (.slice ya yn ycap) ps[k].1.bys := own_ints (by rw [← hyn]; exact hyo)
  have HC : Hid (c.a = (k : Int) + 1) := hk
  have g1' : ∀ j, w1.cell? ⟨w.heap.size + 1, j, none⟩ = #[.int .i64 c.kind, .int .i64 c.inst, .int .i64 ((k : Int) + 1), .int .i64 c.b, .int .i64 c.who, .string c.reason, .bool c.dry][j]? := by rw [← hk]; exact g1
  have b1' : Blk w1 (w.heap.size + 1) #[.int .i64 c.kind, .int .i64 c.inst, .int .i64 ((k : Int) + 1), .int .i64 c.b, .int .i64 c.who, .string c.reason, .bool c.dry] 43 := by rw [← hk]; exact b1
  have hki : (0 : Int) ≤ (k : Int) := by omega
  have hkj : (k : Int) < (ps.length : Int) := by omega
  clear g1 b1 hk hcg hO HK hbb hby hyn hy harr hrow HP hpl t1 t2 hqW hyo
  generalize hpk : ps[k] = pk at *
  clear hpk
  generalize ps.length = pl at *
  clear W
  obtain ⟨r, rv⟩ := pk
  simp only at *
  have z1 := b1'.lt
  have z0 := b0.lt
  cases hcl : r.closed
  · by_cases hup : now < r.upto
    · have hupd : decide (now < r.upto) = true := by simpa using hup
      replace HR : Hid (decidedR d l c now = if c.kind = 7 then (if c.who = r.who then 0 else 13) else if c.who < 0 ∨ 9 < c.who ∨ c.who = r.who ∨ r.bys.any (· == c.who) = true then 13
          else if (r.bys.length : Int) + 1 = d.quorum ∧ canR d (instanceR d l r.inst) r.what r.target = false then 14 else 0) := by
        have := HR.out; rw [if_neg (by rw [hcl, hupd]; simp)] at this; exact this
      cases h7 : c.kind == 7
      · replace HR : Hid (decidedR d l c now = if c.who < 0 ∨ 9 < c.who ∨ c.who = r.who ∨ r.bys.any (· == c.who) = true then 13
            else if (r.bys.length : Int) + 1 = d.quorum ∧ canR d (instanceR d l r.inst) r.what r.target = false then 14 else 0) := by
          simp at h7; have := HR.out; rw [if_neg h7] at this; exact this
        go_wp2_with fail
        refine calls_gen (fun W => Blk W w.heap.size #[.slice da dn dcap, .int .i64 d.quorum, .int .i64 d.expiry] 24 ∧ Blk W (w.heap.size + 1) #[.int .i64 c.kind, .int .i64 c.inst, .int .i64 ((k : Int) + 1), .int .i64 c.b, .int .i64 c.who, .string c.reason, .bool c.dry] 43 ∧
          Blk W w1.heap.size #[.int .i64 r.number, .int .i64 r.inst, .int .i64 r.what, .int .i64 r.target, .int .i64 r.who, .string r.reason, .slice ya yn ycap, .int .i64 r.upto, .bool false] 83 ∧ Quiet w1 W) ⟨b0.alloc _, b1'.alloc _, Blk.new' rfl, (Below.refl _ _).alloc (Nat.le_refl _) _⟩ ?_
        rintro W ⟨d0, d1, d2, hqW⟩
        refine (has_any _ r.bys c.who _ (hints.quiet hqW)).mono ?_
        rintro e w2 ⟨rfl, rfl⟩
        have hq2 := hqw1.after hqW
        clear g0 g1' b0 b1' r0 r1 r2 r3 r4 r5 r6 r7 r8 hrb z0 z1
        generalize w1.heap.size = rq at *
        have g0 := d0.cell
        have g1 := d1.cell
        have g2 := d2.cell
        change Hid (decidedR d l c now = if c.who < 0 ∨ 9 < c.who ∨ c.who = r.who ∨ hasR r.bys c.who = true then 13 else if (r.bys.length : Int) + 1 = d.quorum ∧ canR d (instanceR d l r.inst) r.what r.target = false then 14 else 0) at HR
        generalize hasR r.bys c.who = tw at *
        by_cases u1 : c.who < 0
        · replace HR : Hid (decidedR d l c now = 13) := by have := HR.out; rw [if_pos (.inl u1)] at this; exact this
          go_wp2
          go_ret
          exact ⟨ret_int (by rw [HR.out]), hq2⟩
        by_cases u2 : 9 < c.who
        · replace HR : Hid (decidedR d l c now = 13) := by have := HR.out; rw [if_pos (.inr (.inl u2))] at this; exact this
          go_wp2
          go_ret
          exact ⟨ret_int (by rw [HR.out]), hq2⟩
        cases u3 : c.who == r.who
        · cases u4 : tw
          · replace HR : Hid (decidedR d l c now = if (r.bys.length : Int) + 1 = d.quorum ∧ canR d (instanceR d l r.inst) r.what r.target = false then 14 else 0) := by
              simp at u3; have := HR.out; rw [if_neg (by intro hx; rcases hx with hx | hx | hx | hx; exact u1 hx; exact u2 hx; exact u3 hx; rw [u4] at hx; cases hx)] at this; exact this
            rw [← HYN.out] at HR
            go_wp2_with fail
            refine (instance_any _ _ d l r.inst _ (hd0.quiet hq2) hok (h.quiet hq2) ht hl he0 he1 hap (hfo r.inst)).mono ?_
            rintro e w3 ⟨a3, n3, cap3, rfl, hown3, hn3, hq3⟩
            have hE3 : Ents w3 (.slice a3 n3 cap3) (instanceR d l r.inst).ledger := own_ents hown3 hn3 (by
              have := (instFold_bd d r.inst (factsR d l r.inst) (factsR d l r.inst).length (Nat.le_refl _)).2.2.2.2
              rw [List.take_length] at this
              have h2 := factsTo_len d l r.inst l.length
              change (instFold d r.inst (factsR d l r.inst)).ledger.length ≤ _
              change (factsR d l r.inst).length ≤ _ at h2
              omega)
            replace d0 := d0.quiet hq3
            replace d2 := d2.quiet hq3
            replace hq3 := hq2.after hq3
            clear g0 g1 g2 hn3 hown3
            generalize instanceR d l r.inst = x at *
            have g0 := d0.cell
            have g2 := d2.cell
            have z0 := d0.lt
            have z2 := d2.lt
            simp only [Inst.val]
            go_wp2_with fail
            refine calls_gen (fun W => Blk W w.heap.size #[.slice da dn dcap, .int .i64 d.quorum, .int .i64 d.expiry] 24 ∧ Blk W rq #[.int .i64 r.number, .int .i64 r.inst, .int .i64 r.what, .int .i64 r.target, .int .i64 r.who, .string r.reason, .slice ya yn ycap, .int .i64 r.upto, .bool false] 83 ∧ Quiet w3 W) ⟨d0.alloc _, d2.alloc _, (Below.refl _ _).alloc (Nat.le_refl _) _⟩ ?_
            rintro W' ⟨i0, i2, hqW'⟩
            refine (can_any _ d x a3 n3 cap3 r.what r.target _ (hd0.quiet (hq3.after hqW')) (hE3.quiet hqW')).mono ?_
            rintro e w4 ⟨rfl, hq4⟩
            replace i0 := i0.quiet hq4
            replace i2 := i2.quiet hq4
            replace hq4 := (hq3.after hqW').after hq4
            clear g0 g2 z0 z2
            have g0 := i0.cell
            have g2 := i2.cell
            generalize canR d x r.what r.target = cn at *
            cases hqq : (yn : Int) + 1 == d.quorum
            · replace HR : Hid (decidedR d l c now = 0) := by simp at hqq; have := HR.out; rw [if_neg (fun hx => hqq hx.1)] at this; exact this
              go_wp2
              go_ret
              exact ⟨ret_int (by rw [HR.out]), hq4⟩
            · cases hcn : cn
              · replace HR : Hid (decidedR d l c now = 14) := by simp at hqq; have := HR.out; rw [if_pos ⟨hqq, hcn⟩] at this; exact this
                go_wp2
                go_ret
                exact ⟨ret_int (by rw [HR.out]), hq4⟩
              · replace HR : Hid (decidedR d l c now = 0) := by have := HR.out; rw [if_neg (fun hx => by rw [hcn] at hx; cases hx.2)] at this; exact this
                go_wp2
                go_ret
                exact ⟨ret_int (by rw [HR.out]), hq4⟩
          · replace HR : Hid (decidedR d l c now = 13) := by have := HR.out; rw [if_pos (.inr (.inr (.inr u4)))] at this; exact this
            go_wp2
            go_ret
            exact ⟨ret_int (by rw [HR.out]), hq2⟩
        · replace HR : Hid (decidedR d l c now = 13) := by simp at u3; have := HR.out; rw [if_pos (.inr (.inr (.inl u3)))] at this; exact this
          go_wp2
          go_ret
          exact ⟨ret_int (by rw [HR.out]), hq2⟩
      · replace HR : Hid (decidedR d l c now = if c.who = r.who then 0 else 13) := by simp at h7; have := HR.out; rw [if_pos h7] at this; exact this
        cases hw : c.who == r.who
        · replace HR : Hid (decidedR d l c now = 13) := by simp at hw; have := HR.out; rw [if_neg hw] at this; exact this
          go_wp2
          go_ret
          exact ⟨ret_int (by rw [HR.out]), hqw1.alloc hqw1.size _⟩
        · replace HR : Hid (decidedR d l c now = 0) := by simp at hw; have := HR.out; rw [if_pos hw] at this; exact this
          go_wp2
          go_ret
          exact ⟨ret_int (by rw [HR.out]), hqw1.alloc hqw1.size _⟩
    · replace HR : Hid (decidedR d l c now = 15) := by have := HR.out; rw [if_pos (by rw [show decide (now < r.upto) = false by simpa using hup]; simp)] at this; exact this
      go_wp2
      go_ret
      exact ⟨ret_int (by rw [HR.out]), hqw1⟩
  · replace HR : Hid (decidedR d l c now = 15) := by have := HR.out; rw [if_pos (by rw [hcl]; rfl)] at this; exact this
    go_wp2
    go_ret
    exact ⟨ret_int (by rw [HR.out]), hqw1⟩

end Go.Proofs.YtgcjlgaapiefiabGreat

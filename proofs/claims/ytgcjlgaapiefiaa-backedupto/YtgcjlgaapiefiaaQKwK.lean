import Derived.Test.YtgcjlgaapiefiaaQKpC
import Derived.Test.YtgcjlgaapiefiaaQKwA
import Derived.Test.YtgcjlgaapiefiaaQJwB
import Derived.Lib.QuietBelow

/-
  sagakeep.backed: walked, where the request stands.
-/
namespace Go.Proofs.Ytgcjlgaapiefiaa
open Go.RowKit Go.Sort

set_option maxRecDepth 100000 in
set_option maxHeartbeats 2000000 in
theorem backed_any (dv : Value) (d : Def) (w : World) (hd : DefIs w dv d) (ck : Int) (ia : Option Addr) (ni ic : Nat) (ra : Option Addr) (m rc : Nat) (rs : List Req) (hR : ReqsAt w (.slice ra m rc) rs) (j : Nat) (hj : j < rs.length) (hjm : j ≤ 1048576)
    (hnum : rs[j].number = (j : Int) + 1) (hcl : rs[j].closed = true) (hre : 1 ≤ rs[j].reason.size) (hby : (rs[j].bys.length : Int) = d.quorum) (hwho : rs[j].who ∉ rs[j].bys) (hnd : rs[j].bys.Nodup) :
    Calls Try.prog 26 #[dv, .agg #[.int .i64 ck, .slice ia ni ic, .slice ra m rc], .int .i64 rs[j].inst, .int .i64 rs[j].what, .int .i64 ((j : Int) + 1)] w fun e w' => e = .returned (.bool true) ∧ Quiet w w' := by
  have hq0 : ∀ (w : World) o, Quiet w (w.alloc o) := fun w o => (Below.refl _ _).alloc (Nat.le_refl _) _
  obtain ⟨da, dn, dcap, rfl, hst⟩ := hd
  clear hst
  obtain ⟨hm, hm2⟩ := hR.len
  have hjm2 : j < m := by omega
  clear hm
  obtain ⟨b, off, la, ln, lc, rfl, hb, hx, hI⟩ := hR.get j hj
  clear hR
  generalize rs[j] = r at *
  simp only [Req.cells] at hx
  have hln : Hid (ln = r.bys.length) := (by show _ = _; have := (Arr.len hI).1; simpa using this)
  have hlnm : ln ≤ 9223372036854775807 := (Arr.len hI).2
  have x0 : w.cell? ⟨b, off + j * 9, none⟩ = some (.int .i64 r.number) := hx 0 _ rfl
  have x1 := hx 1 _ rfl
  have x2 := hx 2 _ rfl
  have x3 := hx 3 _ rfl
  have x4 := hx 4 _ rfl
  have x5 := hx 5 _ rfl
  have x6 := hx 6 _ rfl
  have x7 := hx 7 _ rfl
  have x8 := hx 8 _ rfl
  rw [hnum] at x0
  rw [hcl] at x8
  have hw1 : IntKind.i64.wrap ((j : Int) + 1 - 1) = (j : Int) := by rw [IntKind.wrap_i64]; omega
  have t1 : ¬ ((j : Int) + 1 < 1) := by omega
  have t2 : ¬ ((m : Int) < (j : Int) + 1) := by omega
  have t3 : (((j : Int) + 1) != ((j : Int) + 1)) = false := by simp
  have t4 : (r.inst != r.inst) = false := by simp
  have t5 : (r.what != r.what) = false := by simp
  have t6 := not_empty r.reason (by omega)
  have t7 : ((ln : Int) != d.quorum) = false := by rw [hln.out, hby]; simp
  have hji : (0 : Int) ≤ (j : Int) := by omega
  have hjj : (j : Int) < (m : Int) := by omega
  clear hnum hcl hby
  go_enter Try.func26, Try.ntmps26
  go_upto_region 6 with (fail)
  refine wp_gen (fun V => Blk V w.heap.size #[.slice da dn dcap, .int .i64 d.quorum, .int .i64 d.expiry] 24 ∧ Blk V (w.heap.size + 1 + 1) #[.int .i64 ((j : Int) + 1), .int .i64 r.inst, .int .i64 r.what, .int .i64 r.target, .int .i64 r.who, .string r.reason, .slice la ln lc, .int .i64 r.upto, .bool true] 85 ∧ Quiet w V) ⟨((Blk.new' rfl).alloc _).alloc _, Blk.new' (by simp), ((hq0 _ _).after (hq0 _ _)).after (hq0 _ _)⟩ ?_
  rintro V ⟨bd, br, hqV⟩
  replace hI := hI.quiet hqV
  clear x0 x1 x2 x3 x4 x5 x6 x7 x8 hx hb bd
  go_wp2
  go_loopw [12, 13] (fun i k wr => ∃ q : Nat, q ≤ ln ∧ i = .int .i64 q ∧ Quiet V wr) (fun i _ _ => ln - (intOf i).toNat)
  case atStart => exact ⟨0, Nat.zero_le _, rfl, Below.refl _ _⟩
  case round =>
    obtain ⟨q, hqn, rfl, hqr⟩ := hrel
    replace br := br.quiet hqr
    replace hI := hI.quiet hqr
    have gr := br.cell
    have zr := br.lt
    by_cases hlt : q < ln
    · have hql : q < r.bys.length := by have := hln.out; omega
      obtain ⟨b1, off1, rfl, hb1, y0⟩ := hI.cell q hql
      have hne : (r.bys[q] == r.who) = false := by
        rw [beq_eq_false_iff_ne]; intro e; exact hwho (e ▸ List.getElem_mem hql)
      have hpair : ∀ (k : Nat) (hk : k < r.bys.length), k < q → (r.bys[q] == r.bys[k]) = false := by
        intro k hk hkq
        rw [beq_eq_false_iff_ne]; intro e
        exact (List.pairwise_iff_getElem.1 hnd) k q hk hql hkq e.symm
      have hX : r.bys[q]? = some r.bys[q] := List.getElem?_eq_getElem hql
      generalize r.bys[q] = x at *
      have hqi : (0 : Int) ≤ (q : Int) := by omega
      have hqj : (q : Int) < (ln : Int) := by omega
      go_wp2_with fail
      go_quiet (fail)
      rename_i nq
      replace br : Blk (wr.drewN nq) _ _ _ := br.quiet ((Below.refl _ _).drewN)
      replace hI := hI.quiet (w' := wr.drewN nq) ((Below.refl _ _).drewN)
      replace hqr : Quiet V (wr.drewN nq) := hqr.after ((Below.refl _ _).drewN)
      generalize wr.drewN nq = wr at *
      clear gr zr y0 hb1
      go_wp2
      go_loopw [13] (fun i wx => ∃ k : Nat, k ≤ q ∧ i = .int .i64 k ∧ Quiet wr wx) (fun i _ => q - (intOf i).toNat)
      case atStart => exact ⟨0, Nat.zero_le _, rfl, Below.refl _ _⟩
      case round =>
        obtain ⟨k, hkq, rfl, hqx⟩ := hrel
        rename_i wx _ _ _ _ _ _ _ _ _ _ _ _ _ _ _ _
        replace br := br.quiet hqx
        replace hI := hI.quiet hqx
        have gr := br.cell
        have zr := br.lt
        by_cases hlt2 : k < q
        · have hkl : k < r.bys.length := by omega
          have hp := hpair k hkl hlt2
          obtain ⟨b2, off2, hbe, hb2, y1⟩ := hI.cell k hkl
          obtain ⟨rfl, rfl⟩ : b1 = b2 ∧ off1 = off2 := by simpa using hbe
          obtain ⟨b3, off3, hbe3, hb3, y0⟩ := hI.cell q hql
          obtain ⟨rfl, rfl⟩ : b1 = b3 ∧ off1 = off3 := by simpa using hbe3
          rw [List.getElem?_eq_getElem hql] at hX
          obtain hXx : r.bys[q] = x := by simpa using hX
          rw [hXx] at y0
          clear hX hXx hbe hbe3
          generalize r.bys[k] = y at *
          have hki : (0 : Int) ≤ (k : Int) := by omega
          have hkj : (k : Int) < (q : Int) := by omega
          have hkl2 : (k : Int) < (ln : Int) := by omega
          go_wp2_with fail
          go_quiet (fail)
          go_wp2
          go_roundw
          case rel => exact ⟨k + 1, by omega, by go_num, hqx.after (Below.refl _ _).drewN⟩
          case measure => simp [intOf]; omega
        · go_wp2
          go_roundw
          case rel => exact ⟨q + 1, by omega, by go_num, hqr.after hqx⟩
          case measure => simp [intOf]; omega
    · go_wp2
      go_ret
      exact ⟨rfl, hqV.after hqr⟩

end Go.Proofs.Ytgcjlgaapiefiaa

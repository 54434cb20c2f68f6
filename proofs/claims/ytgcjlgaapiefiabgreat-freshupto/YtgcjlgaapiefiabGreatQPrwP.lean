import Derived.Test.YtgcjlgaapiefiabGreatQPrwM
import Derived.Test.YtgcjlgaapiefiabGreatQPrwO

/-
  Walks of the program: one command.
-/
namespace Go.Proofs.YtgcjlgaapiefiabGreat
open Go.RowKit Go.Sort

theorem PW.asideSet {w0 : Bas} {w : World} {pb po : Nat} {tw : TypeId} {pcs : Array Value} {W : WorldR} {ia : Option Addr} {n ic : Nat} {ra : Option Addr} {m rc : Nat} (h : PW w0 w pb po tw pcs W ia n ic ra m rc) {b : Nat} {cs : Array Value} {t : TypeId} (hb : Blk w b cs t) (ht : t ∉ worldTypes tw) (hw : w0.heap.size ≤ b) (j : Nat) (v : Value) :
    PW w0 (w.setCell ⟨b, j, none⟩ v) pb po tw pcs W ia n ic ra m rc := by
  simp [worldTypes] at ht
  have hs : ∀ k c t', Blk w k c t' → t' ≠ t → (w.setCell ⟨b, j, none⟩ v).heap[k]? = w.heap[k]? := fun k c t' hk ht' => Below.heap_setCell w _ _ k (Blk.ne hb hk (Ne.symm ht'))
  refine ⟨⟨h.row.1.other _ (Blk.ne hb h.row.1 (fun e => ht.1 e)), h.row.2⟩, h.insts.frame (h1 := fun k c hk => hs k c _ hk ?_) (h2 := fun k c hk => hs k c _ hk ?_), h.reqs.frame (h1 := fun k c hk => hs k c _ hk ?_) (h2 := fun k c hk => hs k c _ hk ?_), Below.setCell h.quiet (p := ⟨b, j, none⟩) (Nat.le_trans w0.le hw) _, h.above, h.aside, h.high.aside hw j v, h.rest⟩
  · exact fun e => ht.2.1 e.symm
  · exact fun e => ht.2.2.1 e.symm
  · exact fun e => ht.2.2.2.1 e.symm
  · exact fun e => ht.2.2.2.2 e.symm
theorem Frame.fresh {ts : List TypeId} {w w' : World} (h : Frame ts w w') {b : Nat} (hb : w.heap.size ≤ b) (j : Nat) (v : Value) : Frame ts w (w'.setCell ⟨b, j, none⟩ v) :=
  ⟨by have := h.1; simpa [World.setCell] using this, fun k cs t hk ht => by
    rw [← h.2 k cs t hk ht]; exact Below.heap_setCell w' _ _ k (by have := hk.lt; show k ≠ b; omega)⟩

set_option maxRecDepth 100000 in
set_option maxHeartbeats 4000000 in
theorem do_any (w0 : Bas) (w : World) (dv : Value) (d : Def) (hd : DefIs w0 dv d) (hdok : DOk d) (pb po : Nat) (tw : TypeId) (pcs : Array Value) (W : WorldR) (ia : Option Addr) (n ic : Nat) (ra : Option Addr) (m rc : Nat) (h : PW w0 w pb po tw pcs W ia n ic ra m rc) (hb : WBd W) (hn : n ≤ 1000) (c : Cmd) (hcr : c.reason.size ≤ 9223372036854775807)
    (hc : (answerP d W c).code = 0 → CmdOk W c) (ht2 : 86 ∉ worldTypes tw) :
    Calls Tryz.prog 53 #[dv, .pointer (some ⟨pb, po, none⟩), c.val] w fun e w' => e = .returned (answerP d W c).val ∧ ∃ pcs' ia' n' ic' ra' m' rc', PW w0 w' pb po tw pcs' (doP d W c) ia' n' ic' ra' m' rc' ∧ Frame (worldTypes tw) w w' := by
  have hq0 : ∀ o, Quiet w (w.alloc o) := fun o => (Below.refl _ _).alloc (Nat.le_refl _) _
  have hd1 := hd.quiet h.quiet
  have hd0 := hd1
  obtain ⟨da, dn, dcap, rfl, hst⟩ := hd1
  clear hst
  have HAns : Hid (∀ V, Quiet w V → Calls Tryz.prog 70 #[.agg #[.slice da dn dcap, .int .i64 d.quorum, .int .i64 d.expiry], .pointer (some ⟨pb, po, none⟩), .agg #[.int .i64 c.kind, .int .i64 c.inst, .int .i64 c.a, .int .i64 c.b, .int .i64 c.who, .string c.reason, .bool c.dry]] V fun e w' => e = .returned (answerP d W c).val ∧ Quiet V w') := fun V hV =>
    answerW_any _ d V (hd0.quiet hV) pb po W ia n ic ra m rc c (h.view.quiet hV) hb hcr
  have HCar : Hid (CmdOk W c → ∀ V, PW w0 V pb po tw pcs W ia n ic ra m rc → Calls Tryz.prog 71 #[.agg #[.slice da dn dcap, .int .i64 d.quorum, .int .i64 d.expiry], .pointer (some ⟨pb, po, none⟩), .agg #[.int .i64 c.kind, .int .i64 c.inst, .int .i64 c.a, .int .i64 c.b, .int .i64 c.who, .string c.reason, .bool c.dry]] V fun e w' => ∃ v, e = .returned v ∧ ∃ pcs' ia' n' ic' ra' m' rc', PW w0 w' pb po tw pcs' (carryP d W c) ia' n' ic' ra' m' rc' ∧ Frame (worldTypes tw) V w') := fun hok V hV =>
    carryOut_any w0 V _ d hd hdok pb po tw pcs W ia n ic ra m rc hV hb hn c hok
  have HDo : Hid (doP d W c = if (answerP d W c).code = 0 ∧ c.dry = false then carryP d W c else W) := rfl
  have HC : Hid ((answerP d W c).code = 0 → CmdOk W c) := hc
  clear hc
  generalize answerP d W c = A at *
  unfold Cmd.val
  go_enter Tryz.func53, Tryz.ntmps53
  go_wp2_with fail
  refine calls_gen (fun V => Blk V w.heap.size #[.slice da dn dcap, .int .i64 d.quorum, .int .i64 d.expiry] 24 ∧ Blk V (w.heap.size + 1) #[.int .i64 c.kind, .int .i64 c.inst, .int .i64 c.a, .int .i64 c.b, .int .i64 c.who, .string c.reason, .bool c.dry] 43 ∧ Blk V (w.heap.size + 1 + 1) #[.int .i64 0, .int .i64 0, .int .i64 0, .int .i64 0] 86 ∧ Quiet w V) ⟨((Blk.new' rfl).alloc _).alloc _, (Blk.new' (by simp)).alloc _, Blk.new' (by simp), ((hq0 _).alloc (by simp) _).alloc (by simp; omega) _⟩ ?_
  rintro V ⟨b0, b1, b2, hqV⟩
  refine (HAns.out V hqV).mono ?_
  rintro e w1 ⟨rfl, hq1⟩
  replace b0 := b0.quiet hq1
  replace b1 := b1.quiet hq1
  replace b2 := b2.quiet hq1
  replace hqV : Quiet w w1 := hqV.after hq1
  clear hq1
  have g0 := b0.cell
  have g1 := b1.cell
  have g2 := b2.cell
  have f2 := b2.frozen
  have z0 := b0.lt
  have z1 := b1.lt
  have z2 := b2.lt
  simp only [Answer.val]
  cases hA : A.code == 0
  · have HD2 : Hid (doP d W c = W) := by show doP d W c = _; simp at hA; rw [HDo.out, if_neg (fun q => hA q.1)]
    go_wp2
    refine bodyPost_ret (v := .agg #[.int .i64 A.code, .int .i64 A.number, .int .i64 A.step, .int .i64 A.what]) (by simp [results, Tryz.results53, go_sem, g2, z2]) rfl ⟨rfl, pcs, ia, n, ic, ra, m, rc, ?_⟩
    rw [HD2.out]
    have hqy := Below.four hqV (b := w.heap.size + 1 + 1) (by omega) (.int .i64 A.code) (.int .i64 A.number) (.int .i64 A.step) (.int .i64 A.what)
    exact ⟨h.hush (hqy.alloc hqy.size _), Frame.quiet _ (hqy.alloc hqy.size _)⟩
  · cases hdry : c.dry
    · have hA0 : A.code = 0 := by simpa using hA
      have HD2 : Hid (doP d W c = carryP d W c) := by show doP d W c = _; rw [HDo.out, if_pos ⟨hA0, hdry⟩]
      have hok := HC.out hA0
      clear hA0
      have hqx := hqV.alloc hqV.size (.cells #[.int .i64 A.code, .int .i64 A.number, .int .i64 A.step, .int .i64 A.what] 86)
      go_wp2_with fail
      refine calls_gen (fun V => Blk V w1.heap.size #[.int .i64 A.code, .int .i64 A.number, .int .i64 A.step, .int .i64 A.what] 86 ∧ Blk V (w.heap.size + 1 + 1) #[.int .i64 0, .int .i64 0, .int .i64 0, .int .i64 0] 86 ∧ Quiet w V) ⟨Blk.new' rfl, b2.alloc _, hqx⟩ ?_
      rintro V ⟨b3, b2', hqV'⟩
      rw [hdry] at HCar
      refine (HCar.out hok V (h.hush hqV')).mono ?_
      rintro e w2 ⟨v, rfl, pcs', ia', n', ic', ra', m', rc', hP, hF⟩
      have c3 := hF.blk b3 ht2
      have c2 := hF.blk b2' ht2
      have k3 := c3.cell
      have k2 := c2.cell
      have kf := c2.frozen
      go_wp2
      refine bodyPost_ret (v := .agg #[.int .i64 A.code, .int .i64 A.number, .int .i64 A.step, .int .i64 A.what]) (by simp [results, Tryz.results53, go_sem, k2]) rfl ⟨rfl, ?_⟩
      rw [HD2.out]
      have hF2 : Frame (worldTypes tw) w w2 := (Frame.quiet _ hqV').trans hF
      have hw0 : w0.heap.size ≤ w.heap.size + 1 + 1 := by have := h.high.size; omega
      exact ⟨pcs', ia', n', ic', ra', m', rc', (((hP.asideSet c2 ht2 hw0 0 _).asideSet (c2.set 0 _) ht2 hw0 1 _).asideSet ((c2.set 0 _).set 1 _) ht2 hw0 2 _).asideSet (((c2.set 0 _).set 1 _).set 2 _) ht2 hw0 3 _, (((hF2.fresh (by omega) 0 _).fresh (by omega) 1 _).fresh (by omega) 2 _).fresh (by omega) 3 _⟩
    · have HD2 : Hid (doP d W c = W) := by show doP d W c = _; rw [HDo.out, if_neg (fun q => by rw [hdry] at q; simp at q)]
      have hqx := hqV.alloc hqV.size (.cells #[.int .i64 A.code, .int .i64 A.number, .int .i64 A.step, .int .i64 A.what] 86)
      go_wp2
      refine bodyPost_ret (v := .agg #[.int .i64 A.code, .int .i64 A.number, .int .i64 A.step, .int .i64 A.what]) (by simp [results, Tryz.results53, go_sem, g2, z2]) rfl ⟨rfl, pcs, ia, n, ic, ra, m, rc, ?_⟩
      rw [HD2.out]
      have hqy := Below.four hqV (b := w.heap.size + 1 + 1) (by omega) (.int .i64 A.code) (.int .i64 A.number) (.int .i64 A.step) (.int .i64 A.what)
      exact ⟨h.hush (hqy.alloc hqy.size _), Frame.quiet _ (hqy.alloc hqy.size _)⟩

end Go.Proofs.YtgcjlgaapiefiabGreat

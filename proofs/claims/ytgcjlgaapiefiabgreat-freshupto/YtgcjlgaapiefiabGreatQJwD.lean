import Derived.Test.YtgcjlgaapiefiabGreatQJwC
import Derived.Test.YtgcjlgaapiefiabGreatQPrwN
import Derived.Test.YtgcjlgaapiefiabGreatQLog
import Derived.Maps.AppendAt
import Derived.Laws.AppendOwnNone

/-
  Walks of the program: a journal is read.
-/
namespace Go.Proofs.YtgcjlgaapiefiabGreat
open Go.RowKit Go.Sort

/-- A world that the program keeps, whatever its cells are. -/
def PWx (w0 : Bas) (w : World) (pb po : Nat) (tw : TypeId) (W : WorldR) : Prop := ∃ pcs ia n ic ra m rc, PW w0 w pb po tw pcs W ia n ic ra m rc
theorem PWx.hush {w0 : Bas} {w w' : World} {pb po : Nat} {tw : TypeId} {W : WorldR} (h : PWx w0 w pb po tw W) (hq : Quiet w w') : PWx w0 w' pb po tw W := by
  obtain ⟨pcs, ia, n, ic, ra, m, rc, h⟩ := h; exact ⟨pcs, ia, n, ic, ra, m, rc, h.hush hq⟩
theorem PWx.quiet {w0 : Bas} {w : World} {pb po : Nat} {tw : TypeId} {W : WorldR} (h : PWx w0 w pb po tw W) : Quiet w0 w := by
  obtain ⟨pcs, ia, n, ic, ra, m, rc, h⟩ := h; exact h.quiet

theorem doX_log (w0 : Bas) (w : World) (dv : Value) (d : Def) (hd : DefIs w0 dv d) (hok : d.ok = true) (pb po : Nat) (tw : TypeId) (ht : 86 ∉ worldTypes tw) (l : List Cmd) (hl : LogOk d l) (hlen : l.length ≤ 4194304) (h : PWx w0 w pb po tw (worldR d l)) (c : Cmd) (hcr : c.reason.size ≤ 9223372036854775807) :
    Calls Tryz.prog 53 #[dv, .pointer (some ⟨pb, po, none⟩), c.val] w fun e w' => e = .returned (answerR d l c).val ∧ PWx w0 w' pb po tw (worldR d (logStep d l c)) ∧ Frame (worldTypes tw) w w' := by
  obtain ⟨pcs, ia, n, ic, ra, m, rc, h⟩ := h
  obtain ⟨hb, hi⟩ := worldR_bd hok hl hlen
  refine (do_any w0 w dv d hd (stepP_ok hok) pb po tw pcs (worldR d l) ia n ic ra m rc h hb (by have := h.ilen; omega) c hcr (cmdOk_of hok hl c) ht).mono ?_
  rintro e w' ⟨rfl, pcs', ia', n', ic', ra', m', rc', hP, hF⟩
  rw [doP_eq hok hl] at hP
  rw [answer_eq hok hl]
  exact ⟨rfl, ⟨pcs', ia', n', ic', ra', m', rc', hP⟩, hF⟩

theorem isRec_iff {r : ByteArray} {d : Def} {l : List Cmd} (ha : (answerR d l (cmdOf r)).code = 0) : IsRecP r ↔ IsRec r := by
  have hk := kind_ok ha
  unfold IsRecP IsRec
  rw [recP_record _ hk.1 hk.2]

theorem Frame.more {ts : List TypeId} {w w1 w2 : World} (h : Frame ts w w1) (h2 : Quiet w1 w2) : Frame ts w w2 := h.trans (Frame.quiet ts h2)

set_option maxRecDepth 100000 in
set_option maxHeartbeats 4000000 in
theorem read_any (w0 : Bas) (w : World) (dv : Value) (d : Def) (hd : DefIs w0 dv d) (hok : d.ok = true) (pb po : Nat) (tw : TypeId) (ht : 86 ∉ worldTypes tw) (htc : 24 ∉ worldTypes tw) (l0 : List Cmd) (hl : LogOk d l0) (s : ByteArray) (hlen : 8 * l0.length + s.size ≤ 33554432) (h : PWx w0 w pb po tw (worldR d l0)) :
    Calls Tryz.prog 38 #[dv, .pointer (some ⟨pb, po, none⟩), .string s] w fun e w' => e = .returned (.int .i64 (readR d l0 s).2) ∧ LogOk d (readR d l0 s).1 ∧ PWx w0 w' pb po tw (worldR d (readR d l0 s).1) ∧ Frame (worldTypes tw) w w' := by
  have hq0 : ∀ (w : World) o, Quiet w (w.alloc o) := fun w o => (Below.refl _ _).alloc (Nat.le_refl _) _
  have hd0 := hd
  have hd1 := hd.quiet h.quiet
  obtain ⟨da, dn, dcap, rfl, hst⟩ := hd1
  clear hst
  have hsm : s.size ≤ 33554432 := by omega
  go_enter Tryz.func38, Tryz.ntmps38
  go_wp2
  go_loopw [7] (fun i wr => ∃ (k : Nat) (l : List Cmd) (f : Nat), k ≤ s.size ∧ i = .int .i64 k ∧ LogOk d l ∧ 8 * l.length ≤ 8 * l0.length + k ∧ PWx w0 wr pb po tw (worldR d l) ∧ s.size ≤ k + f ∧ readF d s f l k = readR d l0 s ∧ Blk wr w.heap.size #[.slice da dn dcap, .int .i64 d.quorum, .int .i64 d.expiry] 24 ∧ Frame (worldTypes tw) w wr) (fun i _ => s.size - (intOf i).toNat)
  case atStart => exact ⟨0, l0, s.size, Nat.zero_le _, rfl, hl, by omega, h.hush (hq0 _ _), by omega, rfl, Blk.new' rfl, Frame.quiet _ (hq0 _ _)⟩
  case round =>
    obtain ⟨k, l, f, hk, rfl, hlo, hll, hP, hf, HR, bd, hF⟩ := hrel
    replace HR : Hid (readF d s f l k = readR d l0 s) := HR
    by_cases hlt : k < s.size
    · have hs : ∀ U, (Instr.slice 9 (.string s) (some (.int .i64 k)) none none).run Tryz.prog U = .ok (.string (restOf s k)) U := fun U => by
        rw [run_slice_string_from_if U 9 s .i64 k Tryz.underlying9, if_pos ⟨by omega, by omega⟩]; rfl
      have hki : (0 : Int) ≤ (k : Int) := by omega
      have hkj : (k : Int) < (s.size : Int) := by omega
      have HRS : Hid ((restOf s k).size = s.size - k) := by show (restOf s k).size = _; unfold restOf; rw [ByteArray.size_extract]; omega
      have HFi : Hid (∀ V, Calls Tryz.prog 55 #[.string (restOf s k)] V fun e w' => Quiet V w' ∧ ((IsRecP (restOf s k) ∧ e = .returned (.tuple #[(cmdOf (restOf s k)).val, .int .i64 (byteAt (restOf s k) 0 + 3)])) ∨ (¬ IsRecP (restOf s k) ∧ e = .returned (.tuple #[.agg #[.int .i64 0, .int .i64 0, .int .i64 0, .int .i64 0, .int .i64 0, .string ⟨#[]⟩, .bool false], .int .i64 0])))) := fun V => first_any (restOf s k) V (by rw [HRS.out]; omega)
      by_cases hrec : IsRecP (restOf s k)
      · have HDo : Hid (∀ U, Quiet wr U → Calls Tryz.prog 53 #[.agg #[.slice da dn dcap, .int .i64 d.quorum, .int .i64 d.expiry], .pointer (some ⟨pb, po, none⟩), (cmdOf (restOf s k)).val] U fun e w' => e = .returned (answerR d l (cmdOf (restOf s k))).val ∧ PWx w0 w' pb po tw (worldR d (logStep d l (cmdOf (restOf s k)))) ∧ Frame (worldTypes tw) U w') := fun U hU =>
          doX_log w0 U _ d hd0 hok pb po tw ht l hlo (by omega) (hP.hush hU) _ (by
            show ((restOf s k).extract 6 _).size ≤ _
            rw [ByteArray.size_extract, HRS.out]; omega)
        have HV : Hid ((cmdOf (restOf s k)).val = .agg #[.int .i64 (cmdOf (restOf s k)).kind, .int .i64 (cmdOf (restOf s k)).inst, .int .i64 (cmdOf (restOf s k)).a, .int .i64 (cmdOf (restOf s k)).b, .int .i64 (cmdOf (restOf s k)).who, .string (cmdOf (restOf s k)).reason, .bool false]) := rfl
        rw [HV.out] at HFi HDo
        have hx := byteAt_bd (restOf s k) 0
        have hx3 : byteAt (restOf s k) 0 + 3 ≤ s.size - k := by have := hrec.2.2.1; rw [HRS.out] at this; omega
        have hx5 : 5 ≤ byteAt (restOf s k) 0 := hrec.2.1
        have HStop : Hid ((answerR d l (cmdOf (restOf s k))).code ≠ 0 → readR d l0 s = (l, k) ∧ logStep d l (cmdOf (restOf s k)) = l) := fun q => ⟨by rw [← HR.out, readF_stop (fun z => q z.2)], by unfold logStep; rw [if_neg (fun z => q z.1)]⟩
        have HGo : Hid ((answerR d l (cmdOf (restOf s k))).code = 0 → logStep d l (cmdOf (restOf s k)) = l ++ [cmdOf (restOf s k)] ∧ LogOk d (l ++ [cmdOf (restOf s k)]) ∧ ∃ f', s.size ≤ (k + (byteAt (restOf s k) 0).toNat + 3) + f' ∧ readF d s f' (l ++ [cmdOf (restOf s k)]) (k + (byteAt (restOf s k) 0).toNat + 3) = readR d l0 s) := fun q => by
          refine ⟨by unfold logStep; rw [if_pos ⟨q, rfl⟩], hlo.snoc q, ?_⟩
          obtain ⟨f', q1, q2⟩ := readF_go (f := f) (l := l) hf ((isRec_iff q).1 hrec) q
          exact ⟨f', q1, by rw [← q2]; exact HR.out⟩
        generalize answerR d l (cmdOf (restOf s k)) = A at *
        generalize logStep d l (cmdOf (restOf s k)) = l2 at *
        have HREC : Hid (IsRecP (restOf s k)) := hrec
        clear hrec HV HRS
        generalize byteAt (restOf s k) 0 = x at *
        generalize cmdOf (restOf s k) = c at *
        generalize restOf s k = r at *
        have gd := bd.cell
        go_wp2_with fail
        refine (HFi.out _).mono ?_
        rintro e w1 ⟨hq1, ⟨_, rfl⟩ | ⟨hno, _⟩⟩
        rotate_left
        · exact absurd HREC.out hno
        have gd1 := (bd.quiet hq1).cell
        have zd1 := (bd.quiet hq1).lt
        go_wp2_with fail
        refine calls_gen (fun U => Quiet wr U) ?_ ?_
        · exact hq1.after (hq0 _ _)
        intro U hqU
        refine (HDo.out U hqU).mono ?_
        rintro e w2 ⟨rfl, hP2, hF2⟩
        replace bd : Blk w2 w.heap.size #[.slice da dn dcap, .int .i64 d.quorum, .int .i64 d.expiry] 24 := hF2.blk (bd.quiet hqU) htc
        replace hF : Frame (worldTypes tw) w w2 := (hF.more hqU).trans hF2
        simp only [Answer.val]
        cases hA : A.code == 0
        · have hA' : A.code ≠ 0 := by simpa using hA
          obtain ⟨e1, e2⟩ := HStop.out hA'
          rw [e2] at hP2
          have HE1 : Hid (readR d l0 s = (l, k)) := e1
          clear hA' e1 e2
          go_wp2
          go_ret
          rw [HE1.out]
          exact ⟨rfl, hlo, hP2.hush (hq0 _ _), hF.more (hq0 _ _)⟩
        · have hA' : A.code = 0 := by simpa using hA
          obtain ⟨e1, e2, f', e3, e4⟩ := HGo.out hA'
          rw [e1] at hP2
          have HE4 : Hid (readF d s f' (l ++ [c]) (k + x.toNat + 3) = readR d l0 s) := e4
          clear hA' e4 e1
          go_wp2
          go_roundw
          case rel =>
            refine ⟨k + x.toNat + 3, l ++ [c], f', by omega, ?_, e2, by simp; omega, hP2.hush (hq0 _ _), e3, HE4.out, bd.alloc _, hF.more (hq0 _ _)⟩
            congr 1; omega
          case measure => simp [intOf]; omega
      · have HStop : Hid (readR d l0 s = (l, k)) := by
          show readR d l0 s = _
          rw [← HR.out, readF_stop (fun z => hrec ((isRec_iff z.2).2 z.1))]
        have HREC : Hid (¬ IsRecP (restOf s k)) := hrec
        clear hrec
        generalize cmdOf (restOf s k) = c at *
        generalize byteAt (restOf s k) 0 = x at *
        generalize restOf s k = r at *
        go_wp2_with fail
        refine (HFi.out _).mono ?_
        rintro e w1 ⟨hq1, ⟨hno, _⟩ | ⟨_, rfl⟩⟩
        · exact absurd hno HREC.out
        go_wp2
        go_ret
        rw [HStop.out]
        exact ⟨rfl, hlo, hP.hush (hq1.after (hq0 _ _)), hF.more (hq1.after (hq0 _ _))⟩
    · have HStop : Hid (readR d l0 s = (l, k)) := by
        show readR d l0 s = _
        rw [← HR.out, readF_stop (fun z => rest_end (by omega) z.1)]
      go_wp2
      go_ret
      rw [HStop.out]
      exact ⟨rfl, hlo, hP, hF⟩

end Go.Proofs.YtgcjlgaapiefiabGreat

/-
  Walks of the program: a world is copied.
-/
namespace Go.Proofs.YtgcjlgaapiefiabGreat
open Go.RowKit Go.Sort

section
variable {α : Type} {t e : TypeId} {m s : Nat} {cells : α → Value → List Value} {inner : α → List Value} {len : α → Nat}

/-- A row more, with a slice of its own. -/
theorem RowsOf.snocV {base : Nat} {w w' : World} {ia ia' : Option Addr} {n ic ic' : Nat} {ps : List (α × Value)} (h : RowsOf t e m s cells inner len base w ia n ic ps) (x : α) (a : Option Addr) (k c : Nat) (hk : k = len x)
    (hin : w'.ownsRow base e s (.slice a k c) k (inner x)) (hfr : ∀ z, (Value.slice a k c).ownBlock = some z → w.heap.size ≤ z)
    (hown : w'.ownsRow base t m (.slice ia' (n + 1) ic') (n + 1) ((ps.map fun p => cells p.1 p.2).flatten ++ cells x (.slice a k c))) (hs : ∀ k cs, Blk w k cs e → w'.heap[k]? = w.heap[k]?) :
    RowsOf t e m s cells inner len base w' ia' (n + 1) ic' (ps ++ [(x, .slice a k c)]) := by
  have hlt : ∀ p ∈ ps, ∀ z, p.2.ownBlock = some z → z < w.heap.size := fun p hp z hz => by
    obtain ⟨a', k', c', q1, q2, q3⟩ := h.each p hp
    obtain ⟨cs, hb⟩ := own_blk q3 hz
    exact hb.lt
  have hcase : ∀ (i : Nat) (p : α × Value), (ps ++ [(x, Value.slice a k c)])[i]? = some p → (ps[i]? = some p) ∨ (i = ps.length ∧ p = (x, .slice a k c)) := by
    intro i p hp
    by_cases hi : i < ps.length
    · rw [List.getElem?_append_left hi] at hp; exact .inl hp
    · rw [List.getElem?_append_right (by omega)] at hp
      by_cases h0 : i - ps.length = 0
      · rw [h0] at hp; simp at hp; exact .inr ⟨by omega, hp.symm⟩
      · rw [List.getElem?_eq_none (by simp; omega)] at hp; simp at hp
  refine ⟨by simp [h.count], by simpa using hown, fun p hp => ?_, ?_⟩
  · rcases List.mem_append.1 hp with hp | hp
    · obtain ⟨a', k', c', q1, q2, q3⟩ := h.each p hp
      exact ⟨a', k', c', q1, q2, own_same q3 (fun j hj => by obtain ⟨cs, hb⟩ := own_blk q3 hj; exact hs j cs hb)⟩
    · simp at hp; subst hp
      exact ⟨a, k, c, rfl, hk, hin⟩
  · intro i j p q hp hq hij z hz hz2
    rcases hcase i p hp with hp' | ⟨e1, rfl⟩
    · rcases hcase j q hq with hq' | ⟨e2, rfl⟩
      · exact h.apart i j p q hp' hq' hij z hz hz2
      · have := hlt p (List.mem_of_getElem? hp') z hz
        have := hfr z hz2
        omega
    · rcases hcase j q hq with hq' | ⟨e2, rfl⟩
      · have := hlt q (List.mem_of_getElem? hq') z hz2
        have := hfr z hz
        omega
      · omega
end

/-- An empty list's own block. -/
theorem own_empty {W : World} {base b : Nat} (e : TypeId) (size : Nat) (hb : Blk W b #[] e) (h : base ≤ b) : W.ownsRow base e size (.slice (some ⟨b, 0, none⟩) 0 0) 0 [] :=
  ⟨by simp, .inr ⟨b, 0, #[], rfl, h, hb, Nat.le_refl _, by unfold maxLen; omega, by simp, by simp⟩⟩
/-- Whether an own slice is nil. -/
theorem own_none {w : World} {base : Nat} {e : TypeId} {size : Nat} {a : Option Addr} {n n' cap : Nat} {xs : List Value} (h : w.ownsRow base e size (.slice a n cap) n' xs) : (a = none ∧ n = 0 ∧ cap = 0 ∧ n' = 0 ∧ xs = []) ∨ ∃ g, a = some ⟨g, 0, none⟩ := by
  obtain ⟨h1, h2⟩ := h
  rcases h2 with ⟨h2, h3⟩ | ⟨g, cap', cur, h2, _⟩
  · simp at h2
    obtain ⟨rfl, rfl, rfl⟩ := h2
    subst h3
    simp at h1
    exact .inl ⟨rfl, rfl, rfl, rfl, h1⟩
  · simp at h2
    exact .inr ⟨g, h2.1⟩

theorem ents_one (l : List Entry) : ∀ u ∈ ents l, u.oneCell' = true := by
  intro u hu
  unfold ents at hu
  obtain ⟨x, hx, hu⟩ := List.mem_flatten.1 hu
  obtain ⟨e, _, rfl⟩ := List.mem_map.1 hx
  simp [Entry.cells] at hu
  rcases hu with rfl | rfl | rfl <;> rfl
theorem ints_one (l : List Int) : ∀ u ∈ ints l, u.oneCell' = true := by
  intro u hu
  unfold ints at hu
  simp at hu
  obtain ⟨x, _, rfl⟩ := hu
  rfl

/-- 'append(own, own...)': nil or not. -/
theorem wpList_append_two {P : Program} {w : World} {ops : Array Oper} {rest : List Oper} {o : Oper} {a : Act} {Q : Exit → Act → World → Prop} (hgd : o.guard = none) (s x : Operand) (t : TypeId)
    (ho : o.op = .call { callee := .builtin .append, args := #[s, x], argTypes := #[t, t] })
    (base base' : Nat) (e : TypeId) (i : TypeInfo) (z : Value) (size bytes : Nat) (ht : P.underlying t = some (.slice e)) (hi : P.info? e = some i) (hz : i.zero = some z)
    (hsize : i.size = size) (hby : i.bytes = bytes) (hzs : z.cells.size = size) (hsz : 0 < size)
    (v : Value) (n : Nat) (xs : List Value) (hs : a.eval s = v) (hown : w.ownsRow base e size v n xs)
    (ad : Option Addr) (m c : Nat) (news : List Value) (hx : a.eval x = .slice ad m c) (hsrc : w.ownsRow base' e size (.slice ad m c) m news) (h1 : ∀ u ∈ news, u.oneCell' = true)
    (h63 : n + m ≤ maxLen) (hbytes : (n + m) * bytes ≤ 140737488355328) (hbase : base ≤ w.heap.size)
    (h : ∀ v' w', w'.ownsRow base e size v' (n + m) (xs ++ news) → w.grownBy w' v.ownBlock → (v'.ownBlock = v.ownBlock ∨ v'.ownBlock = some w.heap.size) → wpList P ops Q rest (a.put o.dst v') w') :
    wpList P ops Q (o :: rest) a w := by
  rcases own_none hsrc with ⟨rfl, rfl, rfl, _, rfl⟩ | ⟨g, rfl⟩
  · exact wpList_append_own_none hgd s x t ho base e i size ht hi v n xs hs hown hx (h v w (by simpa using hown) (grown_of_quiet (Below.refl _ _)) (.inl rfl))
  · exact wpList_append_own_at w hgd s x t ho base e i z size bytes ht hi hz hsize hby hzs hsz v n xs hs hown ⟨g, 0, none⟩ m c news hx hsrc.1 (hsrc.cells (g := g) rfl) h1 h63 hbytes hbase (fun v' w' q1 q2 _ q4 => h v' w' q1 q2 q4)

theorem set3_frame {w : World} {b : Nat} {cs : Array Value} {t : TypeId} (hb : Blk w b cs t) (v0 v1 v2 : Value) : ∀ k c t', Blk w k c t' → t' ≠ t → (((w.setCell ⟨b, 0, none⟩ v0).setCell ⟨b, 1, none⟩ v1).setCell ⟨b, 2, none⟩ v2).heap[k]? = w.heap[k]? := by
  intro k c t' hk ht
  have hne : k ≠ b := Blk.ne hb hk (Ne.symm ht)
  rw [Below.heap_setCell _ _ _ _ hne, Below.heap_setCell _ _ _ _ hne, Below.heap_setCell _ _ _ _ hne]

set_option maxRecDepth 100000 in
set_option maxHeartbeats 8000000 in
theorem copy_any (w0 : Bas) (w : World) (pb po : Nat) (tw : TypeId) (pcs : Array Value) (W : WorldR) (ia : Option Addr) (n ic : Nat) (ra : Option Addr) (m rc : Nat) (h : PW w0 w pb po tw pcs W ia n ic ra m rc) (hb : WBd W) (hn : n ≤ 1000) :
    Calls Tryz.prog 69 #[.pointer (some ⟨pb, po, none⟩)] w fun e w' => ∃ ja jc qa qc, e = .returned (.agg #[.int .i64 W.clock, .slice ja n jc, .slice qa m qc]) ∧ InstsMem w.heap.size w' ja n jc W.insts ∧ ReqsMem w.heap.size w' qa m qc W.reqs ∧ Quiet w w' := by
  obtain ⟨i0, hi, hz0, hz1, hz2⟩ := info_parts Tryz.infoRow78
  obtain ⟨i1, hj, hy0, hy1, hy2⟩ := info_parts Tryz.info92
  obtain ⟨i2, hk2, hx0, hx1, hx2⟩ := info_parts Tryz.info3
  obtain ⟨i3, hk3, ha0, ha1, ha2⟩ := info_parts Tryz.info83
  have hq0 : ∀ (w : World) o, Quiet w (w.alloc o) := fun w o => (Below.refl _ _).alloc (Nat.le_refl _) _
  have hv := h.view
  have HIL : Hid (n = W.insts.length) := h.ilen
  have HRL : Hid (m = W.reqs.length) := h.rlen
  have hm : m ≤ 1000 := by have := hb.count; have := h.rlen; omega
  obtain ⟨p0, p1, p2⟩ := h.row.at.three
  have hpl := h.row.1.lt
  go_enter Tryz.func69, Tryz.ntmps69
  go_wp2
  have HB : Hid (WBd W) := hb
  clear hb
  have HIM : Hid (InstsMem w0.heap.size w ia n ic W.insts) := h.insts
  have HRM : Hid (ReqsMem w0.heap.size w ra m rc W.reqs) := h.reqs
  have HV : Hid (At w pb po [.int .i64 W.clock, .slice ia n ic, .slice ra m rc]) := h.row.at
  clear hv p0 p1 p2 h
  go_loopw [4] (fun i wr => ∃ (k : Nat) (ja : Option Addr) (jc : Nat), k ≤ n ∧ i = .int .i64 k ∧ Blk wr (w.heap.size + 1) #[.int .i64 W.clock, .slice ja k jc, .slice none 0 0] 47 ∧ Blk wr w.heap.size #[.int .i64 0, .slice none 0 0, .slice none 0 0] 47 ∧ InstsMem w.heap.size wr ja k jc (W.insts.take k) ∧ Quiet w wr) (fun i _ => n - (intOf i).toNat)
  case atStart => exact ⟨0, none, 0, Nat.zero_le _, rfl, Blk.new' (by simp), (Blk.new' rfl).alloc _, ⟨[], rfl, rfl, World.ownsRow_nil _ _ _ _, by simp, by simp⟩, (hq0 _ _).after (hq0 _ _)⟩
  case round =>
    obtain ⟨k, ja, jc, hk, rfl, bc, br, hM, hq⟩ := hrel
    obtain ⟨p0, p1, p2⟩ := (HV.out.quiet hq).three
    have gc := bc.cell
    have hki : (0 : Int) ≤ (k : Int) := by omega
    by_cases hlt : k < n
    · have hkl : k < W.insts.length := by have := HIL.out; omega
      obtain ⟨g, cs, a', n', cap', rfl, hg, hI, _⟩ := RowsMem.at _ _ _ _ _ _ _ (by intros; rfl) (by decide) (by decide) (HIM.out.quiet (hq := hq)) k hkl
      have HT : Hid (W.insts.take (k + 1) = W.insts.take k ++ [W.insts[k]]) := List.take_succ_eq_append_getElem hkl
      have hled := (HB.out.insts W.insts[k] (List.getElem_mem hkl)).2.2.2.2.2.2
      generalize W.insts[k] = x at *
      obtain ⟨c0, c1, c2, c3, c4, c5, c6, c7, c8, c9, c10, c11⟩ := hI.row.at.twelve
      have hsrc := hI.own
      have HN' : Hid (n' = x.ledger.length) := hI.len
      have hnb : n' < 1099511627776 := by have := HN'.out; omega
      have hkj : (k : Int) < (n : Int) := by omega
      have zg := hI.row.1.lt
      have zc := bc.lt
      go_wp2_with (at_builtin; refine wpList_append_two rfl _ _ 76 rfl w.heap.size w0.heap.size 92 i1 (.agg #[.int .i64 0, .int .i64 0, .int .i64 0]) 3 24 Tryz.underlying76 hj hy0 hy1 hy2 rfl (by decide) _ 0 [] rfl (own_empty _ _ (Blk.new' (by simp)) (by omega)) a' n' cap' (ents x.ledger) rfl ((hsrc.alloc _).alloc _) (ents_one _) ?c3 ?c4 ?c5 ?_)
      case c3 => unfold maxLen; omega
      case c4 => omega
      case c5 => simp; omega
      intro v2 w2 hown2 hgrow2 hat2
      have hq2 : Quiet wr w2 := Below.grown ((hq0 _ _).after (hq0 _ _)) hgrow2 (by simp; omega) (fun k hk => by simp [Value.ownBlock] at hk; omega)
      have hfr : ∀ z, v2.ownBlock = some z → wr.heap.size ≤ z := fun z hz => by
        rcases hat2 with e | e
        · rw [e] at hz; simp [Value.ownBlock] at hz; omega
        · rw [e] at hz; simp at hz; omega
      obtain ⟨a2, cap2, rfl⟩ := own_shape hown2
      have bi : Blk w2 wr.heap.size #[.int .i64 x.id, .int .i64 x.mode, .bool x.stuck, .int .i64 x.settled, .int .i64 x.target, .bool x.resume, .int .i64 x.keys, .int .i64 x.key, .int .i64 x.due, .int .i64 x.tries, .int .i64 x.wake, .slice a' n' cap'] 78 := Blk.grown ((Blk.new' rfl).alloc _) hgrow2 (by simp [Value.ownBlock])
      have gi := bi.cell
      have fi := bi.frozen
      have zi := bi.lt
      go_upto_region 7 with (fail)
      refine wp_gen (fun V => Blk V wr.heap.size #[.int .i64 x.id, .int .i64 x.mode, .bool x.stuck, .int .i64 x.settled, .int .i64 x.target, .bool x.resume, .int .i64 x.keys, .int .i64 x.key, .int .i64 x.due, .int .i64 x.tries, .int .i64 x.wake, .slice a2 n' cap2] 78 ∧ V.ownsRow w.heap.size 92 3 (.slice a2 n' cap2) n' (ents x.ledger) ∧ Quiet wr V) ⟨by simpa using bi.set 11 (.slice a2 n' cap2), ownsRow_setCell_other hown2 (own_ne hown2 bi (by decide)) _, Below.setCell hq2 (p := ⟨wr.heap.size, 11, none⟩) (Nat.le_refl _) _⟩ ?_
      clear bi gi fi zi hown2 hq2 hgrow2 hat2 hsrc hI c0 c1 c2 c3 c4 c5 c6 c7 c8 c9 c10 c11 p0 p1 p2 gc
      rintro V ⟨bi, hown2, hqV⟩
      have gi := bi.cell
      have zi := bi.lt
      replace bc := bc.quiet hqV
      replace br := br.quiet hqV
      have gc := bc.cell
      have fc := bc.frozen
      have hqw : Quiet w V := hq.after hqV
      have hsV := hqw.size
      obtain ⟨ps, e1, e2⟩ := hM
      have e3 : RowsOf _ _ 12 3 Inst.cells (fun x => ents x.ledger) (fun x => x.ledger.length) w.heap.size V ja k jc ps := ⟨e2.count, own_quiet e2.own hqV, fun p hp => by obtain ⟨a, j, c, q1, q2, q3⟩ := e2.each p hp; exact ⟨a, j, c, q1, q2, own_quiet q3 hqV⟩, e2.apart⟩
      have hownI := e3.own
      go_wp2_with (at_builtin; refine wpList_append_own _ rfl _ _ 44 rfl w.heap.size 78 i0 (.agg #[.int .i64 0, .int .i64 0, .bool false, .int .i64 0, .int .i64 0, .bool false, .int .i64 0, .int .i64 0, .int .i64 0, .int .i64 0, .int .i64 0, .slice none 0 0]) 12 112 Tryz.underlying44 hi hz0 hz1 hz2 rfl (by decide) _ _ _ rfl (hownI.alloc _) ⟨V.heap.size, 0, none⟩ 1 1 (x.cells (.slice a2 n' cap2)) rfl rfl ?c1 ?c2 ?c3 ?c4 ?c5 ?_)
      case c1 =>
        have := World.news_of_block (heap_alloc_new V (.cells #[.int .i64 x.id, .int .i64 x.mode, .bool x.stuck, .int .i64 x.settled, .int .i64 x.target, .bool x.resume, .int .i64 x.keys, .int .i64 x.key, .int .i64 x.due, .int .i64 x.tries, .int .i64 x.wake, .slice a2 n' cap2] 78))
        simpa [Inst.cells] using this
      case c2 => intro u hu; simp [Inst.cells] at hu; rcases hu with rfl | rfl | rfl | rfl | rfl | rfl | rfl | rfl | rfl | rfl | rfl | rfl <;> rfl
      case c3 => unfold maxLen; omega
      case c4 => omega
      case c5 => simp; omega
      intro v3 w3 hown3 hgrow3 _
      obtain ⟨a3, cap3, rfl⟩ := own_shape hown3
      have hF3 : Frame [78] V w3 := grown_frame hgrow3 (fun z hz => own_blk hownI hz) (by simp)
      have bc3 := hF3.blk bc (by decide)
      have br3 := hF3.blk br (by decide)
      have gc3 := bc3.cell
      have fc3 := bc3.frozen
      have zc3 := bc3.lt
      have hq3 : Quiet w w3 := Below.grown (hqw.after (hq0 _ _)) hgrow3 (by simp; omega) (fun z hz => (own_ge hownI z hz).1)
      clear gc fc gi
      go_wp2
      go_roundw
      case rel =>
        have hs : ∀ z cs t, Blk V z cs t → t ≠ 78 → t ≠ 47 → (w3.setCell ⟨w.heap.size + 1, 1, none⟩ (.slice a3 (k + 1) cap3)).heap[z]? = V.heap[z]? := fun z cs t hb h1 h2 => by
          have e := hF3.2 z cs t hb (by simpa using h1)
          rw [← e]
          exact Below.heap_setCell w3 _ _ z (Blk.ne bc3 (e.trans hb) (Ne.symm h2))
        refine ⟨k + 1, a3, cap3, by omega, by go_num, by simpa using bc3.set 1 (.slice a3 (k + 1) cap3), br3.other _ (by show w.heap.size ≠ w.heap.size + 1; omega), ?_, Below.setCell hq3 (p := ⟨w.heap.size + 1, 1, none⟩) (by show w.heap.size ≤ w.heap.size + 1; omega) _⟩
        refine ⟨ps ++ [(x, .slice a2 n' cap2)], by rw [HT.out, List.map_append, e1]; rfl, ?_⟩
        refine RowsOf.snocV e2 x a2 n' cap2 HN'.out ?_ hfr ?_ ?_
        · exact own_same hown2 (fun z hz => by obtain ⟨cs, hb⟩ := own_blk hown2 hz; exact hs z cs _ hb (by decide) (by decide))
        · exact ownsRow_setCell_other hown3 (own_ne hown3 bc3 (by decide)) _
        · exact fun z cs hb => (hs z cs _ (hb.quiet hqV) (by decide) (by decide)).trans (hqV.block z hb.lt)
      case measure => simp [intOf]; omega
    · have hkn : k = n := by omega
      subst hkn
      have hall : W.insts.take k = W.insts := by have := HIL.out; rw [List.take_of_length_le (by omega)]
      rw [hall] at hM
      clear hall hlt hk
      have HIN : Hid (InstsMem w.heap.size wr ja k jc W.insts) := hM
      clear hM
      obtain ⟨wq, hwq⟩ : ∃ wq, wq = wr := ⟨_, rfl⟩
      rw [← hwq] at HIN
      go_wp2
      go_loopw [6] (fun i wr => ∃ (j : Nat) (qa : Option Addr) (qc : Nat), j ≤ m ∧ i = .int .i64 j ∧ Blk wr (w.heap.size + 1) #[.int .i64 W.clock, .slice ja k jc, .slice qa j qc] 47 ∧ Blk wr w.heap.size #[.int .i64 0, .slice none 0 0, .slice none 0 0] 47 ∧ InstsMem w.heap.size wr ja k jc W.insts ∧ ReqsMem w.heap.size wr qa j qc (W.reqs.take j) ∧ Quiet w wr) (fun i _ => m - (intOf i).toNat)
      case atStart => exact ⟨0, none, 0, Nat.zero_le _, rfl, bc, br, by rw [← hwq]; exact HIN.out, ⟨[], rfl, rfl, World.ownsRow_nil _ _ _ _, by simp, by simp⟩, hq⟩
      case round =>
        clear bc br hq hwq HIN wq p0 p1 p2 gc hki
        obtain ⟨j, qa, qc, hj', rfl, bc, br, hIM, hM, hq⟩ := hrel
        obtain ⟨p0, p1, p2⟩ := (HV.out.quiet hq).three
        have gc := bc.cell
        have hji : (0 : Int) ≤ (j : Int) := by omega
        by_cases hlt : j < m
        · have hkl : j < W.reqs.length := by have := HRL.out; omega
          obtain ⟨g, cs, a', n', cap', rfl, hg, hI, _⟩ := RowsMem.at _ _ _ _ _ _ _ (by intros; rfl) (by decide) (by decide) (HRM.out.quiet (hq := hq)) j hkl
          have HT : Hid (W.reqs.take (j + 1) = W.reqs.take j ++ [W.reqs[j]]) := List.take_succ_eq_append_getElem hkl
          have hled := (HB.out.reqs W.reqs[j] (List.getElem_mem hkl)).1
          generalize W.reqs[j] = x at *
          obtain ⟨c0, c1, c2, c3, c4, c5, c6, c7, c8⟩ := hI.row.at.nine
          have hsrc := hI.own
          have HN' : Hid (n' = x.bys.length) := hI.len
          have hnb : n' ≤ 1000 := by have := HN'.out; omega
          have hkj : (j : Int) < (m : Int) := by omega
          have zg := hI.row.1.lt
          have zc := bc.lt
          go_wp2_with (at_builtin; refine wpList_append_two rfl _ _ 81 rfl w.heap.size w0.heap.size 3 i2 (.int .i64 0) 1 8 Tryz.underlying81 hk2 hx0 hx1 hx2 rfl (by decide) _ 0 [] rfl (own_empty _ _ (Blk.new' (by simp)) (by omega)) a' n' cap' (ints x.bys) rfl ((hsrc.alloc _).alloc _) (ints_one _) ?c3 ?c4 ?c5 ?_)
          case c3 => unfold maxLen; omega
          case c4 => omega
          case c5 => simp; omega
          intro v2 w2 hown2 hgrow2 hat2
          have hq2 : Quiet wr w2 := Below.grown ((hq0 _ _).after (hq0 _ _)) hgrow2 (by simp; omega) (fun k hk => by simp [Value.ownBlock] at hk; omega)
          have hfr : ∀ z, v2.ownBlock = some z → wr.heap.size ≤ z := fun z hz => by
            rcases hat2 with e | e
            · rw [e] at hz; simp [Value.ownBlock] at hz; omega
            · rw [e] at hz; simp at hz; omega
          obtain ⟨a2, cap2, rfl⟩ := own_shape hown2
          have bi : Blk w2 wr.heap.size #[.int .i64 x.number, .int .i64 x.inst, .int .i64 x.what, .int .i64 x.target, .int .i64 x.who, .string x.reason, .slice a' n' cap', .int .i64 x.upto, .bool x.closed] 83 := Blk.grown ((Blk.new' rfl).alloc _) hgrow2 (by simp [Value.ownBlock])
          have gi := bi.cell
          have fi := bi.frozen
          have zi := bi.lt
          go_upto_region 13 with (fail)
          refine wp_gen (fun V => Blk V wr.heap.size #[.int .i64 x.number, .int .i64 x.inst, .int .i64 x.what, .int .i64 x.target, .int .i64 x.who, .string x.reason, .slice a2 n' cap2, .int .i64 x.upto, .bool x.closed] 83 ∧ V.ownsRow w.heap.size 3 1 (.slice a2 n' cap2) n' (ints x.bys) ∧ Quiet wr V) ⟨by simpa using bi.set 6 (.slice a2 n' cap2), ownsRow_setCell_other hown2 (own_ne hown2 bi (by decide)) _, Below.setCell hq2 (p := ⟨wr.heap.size, 6, none⟩) (Nat.le_refl _) _⟩ ?_
          clear bi gi fi zi hown2 hq2 hgrow2 hat2 hsrc hI c0 c1 c2 c3 c4 c5 c6 c7 c8 p0 p1 p2 gc
          rintro V ⟨bi, hown2, hqV⟩
          have gi := bi.cell
          have zi := bi.lt
          replace bc := bc.quiet hqV
          replace br := br.quiet hqV
          replace hIM := hIM.quiet (hq := hqV)
          have gc := bc.cell
          have fc := bc.frozen
          have hqw : Quiet w V := hq.after hqV
          have hsV := hqw.size
          obtain ⟨ps, e1, e2⟩ := hM
          have e3 : RowsOf _ _ 9 1 Req.cells (fun r => ints r.bys) (fun r => r.bys.length) w.heap.size V qa j qc ps := ⟨e2.count, own_quiet e2.own hqV, fun p hp => by obtain ⟨a, j, c, q1, q2, q3⟩ := e2.each p hp; exact ⟨a, j, c, q1, q2, own_quiet q3 hqV⟩, e2.apart⟩
          have hownI := e3.own
          go_wp2_with (at_builtin; refine wpList_append_own _ rfl _ _ 45 rfl w.heap.size 83 i3 (.agg #[.int .i64 0, .int .i64 0, .int .i64 0, .int .i64 0, .int .i64 0, .string ⟨#[]⟩, .slice none 0 0, .int .i64 0, .bool false]) 9 96 Tryz.underlying45 hk3 ha0 ha1 ha2 rfl (by decide) _ _ _ rfl (hownI.alloc _) ⟨V.heap.size, 0, none⟩ 1 1 (x.cells (.slice a2 n' cap2)) rfl rfl ?c1 ?c2 ?c3 ?c4 ?c5 ?_)
          case c1 =>
            have := World.news_of_block (heap_alloc_new V (.cells #[.int .i64 x.number, .int .i64 x.inst, .int .i64 x.what, .int .i64 x.target, .int .i64 x.who, .string x.reason, .slice a2 n' cap2, .int .i64 x.upto, .bool x.closed] 83))
            simpa [Req.cells] using this
          case c2 => intro u hu; simp [Req.cells] at hu; rcases hu with rfl | rfl | rfl | rfl | rfl | rfl | rfl | rfl | rfl <;> rfl
          case c3 => unfold maxLen; omega
          case c4 => omega
          case c5 => simp; omega
          intro v3 w3 hown3 hgrow3 _
          obtain ⟨a3, cap3, rfl⟩ := own_shape hown3
          have hF3 : Frame [83] V w3 := grown_frame hgrow3 (fun z hz => own_blk hownI hz) (by simp)
          have bc3 := hF3.blk bc (by decide)
          have br3 := hF3.blk br (by decide)
          have gc3 := bc3.cell
          have fc3 := bc3.frozen
          have zc3 := bc3.lt
          have hq3 : Quiet w w3 := Below.grown (hqw.after (hq0 _ _)) hgrow3 (by simp; omega) (fun z hz => (own_ge hownI z hz).1)
          clear gc fc gi
          go_wp2
          go_roundw
          case rel =>
            have hs : ∀ z cs t, Blk V z cs t → t ≠ 83 → t ≠ 47 → (w3.setCell ⟨w.heap.size + 1, 2, none⟩ (.slice a3 (j + 1) cap3)).heap[z]? = V.heap[z]? := fun z cs t hb h1 h2 => by
              have e := hF3.2 z cs t hb (by simpa using h1)
              rw [← e]
              exact Below.heap_setCell w3 _ _ z (Blk.ne bc3 (e.trans hb) (Ne.symm h2))
            refine ⟨j + 1, a3, cap3, by omega, by go_num, by simpa using bc3.set 2 (.slice a3 (j + 1) cap3), br3.other _ (by show w.heap.size ≠ w.heap.size + 1; omega), ?_, ?_, Below.setCell hq3 (p := ⟨w.heap.size + 1, 2, none⟩) (by show w.heap.size ≤ w.heap.size + 1; omega) _⟩
            · exact hIM.frame (h1 := fun z cs hb => hs z cs _ hb (by decide) (by decide)) (h2 := fun z cs hb => hs z cs _ hb (by decide) (by decide))
            refine ⟨ps ++ [(x, .slice a2 n' cap2)], by rw [HT.out, List.map_append, e1]; rfl, ?_⟩
            refine RowsOf.snocV e2 x a2 n' cap2 HN'.out ?_ hfr ?_ ?_
            · exact own_same hown2 (fun z hz => by obtain ⟨cs, hb⟩ := own_blk hown2 hz; exact hs z cs _ hb (by decide) (by decide))
            · exact ownsRow_setCell_other hown3 (own_ne hown3 bc3 (by decide)) _
            · exact fun z cs hb => (hs z cs _ (hb.quiet hqV) (by decide) (by decide)).trans (hqV.block z hb.lt)
          case measure => simp [intOf]; omega
        · have hjm : j = m := by omega
          subst hjm
          have hall : W.reqs.take j = W.reqs := by have := HRL.out; rw [List.take_of_length_le (by omega)]
          rw [hall] at hM
          clear hall hlt hj'
          have gr := br.cell
          have fr := br.frozen
          have zr := br.lt
          go_wp2
          refine bodyPost_ret (v := .agg #[.int .i64 W.clock, .slice ja k jc, .slice qa j qc]) (by simp [results, Tryz.results69, go_sem, gr]) rfl ⟨ja, jc, qa, qc, rfl, ?_, ?_, ?_⟩
          · have hs := set3_frame br (.int .i64 W.clock) (.slice ja k jc) (.slice qa j qc)
            exact hIM.frame (h1 := fun z c hz => hs z c _ hz (by decide)) (h2 := fun z c hz => hs z c _ hz (by decide))
          · have hs := set3_frame br (.int .i64 W.clock) (.slice ja k jc) (.slice qa j qc)
            exact hM.frame (h1 := fun z c hz => hs z c _ hz (by decide)) (h2 := fun z c hz => hs z c _ hz (by decide))
          · exact ((hq.setCell (p := ⟨w.heap.size, 0, none⟩) (Nat.le_refl _) _).setCell (p := ⟨w.heap.size, 1, none⟩) (Nat.le_refl _) _).setCell (p := ⟨w.heap.size, 2, none⟩) (Nat.le_refl _) _

end Go.Proofs.YtgcjlgaapiefiabGreat

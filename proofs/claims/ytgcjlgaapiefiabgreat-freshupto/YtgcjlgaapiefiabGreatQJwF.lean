import Derived.Test.YtgcjlgaapiefiabGreatQJwE
import Derived.Test.YtgcjlgaapiefiabGreatQPlyA

/-
  The program's machine, as it lies in memory; a command on its world.
-/
namespace Go.Proofs.YtgcjlgaapiefiabGreat
open Go.RowKit Go.Sort Go.Lib

/-- The first blocks of a world. -/
def upto (w : World) (B : Nat) : World := { w with heap := w.heap.extract 0 B }
theorem upto_size (w : World) (B : Nat) (h : B ≤ w.heap.size) : (upto w B).heap.size = B := by
  show (w.heap.extract 0 B).size = B
  simp; omega
theorem upto_get (w : World) (B k : Nat) (hk : k < B) (h : B ≤ w.heap.size) : (upto w B).heap[k]? = w.heap[k]? := by
  show (w.heap.extract 0 B)[k]? = w.heap[k]?
  rw [Array.getElem?_extract]
  simp; omega
theorem upto_blk {w : World} {B k : Nat} {cs : Array Value} {t : TypeId} (h : B ≤ w.heap.size) (hb : Blk (upto w B) k cs t) : k < B ∧ Blk w k cs t := by
  have hk := hb.lt
  rw [upto_size w B h] at hk
  exact ⟨hk, (upto_get w B k hk h).symm.trans hb⟩

/-- The machine in memory: its own world's rows lie above B, those of the world that was read below. -/
structure MMx (w0 w : World) (pb : Nat) (W RB : WorldR) (J : ByteArray) (S : Int) (rn B : Nat) (ia : Option Addr) (n ic : Nat) (ra : Option Addr) (m rc : Nat) (ja : Option Addr) (jn jc : Nat) (xa : Option Addr) (xn xc : Nat) (ya : Option Addr) (yn yc : Nat) : Prop where
  blk : Blk w pb #[.int .i64 W.clock, .slice ia n ic, .slice ra m rc, .slice ja jn jc, .int .i64 S, .int .i64 rn, .int .i64 RB.clock, .slice xa xn xc, .slice ya yn yc] 73
  insts : InstsMem B w ia n ic W.insts
  reqs : ReqsMem B w ra m rc W.reqs
  binsts : InstsMem w0.heap.size (upto w B) xa xn xc RB.insts
  breqs : ReqsMem w0.heap.size (upto w B) ya yn yc RB.reqs
  own : w.ownsRow w0.heap.size 5 1 (.slice ja jn jc) jn ((nums J).map (Value.int .u8))
  len : jn = J.size
  quiet : Quiet w0 w
  above : w0.heap.size ≤ pb
  low : w0.heap.size ≤ B
  top : B ≤ w.heap.size

section
variable {w0 w : World} {pb : Nat} {W RB : WorldR} {J : ByteArray} {S : Int} {rn B : Nat} {ia : Option Addr} {n ic : Nat} {ra : Option Addr} {m rc : Nat} {ja : Option Addr} {jn jc : Nat} {xa : Option Addr} {xn xc : Nat} {ya : Option Addr} {yn yc : Nat}

/-- The rows below stay. -/
theorem below_rows {w' : World} {RB : WorldR} (hi : InstsMem w0.heap.size (upto w B) xa xn xc RB.insts) (hr : ReqsMem w0.heap.size (upto w B) ya yn yc RB.reqs) (top : B ≤ w.heap.size) (hsz : w.heap.size ≤ w'.heap.size) (hk : ∀ k cs t, k < B → Blk w k cs t → (t = 78 ∨ t = 92 ∨ t = 83 ∨ t = 3) → w'.heap[k]? = w.heap[k]?) :
    InstsMem w0.heap.size (upto w' B) xa xn xc RB.insts ∧ ReqsMem w0.heap.size (upto w' B) ya yn yc RB.reqs := by
  have key : ∀ k cs t, Blk (upto w B) k cs t → (t = 78 ∨ t = 92 ∨ t = 83 ∨ t = 3) → (upto w' B).heap[k]? = (upto w B).heap[k]? := fun k cs t hb ht => by
    obtain ⟨h1, h2⟩ := upto_blk top hb
    rw [upto_get w' B k h1 (by omega), hk k cs t h1 h2 ht, upto_get w B k h1 top]
  exact ⟨hi.frame (h1 := fun z c hz => key z c _ hz (by simp)) (h2 := fun z c hz => key z c _ hz (by simp)), hr.frame (h1 := fun z c hz => key z c _ hz (by simp)) (h2 := fun z c hz => key z c _ hz (by simp))⟩
/-- The rows below, in the world itself. -/
theorem below_up {RB : WorldR} (hi : InstsMem w0.heap.size (upto w B) xa xn xc RB.insts) (hr : ReqsMem w0.heap.size (upto w B) ya yn yc RB.reqs) (top : B ≤ w.heap.size) : InstsMem w0.heap.size w xa xn xc RB.insts ∧ ReqsMem w0.heap.size w ya yn yc RB.reqs := by
  have key : ∀ k cs t, Blk (upto w B) k cs t → w.heap[k]? = (upto w B).heap[k]? := fun k cs t hb => by
    obtain ⟨h1, h2⟩ := upto_blk top hb
    rw [upto_get w B k h1 top]
  exact ⟨hi.frame (h1 := fun z c hz => key z c _ hz) (h2 := fun z c hz => key z c _ hz), hr.frame (h1 := fun z c hz => key z c _ hz) (h2 := fun z c hz => key z c _ hz)⟩
/-- Rows that lie in an older world. -/
theorem below_down {w' : World} {RB : WorldR} (hi : InstsMem w0.heap.size w xa xn xc RB.insts) (hr : ReqsMem w0.heap.size w ya yn yc RB.reqs) (hsz : w.heap.size ≤ w'.heap.size) (hk : ∀ k cs t, Blk w k cs t → (t = 78 ∨ t = 92 ∨ t = 83 ∨ t = 3) → w'.heap[k]? = w.heap[k]?) :
    InstsMem w0.heap.size (upto w' w.heap.size) xa xn xc RB.insts ∧ ReqsMem w0.heap.size (upto w' w.heap.size) ya yn yc RB.reqs := by
  have key : ∀ k cs t, Blk w k cs t → (t = 78 ∨ t = 92 ∨ t = 83 ∨ t = 3) → (upto w' w.heap.size).heap[k]? = w.heap[k]? := fun k cs t hb ht => by
    rw [upto_get w' _ k hb.lt hsz]; exact hk k cs t hb ht
  exact ⟨hi.frame (h1 := fun z c hz => key z c _ hz (by simp)) (h2 := fun z c hz => key z c _ hz (by simp)), hr.frame (h1 := fun z c hz => key z c _ hz (by simp)) (h2 := fun z c hz => key z c _ hz (by simp))⟩

theorem MMx.keep (h : MMx w0 w pb W RB J S rn B ia n ic ra m rc ja jn jc xa xn xc ya yn yc) {w' : World} (hsz : w.heap.size ≤ w'.heap.size) (hk : ∀ k cs t, Blk w k cs t → t ∈ allTypes → w'.heap[k]? = w.heap[k]?) (hq : Quiet w0 w') : MMx w0 w' pb W RB J S rn B ia n ic ra m rc ja jn jc xa xn xc ya yn yc := by
  obtain ⟨b1, b2⟩ := below_rows h.binsts h.breqs h.top hsz (fun k cs t _ hb ht => hk k cs t hb (by rcases ht with rfl | rfl | rfl | rfl <;> simp [allTypes]))
  exact ⟨(hk _ _ _ h.blk (by simp [allTypes])).trans h.blk, h.insts.frame (h1 := fun z c hz => hk z c _ hz (by simp [allTypes])) (h2 := fun z c hz => hk z c _ hz (by simp [allTypes])), h.reqs.frame (h1 := fun z c hz => hk z c _ hz (by simp [allTypes])) (h2 := fun z c hz => hk z c _ hz (by simp [allTypes])), b1, b2,
    own_same h.own (fun k hk' => by obtain ⟨cs, hb⟩ := own_blk h.own hk'; exact hk k cs _ hb (by simp [allTypes])), h.len, hq, h.above, h.low, Nat.le_trans h.top hsz⟩
theorem MMx.hush (h : MMx w0 w pb W RB J S rn B ia n ic ra m rc ja jn jc xa xn xc ya yn yc) {w' : World} (hq : Quiet w w') : MMx w0 w' pb W RB J S rn B ia n ic ra m rc ja jn jc xa xn xc ya yn yc :=
  h.keep hq.size (fun k _ _ hb _ => hq.block k hb.lt) (h.quiet.after hq)
theorem MMx.room (h : MMx w0 w pb W RB J S rn B ia n ic ra m rc ja jn jc xa xn xc ya yn yc) : jn ≤ jc ∧ (ja = none ∨ ∃ g, ja = some ⟨g, 0, none⟩) := (own_cut h.own (Nat.le_refl jn)).2
/-- The journal is written, or Safe is. -/
theorem MMx.mach (h : MMx w0 w pb W RB J S rn B ia n ic ra m rc ja jn jc xa xn xc ya yn yc) {w' : World} {J' : ByteArray} {S' : Int} {ja' : Option Addr} {jn' jc' : Nat} (hB : Blk w' pb #[.int .i64 W.clock, .slice ia n ic, .slice ra m rc, .slice ja' jn' jc', .int .i64 S', .int .i64 rn, .int .i64 RB.clock, .slice xa xn xc, .slice ya yn yc] 73)
    (hown : w'.ownsRow w0.heap.size 5 1 (.slice ja' jn' jc') jn' ((nums J').map (Value.int .u8))) (hl : jn' = J'.size) (hF : Frame machTypes w w') (hq : Quiet w0 w') : MMx w0 w' pb W RB J' S' rn B ia n ic ra m rc ja' jn' jc' xa xn xc ya yn yc := by
  have hk : ∀ k cs t, Blk w k cs t → (t = 78 ∨ t = 92 ∨ t = 83 ∨ t = 3) → w'.heap[k]? = w.heap[k]? := fun k cs t hb ht => hF.2 k cs t hb (by rcases ht with rfl | rfl | rfl | rfl <;> decide)
  obtain ⟨b1, b2⟩ := below_rows h.binsts h.breqs h.top hF.1 (fun k cs t _ hb ht => hk k cs t hb ht)
  exact ⟨hB, h.insts.frame (h1 := fun z c hz => hk z c _ hz (by simp)) (h2 := fun z c hz => hk z c _ hz (by simp)), h.reqs.frame (h1 := fun z c hz => hk z c _ hz (by simp)) (h2 := fun z c hz => hk z c _ hz (by simp)), b1, b2, hown, hl, hq, h.above, h.low, Nat.le_trans h.top hF.1⟩
end

/-- A command on the machine's world. -/
theorem mm_do {w0 w : World} {pb : Nat} {RB : WorldR} {J : ByteArray} {S : Int} {rn B : Nat} {ia : Option Addr} {n ic : Nat} {ra : Option Addr} {m rc : Nat} {ja : Option Addr} {jn jc : Nat} {xa : Option Addr} {xn xc : Nat} {ya : Option Addr} {yn yc : Nat} (dv : Value) (d : Def) (hd : DefIs w0 dv d) (hok : d.ok = true) (l : List Cmd) (hl : LogOk d l) (hlen : l.length ≤ 4194304)
    (h : MMx w0 w pb (worldR d l) RB J S rn B ia n ic ra m rc ja jn jc xa xn xc ya yn yc) (c : Cmd) (hcr : c.reason.size ≤ 9223372036854775807) :
    Calls Tryz.prog 53 #[dv, .pointer (some ⟨pb, 0, none⟩), c.val] w fun e w' => e = .returned (answerR d l c).val ∧ (∃ ia' n' ic' ra' m' rc', MMx w0 w' pb (worldR d (logStep d l c)) RB J S rn B ia' n' ic' ra' m' rc' ja jn jc xa xn xc ya yn yc) ∧ Frame (worldTypes 73) w w' := by
  have hsz := upto_size w B h.top
  have hP : PW ⟨w0, (upto w B).heap, by rw [hsz]; exact h.low, #[.int .i64 (worldR d l).clock, .slice ia n ic, .slice ra m rc, .slice ja jn jc, .int .i64 S, .int .i64 rn, .int .i64 RB.clock, .slice xa xn xc, .slice ya yn yc]⟩ w pb 0 73 #[.int .i64 (worldR d l).clock, .slice ia n ic, .slice ra m rc, .slice ja jn jc, .int .i64 S, .int .i64 rn, .int .i64 RB.clock, .slice xa xn xc, .slice ya yn yc] (worldR d l) ia n ic ra m rc :=
    PW.of_mem (mach_row0 h.blk) (by rw [hsz]; exact h.insts) (by rw [hsz]; exact h.reqs) h.quiet h.above aside_mach (by rw [hsz]; exact h.top) (fun k hk _ => (upto_get w B k (by rw [hsz] at hk; exact hk) h.top).symm)
  refine (doX_log _ w dv d hd hok pb 0 73 (by decide) l hl hlen ⟨_, _, _, _, _, _, _, hP⟩ c hcr).mono ?_
  rintro e w' ⟨rfl, ⟨pcs, ia', n', ic', ra', m', rc', hP'⟩, hF⟩
  refine ⟨rfl, ⟨ia', n', ic', ra', m', rc', ?_⟩, hF⟩
  have hrow := hP'.row
  rw [mach_rest0 hP'.rest hrow] at hrow
  have hhi := hP'.high.block
  obtain ⟨b1, b2⟩ := below_rows h.binsts h.breqs h.top hF.1 (fun k cs t hk hb ht => by
    rw [hhi k (by show k < (upto w B).heap.size; rw [hsz]; exact hk) (by
      rintro rfl
      have := Blk.ne hb h.blk (by rcases ht with rfl | rfl | rfl | rfl <;> decide)
      exact this rfl)]
    exact upto_get w B k hk h.top)
  refine ⟨hrow.1, ?_, ?_, b1, b2, hF.own h.own (by decide), h.len, hP'.quiet, h.above, h.low, Nat.le_trans h.top hF.1⟩
  · have := hP'.insts; rw [show (Bas.heap ⟨w0, (upto w B).heap, _, _⟩).size = B from hsz] at this; exact this
  · have := hP'.reqs; rw [show (Bas.heap ⟨w0, (upto w B).heap, _, _⟩).size = B from hsz] at this; exact this

end Go.Proofs.YtgcjlgaapiefiabGreat

/-
  Walks of the program: a crash.
-/
namespace Go.Proofs.YtgcjlgaapiefiabGreat
open Go.RowKit Go.Sort Go.Lib

/-- The machine behind a tape; k commands were read in the last crash. -/
def TM (d : Def) (w0 w : World) (pb : Nat) (T : TapeR) (k : Nat) : Prop := ∃ B ia n ic ra m rc ja jn jc xa xn xc ya yn yc, MMx w0 w pb (worldR d T.log) (worldR d (T.log.take k)) (bytesR T.log) T.safe (bytesN (T.log.take k)) B ia n ic ra m rc ja jn jc xa xn xc ya yn yc
theorem TM.hush {d : Def} {w0 w w' : World} {pb : Nat} {T : TapeR} {k : Nat} (h : TM d w0 w pb T k) (hq : Quiet w w') : TM d w0 w' pb T k := by
  obtain ⟨B, ia, n, ic, ra, m, rc, ja, jn, jc, xa, xn, xc, ya, yn, yc, h⟩ := h
  exact ⟨B, ia, n, ic, ra, m, rc, ja, jn, jc, xa, xn, xc, ya, yn, yc, h.hush hq⟩
theorem TM.keep {d : Def} {w0 w w' : World} {pb : Nat} {T : TapeR} {k : Nat} (h : TM d w0 w pb T k) (hsz : w.heap.size ≤ w'.heap.size) (hk : ∀ k cs t, Blk w k cs t → t ∈ allTypes → w'.heap[k]? = w.heap[k]?) (hq : Quiet w0 w') : TM d w0 w' pb T k := by
  obtain ⟨B, ia, n, ic, ra, m, rc, ja, jn, jc, xa, xn, xc, ya, yn, yc, h⟩ := h
  exact ⟨B, ia, n, ic, ra, m, rc, ja, jn, jc, xa, xn, xc, ya, yn, yc, h.keep hsz hk hq⟩
theorem TM.quiet {d : Def} {w0 w : World} {pb : Nat} {T : TapeR} {k : Nat} (h : TM d w0 w pb T k) : Quiet w0 w := by
  obtain ⟨B, ia, n, ic, ra, m, rc, ja, jn, jc, xa, xn, xc, ya, yn, yc, h⟩ := h
  exact h.quiet

theorem Frame.only {w w' : World} (h : Frame [73] w w') : Frame allTypes w w' := h.mono (by simp [allTypes])
theorem four_frame {w : World} {b : Nat} {cs : Array Value} {t : TypeId} (hb : Blk w b cs t) (v0 v1 v2 v3 : Value) : ∀ k c t', Blk w k c t' → t' ≠ t → ((((w.setCell ⟨b, 0, none⟩ v0).setCell ⟨b, 1, none⟩ v1).setCell ⟨b, 2, none⟩ v2).setCell ⟨b, 3, none⟩ v3).heap[k]? = w.heap[k]? := by
  intro k c t' hk ht
  have hne : k ≠ b := Blk.ne hb hk (Ne.symm ht)
  rw [Below.heap_setCell _ _ _ _ hne, Below.heap_setCell _ _ _ _ hne, Below.heap_setCell _ _ _ _ hne, Below.heap_setCell _ _ _ _ hne]

theorem nums_cut (J : ByteArray) (k : Nat) : ((nums J).map (Value.int .u8)).take k = (nums (J.extract 0 k)).map (Value.int .u8) := by
  rw [nums_extract, List.drop_zero, List.map_take]

set_option maxRecDepth 100000 in
set_option maxHeartbeats 8000000 in
theorem crashW_any (w0 w : World) (dv : Value) (d : Def) (hd : DefIs w0 dv d) (hok : d.ok = true) (pb : Nat) (l : List Cmd) (hl : LogOk d l) (W W' : WorldR) (J : ByteArray) (S a : Int) (rn B : Nat) (ia : Option Addr) (n ic : Nat) (ra : Option Addr) (m rc : Nat) (ja : Option Addr) (jn jc : Nat) (xa : Option Addr) (xn xc : Nat) (ya : Option Addr) (yn yc : Nat)
    (h : MMx w0 w pb W (worldR d l) J S rn B ia n ic ra m rc ja jn jc xa xn xc ya yn yc) (hS0 : 0 ≤ S) (hS1 : S ≤ jn) (hjm : jn ≤ 33554432) (ha0 : 0 ≤ a) (n1 : Nat) (hn1 : n1 = loseN jn S a) (hn1b : n1 ≤ jn) (hrn : rn ≤ n1) (hlen : 8 * l.length + (n1 - rn) ≤ 33554432)
    (l' : List Cmd) (u : Nat) (hread : readR d l ((J.extract 0 n1).extract rn n1) = (l', u)) (hW : worldR d l' = W') (hu : rn + u ≤ n1) (hbd : WBd W') (hi4 : W'.insts.length ≤ 4) :
    Calls Tryz.prog 52 #[.pointer (some ⟨pb, 0, none⟩), dv, .int .i64 a] w fun e w' => e = .returned (noR 0).val ∧ (∃ B ia n ic ra m rc ja jn jc xa xn xc ya yn yc, MMx w0 w' pb W' W' ((J.extract 0 n1).extract 0 (rn + u)) ((rn + u : Nat) : Int) (rn + u) B ia n ic ra m rc ja jn jc xa xn xc ya yn yc) ∧ Frame allTypes w w' := by
  have hq0 : ∀ (w : World) o, Quiet w (w.alloc o) := fun w o => (Below.refl _ _).alloc (Nat.le_refl _) _
  have hd0 := hd
  have hd1 := hd.quiet h.quiet
  obtain ⟨da, dn, dcap, rfl, hst⟩ := hd1
  clear hst hd
  obtain ⟨hjc, hja⟩ := h.room
  have hjl : jn = J.size := h.len
  have hJ1 : (J.extract 0 n1).size = n1 := by rw [ByteArray.size_extract]; omega
  have hpb := h.above
  -- lose
  have HLose : Hid (∀ U, MMx w0 U pb W (worldR d l) J S rn B ia n ic ra m rc ja jn jc xa xn xc ya yn yc → Calls Tryz.prog 66 #[.pointer (some ⟨pb, 0, none⟩), .int .i64 a] U fun e w' => (∃ v, e = .returned v) ∧ MMx w0 w' pb W (worldR d l) (J.extract 0 n1) S rn B ia n ic ra m rc ja n1 jc xa xn xc ya yn yc ∧ Frame [73] U w') := fun U hU => by
    refine (loseM_any w0 U hU.quiet pb hpb _ _ _ _ _ _ _ S a ja jn jc hU.blk hjc (by omega) hS0 hS1 ha0 hja).mono ?_
    rintro e w' ⟨hv, hB, hF, hq⟩
    rw [← hn1] at hB
    refine ⟨hv, hU.mach hB ?_ hJ1.symm (hF.mono (by simp [machTypes])) hq, hF⟩
    rw [← nums_cut]
    exact (own_cut (hF.own hU.own (by decide)) hn1b).1
  -- readOn
  have HOn : Hid (∀ U, MMx w0 U pb W (worldR d l) (J.extract 0 n1) S rn B ia n ic ra m rc ja n1 jc xa xn xc ya yn yc → Calls Tryz.prog 67 #[.pointer (some ⟨pb, 0, none⟩), .agg #[.slice da dn dcap, .int .i64 d.quorum, .int .i64 d.expiry]] U fun e w' => (∃ v, e = .returned v) ∧ ∃ xa xn xc ya yn yc, Blk w' pb #[.int .i64 W.clock, .slice ia n ic, .slice ra m rc, .slice ja n1 jc, .int .i64 S, .int .i64 ((rn + u : Nat) : Int), .int .i64 W'.clock, .slice xa xn xc, .slice ya yn yc] 73 ∧
      InstsMem w0.heap.size w' xa xn xc W'.insts ∧ ReqsMem w0.heap.size w' ya yn yc W'.reqs ∧ w'.ownsRow w0.heap.size 5 1 (.slice ja n1 jc) n1 ((nums (J.extract 0 n1)).map (Value.int .u8)) ∧ Frame allTypes U w' ∧ Quiet w0 w') := fun U hU => by
    obtain ⟨b1, b2⟩ := below_up hU.binsts hU.breqs hU.top
    have := readOn_any w0 U hU.quiet pb hpb _ d hd0 hok l hl _ _ _ _ ja n1 jc (J.extract 0 n1) rn xa xn xc ya yn yc hU.blk b1 b2 hU.own hJ1.symm (by omega) (by omega) (by omega)
    rw [hJ1, hread, hW] at this
    exact this
  have HCut : Hid (∀ U v0 v1 v2 v4 v5 v6 v7 v8, Quiet w0 U → Blk U pb #[v0, v1, v2, .slice ja n1 jc, v4, v5, v6, v7, v8] 73 → Calls Tryz.prog 68 #[.pointer (some ⟨pb, 0, none⟩), .int .i64 ((rn + u : Nat) : Int)] U fun e w' => (∃ v, e = .returned v) ∧ Blk w' pb #[v0, v1, v2, .slice ja (rn + u) jc, v4, v5, v6, v7, v8] 73 ∧ Frame [73] U w' ∧ Quiet w0 w') := fun U v0 v1 v2 v4 v5 v6 v7 v8 hqU hBU => cutM_any w0 U hqU pb hpb v0 v1 v2 v4 v5 v6 v7 v8 ja n1 jc (rn + u) hBU hu (by omega) hja
  have HNums : Hid (∀ U : World, U.ownsRow w0.heap.size 5 1 (.slice ja n1 jc) n1 ((nums (J.extract 0 n1)).map (Value.int .u8)) → U.ownsRow w0.heap.size 5 1 (.slice ja (rn + u) jc) (rn + u) ((nums ((J.extract 0 n1).extract 0 (rn + u))).map (Value.int .u8))) := fun U hU => by
    rw [← nums_cut]; exact (own_cut hU hu).1
  have HJ2 : Hid (rn + u = ((J.extract 0 n1).extract 0 (rn + u)).size) := by
    show rn + u = _
    rw [ByteArray.size_extract, hJ1]; omega
  have hruI : (0 : Int) ≤ ((rn + u : Nat) : Int) := by omega
  have hru : rn + u ≤ 33554432 := by omega
  clear hread hW hn1
  generalize (J.extract 0 n1).extract 0 (rn + u) = J2 at *
  generalize J.extract 0 n1 = J1 at *
  generalize rn + u = ru at *
  go_enter Tryz.func52, Tryz.ntmps52
  go_wp2_with fail
  refine calls_gen (fun V => Blk V w.heap.size #[.slice da dn dcap, .int .i64 d.quorum, .int .i64 d.expiry] 24 ∧ Blk V (w.heap.size + 1) #[.int .i64 0, .int .i64 0, .int .i64 0, .int .i64 0] 86 ∧ Quiet w V) ⟨(Blk.new' rfl).alloc _, Blk.new' (by simp), (hq0 _ _).after (hq0 _ _)⟩ ?_
  rintro V ⟨bd, br, hqV⟩
  refine (HLose.out V (h.hush hqV)).mono ?_
  rintro e w1 ⟨⟨v1, rfl⟩, hm1, hF1⟩
  replace bd := hF1.blk bd (by decide)
  replace br := hF1.blk br (by decide)
  have hFw : Frame allTypes w w1 := (Frame.quiet _ hqV).trans hF1.only
  clear hqV hF1
  have gd := bd.cell
  have zd := bd.lt
  go_wp2_with fail
  refine (HOn.out w1 hm1).mono ?_
  rintro e w2 ⟨⟨v2, rfl⟩, xa', xn', xc', ya', yn', yc', hB2, hI2, hR2, ho2, hF2, hq2⟩
  replace br := hF2.blk br (by decide)
  replace hFw : Frame allTypes w w2 := hFw.trans hF2
  clear hm1 hF2 gd zd bd
  have gB := hB2.cell
  have zB := hB2.lt
  go_wp2_with fail
  refine (HCut.out w2 _ _ _ _ _ _ _ _ hq2 hB2).mono ?_
  rintro e w3 ⟨⟨v3, rfl⟩, hB3, hF3, hq3⟩
  replace br := hF3.blk br (by decide)
  have ho3 := HNums.out _ (hF3.own ho2 (by decide))
  have hk3 : ∀ k cs t, Blk w2 k cs t → t ≠ 73 → w3.heap[k]? = w2.heap[k]? := fun k cs t hb ht => hF3.2 k cs t hb (by simpa using ht)
  replace hI2 := hI2.frame (h1 := fun z c hz => hk3 z c _ hz (by decide)) (h2 := fun z c hz => hk3 z c _ hz (by decide))
  replace hR2 := hR2.frame (h1 := fun z c hz => hk3 z c _ hz (by decide)) (h2 := fun z c hz => hk3 z c _ hz (by decide))
  replace hFw : Frame allTypes w w3 := hFw.trans hF3.only
  clear hk3 hF3 hB2 gB zB ho2 hq2
  have gB := hB3.cell
  have fB := hB3.frozen
  have zB := hB3.lt
  go_wp2_with fail
  have hs4 : ∀ k c t', Blk w3 k c t' → t' ≠ 73 → (w3.setCell ⟨pb, 4, none⟩ (.int .i64 (ru : Int))).heap[k]? = w3.heap[k]? := fun k c t' hk ht => Below.heap_setCell _ _ _ _ (Blk.ne hB3 hk (Ne.symm ht))
  refine calls_gen (fun w4 => Blk w4 pb #[.int .i64 W.clock, .slice ia n ic, .slice ra m rc, .slice ja ru jc, .int .i64 (ru : Int), .int .i64 (ru : Int), .int .i64 W'.clock, .slice xa' xn' xc', .slice ya' yn' yc'] 73 ∧ Blk w4 (w.heap.size + 1) #[.int .i64 0, .int .i64 0, .int .i64 0, .int .i64 0] 86 ∧ InstsMem w0.heap.size w4 xa' xn' xc' W'.insts ∧ ReqsMem w0.heap.size w4 ya' yn' yc' W'.reqs ∧ w4.ownsRow w0.heap.size 5 1 (.slice ja ru jc) ru ((nums J2).map (Value.int .u8)) ∧ Quiet w0 w4 ∧ Frame allTypes w w4)
    ⟨by simpa using hB3.set 4 (.int .i64 (ru : Int)), (hs4 _ _ _ br (by decide)).trans br, hI2.frame (h1 := fun z c hz => hs4 z c _ hz (by decide)) (h2 := fun z c hz => hs4 z c _ hz (by decide)), hR2.frame (h1 := fun z c hz => hs4 z c _ hz (by decide)) (h2 := fun z c hz => hs4 z c _ hz (by decide)), ownsRow_setCell_other (a := ⟨pb, 4, none⟩) ho3 (own_ne ho3 hB3 (by decide)) _, Below.setCell hq3 (p := ⟨pb, 4, none⟩) hpb _, hFw.trans (Frame.set (p := ⟨pb, 4, none⟩) hB3 (by simp [allTypes]) _)⟩ ?_
  clear hs4 hB3 br hI2 hR2 ho3 hq3 hFw gB fB zB
  rintro w4 ⟨hB4, br, hI4, hR4, ho4, hq4, hFw⟩
  have hP : PW ⟨w0, w0.heap, Nat.le_refl _, #[.int .i64 W.clock, .slice ia n ic, .slice ra m rc, .slice ja ru jc, .int .i64 (ru : Int), .int .i64 (ru : Int), .int .i64 W'.clock, .slice xa' xn' xc', .slice ya' yn' yc']⟩ w4 pb 6 73 #[.int .i64 W.clock, .slice ia n ic, .slice ra m rc, .slice ja ru jc, .int .i64 (ru : Int), .int .i64 (ru : Int), .int .i64 W'.clock, .slice xa' xn' xc', .slice ya' yn' yc'] W' xa' xn' xc' ya' yn' yc' :=
    PW.of_mem (mach_row6 hB4) hI4 hR4 hq4 hpb aside_mach hq4.size (fun k hk _ => hq4.block k hk)
  refine (copy_any _ w4 pb 6 _ _ W' xa' xn' xc' ya' yn' yc' hP hbd (by have := hP.ilen; omega)).mono ?_
  rintro e w5 ⟨ka, kc, qa, qc, rfl, hI5, hR5, hq5⟩
  clear hP
  have hB5 := hB4.quiet hq5
  have br5 := br.quiet hq5
  have ho5 := own_quiet ho4 hq5
  have hF5 : Frame allTypes w w5 := hFw.trans (Frame.quiet _ hq5)
  have gB := hB5.cell
  have fB := hB5.frozen
  have zB := hB5.lt
  have gr := br5.cell
  have fr := br5.frozen
  have zr := br5.lt
  have hrp : w.heap.size + 1 ≠ pb := fun e => Blk.ne hB5 br5 (by decide) (e ▸ rfl)
  have hs3 := set3_frame hB5 (.int .i64 W'.clock) (.slice ka xn' kc) (.slice qa yn' qc)
  have hB6 : Blk (((w5.setCell ⟨pb, 0, none⟩ (.int .i64 W'.clock)).setCell ⟨pb, 1, none⟩ (.slice ka xn' kc)).setCell ⟨pb, 2, none⟩ (.slice qa yn' qc)) pb #[.int .i64 W'.clock, .slice ka xn' kc, .slice qa yn' qc, .slice ja ru jc, .int .i64 (ru : Int), .int .i64 (ru : Int), .int .i64 W'.clock, .slice xa' xn' xc', .slice ya' yn' yc'] 73 := by
    simpa using ((hB5.set 0 (.int .i64 W'.clock)).set 1 (.slice ka xn' kc)).set 2 (.slice qa yn' qc)
  have hq6 : Quiet w0 (((w5.setCell ⟨pb, 0, none⟩ (.int .i64 W'.clock)).setCell ⟨pb, 1, none⟩ (.slice ka xn' kc)).setCell ⟨pb, 2, none⟩ (.slice qa yn' qc)) := (((hq4.after hq5).setCell (p := ⟨pb, 0, none⟩) hpb _).setCell (p := ⟨pb, 1, none⟩) hpb _).setCell (p := ⟨pb, 2, none⟩) hpb _
  have hF6 : Frame allTypes w (((w5.setCell ⟨pb, 0, none⟩ (.int .i64 W'.clock)).setCell ⟨pb, 1, none⟩ (.slice ka xn' kc)).setCell ⟨pb, 2, none⟩ (.slice qa yn' qc)) := hF5.trans ⟨by simp [World.setCell], fun k cs t hb ht => hs3 k cs t hb (fun e => ht (by rw [e]; simp [allTypes]))⟩
  have br6 : Blk (((w5.setCell ⟨pb, 0, none⟩ (.int .i64 W'.clock)).setCell ⟨pb, 1, none⟩ (.slice ka xn' kc)).setCell ⟨pb, 2, none⟩ (.slice qa yn' qc)) (w.heap.size + 1) #[.int .i64 0, .int .i64 0, .int .i64 0, .int .i64 0] 86 := (hs3 _ _ _ br5 (by decide)).trans br5
  go_upto_region 8 with (fail)
  refine wp_gen (fun w6 => w6 = (((w5.setCell ⟨pb, 0, none⟩ (.int .i64 W'.clock)).setCell ⟨pb, 1, none⟩ (.slice ka xn' kc)).setCell ⟨pb, 2, none⟩ (.slice qa yn' qc))) rfl ?_
  intro w6 hw6
  rw [← hw6] at hB6 hq6 hF6 br6
  have hs6 : ∀ k c t', Blk w5 k c t' → t' ≠ 73 → w6.heap[k]? = w5.heap[k]? := by rw [hw6]; exact hs3
  have hsz6 : w5.heap.size ≤ w6.heap.size := by rw [hw6]; simp [World.setCell]
  clear hw6 hs3 gB fB zB gr fr zr
  have gr := br6.cell
  have fr := br6.frozen
  have zr := br6.lt
  go_wp2
  refine bodyPost_ret (v := (noR 0).val) (by simp [results, Tryz.results52, go_sem, gr]; rfl) rfl ⟨rfl, ⟨w4.heap.size, ka, xn', kc, qa, yn', qc, ja, ru, jc, xa', xn', xc', ya', yn', yc', ?_⟩, ?_⟩
  · have h7 := four_frame br6 (.int .i64 0) (.int .i64 0) (.int .i64 0) (.int .i64 0)
    have h76 : ∀ k c t', Blk w5 k c t' → t' ≠ 73 → t' ≠ 86 → ((((w6.setCell ⟨w.heap.size + 1, 0, none⟩ (.int .i64 0)).setCell ⟨w.heap.size + 1, 1, none⟩ (.int .i64 0)).setCell ⟨w.heap.size + 1, 2, none⟩ (.int .i64 0)).setCell ⟨w.heap.size + 1, 3, none⟩ (.int .i64 0)).heap[k]? = w5.heap[k]? := fun k c t' hk h1 h2 => by
      have e := hs6 k c t' hk h1
      rw [h7 k c t' (e.trans hk) h2, e]
    obtain ⟨b1, b2⟩ := below_down (w' := (((w6.setCell ⟨w.heap.size + 1, 0, none⟩ (.int .i64 0)).setCell ⟨w.heap.size + 1, 1, none⟩ (.int .i64 0)).setCell ⟨w.heap.size + 1, 2, none⟩ (.int .i64 0)).setCell ⟨w.heap.size + 1, 3, none⟩ (.int .i64 0)) hI4 hR4 (by have := hq5.size; simp [World.setCell]; omega) (fun k cs t hb ht => (h76 k cs t (hb.quiet hq5) (by rcases ht with rfl | rfl | rfl | rfl <;> decide) (by rcases ht with rfl | rfl | rfl | rfl <;> decide)).trans (hq5.block k hb.lt))
    refine ⟨(h7 _ _ _ hB6 (by decide)).trans hB6, hI5.frame (h1 := fun z c hz => h76 z c _ hz (by decide) (by decide)) (h2 := fun z c hz => h76 z c _ hz (by decide) (by decide)), hR5.frame (h1 := fun z c hz => h76 z c _ hz (by decide) (by decide)) (h2 := fun z c hz => h76 z c _ hz (by decide) (by decide)), b1, b2, ?_, HJ2.out, ?_, hpb, hq4.size, by have := hq5.size; simp [World.setCell]; omega⟩
    · exact own_same ho5 (fun z hz => by obtain ⟨cs, hb⟩ := own_blk ho5 hz; exact h76 z cs _ hb (by decide) (by decide))
    · exact Below.four hq6 (by have := h.quiet.size; omega) _ _ _ _
  · exact (((hF6.fresh (Nat.le_succ _) 0 _).fresh (Nat.le_succ _) 1 _).fresh (Nat.le_succ _) 2 _).fresh (Nat.le_succ _) 3 _

set_option maxRecDepth 100000 in
set_option maxHeartbeats 8000000 in
theorem crash_any (w0 w : World) (dv : Value) (d : Def) (hd : DefIs w0 dv d) (hok : d.ok = true) (pb : Nat) (T : TapeR) (k : Nat) (hM : MachOk d T k) (hlen : T.log.length ≤ 1048576) (h : TM d w0 w pb T k) (c : Cmd) (h9 : c.kind = 9) (h0 : 0 ≤ c.a) :
    Calls Tryz.prog 52 #[.pointer (some ⟨pb, 0, none⟩), dv, .int .i64 c.a] w fun e w' => e = .returned (noR 0).val ∧ TM d w0 w' pb (playStep d T c) (playStep d T c).log.length ∧ Frame allTypes w w' := by
  have hq0 : ∀ (w : World) o, Quiet w (w.alloc o) := fun w o => (Below.refl _ _).alloc (Nat.le_refl _) _
  obtain ⟨B, ia, n, ic, ra, m, rc, ja, jn, jc, xa, xn, xc, ya, yn, yc, h⟩ := h
  obtain ⟨hS0, hS1⟩ := hM.tape.safe
  have hk := hM.le
  have hrs := hM.safe
  obtain ⟨E1, E2, _⟩ := crash_log d T c h9 h0 hS0
  have hjl : jn = bytesN T.log := h.len
  have hLN : loseN jn T.safe c.a = stayN T c.a := by unfold loseN stayN; rw [hjl]
  obtain ⟨n1, hn1⟩ : ∃ n1, n1 = stayN T c.a := ⟨_, rfl⟩
  have hn1a : T.safe ≤ n1 := by rw [hn1]; unfold stayN; split <;> omega
  have hn1b : n1 ≤ bytesN T.log := by rw [hn1]; unfold stayN; split <;> omega
  obtain ⟨l', R1, R2, R3, R4, R5, R6⟩ := crash_read hok hM n1 hn1a hn1b
  rw [← hn1] at E1 hLN
  rw [← E1] at R1 R3 R4 R5 R6
  have hlen' : (playStep d T c).log.length ≤ 1048576 := by rw [E1]; unfold cutR; simp; omega
  have hlogT : LogOk d (playStep d T c).log := (playStep_ok hM.tape c).log
  obtain ⟨hbd, hi4⟩ := worldR_bd hok hlogT (by omega)
  have hmost := bytesN_most hM.tape.log T.log.length (Nat.le_refl _)
  rw [List.take_length] at hmost
  have hge := bytesN_ge T.log k hk
  have hkl : (T.log.take k).length = k := by simp; omega
  have hJ1 : ((bytesR T.log).extract 0 n1).size = n1 := by rw [ByteArray.size_extract]; have : (bytesR T.log).size = bytesN T.log := rfl; omega
  have hX : ((bytesR T.log).extract 0 n1).extract (bytesN (T.log.take k)) n1 = (bytesR T.log).extract (bytesN (T.log.take k)) n1 := by
    rw [ByteArray.extract_extract]; congr 1 <;> omega
  have hX2 : ((bytesR T.log).extract 0 n1).extract 0 (bytesN (playStep d T c).log) = bytesR (playStep d T c).log := by
    rw [ByteArray.extract_extract, ← R6]; congr 1; omega
  have HFin : Hid ((playStep d T c).safe = bytesN (playStep d T c).log) := E2
  clear E1 E2 R6 hn1
  have hT2 : (playStep d T c).log.take (playStep d T c).log.length = (playStep d T c).log := List.take_length
  unfold TM
  rw [hT2, HFin.out]
  generalize (playStep d T c).log = L at *
  have hru : bytesN (T.log.take k) + (bytesN L - bytesN (T.log.take k)) = bytesN L := by omega
  have := crashW_any w0 w dv d hd hok pb (T.log.take k) (hM.tape.log.take k) (worldR d T.log) (worldR d L) (bytesR T.log) T.safe c.a (bytesN (T.log.take k)) B ia n ic ra m rc ja jn jc xa xn xc ya yn yc h hS0 (by omega) (by omega) h0 n1 hLN.symm (by omega) (by omega) (by rw [hkl]; omega) l' (bytesN L - bytesN (T.log.take k)) (by rw [hX]; exact R1) R3 (by omega) hbd hi4
  rw [hru, hX2] at this
  exact this

end Go.Proofs.YtgcjlgaapiefiabGreat

/-
  Walks of the program: the machine answers a command.
-/
namespace Go.Proofs.YtgcjlgaapiefiabGreat
open Go.RowKit Go.Sort Go.Lib

set_option maxRecDepth 100000 in
set_option maxHeartbeats 1000000 in
theorem crash_neg (w : World) (pb : Nat) (da : Option Addr) (dn dcap : Nat) (d : Def) (a : Int) (ha : a < 0) :
    Calls Tryz.prog 52 #[.pointer (some ⟨pb, 0, none⟩), .agg #[.slice da dn dcap, .int .i64 d.quorum, .int .i64 d.expiry], .int .i64 a] w fun e w' => e = .returned (noR 3).val ∧ Quiet w w' := by
  have hq0 : ∀ (w : World) o, Quiet w (w.alloc o) := fun w o => (Below.refl _ _).alloc (Nat.le_refl _) _
  go_enter Tryz.func52, Tryz.ntmps52
  go_wp2
  refine bodyPost_ret (v := (noR 3).val) (by simp [results, Tryz.results52, go_sem, noR, Answer.val]) rfl ⟨rfl, ?_⟩
  exact (hq0 _ _).after (hq0 _ _)

/-- An answer's own cell is written. -/
theorem TM.four {d : Def} {w0 w : World} {pb : Nat} {T : TapeR} {k : Nat} (h : TM d w0 w pb T k) {b : Nat} {cs : Array Value} (hb : Blk w b cs 86) (hw : w0.heap.size ≤ b) (v0 v1 v2 v3 : Value) : TM d w0 ((((w.setCell ⟨b, 0, none⟩ v0).setCell ⟨b, 1, none⟩ v1).setCell ⟨b, 2, none⟩ v2).setCell ⟨b, 3, none⟩ v3) pb T k :=
  h.keep (by simp [World.setCell]) (fun k cs t hk ht => four_frame hb v0 v1 v2 v3 k cs t hk (by rintro rfl; revert ht; decide)) (Below.four h.quiet hw _ _ _ _)

/-- What the machine makes of a command. -/
def MDone (d : Def) (w0 w : World) (pb : Nat) (T : TapeR) (c : Cmd) (e : Ending) (w' : World) : Prop := ∃ k' A, e = .returned (Answer.val A) ∧ (playStep d T c).answers = T.answers ++ [A] ∧ MachOk d (playStep d T c) k' ∧ TM d w0 w' pb (playStep d T c) k' ∧ Frame allTypes w w'

theorem play_sync (d : Def) (T : TapeR) (c : Cmd) (h : c.kind = 8) : playStep d T c = ⟨T.log, bytesN T.log, T.answers ++ [noR 0]⟩ := by unfold playStep; rw [if_pos h]
theorem play_neg (d : Def) (T : TapeR) (c : Cmd) (h : c.kind = 9) (ha : c.a < 0) : playStep d T c = ⟨T.log, T.safe, T.answers ++ [noR 3]⟩ := by unfold playStep; rw [if_neg (by omega), if_pos ⟨h, ha⟩]
theorem play_no (d : Def) (T : TapeR) (c : Cmd) (h8 : c.kind ≠ 8) (h9 : c.kind ≠ 9) (h : ¬ ((answerR d T.log c).code = 0 ∧ c.dry = false)) : playStep d T c = ⟨T.log, T.safe, T.answers ++ [answerR d T.log c]⟩ := by
  unfold playStep; rw [if_neg h8, if_neg (by omega), if_neg h9, if_neg h]
theorem play_yes (d : Def) (T : TapeR) (c : Cmd) (h8 : c.kind ≠ 8) (h9 : c.kind ≠ 9) (h : (answerR d T.log c).code = 0 ∧ c.dry = false) : playStep d T c = ⟨T.log ++ [c], if c.kind = 2 then (bytesN T.log : Int) + (recordR c).size else T.safe, T.answers ++ [answerR d T.log c]⟩ := by
  unfold playStep; rw [if_neg h8, if_neg (by omega), if_neg h9, if_pos h]

set_option maxRecDepth 100000 in
set_option maxHeartbeats 4000000 in
theorem machSync_any (w0 w : World) (dv : Value) (d : Def) (hd : DefIs w0 dv d) (pb : Nat) (T : TapeR) (k : Nat) (hM : MachOk d T k) (hlen : T.log.length ≤ 1048576) (h : TM d w0 w pb T k) (c : Cmd) (h8 : c.kind = 8) :
    Calls Tryz.prog 36 #[.pointer (some ⟨pb, 0, none⟩), dv, c.val] w fun e w' => MDone d w0 w pb T c e w' := by
  have hq0 : ∀ (w : World) o, Quiet w (w.alloc o) := fun w o => (Below.refl _ _).alloc (Nat.le_refl _) _
  have hmost := bytesN_most hM.tape.log T.log.length (Nat.le_refl _)
  rw [List.take_length] at hmost
  obtain ⟨hM', hT'⟩ := hM.step c (by omega)
  obtain ⟨B, ia, n, ic, ra, m, rc, ja, jn, jc, xa, xn, xc, ya, yn, yc, h⟩ := h
  obtain ⟨da, dn, dcap, rfl, hst⟩ := hd.quiet h.quiet
  clear hst hd
  have HJ : Hid (jn = bytesN T.log) := h.len
  have HP : Hid (playStep d T c = ⟨T.log, bytesN T.log, T.answers ++ [noR 0]⟩) := play_sync d T c h8
  have hjm : jn ≤ 33554432 := by have := HJ.out; omega
  have t8 : (c.kind == 8) = true := by simp; omega
  have hB := h.blk
  have zB := hB.lt
  clear h8
  unfold Cmd.val
  go_enter Tryz.func36, Tryz.ntmps36
  go_upto_region 1 with (fail)
  refine wp_gen (fun V => Blk V (w.heap.size + 1) #[.int .i64 c.kind, .int .i64 c.inst, .int .i64 c.a, .int .i64 c.b, .int .i64 c.who, .string c.reason, .bool c.dry] 43 ∧ Blk V (w.heap.size + 1 + 1) #[.int .i64 0, .int .i64 0, .int .i64 0, .int .i64 0] 86 ∧ Quiet w V) ⟨(Blk.new' (by simp)).alloc _, Blk.new' (by simp), ((hq0 _ _).after (hq0 _ _)).after (hq0 _ _)⟩ ?_
  rintro V ⟨bc, br, hqV⟩
  have hm := h.hush hqV
  have gc := bc.cell
  have zc := bc.lt
  have hB := hm.blk
  have gB := hB.cell
  have fB := hB.frozen
  have zB := hB.lt
  have gr := br.cell
  have fr := br.frozen
  have zr := br.lt
  have hrp : w.heap.size + 1 + 1 ≠ pb := fun e => Blk.ne hB br (by decide) (e ▸ rfl)
  have hown4 := ownsRow_setCell_other (a := ⟨pb, 4, none⟩) hm.own (own_ne hm.own hB (by decide)) (.int .i64 (jn : Int))
  have hm4 : MMx w0 (V.setCell ⟨pb, 4, none⟩ (.int .i64 (jn : Int))) pb (worldR d T.log) (worldR d (T.log.take k)) (bytesR T.log) (jn : Int) (bytesN (T.log.take k)) B ia n ic ra m rc ja jn jc xa xn xc ya yn yc :=
    hm.mach (by simpa using hB.set 4 (.int .i64 (jn : Int))) hown4 hm.len (Frame.set (p := ⟨pb, 4, none⟩) hB (by simp [machTypes]) _) (Below.setCell hm.quiet (p := ⟨pb, 4, none⟩) hm.above _)
  have hF4 : Frame allTypes w (V.setCell ⟨pb, 4, none⟩ (.int .i64 (jn : Int))) := (Frame.quiet _ hqV).trans (Frame.set (p := ⟨pb, 4, none⟩) hB (by simp [allTypes]) _)
  have br4 := br.other (a := ⟨pb, 4, none⟩) (.int .i64 (jn : Int)) hrp
  have hT4 : TM d w0 (V.setCell ⟨pb, 4, none⟩ (.int .i64 (jn : Int))) pb (playStep d T c) k := by
    rw [HP.out]
    have e := HJ.out
    exact ⟨B, ia, n, ic, ra, m, rc, ja, jn, jc, xa, xn, xc, ya, yn, yc, by rw [← e]; exact hm4⟩
  have hw0 : w0.heap.size ≤ w.heap.size + 1 + 1 := by have := h.quiet.size; omega
  have HA : Hid ((playStep d T c).answers = T.answers ++ [noR 0]) := by show (playStep d T c).answers = _; rw [HP.out]
  clear hm4 hown4
  go_wp2
  exact bodyPost_ret (v := (noR 0).val) (by simp [results, Tryz.results36, go_sem, gr]; rfl) rfl ⟨k, noR 0, rfl, HA.out, hM', hT4.four br4 hw0 _ _ _ _, (((hF4.fresh (by omega) 0 _).fresh (by omega) 1 _).fresh (by omega) 2 _).fresh (by omega) 3 _⟩

set_option maxRecDepth 100000 in
set_option maxHeartbeats 4000000 in
theorem machCrash_any (w0 w : World) (dv : Value) (d : Def) (hd : DefIs w0 dv d) (hok : d.ok = true) (pb : Nat) (T : TapeR) (k : Nat) (hM : MachOk d T k) (hlen : T.log.length ≤ 1048576) (h : TM d w0 w pb T k) (c : Cmd) (h9 : c.kind = 9) :
    Calls Tryz.prog 36 #[.pointer (some ⟨pb, 0, none⟩), dv, c.val] w fun e w' => MDone d w0 w pb T c e w' := by
  have hq0 : ∀ (w : World) o, Quiet w (w.alloc o) := fun w o => (Below.refl _ _).alloc (Nat.le_refl _) _
  have hw0 : w0.heap.size ≤ w.heap.size + 1 + 1 := by have := h.quiet.size; omega
  have hd1 := hd.quiet h.quiet
  have HC : Hid (∀ U, Quiet w U → Calls Tryz.prog 52 #[.pointer (some ⟨pb, 0, none⟩), dv, .int .i64 c.a] U fun e w' => ∃ k' A, e = .returned (Answer.val A) ∧ (playStep d T c).answers = T.answers ++ [A] ∧ MachOk d (playStep d T c) k' ∧ TM d w0 w' pb (playStep d T c) k' ∧ Frame allTypes U w') := fun U hU => by
    by_cases ha : c.a < 0
    · obtain ⟨da, dn, dcap, rfl, _⟩ := hd1
      refine (crash_neg U pb da dn dcap d c.a ha).mono ?_
      rintro e w' ⟨rfl, hq'⟩
      have hM' := (hM.step c (fun _ => ha)).1
      have e := play_neg d T c h9 ha
      refine ⟨k, noR 3, rfl, by rw [e], hM', ?_, Frame.quiet _ hq'⟩
      have ht := (h.hush hU).hush hq'
      rw [e]
      obtain ⟨B, ia, n, ic, ra, m, rc, ja, jn, jc, xa, xn, xc, ya, yn, yc, h⟩ := ht
      exact ⟨B, ia, n, ic, ra, m, rc, ja, jn, jc, xa, xn, xc, ya, yn, yc, h⟩
    · refine (crash_any w0 U dv d hd hok pb T k hM hlen (h.hush hU) c h9 (by omega)).mono ?_
      rintro e w' ⟨rfl, hT', hF'⟩
      exact ⟨_, noR 0, rfl, (crash_log d T c h9 (by omega) hM.tape.safe.1).2.2, hM.crash c h9 (by omega), hT', hF'⟩
  obtain ⟨da, dn, dcap, rfl, hst⟩ := hd1
  clear hst hd
  have t8 : (c.kind == 8) = false := by simp; omega
  have t9 : (c.kind == 9) = true := by simp; omega
  clear h9
  unfold Cmd.val
  go_enter Tryz.func36, Tryz.ntmps36
  go_upto_region 1 with (fail)
  refine wp_gen (fun V => Blk V w.heap.size #[.slice da dn dcap, .int .i64 d.quorum, .int .i64 d.expiry] 24 ∧ Blk V (w.heap.size + 1) #[.int .i64 c.kind, .int .i64 c.inst, .int .i64 c.a, .int .i64 c.b, .int .i64 c.who, .string c.reason, .bool c.dry] 43 ∧ Blk V (w.heap.size + 1 + 1) #[.int .i64 0, .int .i64 0, .int .i64 0, .int .i64 0] 86 ∧ Quiet w V) ⟨((Blk.new' rfl).alloc _).alloc _, (Blk.new' (by simp)).alloc _, Blk.new' (by simp), ((hq0 _ _).after (hq0 _ _)).after (hq0 _ _)⟩ ?_
  rintro V ⟨bd, bc, br, hqV⟩
  have gc := bc.cell
  have zc := bc.lt
  have gd := bd.cell
  have zd := bd.lt
  go_wp2_with fail
  refine (HC.out V hqV).mono ?_
  rintro e w1 ⟨k', A, rfl, HA, hM', hT', hF'⟩
  replace HA : Hid ((playStep d T c).answers = T.answers ++ [A]) := HA
  have br1 := hF'.blk br (by decide)
  have hFw : Frame allTypes w w1 := (Frame.quiet _ hqV).trans hF'
  have gr := br1.cell
  have fr := br1.frozen
  have zr := br1.lt
  clear gc gd zc zd hF' br bc bd
  simp only [Answer.val]
  go_wp2
  exact bodyPost_ret (v := .agg #[.int .i64 A.code, .int .i64 A.number, .int .i64 A.step, .int .i64 A.what]) (by simp [results, Tryz.results36, go_sem, gr]) rfl ⟨k', A, rfl, HA.out, hM', hT'.four br1 hw0 _ _ _ _, (((hFw.fresh (by omega) 0 _).fresh (by omega) 1 _).fresh (by omega) 2 _).fresh (by omega) 3 _⟩

end Go.Proofs.YtgcjlgaapiefiabGreat

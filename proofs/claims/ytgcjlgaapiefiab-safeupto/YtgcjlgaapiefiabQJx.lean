import Derived.Test.YtgcjlgaapiefiabQJwH
import Derived.Test.YtgcjlgaapiefiabQKwG
import Derived.Test.YtgcjlgaapiefiabQKwF

/-
  State and Recover: what they hand back, told so that it outlasts a store into a world's block.
-/
namespace Go.Proofs.Ytgcjlgaapiefiab
open Go.RowKit Go.Sort Go.Lib

set_option maxRecDepth 100000 in
set_option maxHeartbeats 4000000 in
theorem stateO_any (dv sv : Value) (d : Def) (s : List Cmd) (w : World) (hd : DefIs w dv d) (h : Cmds w sv s) (hl : s.length ≤ 1048576) (hcr : ∀ c ∈ s, c.reason.size ≤ 9223372036854775807) :
    Calls Try.prog 17 #[dv, sv] w fun e w' => Quiet w w' ∧ ((d.ok = false ∧ e = .returned (.tuple #[.agg #[.int .i64 0, .slice none 0 0, .slice none 0 0], .int .i64 1])) ∨
      (d.ok = true ∧ ∃ ia n ic ra m rc, e = .returned (.tuple #[.agg #[.int .i64 (worldR d (playR d s).log).clock, .slice ia n ic, .slice ra m rc], .int .i64 0]) ∧ (∃ B, InstsMem B w' ia n ic (worldR d (playR d s).log).insts) ∧ ∃ B, ReqsMem B w' ra m rc (worldR d (playR d s).log).reqs)) := by
  have hq0 : ∀ (w : World) o, Quiet w (w.alloc o) := fun w o => (Below.refl _ _).alloc (Nat.le_refl _) _
  have hd0 := hd
  obtain ⟨da, dn, dcap, rfl, hst⟩ := hd
  clear hst
  go_enter Try.func17, Try.ntmps17
  go_wp2_with fail
  refine calls_gen (fun V => Blk V w.heap.size #[.slice da dn dcap, .int .i64 d.quorum, .int .i64 d.expiry] 24 ∧ Blk V (w.heap.size + 1) #[.int .i64 0, .slice none 0 0, .slice none 0 0] 43 ∧ Quiet w V) ⟨(Blk.new' rfl).alloc _, Blk.new' (by simp), (hq0 _ _).after (hq0 _ _)⟩ ?_
  rintro V ⟨bd, br, hqV⟩
  refine (check_any _ d V (hd0.quiet hqV)).mono ?_
  rintro e w1 ⟨rfl, hq1⟩
  replace bd := bd.quiet hq1
  replace br := br.quiet hq1
  replace hqV : Quiet w w1 := hqV.after hq1
  clear hq1
  cases hok : d.ok
  · have hck : (chk false != 0) = true := by decide
    have gr := br.cell
    have fr := br.frozen
    go_wp2
    refine bodyPost_ret (v := .tuple #[.agg #[.int .i64 0, .slice none 0 0, .slice none 0 0], .int .i64 1]) (by simp [results, Try.results17, go_sem, chk, gr]) rfl ⟨?_, .inl ⟨hok, rfl⟩⟩
    exact ((hqV.setCell (p := ⟨w.heap.size + 1, 0, none⟩) (Nat.le_succ _) _).setCell (p := ⟨w.heap.size + 1, 1, none⟩) (Nat.le_succ _) _).setCell (p := ⟨w.heap.size + 1, 2, none⟩) (Nat.le_succ _) _
  · have hck : (chk true != 0) = false := by decide
    have HOK : Hid (d.ok = true) := hok
    have HBe : Hid (Calls Try.prog 21 #[.agg #[.slice da dn dcap, .int .i64 d.quorum, .int .i64 d.expiry], sv] w1 fun e w' => ∃ v ia n ic ra m rc ja jn jc v5 v6 v7 v8, e = .returned v ∧ Behind w1 w' (worldR d (playR d s).log) (bytesR (playR d s).log) (playR d s).safe v ia n ic ra m rc ja jn jc v5 v6 v7 v8) := behindM_any _ sv d s w1 (hd0.quiet hqV) hok (h.quiet hqV) hl hcr
    clear hok
    have gd := bd.cell
    have zd := bd.lt
    go_wp2_with fail
    refine HBe.out.mono ?_
    rintro e w2 ⟨v, ia, n, ic, ra, m, rc, ja, jn, jc, v5, v6, v7, v8, rfl, hb⟩
    obtain ⟨hv, ⟨a5, a6, rfl, rfl, ⟨x7, y7, z7, rfl⟩, ⟨x8, y8, z8, rfl⟩⟩, ⟨B1, hI⟩, ⟨B2, hR⟩, hown, hjl, hq2⟩ := hb
    obtain ⟨ck, HCK⟩ : ∃ ck, Hid ((worldR d (playR d s).log).clock = ck) := ⟨_, rfl⟩
    rw [HCK.out] at hv
    subst hv
    obtain ⟨sf, HSF⟩ : ∃ sf, Hid ((playR d s).safe = sf) := ⟨_, rfl⟩
    obtain ⟨jl, HJL⟩ : ∃ jl, Hid (jl = jn) := ⟨_, rfl⟩
    rw [HSF.out, ← HJL.out]
    clear hown hjl gd zd
    go_upto_region 5 with (fail)
    refine wp_gen (fun U => Blk U w2.heap.size #[.int .i64 ck, .slice ia n ic, .slice ra m rc, .slice ja jl jc, .int .i64 sf, .int .i64 a5, .int .i64 a6, .slice x7 y7 z7, .slice x8 y8 z8] 64 ∧ Quiet w2 U) ⟨Blk.new' rfl, hq0 _ _⟩ ?_
    rintro U ⟨bm, hqU⟩
    have br2 := (br.quiet hq2).quiet hqU
    have gr := br2.cell
    have fr := br2.frozen
    have zr := br2.lt
    have gm := bm.cell
    have zm := bm.lt
    have hqF : Quiet w U := (hqV.after hq2).after hqU
    have hIU := hI.quiet (hq := hqU)
    have hRU := hR.quiet (hq := hqU)
    have hs := set3_frame br2 (.int .i64 ck) (.slice ia n ic) (.slice ra m rc)
    clear hI hR
    go_wp2
    refine bodyPost_ret (v := .tuple #[.agg #[.int .i64 ck, .slice ia n ic, .slice ra m rc], .int .i64 0]) (by simp [results, Try.results17, go_sem, gr]) rfl ⟨?_, .inr ⟨HOK.out, ia, n, ic, ra, m, rc, by rw [HCK.out], ?_, ?_⟩⟩
    · exact ((hqF.setCell (p := ⟨w.heap.size + 1, 0, none⟩) (Nat.le_succ _) _).setCell (p := ⟨w.heap.size + 1, 1, none⟩) (Nat.le_succ _) _).setCell (p := ⟨w.heap.size + 1, 2, none⟩) (Nat.le_succ _) _
    · exact ⟨B1, hIU.frame (h1 := fun z c hz => hs z c _ hz (by decide)) (h2 := fun z c hz => hs z c _ hz (by decide))⟩
    · exact ⟨B2, hRU.frame (h1 := fun z c hz => hs z c _ hz (by decide)) (h2 := fun z c hz => hs z c _ hz (by decide))⟩

/-- A world's rows, told so that they outlast a store into a world's block. -/
def WMem (w : World) (ia : Option Addr) (n ic : Nat) (ra : Option Addr) (m rc : Nat) (W : WorldR) : Prop := (∃ B, InstsMem B w ia n ic W.insts) ∧ (∃ B, ReqsMem B w ra m rc W.reqs) ∧ ∀ x ∈ W.insts, x.ledger.length ≤ 2199023255552
theorem WMem.insts {w : World} {ia : Option Addr} {n ic : Nat} {ra : Option Addr} {m rc : Nat} {W : WorldR} (h : WMem w ia n ic ra m rc W) : InstsAt w (.slice ia n ic) W.insts := by
  obtain ⟨⟨B, h1⟩, _, h3⟩ := h
  exact insMem_at h1 h3
theorem WMem.reqs {w : World} {ia : Option Addr} {n ic : Nat} {ra : Option Addr} {m rc : Nat} {W : WorldR} (h : WMem w ia n ic ra m rc W) : ReqsAt w (.slice ra m rc) W.reqs := by
  obtain ⟨_, ⟨B, h1⟩, _⟩ := h
  exact reqMem_at h1
theorem WMem.quiet {w w' : World} {ia : Option Addr} {n ic : Nat} {ra : Option Addr} {m rc : Nat} {W : WorldR} (h : WMem w ia n ic ra m rc W) (hq : Quiet w w') : WMem w' ia n ic ra m rc W := by
  obtain ⟨⟨B1, h1⟩, ⟨B2, h2⟩, h3⟩ := h
  exact ⟨⟨B1, h1.quiet (hq := hq)⟩, ⟨B2, h2.quiet (hq := hq)⟩, h3⟩
theorem WMem.set {w : World} {ia : Option Addr} {n ic : Nat} {ra : Option Addr} {m rc : Nat} {W : WorldR} (h : WMem w ia n ic ra m rc W) {b : Nat} {cs : Array Value} (hb : Blk w b cs 43) (v0 v1 v2 : Value) : WMem (((w.setCell ⟨b, 0, none⟩ v0).setCell ⟨b, 1, none⟩ v1).setCell ⟨b, 2, none⟩ v2) ia n ic ra m rc W := by
  obtain ⟨⟨B1, h1⟩, ⟨B2, h2⟩, h3⟩ := h
  have hs := set3_frame hb v0 v1 v2
  exact ⟨⟨B1, h1.frame (h1 := fun z c hz => hs z c _ hz (by decide)) (h2 := fun z c hz => hs z c _ hz (by decide))⟩, ⟨B2, h2.frame (h1 := fun z c hz => hs z c _ hz (by decide)) (h2 := fun z c hz => hs z c _ hz (by decide))⟩, h3⟩

/-- A world in a block. -/
def WAt (w : World) (b : Nat) (W : WorldR) : Prop := ∃ ia n ic ra m rc, Blk w b #[.int .i64 W.clock, .slice ia n ic, .slice ra m rc] 43 ∧ WMem w ia n ic ra m rc W
theorem WAt.quiet {w w' : World} {b : Nat} {W : WorldR} (h : WAt w b W) (hq : Quiet w w') : WAt w' b W := by
  obtain ⟨ia, n, ic, ra, m, rc, h1, h2⟩ := h
  exact ⟨ia, n, ic, ra, m, rc, h1.quiet hq, h2.quiet hq⟩
theorem WAt.new {w : World} {ia : Option Addr} {n ic : Nat} {ra : Option Addr} {m rc : Nat} {W : WorldR} (h : WMem w ia n ic ra m rc W) : WAt (w.alloc (.cells #[.int .i64 W.clock, .slice ia n ic, .slice ra m rc] 43)) w.heap.size W :=
  ⟨ia, n, ic, ra, m, rc, Blk.new' rfl, h.quiet ((Below.refl _ _).alloc (Nat.le_refl _) _)⟩
theorem WAt.set {w : World} {ia : Option Addr} {n ic : Nat} {ra : Option Addr} {m rc : Nat} {W : WorldR} (h : WMem w ia n ic ra m rc W) {b : Nat} {cs : Array Value} (hb : Blk w b cs 43) (hs : cs.size = 3) : WAt (((w.setCell ⟨b, 0, none⟩ (.int .i64 W.clock)).setCell ⟨b, 1, none⟩ (.slice ia n ic)).setCell ⟨b, 2, none⟩ (.slice ra m rc)) b W :=
  ⟨ia, n, ic, ra, m, rc, hb.set3w hs _ _ _, h.set hb _ _ _⟩

/-- State, of a definition. -/
theorem stateT_any (dv sv : Value) (d : Def) (hok : d.ok = true) (s : List Cmd) (w : World) (hd : DefIs w dv d) (h : Cmds w sv s) (hl : s.length ≤ 1048576) (hcr : ∀ c ∈ s, c.reason.size ≤ 9223372036854775807) :
    Calls Try.prog 17 #[dv, sv] w fun e w' => Quiet w w' ∧ ∃ ia n ic ra m rc, e = .returned (.tuple #[.agg #[.int .i64 (worldR d (playR d s).log).clock, .slice ia n ic, .slice ra m rc], .int .i64 0]) ∧ WMem w' ia n ic ra m rc (worldR d (playR d s).log) := by
  refine (stateO_any dv sv d s w hd h hl hcr).mono ?_
  rintro e w' ⟨hq, ⟨q, _⟩ | ⟨_, ia, n, ic, ra, m, rc, rfl, h1, h2⟩⟩
  · rw [hok] at q; simp at q
  · have hll := (playFold d s s.length (Nat.le_refl _)).2.1
    rw [List.take_length] at hll
    exact ⟨hq, ia, n, ic, ra, m, rc, rfl, h1, h2, worldR_bound d _ (by omega)⟩

end Go.Proofs.Ytgcjlgaapiefiab

/-
  What the beginning of a journal is read as, and what is said of the first accepted commands.
-/
namespace Go.Proofs.Ytgcjlgaapiefiab
open Go.RowKit Go.Sort Go.Lib

theorem recover_tornO (dv : Value) (d : Def) (hok : d.ok = true) (l : List Cmd) (h : LogOk d l) (hl : l.length ≤ 1048576) (n : Nat) (hn : n ≤ bytesN l) :
    ∃ j, j ≤ l.length ∧ bytesN (l.take j) ≤ n ∧ (j = l.length ∨ n < bytesN (l.take (j + 1))) ∧ ∀ (w : World), DefIs w dv d → Calls Try.prog 16 #[dv, .string ((bytesR l).extract 0 n)] w fun e w' => Quiet w w' ∧ ∃ ia n ic ra m rc, e = .returned (.tuple #[.agg #[.int .i64 (worldR d (l.take j)).clock, .slice ia n ic, .slice ra m rc], .int .i64 (bytesN (l.take j)), .int .i64 0]) ∧ WMem w' ia n ic ra m rc (worldR d (l.take j)) := by
  obtain ⟨j, l', h1, h2, _, h4, h5, h6⟩ := torn_read hok h n hn
  refine ⟨j, h1, h5, h6, fun w hd => ?_⟩
  have hb := bytesN_most h l.length (Nat.le_refl _)
  rw [List.take_length] at hb
  have hsz : ((bytesR l).extract 0 n).size ≤ 33554432 := by
    rw [ByteArray.size_extract]; omega
  refine (recoverM_any dv d _ w hd hsz).mono ?_
  rintro e w' ⟨hq, hc⟩
  rcases hc with ⟨q, _⟩ | ⟨_, ia, n1, ic, ra, m, rc, rfl, _, ⟨B, hI⟩, ⟨B', hR⟩⟩
  · rw [hok] at q; simp at q
  · have hW : WMem w' ia n1 ic ra m rc (worldR d (readR d [] ((bytesR l).extract 0 n)).1) := ⟨⟨B, hI⟩, ⟨B', hR⟩, worldR_bound d _ (by have := readR_lenK d ((bytesR l).extract 0 n); omega)⟩
    rw [h2] at hW ⊢
    simp only [h4] at hW ⊢
    exact ⟨hq, ia, _, ic, ra, m, rc, rfl, hW⟩

/-- What the program says of the beginning of the accepted commands. -/
theorem journal_take (dv : Value) (d : Def) (hok : d.ok = true) (L : List Cmd) (hL : LogOk d L) (hwet : ∀ c ∈ L, c.dry = false) (hcr : ∀ c ∈ L, c.reason.size ≤ 9223372036854775807) (hl : L.length ≤ 1048576) (a : Option Addr) (n cap k : Nat) (hk : k ≤ L.length) :
    ∃ S : Int, ∀ w, DefIs w dv d → Cmds w (.slice a n cap) L → Calls Try.prog 14 #[dv, .slice a k cap] w fun e w' => e = .returned (.tuple #[.string (bytesR (L.take k)), .int .i64 S, .int .i64 0]) ∧ Quiet w w' := by
  refine ⟨(playR d (L.take k)).safe, fun w hd h => ?_⟩
  refine (journalM_any dv _ d (L.take k) w hd (h.takes k hk).1 (by simp; omega) (fun c hc => hcr c (List.mem_of_mem_take hc))).mono ?_
  rintro e w' ⟨hq, ⟨q, _⟩ | ⟨_, rfl⟩⟩
  · rw [hok] at q; simp at q
  · rw [replay d hL hwet k hk]
    exact ⟨rfl, hq⟩
theorem state_take (dv : Value) (d : Def) (hok : d.ok = true) (L : List Cmd) (hL : LogOk d L) (hwet : ∀ c ∈ L, c.dry = false) (hcr : ∀ c ∈ L, c.reason.size ≤ 9223372036854775807) (hl : L.length ≤ 1048576) (a : Option Addr) (n cap k : Nat) (hk : k ≤ L.length) (w : World) (hd : DefIs w dv d) (h : Cmds w (.slice a n cap) L) :
    Calls Try.prog 17 #[dv, .slice a k cap] w fun e w' => Quiet w w' ∧ ∃ ia n ic ra m rc, e = .returned (.tuple #[.agg #[.int .i64 (worldR d (L.take k)).clock, .slice ia n ic, .slice ra m rc], .int .i64 0]) ∧ WMem w' ia n ic ra m rc (worldR d (L.take k)) := by
  refine (stateT_any dv _ d hok (L.take k) w hd (h.takes k hk).1 (by simp; omega) (fun c hc => hcr c (List.mem_of_mem_take hc))).mono ?_
  rintro e w' ⟨hq, ia, n, ic, ra, m, rc, rfl, h1⟩
  rw [replay d hL hwet k hk] at h1 ⊢
  exact ⟨hq, ia, n, ic, ra, m, rc, rfl, h1⟩

end Go.Proofs.Ytgcjlgaapiefiab

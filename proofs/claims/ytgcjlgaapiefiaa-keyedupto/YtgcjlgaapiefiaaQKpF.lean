import Derived.Test.YtgcjlgaapiefiaaQKpD

/-
  What a crash leaves, behind a script without crashes (plain).
-/
namespace Go.Proofs.Ytgcjlgaapiefiaa

theorem cutN_le (l : List Cmd) (n : Int) : ∀ m, cutN l n m ≤ m
  | 0 => Nat.le_refl _
  | m + 1 => by
    unfold cutN; split
    · exact Nat.le_refl _
    · have := cutN_le l n m; omega
theorem cutN_fits (l : List Cmd) (n : Int) (h0 : 0 ≤ n) : ∀ m, (bytesN (l.take (cutN l n m)) : Int) ≤ n
  | 0 => by show ((bytesN ([] : List Cmd) : Nat) : Int) ≤ n; rw [bytesN_nil]; exact h0
  | m + 1 => by
    unfold cutN; split
    · assumption
    · exact cutN_fits l n h0 m
theorem cutN_most (l : List Cmd) (n : Int) (q : Nat) (h : (bytesN (l.take q) : Int) ≤ n) : ∀ m, q ≤ m → q ≤ cutN l n m
  | 0 => fun hq => by omega
  | m + 1 => fun hq => by
    unfold cutN; split
    · exact hq
    · rename_i hn
      by_cases e : q = m + 1
      · subst e; exact absurd h hn
      · exact cutN_most l n q h m (by omega)

/-- What is safe ends where a record ends. -/
def SafeAt (t : TapeR) : Prop := ∃ q, q ≤ t.log.length ∧ t.safe = bytesN (t.log.take q)
theorem SafeAt.step {d : Def} {t : TapeR} (h : SafeAt t) (c : Cmd) : SafeAt (playStep d t c) := by
  obtain ⟨q, hq, e⟩ := h
  unfold playStep
  by_cases h8 : c.kind = 8
  · rw [if_pos h8]; exact ⟨t.log.length, Nat.le_refl _, by rw [List.take_length]⟩
  rw [if_neg h8]
  by_cases h9 : c.kind = 9 ∧ c.a < 0
  · rw [if_pos h9]; exact ⟨q, hq, e⟩
  rw [if_neg h9]
  by_cases h9' : c.kind = 9
  · rw [if_pos h9']; split
    · exact ⟨_, Nat.le_refl _, by rw [List.take_length]⟩
    · exact ⟨_, Nat.le_refl _, by rw [List.take_length]⟩
  rw [if_neg h9']
  by_cases ha : (answerR d t.log c).code = 0 ∧ c.dry = false
  · rw [if_pos ha]
    by_cases h2 : c.kind = 2
    · refine ⟨t.log.length + 1, by simp, ?_⟩
      show (if c.kind = 2 then (bytesN t.log : Int) + (recordR c).size else t.safe) = (bytesN ((t.log ++ [c]).take (t.log.length + 1)) : Int)
      rw [if_pos h2, List.take_of_length_le (by simp), bytesN_snoc]; omega
    · refine ⟨q, by simp; omega, ?_⟩
      show (if c.kind = 2 then (bytesN t.log : Int) + (recordR c).size else t.safe) = (bytesN ((t.log ++ [c]).take q) : Int)
      rw [if_neg h2, List.take_append_of_le_length hq]; exact e
  · rw [if_neg ha]; exact ⟨q, hq, e⟩
theorem safe_at (d : Def) (s : List Cmd) : SafeAt (playR d s) := by
  have : ∀ k, k ≤ s.length → SafeAt (playR d (s.take k)) := by
    intro k
    induction k with
    | zero => intro _; exact ⟨0, Nat.le_refl _, rfl⟩
    | succ k ih =>
      intro hk
      rw [playR_takeK d s k hk]
      exact (ih (by omega)).step _
  have h := this s.length (Nat.le_refl _)
  rwa [List.take_length] at h

def crashC (r : Int) : Cmd := ⟨9, 0, r, 0, 0, ⟨#[]⟩, false⟩

theorem safe_plain (d : Def) (S : List Cmd) (r : Nat) : ∃ p, p ≤ (playR d S).log.length ∧ (playR d (S ++ [crashC r])).log = (playR d S).log.take p ∧ (playR d (S ++ [crashC r])).safe = bytesN ((playR d S).log.take p) ∧
    (playR d S).safe ≤ bytesN ((playR d S).log.take p) ∧ bytesN ((playR d S).log.take p) ≤ bytesN (playR d S).log ∧ (bytesN ((playR d S).log.take p) : Int) ≤ (playR d S).safe + r ∧
    ((bytesN (playR d S).log : Int) ≤ (playR d S).safe + r → bytesN ((playR d S).log.take p) = bytesN (playR d S).log) ∧
    (playR d (S ++ [crashC r] ++ [crashC 0])).log = (playR d S).log.take p := by
  have ht := (playFold d S S.length (Nat.le_refl _)).1
  rw [List.take_length] at ht
  have hs := ht.safe
  obtain ⟨q, hq, eq⟩ := safe_at d S
  have e1 := playR_snocK d S (crashC r)
  have e2 := playR_snocK d (S ++ [crashC r]) (crashC 0)
  generalize playR d S = T at *
  obtain ⟨c1, c2, _⟩ := crash_log d T (crashC r) rfl (by show (0 : Int) ≤ r; omega) hs.1
  have hr : (crashC r).a = (r : Int) := rfl
  rw [hr] at c1
  rw [e1] at e2 ⊢
  have hst : T.safe ≤ (stayN T r : Int) ∧ ((stayN T r : Int) ≤ T.safe + r) ∧ ((bytesN T.log : Int) ≤ T.safe + r → stayN T r = bytesN T.log) := by
    unfold stayN; split
    · omega
    · omega
  obtain ⟨p, hp⟩ : ∃ p, p = cutN T.log (stayN T r) T.log.length := ⟨_, rfl⟩
  have hc : (playStep d T (crashC r)).log = T.log.take p := by rw [c1, hp]; rfl
  have hple : p ≤ T.log.length := by rw [hp]; exact cutN_le _ _ _
  have hpf : (bytesN (T.log.take p) : Int) ≤ stayN T r := by rw [hp]; exact cutN_fits _ _ (by omega) _
  have hqp : q ≤ p := by rw [hp]; exact cutN_most _ _ _ (by omega) _ hq
  have hm1 := bytesN_mono T.log q p hqp hple
  have hm2 := bytesN_mono T.log p T.log.length hple (Nat.le_refl _)
  rw [List.take_length] at hm2
  refine ⟨p, hple, hc, by rw [c2, hc], by omega, hm2, by omega, ?_, ?_⟩
  · intro h
    have hall : T.log.length ≤ p := by rw [hp]; exact cutN_most _ _ _ (by rw [List.take_length]; have := hst.2.2 h; omega) _ (Nat.le_refl _)
    rw [List.take_of_length_le hall]
  · have hs2 : (playStep d T (crashC r)).safe = bytesN (playStep d T (crashC r)).log := c2
    obtain ⟨g1, _, _⟩ := crash_log d (playStep d T (crashC r)) (crashC 0) rfl (by show (0 : Int) ≤ 0; omega) (by rw [hs2]; omega)
    rw [e2, g1]
    have h0 : (crashC 0).a = 0 := rfl
    have : stayN (playStep d T (crashC r)) (crashC 0).a = bytesN (playStep d T (crashC r)).log := by
      unfold stayN; rw [if_neg (by rw [hs2, h0]; omega)]
    rw [this, cut_all _ _ (.inr (Int.le_refl _)), hc]

theorem bytes_inj (l : List Cmd) (i p : Nat) (hi : i ≤ l.length) (hp : p ≤ l.length) (h : bytesN (l.take i) = bytesN (l.take p)) : i = p := by
  have key : ∀ a b, a < b → b ≤ l.length → bytesN (l.take a) < bytesN (l.take b) := by
    intro a b hab hb
    have h1 := bytesN_mono l (a + 1) b hab hb
    have h2 := bytesN_take l a (by omega)
    rw [recordR_size, recBody_length] at h2
    have : 0 < 8 := by omega
    omega
  rcases Nat.lt_trichotomy i p with q | q | q
  · have := key i p q hp; omega
  · exact q
  · have := key p i q hi; omega

end Go.Proofs.Ytgcjlgaapiefiaa

/-
  Keys: what PICK gave out (plain).
-/
namespace Go.Proofs.Ytgcjlgaapiefiaa

def givStep (d : Def) (id : Int) (acc : List Cmd × List Answer) (c : Cmd) : List Cmd × List Answer := (acc.1 ++ [c], if c.kind = 2 ∧ c.inst = id then acc.2 ++ [answerR d acc.1 c] else acc.2)
/-- What the PICKs of an instance were answered, in a log. -/
def giv (d : Def) (l : List Cmd) (id : Int) : List Answer := (l.foldl (givStep d id) ([], [])).2
theorem giv_fst (d : Def) (id : Int) (l : List Cmd) (acc : List Cmd × List Answer) : (l.foldl (givStep d id) acc).1 = acc.1 ++ l := by
  induction l generalizing acc with
  | nil => simp
  | cons c l ih => rw [List.foldl_cons, ih]; simp [givStep]
theorem giv_snoc (d : Def) (l : List Cmd) (c : Cmd) (id : Int) : giv d (l ++ [c]) id = if c.kind = 2 ∧ c.inst = id then giv d l id ++ [answerR d l c] else giv d l id := by
  unfold giv
  rw [List.foldl_append]
  show (givStep d id (l.foldl (givStep d id) ([], [])) c).2 = _
  have h := giv_fst d id l ([], [])
  simp only [List.nil_append] at h
  generalize l.foldl (givStep d id) ([], []) = acc at h ⊢
  obtain ⟨a1, a2⟩ := acc
  simp only at h
  subst h
  rfl
theorem giv_take (d : Def) (l : List Cmd) (id : Int) (p : Nat) (h : ∀ i (hi : i < l.length), p ≤ i → l[i].kind ≠ 2) : ∀ k, p ≤ k → k ≤ l.length → giv d (l.take k) id = giv d (l.take p) id := by
  intro k hpk
  induction k with
  | zero => intro _; have : p = 0 := by omega
            subst this; rfl
  | succ k ih =>
    intro hk
    by_cases e : p = k + 1
    · subst e; rfl
    · rw [List.take_succ_eq_append_getElem (by omega), giv_snoc, if_neg (fun q => h k (by omega) (by omega) q.1)]
      exact ih (by omega) (by omega)

def done13 (e : Entry) : Bool := e.kind == 1 || e.kind == 3
structure KeyInv (d : Def) (g : List Answer) (x : Inst) : Prop where
  ok : ∀ a ∈ g, a.code = 0
  low : ∀ a ∈ g, 1 ≤ a.number ∧ a.number ≤ x.keys
  out : x.key ≠ 0 → (⟨0, x.key, atR x, x.mode⟩ : Answer) ∈ g ∧ ∀ a ∈ g, a.number = x.key → a.step = atR x ∧ a.what = x.mode
  one : ∀ a ∈ g, ∀ b ∈ g, a.number = b.number → a.step = b.step ∧ a.what = b.what
  led : ∀ e ∈ x.ledger, done13 e = true → (⟨0, e.ref, e.step, if e.kind = 3 then 2 else 1⟩ : Answer) ∈ g
  most : ∀ e ∈ x.ledger, done13 e = true → 1 ≤ e.ref ∧ e.ref ≤ x.keys ∧ (x.key ≠ 0 → e.ref < x.key)
  rise : x.ledger.Pairwise fun a b => done13 a = true → done13 b = true → a.ref < b.ref

/-- Where the key is gone and the ledger is as it was, or has an entry of another kind. -/
theorem KeyInv.gone {d : Def} {g : List Answer} {x y : Inst} (h : KeyInv d g x) (hk : y.key = 0) (hks : y.keys = x.keys) (hl : y.ledger = x.ledger ∨ ∃ e, y.ledger = x.ledger ++ [e] ∧ done13 e = false) : KeyInv d g y := by
  have hm : ∀ e ∈ y.ledger, done13 e = true → e ∈ x.ledger := by
    rcases hl with hl | ⟨e0, hl, h0⟩
    · intro e he _; rw [← hl]; exact he
    · intro e he hd
      rw [hl] at he
      rcases List.mem_append.1 he with he | he
      · exact he
      · simp at he; subst he; rw [h0] at hd; simp at hd
  refine ⟨h.ok, fun a ha => by rw [hks]; exact h.low a ha, fun q => absurd hk q, h.one, fun e he hd => h.led e (hm e he hd) hd, fun e he hd => ?_, ?_⟩
  · have := h.most e (hm e he hd) hd
    exact ⟨this.1, by rw [hks]; exact this.2.1, fun q => absurd hk q⟩
  · rcases hl with hl | ⟨e0, hl, h0⟩
    · rw [hl]; exact h.rise
    · rw [hl, List.pairwise_append]
      refine ⟨h.rise, by simp, fun a _ b hb _ hd => ?_⟩
      simp at hb; subst hb; rw [h0] at hd; simp at hd

theorem KeyInv.done {d : Def} {g : List Answer} {x y : Inst} (h : KeyInv d g x) (hx : x.key ≠ 0) (hkl : x.key ≤ x.keys) (hk : y.key = 0) (hks : y.keys = x.keys) (e0 : Entry) (hl : y.ledger = x.ledger ++ [e0]) (h1 : e0.ref = x.key) (h2 : e0.step = atR x) (h3 : (if e0.kind = 3 then (2 : Int) else 1) = x.mode) : KeyInv d g y := by
  have ho := h.out hx
  have hlow := h.low _ ho.1
  refine ⟨h.ok, fun a ha => by rw [hks]; exact h.low a ha, fun q => absurd hk q, h.one, fun e he hd => ?_, fun e he hd => ?_, ?_⟩
  · rw [hl] at he
    rcases List.mem_append.1 he with he | he
    · exact h.led e he hd
    · simp at he; subst he; rw [h1, h2, h3]; exact ho.1
  · rw [hl] at he
    rcases List.mem_append.1 he with he | he
    · have := h.most e he hd; exact ⟨this.1, by rw [hks]; exact this.2.1, fun q => absurd hk q⟩
    · simp at he; subst he; rw [h1, hks]; exact ⟨hlow.1, hkl, fun q => absurd hk q⟩
  · rw [hl, List.pairwise_append]
    refine ⟨h.rise, by simp, fun a ha b hb hd _ => ?_⟩
    simp at hb; subst hb
    rw [h1]
    exact (h.most a ha hd).2.2 hx

theorem pick_code {d : Def} {x : Inst} {now : Int} (h : (pickAns d x now).code = 0) : pickAns d x now = if 0 < x.key then ⟨0, x.key, atR x, x.mode⟩ else ⟨0, x.keys + 1, atR x, x.mode⟩ := by
  unfold pickAns at h ⊢
  by_cases t1 : 2 < x.mode
  · rw [if_pos t1] at h; simp [noR] at h
  rw [if_neg t1] at h ⊢
  by_cases t2 : x.stuck = true
  · rw [if_pos t2] at h; simp [noR] at h
  rw [if_neg t2] at h ⊢
  by_cases t3 : 0 < x.key ∧ now < x.due
  · rw [if_pos t3] at h; simp [noR] at h
  rw [if_neg t3] at h ⊢
  by_cases t4 : 0 < x.key
  · rw [if_pos t4, if_pos t4]
  rw [if_neg t4] at h ⊢
  rw [if_neg t4]
  by_cases t5 : now < x.wake
  · rw [if_pos t5] at h; simp [noR] at h
  rw [if_neg t5] at h ⊢
  by_cases t6 : x.mode = 2 ∧ (stepR d (atR x)).undo = false
  · rw [if_pos t6] at h; simp [noR] at h
  rw [if_neg t6] at h ⊢
  by_cases t7 : x.keys = 30
  · rw [if_pos t7] at h; simp [noR] at h
  rw [if_neg t7]

theorem grant_gone (d : Def) (clock : Int) (x : Inst) (what target number : Int) (h1 : 1 ≤ what) (h5 : what ≤ 5) : (grantP d clock x what target number).key = 0 ∧ (grantP d clock x what target number).keys = x.keys ∧ ((grantP d clock x what target number).ledger = x.ledger ∨ ∃ e, (grantP d clock x what target number).ledger = x.ledger ++ [e] ∧ done13 e = false) := by
  unfold grantP
  by_cases k1 : what = 1
  · rw [if_pos k1]; exact ⟨rfl, rfl, .inl rfl⟩
  rw [if_neg k1]
  by_cases k2 : what = 2
  · rw [if_pos k2]; exact ⟨rfl, rfl, .inr ⟨_, rfl, rfl⟩⟩
  rw [if_neg k2]
  by_cases k3 : what = 3
  · rw [if_pos k3]; unfold takeBackP; split
    · exact ⟨rfl, rfl, .inr ⟨_, rfl, rfl⟩⟩
    · exact ⟨rfl, rfl, .inr ⟨_, rfl, rfl⟩⟩
  rw [if_neg k3]
  by_cases k4 : what = 4
  · rw [if_pos k4]; exact ⟨rfl, rfl, .inl rfl⟩
  rw [if_neg k4, if_pos (by omega)]
  exact ⟨rfl, rfl, .inl rfl⟩

theorem LogOk.keyed {d : Def} (hok : d.ok = true) {l : List Cmd} (h : LogOk d l) (id : Int) : KeyInv d (giv d l id) (instanceR d l id) := by
  have hn : 0 < d.steps.length := by have := quorum_ok hok; omega
  refine LogOk.ind (P := fun l => KeyInv d (giv d l id) (instanceR d l id)) ?_ ?_ l h
  · have e : instanceR d [] id = startR id := rfl
    rw [e]
    exact ⟨by simp [giv], by simp [giv], fun q => absurd rfl q, by simp [giv], by simp [startR], by simp [startR], by simp [startR]⟩
  intro l c hl hc ih
  have hg := hl.good hn id
  have hse : (instanceR d l id).settled = settledR (instanceR d l id).ledger := rfl
  have hk := kind_ok hc
  by_cases k2 : c.kind = 2
  · rw [giv_snoc, inst_pick hl hn hc k2]
    by_cases e : id = c.inst
    · rw [if_pos ⟨k2, e.symm⟩, if_pos e]
      have ha := answered_ok hc (.inl k2)
      have hA : answerR d l c = answeredR d l c (instanceR d l c.inst) (clockR l) := by
        unfold answerR
        rw [if_neg (by omega), if_neg (by omega), if_neg (by omega), if_pos (.inl k2), if_pos ((any_mem _ _).2 (known_ok hc (.inl k2)))]
      rw [hA]
      rw [← e] at ha ⊢
      unfold answeredR at ha ⊢
      rw [if_pos k2] at ha ⊢
      rw [pick_code ha]
      generalize instanceR d l id = x at *
      have hkk := hg.key
      unfold pickP
      by_cases k0 : x.key = 0
      · rw [if_neg (by omega), if_pos k0]
        have hks := hg.keys
        refine ⟨?_, ?_, fun _ => ⟨by simp [atR], ?_⟩, ?_, ?_, ?_, ?_⟩
        · intro a hm
          rcases List.mem_append.1 hm with hm | hm
          · exact ih.ok a hm
          · simp at hm; subst hm; rfl
        · intro a hm
          rcases List.mem_append.1 hm with hm | hm
          · have := ih.low a hm; simp; omega
          · simp at hm; subst hm; simp; omega
        · intro a hm hnum
          rcases List.mem_append.1 hm with hm | hm
          · have := ih.low a hm; simp at hnum; omega
          · simp at hm; subst hm; exact ⟨rfl, rfl⟩
        · intro a hm b hm' hnum
          rcases List.mem_append.1 hm with hm | hm <;> rcases List.mem_append.1 hm' with hm' | hm'
          · exact ih.one a hm b hm' hnum
          · have := ih.low a hm; simp at hm'; subst hm'; simp at hnum; omega
          · have := ih.low b hm'; simp at hm; subst hm; simp at hnum; omega
          · simp at hm hm'; subst hm; subst hm'; exact ⟨rfl, rfl⟩
        · intro en he hd
          exact List.mem_append_left _ (ih.led en he hd)
        · intro en he hd
          have := ih.most en he hd
          simp; omega
        · exact ih.rise
      · rw [if_pos (by omega), if_neg k0]
        have ho := ih.out k0
        refine ⟨?_, ?_, fun _ => ⟨List.mem_append_left _ ho.1, ?_⟩, ?_, ?_, ih.most, ih.rise⟩
        · intro a hm
          rcases List.mem_append.1 hm with hm | hm
          · exact ih.ok a hm
          · simp at hm; subst hm; rfl
        · intro a hm
          rcases List.mem_append.1 hm with hm | hm
          · exact ih.low a hm
          · simp at hm; subst hm; simp; omega
        · intro a hm hnum
          rcases List.mem_append.1 hm with hm | hm
          · exact ho.2 a hm hnum
          · simp at hm; subst hm; exact ⟨rfl, rfl⟩
        · intro a hm b hm' hnum
          rcases List.mem_append.1 hm with hm | hm <;> rcases List.mem_append.1 hm' with hm' | hm'
          · exact ih.one a hm b hm' hnum
          · simp at hm'; subst hm'; exact ho.2 a hm hnum
          · simp at hm; subst hm; have := ho.2 b hm' hnum.symm; exact ⟨this.1.symm, this.2.symm⟩
          · simp at hm hm'; subst hm; subst hm'; exact ⟨rfl, rfl⟩
        · intro en he hd
          exact List.mem_append_left _ (ih.led en he hd)
    · rw [if_neg (fun q => e q.2.symm), if_neg e]; exact ih
  rw [giv_snoc, if_neg (fun q => k2 q.1)]
  by_cases k3 : c.kind = 3
  · rw [inst_reply hl hn hc k3]
    by_cases e : id = c.inst
    · rw [if_pos e]
      have hkey := (reply_ok hc k3).2
      rw [← e] at hkey
      generalize instanceR d l id = x at *
      have hmode : x.mode = 1 ∨ x.mode = 2 := by
        rcases hg.modes with q | q | q | q
        · exact .inl q.1
        · exact .inr q.1
        · exact absurd q.2.1 hkey
        · exact absurd q.2.1 hkey
      have hnx : nextP x = atR x := by unfold nextP atR; rw [hse]
      unfold replyP
      by_cases hb : (c.b == 1) = false
      · rw [if_pos hb]
        unfold failP
        split
        · exact ih.gone rfl rfl (.inl rfl)
        split
        · exact ih.gone rfl rfl (.inl rfl)
        · exact ih.gone rfl rfl (.inl rfl)
      · rw [if_neg hb]
        by_cases hm : x.mode = 2
        · rw [if_pos hm]
          unfold takeBackP
          split
          · exact ih.done hkey hg.key.2 rfl rfl ⟨3, nextP x, x.key⟩ rfl rfl hnx (by simp [hm])
          · exact ih.done hkey hg.key.2 rfl rfl ⟨3, nextP x, x.key⟩ rfl rfl hnx (by simp [hm])
        · rw [if_neg hm]
          exact ih.done hkey hg.key.2 rfl rfl ⟨1, nextP x, x.key⟩ rfl rfl hnx (by simp; omega)
    · rw [if_neg e]; exact ih
  by_cases k5 : c.kind = 5
  · rw [inst_ask hl hn hc k5]
    by_cases e : d.quorum = 0 ∧ c.inst = id
    · rw [if_pos e]
      have ha := ask_ok hc k5
      obtain ⟨g1, g2, g3⟩ := grant_gone d (clockR l) (instanceR d l id) c.a (if c.a = 5 then c.b else 0) ((requestsR d l).length + 1) ha.1 ha.2.1
      exact ih.gone g1 g2 g3
    · rw [if_neg e]; exact ih
  by_cases k6 : c.kind = 6
  · obtain ⟨hlt, _⟩ := named hc (.inl k6)
    rw [inst_approve hl hn hc k6 id hlt]
    have hr := (hl.reqs hok).1 _ (List.getElem_mem hlt)
    by_cases e : (((requestsR d l)[(c.a - 1).toNat]).bys.length : Int) + 1 = d.quorum ∧ ((requestsR d l)[(c.a - 1).toNat]).inst = id
    · rw [if_pos e]
      obtain ⟨g1, g2, g3⟩ := grant_gone d (clockR l) (instanceR d l id) ((requestsR d l)[(c.a - 1).toNat]).what ((requestsR d l)[(c.a - 1).toNat]).target c.a hr.what.1 hr.what.2
      exact ih.gone g1 g2 g3
    · rw [if_neg e]; exact ih
  · rw [inst_else (by omega)]; exact ih

end Go.Proofs.Ytgcjlgaapiefiaa

/-
  Keys: what the PICKs of a script were answered is what the log's were: no PICK is lost (plain).
-/
namespace Go.Proofs.Ytgcjlgaapiefiaa

def pkOf (id : Int) (p : Cmd × Answer) : Option Answer := if p.1.kind = 2 ∧ p.1.dry = false ∧ p.1.inst = id ∧ p.2.code = 0 then some p.2 else none
/-- What the PICKs of an instance were answered, in a script. -/
def pk (s : List Cmd) (as : List Answer) (id : Int) : List Answer := (s.zip as).filterMap (pkOf id)
theorem pk_snoc (s : List Cmd) (as : List Answer) (hl : as.length = s.length) (c : Cmd) (a : Answer) (id : Int) : pk (s ++ [c]) (as ++ [a]) id = pk s as id ++ (if c.kind = 2 ∧ c.dry = false ∧ c.inst = id ∧ a.code = 0 then [a] else []) := by
  unfold pk
  rw [List.zip_append hl.symm, List.filterMap_append]
  congr 1
  by_cases h : c.kind = 2 ∧ c.dry = false ∧ c.inst = id ∧ a.code = 0
  · rw [if_pos h]
    have : pkOf id (c, a) = some a := by unfold pkOf; rw [if_pos h]
    simp [this]
  · rw [if_neg h]
    have : pkOf id (c, a) = none := by unfold pkOf; rw [if_neg h]
    simp [this]

structure TapeKey (d : Def) (s : List Cmd) (T : TapeR) : Prop where
  len : T.answers.length = s.length
  gives : ∀ id, giv d T.log id = pk s T.answers id
  safe : ∃ q, q ≤ T.log.length ∧ T.safe = bytesN (T.log.take q) ∧ ∀ i (hi : i < T.log.length), q ≤ i → T.log[i].kind ≠ 2

theorem TapeKey.step {d : Def} {s : List Cmd} {T : TapeR} (h : TapeKey d s T) (c : Cmd) : TapeKey d (s ++ [c]) (playStep d T c) := by
  obtain ⟨q, hq, eq, hno⟩ := h.safe
  have hans := play_ansK d T c
  have hlen : (playStep d T c).answers.length = (s ++ [c]).length := by rw [hans]; simp [h.len]
  have hpk : ∀ id, pk (s ++ [c]) (playStep d T c).answers id = pk s T.answers id ++ (if c.kind = 2 ∧ c.dry = false ∧ c.inst = id ∧ (ansK d T c).code = 0 then [ansK d T c] else []) := fun id => by
    rw [hans]; exact pk_snoc s T.answers h.len c _ id
  by_cases h8 : c.kind = 8
  · have e : (playStep d T c).log = T.log ∧ (playStep d T c).safe = bytesN T.log := by unfold playStep; rw [if_pos h8]; exact ⟨rfl, rfl⟩
    refine ⟨hlen, fun id => ?_, ?_⟩
    · rw [hpk, if_neg (by omega), List.append_nil, e.1]; exact h.gives id
    · rw [e.1, e.2]; exact ⟨T.log.length, Nat.le_refl _, by rw [List.take_length], fun i hi hqi => by omega⟩
  by_cases h9 : c.kind = 9
  · have hg : ∀ id, pk (s ++ [c]) (playStep d T c).answers id = giv d T.log id := fun id => by rw [hpk, if_neg (by omega), List.append_nil]; exact (h.gives id).symm
    by_cases ha : c.a < 0
    · have e : (playStep d T c).log = T.log ∧ (playStep d T c).safe = T.safe := by unfold playStep; rw [if_neg h8, if_pos ⟨h9, ha⟩]; exact ⟨rfl, rfl⟩
      refine ⟨hlen, fun id => by rw [hg, e.1], ?_⟩
      rw [e.1, e.2]; exact ⟨q, hq, eq, hno⟩
    · by_cases hcut : c.a < (bytesN T.log : Int) - T.safe
      · have e : (playStep d T c).log = cutR T.log (T.safe + c.a) ∧ (playStep d T c).safe = bytesN (cutR T.log (T.safe + c.a)) := by unfold playStep; rw [if_neg h8, if_neg (fun q => ha q.2), if_pos h9, if_pos hcut]; exact ⟨rfl, rfl⟩
        have hqp : q ≤ cutN T.log (T.safe + c.a) T.log.length := cutN_most _ _ _ (by omega) _ hq
        refine ⟨hlen, fun id => ?_, ?_⟩
        · rw [hg, e.1]
          have hle := cutN_le T.log (T.safe + c.a) T.log.length
          have h1 := giv_take d T.log id q hno _ hqp hle
          have h2 := giv_take d T.log id q hno T.log.length hq (Nat.le_refl _)
          rw [List.take_length] at h2
          show giv d (T.log.take (cutN T.log (T.safe + c.a) T.log.length)) id = _
          rw [h1, h2]
        · rw [e.1, e.2]
          exact ⟨_, Nat.le_refl _, by rw [List.take_length], fun i hi hqi => by omega⟩
      · have e : (playStep d T c).log = T.log ∧ (playStep d T c).safe = bytesN T.log := by unfold playStep; rw [if_neg h8, if_neg (fun q => ha q.2), if_pos h9, if_neg hcut]; exact ⟨rfl, rfl⟩
        refine ⟨hlen, fun id => by rw [hg, e.1], ?_⟩
        rw [e.1, e.2]; exact ⟨T.log.length, Nat.le_refl _, by rw [List.take_length], fun i hi hqi => by omega⟩
  have hA : ansK d T c = answerR d T.log c := by unfold ansK; rw [if_neg h8, if_neg (fun q => h9 q.1), if_neg h9]
  by_cases hac : (answerR d T.log c).code = 0 ∧ c.dry = false
  · have e : (playStep d T c).log = T.log ++ [c] ∧ (playStep d T c).safe = if c.kind = 2 then (bytesN T.log : Int) + (recordR c).size else T.safe := by unfold playStep; rw [if_neg h8, if_neg (fun q => h9 q.1), if_neg h9, if_pos hac]; exact ⟨rfl, rfl⟩
    refine ⟨hlen, fun id => ?_, ?_⟩
    · rw [hpk, e.1, giv_snoc, hA, h.gives id]
      by_cases k : c.kind = 2 ∧ c.inst = id
      · rw [if_pos k, if_pos ⟨k.1, hac.2, k.2, hac.1⟩]
      · rw [if_neg k, if_neg (fun q => k ⟨q.1, q.2.2.1⟩), List.append_nil]
    · rw [e.1, e.2]
      by_cases k : c.kind = 2
      · rw [if_pos k]
        refine ⟨T.log.length + 1, by simp, ?_, fun i hi hqi => by simp at hi; omega⟩
        rw [List.take_of_length_le (by simp), bytesN_snoc]; push_cast; rfl
      · rw [if_neg k]
        refine ⟨q, by simp; omega, by rw [List.take_append_of_le_length hq]; exact eq, fun i hi hqi => ?_⟩
        by_cases hil : i < T.log.length
        · rw [List.getElem_append_left hil]; exact hno i hil hqi
        · simp at hi
          rw [List.getElem_append_right (by omega)]
          simp [show i - T.log.length = 0 by omega]; exact k
  · have e : (playStep d T c).log = T.log ∧ (playStep d T c).safe = T.safe := by unfold playStep; rw [if_neg h8, if_neg (fun q => h9 q.1), if_neg h9, if_neg hac]; exact ⟨rfl, rfl⟩
    refine ⟨hlen, fun id => ?_, ?_⟩
    · rw [hpk, e.1, hA, if_neg (fun q => hac ⟨q.2.2.2, q.2.1⟩), List.append_nil]; exact h.gives id
    · rw [e.1, e.2]; exact ⟨q, hq, eq, hno⟩

theorem tape_key (d : Def) (s : List Cmd) : TapeKey d s (playR d s) := by
  have : ∀ k, k ≤ s.length → TapeKey d (s.take k) (playR d (s.take k)) := by
    intro k
    induction k with
    | zero => intro _; exact ⟨rfl, fun id => rfl, 0, Nat.le_refl _, rfl, fun i hi _ => by simp [playR] at hi⟩
    | succ k ih =>
      intro hk
      rw [playR_takeK d s k hk, List.take_succ_eq_append_getElem hk]
      exact (ih (by omega)).step _
  have h := this s.length (Nat.le_refl _)
  rwa [List.take_length] at h

/-- Is command k a PICK of the instance that was answered with OK? -/
def PickAt (s : List Cmd) (as : List Answer) (id : Int) (k : Nat) (a : Answer) : Prop := ∃ (h : k < s.length) (h' : k < as.length), s[k].kind = 2 ∧ s[k].dry = false ∧ s[k].inst = id ∧ as[k] = a ∧ a.code = 0
theorem pk_iff (s : List Cmd) (as : List Answer) (id : Int) (a : Answer) : a ∈ pk s as id ↔ ∃ k, PickAt s as id k a := by
  unfold pk
  rw [List.mem_filterMap]
  constructor
  · rintro ⟨⟨c, b⟩, hm, hp⟩
    obtain ⟨k, hk, he⟩ := List.getElem_of_mem hm
    rw [List.getElem_zip] at he
    simp at hk
    unfold pkOf at hp
    split at hp
    · rename_i hq
      simp only [Option.some.injEq] at hp
      injection he with e1 e2
      subst hp
      exact ⟨k, by omega, by omega, by rw [e1]; exact hq.1, by rw [e1]; exact hq.2.1, by rw [e1]; exact hq.2.2.1, e2, hq.2.2.2⟩
    · simp at hp
  · rintro ⟨k, h, h', h1, h2, h3, h4, h5⟩
    refine ⟨(s[k], as[k]), ?_, ?_⟩
    · have hz : k < (s.zip as).length := by simp; omega
      have := List.getElem_mem hz
      rwa [List.getElem_zip] at this
    · unfold pkOf
      rw [if_pos ⟨h1, h2, h3, by rw [h4]; exact h5⟩, h4]

/-- What Keyed asks of the world and of the answers. -/
structure KeyedW (s : List Cmd) (as : List Answer) (xs : List Inst) : Prop where
  gave : ∀ (k : Nat) (hk : k < xs.length) (q : Nat) (hq : q < xs[k].ledger.length), done13 xs[k].ledger[q] = true → ∃ j, PickAt s as xs[k].id j ⟨0, xs[k].ledger[q].ref, xs[k].ledger[q].step, if xs[k].ledger[q].kind = 3 then 2 else 1⟩
  most : ∀ (k : Nat) (hk : k < xs.length) (q : Nat) (hq : q < xs[k].ledger.length), done13 xs[k].ledger[q] = true → 1 ≤ xs[k].ledger[q].ref ∧ xs[k].ledger[q].ref ≤ xs[k].keys
  rise : ∀ (k : Nat) (hk : k < xs.length) (q q' : Nat) (hq : q < xs[k].ledger.length) (hq' : q' < xs[k].ledger.length), q' < q → done13 xs[k].ledger[q'] = true → done13 xs[k].ledger[q] = true → xs[k].ledger[q'].ref < xs[k].ledger[q].ref
  one : ∀ (i k : Nat) (a b : Answer) (id : Int), PickAt s as id i a → PickAt s as id k b → a.number = b.number → a.step = b.step ∧ a.what = b.what
theorem keyedW {d : Def} (hok : d.ok = true) (s : List Cmd) : KeyedW s (playR d s).answers (worldR d (playR d s).log).insts := by
  have hlo := play_logOk d s
  have ht := tape_key d s
  have hid : ∀ k (hk : k < (worldR d (playR d s).log).insts.length), ∃ id, (worldR d (playR d s).log).insts[k] = instanceR d (playR d s).log id := fun k hk => ⟨_, by simp [worldR]; rfl⟩
  refine ⟨?_, ?_, ?_, ?_⟩
  · intro k hk q hq hd
    obtain ⟨id, e⟩ := hid k hk
    have hi := hlo.keyed hok id
    rw [← e] at hi
    have := hi.led _ (List.getElem_mem hq) hd
    rw [ht.gives, pk_iff] at this
    have he : (worldR d (playR d s).log).insts[k].id = id := by rw [e, instanceR_id]
    rw [he]
    exact this
  · intro k hk q hq hd
    obtain ⟨id, e⟩ := hid k hk
    have hi := hlo.keyed hok id
    rw [← e] at hi
    have := hi.most _ (List.getElem_mem hq) hd
    exact ⟨this.1, this.2.1⟩
  · intro k hk q q' hq hq' hlt h1 h2
    obtain ⟨id, e⟩ := hid k hk
    have hi := hlo.keyed hok id
    rw [← e] at hi
    exact List.pairwise_iff_getElem.1 hi.rise q' q hq' hq hlt h1 h2
  · intro i k a b id ha hb hn
    have hi := hlo.keyed hok id
    have h1 : a ∈ giv d (playR d s).log id := by rw [ht.gives, pk_iff]; exact ⟨i, ha⟩
    have h2 : b ∈ giv d (playR d s).log id := by rw [ht.gives, pk_iff]; exact ⟨k, hb⟩
    exact hi.one a h1 b h2 hn

end Go.Proofs.Ytgcjlgaapiefiaa

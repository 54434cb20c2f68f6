import Derived.Test.YtgcjlgaapiefiaaQKpA

/-
  What was assumed or waived was asked for and approved (plain).
-/
namespace Go.Proofs.Ytgcjlgaapiefiaa

/-- What one fact puts into the ledger. -/
def entOf (x : Inst) (f : Fact) : List Entry :=
  if f.kind = 1 then []
  else if f.kind = 2 then [⟨if x.mode = 1 then 1 else 3, atR x, x.key⟩]
  else if f.kind = 3 then []
  else if f.what = 2 then [⟨2, atR x, f.ref⟩]
  else if f.what = 3 then [⟨4, atR x, f.ref⟩]
  else []
theorem entOf_len (x : Inst) (f : Fact) : (entOf x f).length ≤ 1 := by
  unfold entOf
  repeat' split
  all_goals simp
theorem afterR_ledger (d : Def) (x : Inst) (f : Fact) : (afterR d x f).ledger = x.ledger ++ entOf x f := by
  unfold afterR entOf
  by_cases k1 : f.kind = 1
  · rw [if_pos k1, if_pos k1]; unfold pickedR; split <;> simp
  rw [if_neg k1, if_neg k1]
  by_cases k2 : f.kind = 2
  · rw [if_pos k2, if_pos k2]
    by_cases m : x.mode = 1
    · rw [if_pos m, if_pos m, enteredR_ledger]
    · rw [if_neg m, if_neg m, enteredR_ledger]
  rw [if_neg k2, if_neg k2]
  by_cases k3 : f.kind = 3
  · rw [if_pos k3, if_pos k3]; unfold wrongR; split
    · simp
    split
    · simp [backwardR]
    · simp
  rw [if_neg k3, if_neg k3]
  unfold doneR
  by_cases w1 : f.what = 1
  · rw [if_pos w1, if_neg (by omega), if_neg (by omega)]; simp
  rw [if_neg w1]
  by_cases w2 : f.what = 2
  · rw [if_pos w2, if_pos w2, enteredR_ledger]
  rw [if_neg w2, if_neg w2]
  by_cases w3 : f.what = 3
  · rw [if_pos w3, if_pos w3, enteredR_ledger]
  rw [if_neg w3, if_neg w3]
  split <;> simp [backwardR]

/-- The ledger behind one command more. -/
theorem ledger_snoc (d : Def) (l : List Cmd) (c : Cmd) (id : Int) : (factOf d (l ++ [c]) id l.length c = [] ∧ (instanceR d (l ++ [c]) id).ledger = (instanceR d l id).ledger) ∨ ∃ f, factOf d (l ++ [c]) id l.length c = [f] ∧ (instanceR d (l ++ [c]) id).ledger = (instanceR d l id).ledger ++ entOf (instanceR d l id) f := by
  have hl := factOf_len d (l ++ [c]) id l.length c
  cases e : factOf d (l ++ [c]) id l.length c with
  | nil => exact .inl ⟨rfl, by rw [instanceR_none e]⟩
  | cons f t =>
    cases t with
    | nil =>
      refine .inr ⟨f, rfl, ?_⟩
      rw [instanceR_one e]
      show (afterR d (instFold d id (factsR d l id)) f).ledger = _
      rw [afterR_ledger]; rfl
    | cons g t => rw [e] at hl; simp at hl

/-- A request behind one command more. -/
theorem req_next {d : Def} {l : List Cmd} {c : Cmd} (hc : (answerR d l c).code = 0) (j : Nat) (hj : j < (requestsR d l).length) :
    ∃ hj' : j < (requestsR d (l ++ [c])).length, (requestsR d (l ++ [c]))[j].inst = (requestsR d l)[j].inst ∧ (requestsR d (l ++ [c]))[j].what = (requestsR d l)[j].what ∧ ((requestsR d l)[j].closed = true → (requestsR d (l ++ [c]))[j] = (requestsR d l)[j]) := by
  by_cases k5 : c.kind = 5
  · have e := reqs_ask (d := d) (l := l) k5
    refine ⟨by rw [e]; simp; omega, ?_⟩
    have e2 : (requestsR d (l ++ [c]))[j]'(by rw [e]; simp; omega) = (requestsR d l)[j] := by
      simp only [e]; rw [List.getElem_append_left hj]
    rw [e2]; exact ⟨rfl, rfl, fun _ => rfl⟩
  by_cases k67 : c.kind = 6 ∨ c.kind = 7
  · obtain ⟨hlt, ha1, _, hnum, hopen, _⟩ := named hc k67
    have e := reqs_named (d := d) (l := l) (c := c) k67 ha1 hlt
    refine ⟨by rw [e]; simpa using hj, ?_⟩
    by_cases ej : (c.a - 1).toNat = j
    · subst ej
      have e2 : (requestsR d (l ++ [c]))[(c.a - 1).toNat]'(by rw [e]; simpa using hj) = reqNext d c (requestsR d l)[(c.a - 1).toNat] := by
        simp only [e]; rw [List.getElem_set_self]
      rw [e2, hopen]
      rcases k67 with k | k
      · rw [reqNext_approve d c _ hnum.symm k]; exact ⟨rfl, rfl, fun q => by simp at q⟩
      · rw [reqNext_withdraw d c _ hnum.symm k]; exact ⟨rfl, rfl, fun q => by simp at q⟩
    · have e2 : (requestsR d (l ++ [c]))[j]'(by rw [e]; simpa using hj) = (requestsR d l)[j] := by
        simp only [e]; rw [List.getElem_set_ne ej]
      rw [e2]; exact ⟨rfl, rfl, fun _ => rfl⟩
  · have e := reqs_same (d := d) (l := l) (c := c) k5 (by omega) (by omega)
    have e2 : (requestsR d (l ++ [c]))[j]'(by rw [e]; exact hj) = (requestsR d l)[j] := by simp only [e]
    refine ⟨by rw [e]; exact hj, ?_⟩
    rw [e2]; exact ⟨rfl, rfl, fun _ => rfl⟩

/-- An entry is backed by a request. -/
def Bkd (d : Def) (rs : List Req) (id : Int) (e : Entry) : Prop :=
  1 ≤ e.ref ∧ ∃ h : (e.ref - 1).toNat < rs.length, rs[(e.ref - 1).toNat].inst = id ∧ rs[(e.ref - 1).toNat].what = (if e.kind = 4 then 3 else 2) ∧ rs[(e.ref - 1).toNat].closed = true ∧ (rs[(e.ref - 1).toNat].bys.length : Int) = d.quorum
def asked (e : Entry) : Bool := e.kind == 2 || e.kind == 4
structure BackOk (d : Def) (l : List Cmd) : Prop where
  req : ∀ r ∈ requestsR d l, 1 ≤ r.reason.size ∧ r.bys.Nodup ∧ r.who ∉ r.bys
  led : ∀ id, ∀ e ∈ (instanceR d l id).ledger, asked e = true → Bkd d (requestsR d l) id e
  own : ∀ id, (((instanceR d l id).ledger.filter asked).map (·.ref)).Nodup

theorem Bkd.next {d : Def} {l : List Cmd} {c : Cmd} (hc : (answerR d l c).code = 0) {id : Int} {e : Entry} (h : Bkd d (requestsR d l) id e) : Bkd d (requestsR d (l ++ [c])) id e := by
  obtain ⟨h1, hlt, a, b, cl, q⟩ := h
  obtain ⟨hj, _, _, same⟩ := req_next hc _ hlt
  exact ⟨h1, hj, by rw [same cl]; exact a, by rw [same cl]; exact b, by rw [same cl]; exact cl, by rw [same cl]; exact q⟩

theorem approve_free {d : Def} {l : List Cmd} {c : Cmd} (hc : (answerR d l c).code = 0) (hk : c.kind = 6) (hlt : (c.a - 1).toNat < (requestsR d l).length) : c.who ≠ (requestsR d l)[(c.a - 1).toNat].who ∧ c.who ∉ (requestsR d l)[(c.a - 1).toNat].bys := by
  obtain ⟨h0, ho⟩ := decided_ok hc (.inl hk)
  unfold decidedR at h0
  rw [if_neg (by rw [ho]; decide), if_neg (by omega)] at h0
  have e : (requestsR d l).getD (c.a - 1).toNat default = (requestsR d l)[(c.a - 1).toNat] := by simp only [List.getD, List.getElem?_eq_getElem hlt, Option.getD_some]
  rw [e] at h0
  generalize (requestsR d l)[(c.a - 1).toNat] = r at *
  by_cases t : c.who < 0 ∨ 9 < c.who ∨ c.who = r.who ∨ r.bys.any (· == c.who) = true
  · rw [if_pos t] at h0; simp at h0
  · exact ⟨fun q => t (.inr (.inr (.inl q))), fun q => t (.inr (.inr (.inr ((any_mem _ _).2 q))))⟩

/-- The fact that a command is to an instance puts an asked entry only where a request was open or is new. -/
theorem fact_asked {d : Def} {l : List Cmd} {c : Cmd} (hc : (answerR d l c).code = 0) (id : Int) (f : Fact) (hf : factOf d (l ++ [c]) id l.length c = [f]) (x : Inst) (e : Entry) (he : e ∈ entOf x f) (ha : asked e = true) :
    Bkd d (requestsR d (l ++ [c])) id e ∧ ∀ e' : Entry, Bkd d (requestsR d l) id e' → e'.ref ≠ e.ref := by
  have hs := factOf_snoc d l c id
  rw [hf] at hs
  have hsm : asked ⟨if x.mode = 1 then 1 else 3, atR x, x.key⟩ = false := by unfold asked; split <;> rfl
  by_cases c2 : c.kind = 2 ∧ c.inst = id
  · rw [if_pos c2] at hs; simp at hs; subst hs; simp [entOf] at he
  rw [if_neg c2] at hs
  by_cases c3 : c.kind = 3 ∧ c.inst = id ∧ c.b = 1
  · rw [if_pos c3] at hs; simp at hs; subst hs
    simp [entOf] at he
    rw [he, hsm] at ha; simp at ha
  rw [if_neg c3] at hs
  by_cases c3' : c.kind = 3 ∧ c.inst = id
  · rw [if_pos c3'] at hs; simp at hs; subst hs; simp [entOf] at he
  rw [if_neg c3'] at hs
  have hent : ∀ (w t : Int) (n : Int), e ∈ entOf x ⟨4, clockR l, w, t, n⟩ → e.ref = n ∧ w = (if e.kind = 4 then 3 else 2) := by
    intro w t n he
    unfold entOf at he
    simp only [show ¬ (4 : Int) = 1 by omega, show ¬ (4 : Int) = 2 by omega, show ¬ (4 : Int) = 3 by omega, if_false] at he
    by_cases w2 : w = 2
    · rw [if_pos w2] at he; simp at he; subst he; exact ⟨rfl, by simp [w2]⟩
    rw [if_neg w2] at he
    by_cases w3 : w = 3
    · rw [if_pos w3] at he; simp at he; subst he; exact ⟨rfl, by simp [w3]⟩
    · rw [if_neg w3] at he; simp at he
  by_cases c5 : c.kind = 5
  · rw [if_pos (.inl c5), carried_ask d l c id c5] at hs
    by_cases q : d.quorum = 0 ∧ c.inst = id
    · rw [if_pos q] at hs; simp at hs; subst hs
      obtain ⟨e1, e2⟩ := hent _ _ _ he
      have er := reqs_ask (d := d) (l := l) c5
      have hj : (e.ref - 1).toNat = (requestsR d l).length := by omega
      refine ⟨⟨by omega, by rw [er]; simp; omega, ?_⟩, ?_⟩
      · have eg : (requestsR d (l ++ [c]))[(e.ref - 1).toNat]'(by rw [er]; simp; omega) = reqBase d l c ((requestsR d l).length + 1) := by
          simp only [er]; rw [List.getElem_append_right (by omega)]; simp [hj]
        rw [eg]
        exact ⟨q.2, e2, decide_eq_true q.1, q.1.symm⟩
      · rintro e' ⟨p1, p2, _⟩ q2
        omega
    · rw [if_neg q] at hs; simp at hs
  by_cases c6 : c.kind = 6
  · obtain ⟨hlt, ha1, _, hnum, hopen, _⟩ := named hc (.inl c6)
    rw [if_pos (.inr c6), carried_approve id hc c6 hlt] at hs
    by_cases q : (((requestsR d l)[(c.a - 1).toNat]).bys.length : Int) + 1 = d.quorum ∧ ((requestsR d l)[(c.a - 1).toNat]).inst = id
    · rw [if_pos q] at hs; simp only [if_true, List.cons.injEq, and_true] at hs; subst hs
      obtain ⟨e1, e2⟩ := hent _ _ _ he
      have er := reqs_named (d := d) (l := l) (c := c) (.inl c6) ha1 hlt
      refine ⟨⟨by omega, by rw [er, e1]; simpa using hlt, ?_⟩, ?_⟩
      · have eg : (requestsR d (l ++ [c]))[(e.ref - 1).toNat]'(by rw [er, e1]; simpa using hlt) = reqNext d c (requestsR d l)[(c.a - 1).toNat] := by
          simp only [er, e1]; rw [List.getElem_set_self]
        rw [eg, reqNext_approve d c _ hnum.symm c6]
        exact ⟨q.2, e2, decide_eq_true (by simpa using q.1), by simpa using q.1⟩
      · rintro e' ⟨p1, p2, _, _, p3, _⟩ q2
        have : (e'.ref - 1).toNat = (c.a - 1).toNat := by omega
        simp only [this] at p3
        rw [hopen] at p3; simp at p3
    · rw [if_neg q] at hs; simp at hs
  · rw [if_neg (by omega)] at hs; simp at hs

theorem LogOk.backed {d : Def} {l : List Cmd} (h : LogOk d l) : BackOk d l := by
  refine LogOk.ind (P := BackOk d) ⟨by simp [requestsR, requestsTo], fun id e he => by simp [instanceR, instFold, factsR, factsTo, startR] at he, fun id => by simp [instanceR, instFold, factsR, factsTo, startR]⟩ ?_ l h
  intro l c hl hc ih
  refine ⟨?_, ?_, ?_⟩
  · intro r hr
    by_cases k5 : c.kind = 5
    · rw [reqs_ask k5] at hr
      rcases List.mem_append.1 hr with hr | hr
      · exact ih.req r hr
      · simp at hr; subst hr
        exact ⟨(ask_room hc k5).2.2.2.1, by simp [reqBase], by simp [reqBase]⟩
    by_cases k67 : c.kind = 6 ∨ c.kind = 7
    · obtain ⟨hlt, ha1, _, hnum, hopen, _⟩ := named hc k67
      rw [reqs_named k67 ha1 hlt] at hr
      rcases List.mem_or_eq_of_mem_set hr with hr | rfl
      · exact ih.req r hr
      · obtain ⟨i1, i2, i3⟩ := ih.req _ (List.getElem_mem hlt)
        rcases k67 with k | k
        · obtain ⟨f1, f2⟩ := approve_free hc k hlt
          rw [reqNext_approve d c _ hnum.symm k]
          refine ⟨i1, ?_, ?_⟩
          · simp only
            rw [List.nodup_append]
            exact ⟨i2, by simp, fun a ha b hb => by simp at hb; subst hb; exact fun q => f2 (q ▸ ha)⟩
          · simp only
            intro q
            rcases List.mem_append.1 q with q | q
            · exact i3 q
            · exact f1 (List.mem_singleton.1 q).symm
        · rw [reqNext_withdraw d c _ hnum.symm k]; exact ⟨i1, i2, i3⟩
    · rw [reqs_same k5 (by omega) (by omega)] at hr; exact ih.req r hr
  · intro id e he ha
    rcases ledger_snoc d l c id with ⟨_, e1⟩ | ⟨f, hf, e1⟩
    · rw [e1] at he; exact (ih.led id e he ha).next hc
    · rw [e1] at he
      rcases List.mem_append.1 he with he | he
      · exact (ih.led id e he ha).next hc
      · exact (fact_asked hc id f hf _ e he ha).1
  · intro id
    rcases ledger_snoc d l c id with ⟨_, e1⟩ | ⟨f, hf, e1⟩
    · rw [e1]; exact ih.own id
    · rw [e1, List.filter_append, List.map_append, List.nodup_append]
      refine ⟨ih.own id, ?_, ?_⟩
      · have := entOf_len (instanceR d l id) f
        have h2 := List.length_filter_le asked (entOf (instanceR d l id) f)
        match hm : (entOf (instanceR d l id) f).filter asked, h2 with
        | [], _ => simp
        | [e], _ => simp
        | e :: g :: t, h2 => simp at h2; omega
      · intro a ha b hb
        obtain ⟨e', he', rfl⟩ := List.mem_map.1 ha
        obtain ⟨e, he, rfl⟩ := List.mem_map.1 hb
        obtain ⟨m1, m2⟩ := List.mem_filter.1 he
        obtain ⟨m3, m4⟩ := List.mem_filter.1 he'
        exact (fact_asked hc id f hf _ e m1 m2).2 e' (ih.led id e' m3 m4)

end Go.Proofs.Ytgcjlgaapiefiaa

/-
  What Backed asks of a world (plain).
-/
namespace Go.Proofs.Ytgcjlgaapiefiaa

def ReqFor (d : Def) (rs : List Req) (id : Int) (e : Entry) (j : Nat) : Prop :=
  ∃ hj : j < rs.length, e.ref = (j : Int) + 1 ∧ rs[j].inst = id ∧ rs[j].what = (if e.kind = 4 then 3 else 2) ∧ rs[j].number = (j : Int) + 1 ∧ rs[j].closed = true ∧ 1 ≤ rs[j].reason.size ∧ (rs[j].bys.length : Int) = d.quorum ∧ rs[j].who ∉ rs[j].bys ∧ rs[j].bys.Nodup
def UsedP (xs : List Inst) (k q n : Nat) : Prop := ∃ (k' q' : Nat) (hk' : k' < xs.length) (hq' : q' < xs[k'].ledger.length), (k' < k ∨ (k' = k ∧ q' < q)) ∧ asked xs[k'].ledger[q'] = true ∧ xs[k'].ledger[q'].ref = (n : Int)
structure BackW (d : Def) (xs : List Inst) (rs : List Req) : Prop where
  kinds : ∀ (k : Nat) (hk : k < xs.length) (q : Nat) (hq : q < xs[k].ledger.length), 1 ≤ xs[k].ledger[q].kind ∧ xs[k].ledger[q].kind ≤ 4
  each : ∀ (k : Nat) (hk : k < xs.length) (q : Nat) (hq : q < xs[k].ledger.length), asked xs[k].ledger[q] = true → ∃ j, ReqFor d rs xs[k].id xs[k].ledger[q] j
  own : ∀ (k : Nat) (hk : k < xs.length) (q : Nat) (hq : q < xs[k].ledger.length) (n : Nat), asked xs[k].ledger[q] = true → xs[k].ledger[q].ref = (n : Int) → ¬ UsedP xs k q n
  few : rs.length ≤ 40

theorem worldR_backW {d : Def} {l : List Cmd} (hok : d.ok = true) (h : LogOk d l) : BackW d (worldR d l).insts (worldR d l).reqs := by
  have hB := h.backed
  have hI := worldR_instsOk hok h
  have hid : ∀ k (hk : k < (worldR d l).insts.length), ∃ id, (worldR d l).insts[k] = instanceR d l id := fun k hk => ⟨_, by simp [worldR]; rfl⟩
  have heach : ∀ (k : Nat) (hk : k < (worldR d l).insts.length) (q : Nat) (hq : q < (worldR d l).insts[k].ledger.length), asked (worldR d l).insts[k].ledger[q] = true → ∃ j, ReqFor d (worldR d l).reqs (worldR d l).insts[k].id (worldR d l).insts[k].ledger[q] j := by
    intro k hk q hq ha
    obtain ⟨id, e⟩ := hid k hk
    have hm : (worldR d l).insts[k].ledger[q] ∈ (instanceR d l id).ledger := by rw [← e]; exact List.getElem_mem hq
    have hk' : (worldR d l).insts[k].id = id := by rw [e, instanceR_id]
    generalize (worldR d l).insts[k].ledger[q] = en at *
    rw [hk']
    obtain ⟨h1, hlt, a, b, c, f⟩ := hB.led id en hm ha
    obtain ⟨r1, r2, r3⟩ := hB.req _ (List.getElem_mem hlt)
    have hn := requestsR_number d l _ hlt
    refine ⟨(en.ref - 1).toNat, hlt, by omega, a, b, hn, c, r1, f, r3, r2⟩
  refine ⟨?_, heach, ?_, (h.reqs hok).2⟩
  · intro k hk q hq
    have := (hI.each k hk).1.led q hq
    unfold EntOk at this
    omega
  · rintro k hk q hq n ha hr ⟨k', q', hk', hq', hlt, ha', hr'⟩
    rcases hlt with hlt | ⟨rfl, hlt⟩
    · obtain ⟨j, hj, e1, e2, _⟩ := heach k hk q hq ha
      obtain ⟨j', hj', e1', e2', _⟩ := heach k' hk' q' hq' ha'
      have : j = j' := by omega
      subst this
      have hne := hI.ids k k' hk hk' hlt
      rw [← e2, ← e2'] at hne
      simp at hne
    · obtain ⟨id, e⟩ := hid k' hk
      have ho := hB.own id
      rw [← e] at ho
      unfold List.Nodup at ho
      rw [List.pairwise_map, List.pairwise_filter] at ho
      have := List.pairwise_iff_getElem.1 ho q' q hq' hq hlt ha' ha
      omega

/-- The marks of the requests that were used. -/
def UsedOk (xs : List Inst) (m k q : Nat) (cs : Array Value) : Prop := cs.size = m + 1 ∧ ∀ n, n < m + 1 → ∃ b, cs[n]? = some (.bool b) ∧ (b = true → UsedP xs k q n)
theorem UsedOk.mono {xs : List Inst} {m k q k2 q2 : Nat} {cs : Array Value} (h : UsedOk xs m k q cs) (hm : ∀ k' q', (k' < k ∨ (k' = k ∧ q' < q)) → (∃ h : k' < xs.length, q' < xs[k'].ledger.length) → (k' < k2 ∨ (k' = k2 ∧ q' < q2))) : UsedOk xs m k2 q2 cs := by
  refine ⟨h.1, fun n hn => ?_⟩
  obtain ⟨b, e, hb⟩ := h.2 n hn
  refine ⟨b, e, fun ht => ?_⟩
  obtain ⟨k', q', hk', hq', hl, h2⟩ := hb ht
  exact ⟨k', q', hk', hq', hm k' q' hl ⟨hk', hq'⟩, h2⟩
theorem UsedOk.mark {xs : List Inst} {m k q : Nat} {cs : Array Value} (h : UsedOk xs m k q cs) (hk : k < xs.length) (hq : q < xs[k].ledger.length) (n : Nat) (ha : asked xs[k].ledger[q] = true) (hr : xs[k].ledger[q].ref = (n : Int)) : UsedOk xs m k (q + 1) (cs.setIfInBounds n (.bool true)) := by
  refine ⟨by rw [Array.size_setIfInBounds]; exact h.1, fun i hi => ?_⟩
  by_cases e : n = i
  · subst e
    exact ⟨true, by rw [Array.getElem?_setIfInBounds_self_of_lt (by rw [h.1]; exact hi)], fun _ => ⟨k, q, hk, hq, .inr ⟨rfl, by omega⟩, ha, hr⟩⟩
  · obtain ⟨b, e1, hb⟩ := h.2 i hi
    refine ⟨b, by rw [Array.getElem?_setIfInBounds_ne e]; exact e1, fun ht => ?_⟩
    obtain ⟨k', q', hk', hq', hl, h2⟩ := hb ht
    exact ⟨k', q', hk', hq', by omega, h2⟩
theorem UsedOk.free {d : Def} {xs : List Inst} {rs : List Req} (hW : BackW d xs rs) {k q : Nat} {cs : Array Value} {m : Nat} (h : UsedOk xs m k q cs) (hk : k < xs.length) (hq : q < xs[k].ledger.length) (n : Nat) (hn : n < m + 1) (ha : asked xs[k].ledger[q] = true) (hr : xs[k].ledger[q].ref = (n : Int)) : cs[n]? = some (.bool false) := by
  obtain ⟨b, e, hb⟩ := h.2 n hn
  cases b
  · exact e
  · exact absurd (hb rfl) (hW.own k hk q hq n ha hr)

end Go.Proofs.Ytgcjlgaapiefiaa

import Derived.Test.YtahfdglbbdacjaaQRun
import Derived.Test.YtahfdglbbdacjaaQPrwN
import Derived.Test.YtahfdglbbdacjaaQChk
import Derived.JoinedCond

/-
  The statements Answers and Worlds, of scripts without SYNC and CRASH; Plain, Steady: walked.
-/
namespace Go.Proofs.Ytahfdglbbdacjaa
open Go.RowKit Go.Sort

theorem play_steady {d : Def} (s : List Cmd) (hs : NoJournal s) : ∀ k, k ≤ s.length → (playR d (s.take k)).log = logOf d (s.take k) ∧ (playR d (s.take k)).answers = answersOf d (s.take k) := by
  intro k
  induction k with
  | zero => intro _; exact ⟨rfl, rfl⟩
  | succ k ih =>
    intro hk
    obtain ⟨h1, h2⟩ := ih (by omega)
    have e : playR d (s.take (k + 1)) = playStep d (playR d (s.take k)) s[k] := foldl_take_succ _ _ _ _ (by omega)
    have e2 : logOf d (s.take (k + 1)) = logStep d (logOf d (s.take k)) s[k] := foldl_take_succ _ _ _ _ (by omega)
    obtain ⟨n8, n9⟩ := hs s[k] (List.getElem_mem (by omega))
    obtain ⟨q1, q2⟩ := playStep_log (d := d) (t := playR d (s.take k)) (c := s[k]) n8 n9
    rw [e, q1, q2, h1, h2, e2, answersOf_take d s k (by omega)]
    exact ⟨rfl, rfl⟩
theorem play_all {d : Def} {s : List Cmd} (hs : NoJournal s) : (playR d s).log = logOf d s ∧ (playR d s).answers = answersOf d s := by
  have := play_steady (d := d) s hs s.length (Nat.le_refl _)
  rwa [List.take_length] at this

theorem nil_answers (w : World) : Answers w (.slice none 0 0) [] := ⟨none, 0, rfl, Nat.le_refl _, Nat.zero_le _, by simp, .inl rfl⟩
theorem nil_insts (w : World) : InstsAt w (.slice none 0 0) [] := ⟨[], rfl, ⟨none, 0, rfl, Nat.le_refl _, Nat.zero_le _, by simp [instVals], .inl rfl⟩, by simp⟩
theorem nil_reqs (w : World) : ReqsAt w (.slice none 0 0) [] := ⟨[], rfl, ⟨none, 0, rfl, Nat.le_refl _, Nat.zero_le _, by simp [reqVals], .inl rfl⟩, by simp⟩

set_option maxRecDepth 100000 in
set_option maxHeartbeats 2000000 in
theorem answers_walk (dv sv : Value) (d : Def) (s : List Cmd) (hpl : PlayedIs s) (w : World) (hd : DefIs w dv d) (h : Cmds w sv s) (hl : s.length ≤ 4194304) (hcr : ∀ c ∈ s, c.reason.size ≤ 9223372036854775807) (hs : NoJournal s) :
    Calls Try.prog 6 #[dv, sv] w fun e w' => e = .returned (.bool true) ∧ Quiet w w' := by
  have hq0 : ∀ (w : World) o, Quiet w (w.alloc o) := fun w o => (Below.refl _ _).alloc (Nat.le_refl _) _
  have hd0 := hd
  obtain ⟨da, dn, dcap, rfl, hst⟩ := hd
  clear hst
  go_enter Try.func6, Try.ntmps6
  go_wp2_with fail
  refine calls_gen (fun V => Blk V w.heap.size #[.slice da dn dcap, .int .i64 d.quorum, .int .i64 d.expiry] 24 ∧ Quiet w V) ⟨Blk.new' rfl, hq0 _ _⟩ ?_
  rintro V ⟨bd, hqV⟩
  refine (run_any _ sv d s V (hd0.quiet hqV) (h.quiet hqV) hl hcr).mono ?_
  rintro e w1 ⟨hq1, hc1⟩
  replace bd := bd.quiet hq1
  replace hqV1 : Quiet w w1 := hqV.after hq1
  have gd := bd.cell
  obtain ⟨hp1, hp2⟩ := play_all (d := d) hs
  rcases hc1 with ⟨hok, rfl⟩ | ⟨hok, aa, ac, rfl, hown⟩
  · go_wp2_with fail
    refine (refRun_any _ sv d s hpl w1 (hd0.quiet hqV1) (h.quiet hqV1) hl hcr).mono ?_
    rintro e w2 ⟨hq2, hc2⟩
    rcases hc2 with ⟨_, rfl⟩ | ⟨hok2, _⟩
    · go_wp2_with fail
      refine (sameAnswers_eq _ _ [] w2 (nil_answers _) (nil_answers _)).mono ?_
      rintro e w3 ⟨rfl, hq3⟩
      go_wp2_with (go_at_call 15; refine (num_any _ _).mono ?_; rintro e w4 ⟨rfl, hw⟩; rw [hw]; clear hw w4)
      go_ret
      exact ⟨ret_bool (by simp), (hqV1.after hq2).after hq3⟩
    · rw [hok] at hok2; simp at hok2
  · have HRR : Hid (∀ U, Quiet w U → Calls Try.prog 19 #[.agg #[.slice da dn dcap, .int .i64 d.quorum, .int .i64 d.expiry], sv] U fun e w' => Quiet U w' ∧ ∃ aa k ac, e = .returned (.tuple #[.slice aa k ac, .int .i64 0]) ∧ Answers w' (.slice aa k ac) (answersOf d s)) := fun U hU =>
      (refRun_any _ sv d s hpl U (hd0.quiet hU) (h.quiet hU) hl hcr).mono (by
        rintro e w2 ⟨hq2, hc2⟩
        rcases hc2 with ⟨hok2, _⟩ | ⟨_, aa2, k2, ac2, rfl, hown2, hk2⟩
        · rw [hok] at hok2; simp at hok2
        · rw [hp2] at hown2 hk2
          exact ⟨hq2, aa2, k2, ac2, rfl, own_answers hown2 hk2⟩)
    have hA0 : Answers w1 (.slice aa s.length ac) (answersOf d s) := own_answers hown (answersOf_len d s).symm
    clear hown hp1 hp2 hcr hs
    generalize s.length = n0 at *
    generalize answersOf d s = an at *
    go_wp2_with fail
    refine (HRR.out w1 hqV1).mono ?_
    rintro e w2 ⟨hq2, aa2, k2, ac2, rfl, hA2⟩
    · have hA1 : Answers w2 (.slice aa n0 ac) an := Arr.quiet hA0 hq2
      clear hA0
      go_wp2_with fail
      refine (sameAnswers_eq _ _ an w2 hA1 hA2).mono ?_
      rintro e w3 ⟨rfl, hq3⟩
      go_wp2_with (go_at_call 15; refine (num_any _ _).mono ?_; rintro e w4 ⟨rfl, hw⟩; rw [hw]; clear hw w4)
      go_ret
      exact ⟨ret_bool (by simp), (hqV1.after hq2).after hq3⟩

end Go.Proofs.Ytahfdglbbdacjaa

/-
  The statement Worlds, of scripts without SYNC and CRASH: walked.
-/
namespace Go.Proofs.Ytahfdglbbdacjaa
open Go.RowKit Go.Sort

set_option maxRecDepth 100000 in
set_option maxHeartbeats 2000000 in
theorem worlds_walk (dv sv : Value) (d : Def) (s : List Cmd) (hpl : PlayedIs s) (w : World) (hd : DefIs w dv d) (h : Cmds w sv s) (hl : s.length ≤ 4194304) (hcr : ∀ c ∈ s, c.reason.size ≤ 9223372036854775807) (hs : NoJournal s) :
    Calls Try.prog 7 #[dv, sv] w fun e w' => e = .returned (.bool true) ∧ Quiet w w' := by
  have hq0 : ∀ (w : World) o, Quiet w (w.alloc o) := fun w o => (Below.refl _ _).alloc (Nat.le_refl _) _
  have hd0 := hd
  obtain ⟨da, dn, dcap, rfl, hst⟩ := hd
  clear hst
  go_enter Try.func7, Try.ntmps7
  go_wp2_with fail
  refine calls_gen (fun V => Blk V w.heap.size #[.slice da dn dcap, .int .i64 d.quorum, .int .i64 d.expiry] 24 ∧ Quiet w V) ⟨Blk.new' rfl, hq0 _ _⟩ ?_
  rintro V ⟨bd, hqV⟩
  refine (state_any _ sv d s V (hd0.quiet hqV) (h.quiet hqV) hl hcr).mono ?_
  rintro e w1 ⟨hq1, hc1⟩
  replace bd := bd.quiet hq1
  have hqV1 : Quiet w w1 := hqV.after hq1
  have gd := bd.cell
  have zd := bd.lt
  obtain ⟨hp1, hp2⟩ := play_all (d := d) hs
  have main : ∀ (ck : Int) (ia : Option Addr) (n ic : Nat) (ra : Option Addr) (m rc : Nat) (xs : List Inst) (rs : List Req) (code : Int), True := fun _ _ _ _ _ _ _ _ _ _ => trivial
  clear main
  rcases hc1 with ⟨hok, rfl⟩ | ⟨hok, ia, n, ic, ra, m, rc, rfl, hI, hR⟩
  · go_wp2_with fail
    refine calls_gen (fun U => Blk U w1.heap.size #[.int .i64 0, .slice none 0 0, .slice none 0 0] 39 ∧ Quiet w1 U) ⟨Blk.new' rfl, hq0 _ _⟩ ?_
    rintro U ⟨bw, hqU⟩
    refine (refState_any _ sv d s hpl U (hd0.quiet (hqV1.after hqU)) (h.quiet (hqV1.after hqU)) hl hcr).mono ?_
    rintro e w2 ⟨hq2, hc2⟩
    replace bw := bw.quiet hq2
    have gw := bw.cell
    have zw := bw.lt
    rcases hc2 with ⟨_, rfl⟩ | ⟨hok2, _⟩
    · go_wp2_with fail
      refine calls_gen (fun U3 => Quiet w2 U3) (hq0 _ _) ?_
      intro U3 hq3
      refine (sameWorlds_eq 0 _ _ _ _ [] [] U3 (nil_insts _) (nil_insts _) (nil_reqs _) (nil_reqs _)).mono ?_
      rintro e w3 ⟨rfl, hq4⟩
      go_wp2_with (go_at_call 15; refine (num_any _ _).mono ?_; rintro e w4 ⟨rfl, hw⟩; rw [hw]; clear hw w4)
      go_ret
      exact ⟨ret_bool (by simp), (((hqV1.after hqU).after hq2).after hq3).after hq4⟩
    · rw [hok] at hok2; simp at hok2
  · go_wp2_with fail
    refine calls_gen (fun U => Blk U w1.heap.size #[.int .i64 (worldR d (logOf d s)).clock, .slice ia n ic, .slice ra m rc] 39 ∧ Quiet w1 U) ⟨Blk.new' rfl, hq0 _ _⟩ ?_
    rintro U ⟨bw, hqU⟩
    refine (refState_any _ sv d s hpl U (hd0.quiet (hqV1.after hqU)) (h.quiet (hqV1.after hqU)) hl hcr).mono ?_
    rintro e w2 ⟨hq2, hc2⟩
    replace bw := bw.quiet hq2
    have gw := bw.cell
    have zw := bw.lt
    rcases hc2 with ⟨hok2, _⟩ | ⟨_, ia2, n2, ic2, ra2, m2, rc2, rfl, hI2, hR2⟩
    · rw [hok] at hok2; simp at hok2
    · rw [hp1] at hI2 hR2 ⊢
      replace hI := (hI.quiet hqU).quiet hq2
      replace hR := (hR.quiet hqU).quiet hq2
      generalize worldR d (logOf d s) = WW at *
      obtain ⟨ck, xs, rs⟩ := WW
      go_wp2_with fail
      refine calls_gen (fun U3 => Quiet w2 U3) (hq0 _ _) ?_
      intro U3 hq3
      refine (sameWorlds_eq ck _ _ _ _ xs rs U3 (hI.quiet hq3) (hI2.quiet hq3) (hR.quiet hq3) (hR2.quiet hq3)).mono ?_
      rintro e w3 ⟨rfl, hq4⟩
      go_wp2_with (go_at_call 15; refine (num_any _ _).mono ?_; rintro e w4 ⟨rfl, hw⟩; rw [hw]; clear hw w4)
      go_ret
      exact ⟨ret_bool (by simp), (((hqV1.after hqU).after hq2).after hq3).after hq4⟩

end Go.Proofs.Ytahfdglbbdacjaa

/-
  The statements Plain and Steady: walked.
-/
namespace Go.Proofs.Ytahfdglbbdacjaa
open Go.RowKit Go.Sort

def steadyStep (l : List Cmd) (c : Cmd) : List Cmd := if c.kind ≠ 8 ∧ c.kind ≠ 9 then l ++ [c] else l
def steadyR (l : List Cmd) : List Cmd := l.foldl steadyStep []
theorem steadyR_len (l : List Cmd) : (steadyR l).length ≤ l.length := by
  unfold steadyR
  suffices h : ∀ z : List Cmd, (l.foldl steadyStep z).length ≤ z.length + l.length by have := h []; simpa using this
  induction l with
  | nil => intro z; simp
  | cons c l ih =>
    intro z
    have := ih (steadyStep z c)
    have h2 : (steadyStep z c).length ≤ z.length + 1 := by unfold steadyStep; split <;> simp
    simp only [List.foldl_cons, List.length_cons]
    omega
theorem steadyR_mem (l : List Cmd) : ∀ c ∈ steadyR l, (c.kind ≠ 8 ∧ c.kind ≠ 9) ∧ ∃ c' ∈ l, c.reason = c'.reason := by
  unfold steadyR
  suffices h : ∀ (p : List Cmd) (z : List Cmd), (∀ c ∈ z, (c.kind ≠ 8 ∧ c.kind ≠ 9) ∧ ∃ c' ∈ p, c.reason = c'.reason) → (∀ c ∈ l, c ∈ p) → ∀ c ∈ l.foldl steadyStep z, (c.kind ≠ 8 ∧ c.kind ≠ 9) ∧ ∃ c' ∈ p, c.reason = c'.reason from h l [] (by simp) (fun c hc => hc)
  intro p
  induction l with
  | nil => intro z hz _; exact hz
  | cons c l ih =>
    intro z hz hp
    refine ih (steadyStep z c) ?_ (fun x hx => hp x (List.mem_cons_of_mem _ hx))
    intro x hx
    unfold steadyStep at hx
    split at hx
    · rename_i e
      rcases List.mem_append.1 hx with hx | hx
      · exact hz x hx
      · simp at hx; subst hx; exact ⟨e, x, hp x (List.mem_cons_self ..), rfl⟩
    · exact hz x hx
theorem plainR_mem (l : List Cmd) : ∀ c ∈ plainR l, (c.kind ≠ 8 ∧ c.kind ≠ 9) ∧ ∃ c' ∈ l, c.reason = c'.reason := by
  unfold plainR
  suffices h : ∀ (p : List Cmd) (z : List Cmd), (∀ c ∈ z, (c.kind ≠ 8 ∧ c.kind ≠ 9) ∧ ∃ c' ∈ p, c.reason = c'.reason) → (∀ c ∈ l, c ∈ p) → ∀ c ∈ l.foldl plainStep z, (c.kind ≠ 8 ∧ c.kind ≠ 9) ∧ ∃ c' ∈ p, c.reason = c'.reason from h l [] (by simp) (fun c hc => hc)
  intro p
  induction l with
  | nil => intro z hz _; exact hz
  | cons c l ih =>
    intro z hz hp
    refine ih (plainStep z c) ?_ (fun x hx => hp x (List.mem_cons_of_mem _ hx))
    intro x hx
    unfold plainStep at hx
    split at hx
    · rename_i e
      rcases List.mem_append.1 hx with hx | hx
      · exact hz x hx
      · simp at hx; subst hx
        refine ⟨⟨?_, ?_⟩, c, hp c (List.mem_cons_self ..), rfl⟩
        · show c.kind ≠ 8; omega
        · show c.kind ≠ 9; omega
    · exact hz x hx

set_option maxRecDepth 100000 in
set_option maxHeartbeats 1000000 in
theorem steady_any (v : Value) (l : List Cmd) (w : World) (h : Cmds w v l) (hl : l.length ≤ 1099511627776) :
    Calls Try.prog 17 #[v] w fun e w' => ∃ a n cap, e = .returned (.slice a n cap) ∧ w'.ownsRow w.heap.size 55 7 (.slice a n cap) n (cmdVals (steadyR l)) ∧ n = (steadyR l).length ∧ Quiet w w' := by
  obtain ⟨i0, hi, hz0, hz1, hz2⟩ := info_parts Try.info55
  obtain ⟨a, n, cap, rfl⟩ := h.1.shape
  obtain ⟨hn, hm⟩ := h.len
  have hn40 : n ≤ 1099511627776 := by omega
  have HN : Hid (n = l.length) := hn
  clear hn
  go_enter Try.func17, Try.ntmps17
  go_wp2
  go_loopw [3, 4] (fun v i wr => ∃ (k : Nat) (a' : Option Addr) (n' cap' : Nat), k ≤ n ∧ i = .int .i64 k ∧ v = .slice a' n' cap' ∧ Hid (n' = (steadyR (l.take k)).length) ∧ wr.ownsRow w.heap.size 55 7 (.slice a' n' cap') n' (cmdVals (steadyR (l.take k))) ∧ Quiet w wr) (fun _ i _ => n - (intOf i).toNat)
  case atStart => exact ⟨0, none, 0, 0, Nat.zero_le _, rfl, rfl, rfl, World.ownsRow_nil _ _ _ _, Below.refl _ _⟩
  case round =>
    obtain ⟨k, a', n', cap', hk, rfl, rfl, HL, hrow, hqr⟩ := hrel
    by_cases hlt : k < n
    · have hkl : k < l.length := by have := HN.out; omega
      obtain ⟨b, off, rfl, hb, c0, c1, c2, c3, c4, c5, c6⟩ := (h.quiet hqr).cell k hkl
      have hpl := steadyR_len (l.take k)
      have hn' : n' ≤ 1099511627776 := by have := HL.out; simp at hpl; omega
      clear hpl
      have HS : Hid (steadyR (l.take (k + 1)) = steadyStep (steadyR (l.take k)) l[k]) := foldl_take_succ _ _ _ _ hkl
      generalize l[k] = c at *
      cases u1 : c.kind != 8
      · have HS' : Hid (steadyR (l.take (k + 1)) = steadyR (l.take k)) := by
          show steadyR (l.take (k + 1)) = _
          simp at u1
          rw [HS.out, steadyStep, if_neg (fun h => h.1 u1)]
        clear HS
        go_wp2
        go_roundw
        case rel => exact ⟨k + 1, a', n', cap', by omega, by go_num, rfl, by rw [HS'.out]; exact HL, by rw [HS'.out]; exact hrow, hqr⟩
        case measure => simp [intOf]; omega
      cases u2 : c.kind != 9
      · have HS' : Hid (steadyR (l.take (k + 1)) = steadyR (l.take k)) := by
          show steadyR (l.take (k + 1)) = _
          simp at u2
          rw [HS.out, steadyStep, if_neg (fun h => h.2 u2)]
        clear HS
        go_wp2
        go_roundw
        case rel => exact ⟨k + 1, a', n', cap', by omega, by go_num, rfl, by rw [HS'.out]; exact HL, by rw [HS'.out]; exact hrow, hqr⟩
        case measure => simp [intOf]; omega
      · have HS' : Hid (steadyR (l.take (k + 1)) = steadyR (l.take k) ++ [c]) := by
          show steadyR (l.take (k + 1)) = _
          simp at u1 u2
          rw [HS.out, steadyStep, if_pos ⟨u1, u2⟩]
        clear HS
        go_wp2_with (at_builtin; refine wpList_append_own _ rfl _ _ 29 rfl w.heap.size 55 i0 (.agg #[.int .i64 0, .int .i64 0, .int .i64 0, .int .i64 0, .int .i64 0, .string ⟨#[]⟩, .bool false]) 7 64 Try.underlying29 hi hz0 hz1 hz2 rfl (by decide) _ _ _ rfl (hrow.alloc _) ⟨wr.heap.size, 0, none⟩ 1 1 c.cells rfl rfl ?c1 ?c2 ?c3 ?c4 ?c5 ?_)
        case c1 =>
          have := World.news_of_block (heap_alloc_new wr (.cells #[.int .i64 c.kind, .int .i64 c.inst, .int .i64 c.a, .int .i64 c.b, .int .i64 c.who, .string c.reason, .bool c.dry] 55))
          simpa [Cmd.cells] using this
        case c2 => intro u hu; simp [Cmd.cells] at hu; rcases hu with rfl | rfl | rfl | rfl | rfl | rfl | rfl <;> rfl
        case c3 => unfold maxLen; omega
        case c4 => omega
        case c5 => have := hqr.size; simp; omega
        intro v' w2 hown2 hgrow _
        obtain ⟨a2, cap2, rfl⟩ := own_shape hown2
        have hq2 : Quiet w w2 := Below.grown (hqr.alloc hqr.size _) hgrow (by have := hqr.size; simp; omega) (fun k hk => (own_ge hrow k hk).1)
        clear hgrow hrow hqr c0 c1 c2 c3 c4 c5 c6 hb
        go_wp2
        go_roundw
        case rel => exact ⟨k + 1, a2, n' + 1, cap2, by omega, by go_num, rfl, by rw [HS'.out]; have := HL.out; show n' + 1 = _; simp; omega, by rw [HS'.out]; have e : cmdVals (steadyR (l.take k) ++ [c]) = cmdVals (steadyR (l.take k)) ++ c.cells := by { unfold cmdVals; simp }; rw [e]; exact hown2, hq2⟩
        case measure => simp [intOf]; omega
    · have hkn : l.take k = l := by have := HN.out; rw [List.take_of_length_le (by omega)]
      rw [hkn] at hrow HL
      go_wp2
      go_ret
      exact ⟨a', n', cap', rfl, hrow, HL.out, hqr⟩


set_option maxRecDepth 100000 in
set_option maxHeartbeats 2000000 in
theorem steady_walk (hpl : ∀ s, NoJournal s → PlayedIs s) (dv sv : Value) (d : Def) (s : List Cmd) (w : World) (hd : DefIs w dv d) (h : Cmds w sv s) (hl : s.length ≤ 4194304) (hcr : ∀ c ∈ s, c.reason.size ≤ 9223372036854775807) :
    Calls Try.prog 5 #[dv, sv] w fun e w' => e = .returned (.bool true) ∧ Quiet w w' := by
  have hq0 : ∀ (w : World) o, Quiet w (w.alloc o) := fun w o => (Below.refl _ _).alloc (Nat.le_refl _) _
  have hd0 := hd
  obtain ⟨da, dn, dcap, rfl, hst⟩ := hd
  clear hst
  have hlen := steadyR_len s
  have hmem := steadyR_mem s
  have HA : Hid (∀ U (a : Option Addr) (n cap : Nat), Quiet w U → Cmds U (.slice a n cap) (steadyR s) → Calls Try.prog 6 #[.agg #[.slice da dn dcap, .int .i64 d.quorum, .int .i64 d.expiry], .slice a n cap] U fun e w' => e = .returned (.bool true) ∧ Quiet U w') := fun U a n cap hU hC =>
    answers_walk _ _ d (steadyR s) (hpl _ (fun c hc => (hmem c hc).1)) U (hd0.quiet hU) hC (by omega) (fun c hc => by obtain ⟨_, c', hc', e⟩ := hmem c hc; rw [e]; exact hcr c' hc') (fun c hc => (hmem c hc).1)
  have HB : Hid (∀ U (a : Option Addr) (n cap : Nat), Quiet w U → Cmds U (.slice a n cap) (steadyR s) → Calls Try.prog 7 #[.agg #[.slice da dn dcap, .int .i64 d.quorum, .int .i64 d.expiry], .slice a n cap] U fun e w' => e = .returned (.bool true) ∧ Quiet U w') := fun U a n cap hU hC =>
    worlds_walk _ _ d (steadyR s) (hpl _ (fun c hc => (hmem c hc).1)) U (hd0.quiet hU) hC (by omega) (fun c hc => by obtain ⟨_, c', hc', e⟩ := hmem c hc; rw [e]; exact hcr c' hc') (fun c hc => (hmem c hc).1)
  have HL : Hid ((steadyR s).length ≤ 4194304) := by show (steadyR s).length ≤ _; omega
  clear hmem hlen hcr
  go_enter Try.func5, Try.ntmps5
  go_wp2_with fail
  refine calls_gen (fun V => Blk V w.heap.size #[.slice da dn dcap, .int .i64 d.quorum, .int .i64 d.expiry] 24 ∧ Quiet w V) ⟨Blk.new' rfl, hq0 _ _⟩ ?_
  rintro V ⟨bd, hqV⟩
  refine (steady_any _ s V (h.quiet hqV) (by omega)).mono ?_
  rintro e w1 ⟨a, n, cap, rfl, hown, hn, hq1⟩
  have hC : Cmds w1 (.slice a n cap) (steadyR s) := own_cmds hown hn (by have := HL.out; omega)
  replace bd := bd.quiet hq1
  replace hqV : Quiet w w1 := hqV.after hq1
  clear hown hn hq1
  have gd := bd.cell
  go_wp2_with fail
  refine (HA.out w1 a n cap hqV hC).mono ?_
  rintro e w2 ⟨rfl, hq2⟩
  replace bd := bd.quiet hq2
  clear gd
  have gd := bd.cell
  go_wp2_with fail
  refine (HB.out w2 a n cap (hqV.after hq2) (hC.quiet hq2)).mono ?_
  rintro e w3 ⟨rfl, hq3⟩
  go_wp2
  go_ret
  exact ⟨ret_bool (by simp), (hqV.after hq2).after hq3⟩

set_option maxRecDepth 100000 in
set_option maxHeartbeats 2000000 in
theorem plain_walk (hpl : ∀ s, NoJournal s → PlayedIs s) (dv sv : Value) (d : Def) (s : List Cmd) (w : World) (hd : DefIs w dv d) (h : Cmds w sv s) (hl : s.length ≤ 4194304) (hcr : ∀ c ∈ s, c.reason.size ≤ 9223372036854775807) :
    Calls Try.prog 4 #[dv, sv] w fun e w' => e = .returned (.bool true) ∧ Quiet w w' := by
  have hq0 : ∀ (w : World) o, Quiet w (w.alloc o) := fun w o => (Below.refl _ _).alloc (Nat.le_refl _) _
  have hd0 := hd
  obtain ⟨da, dn, dcap, rfl, hst⟩ := hd
  clear hst
  have hlen := plainR_len s
  have hmem := plainR_mem s
  have HA : Hid (∀ U (a : Option Addr) (n cap : Nat), Quiet w U → Cmds U (.slice a n cap) (plainR s) → Calls Try.prog 6 #[.agg #[.slice da dn dcap, .int .i64 d.quorum, .int .i64 d.expiry], .slice a n cap] U fun e w' => e = .returned (.bool true) ∧ Quiet U w') := fun U a n cap hU hC =>
    answers_walk _ _ d (plainR s) (hpl _ (fun c hc => (hmem c hc).1)) U (hd0.quiet hU) hC (by omega) (fun c hc => by obtain ⟨_, c', hc', e⟩ := hmem c hc; rw [e]; exact hcr c' hc') (fun c hc => (hmem c hc).1)
  have HB : Hid (∀ U (a : Option Addr) (n cap : Nat), Quiet w U → Cmds U (.slice a n cap) (plainR s) → Calls Try.prog 7 #[.agg #[.slice da dn dcap, .int .i64 d.quorum, .int .i64 d.expiry], .slice a n cap] U fun e w' => e = .returned (.bool true) ∧ Quiet U w') := fun U a n cap hU hC =>
    worlds_walk _ _ d (plainR s) (hpl _ (fun c hc => (hmem c hc).1)) U (hd0.quiet hU) hC (by omega) (fun c hc => by obtain ⟨_, c', hc', e⟩ := hmem c hc; rw [e]; exact hcr c' hc') (fun c hc => (hmem c hc).1)
  have HL : Hid ((plainR s).length ≤ 4194304) := by show (plainR s).length ≤ _; omega
  clear hmem hlen hcr
  go_enter Try.func4, Try.ntmps4
  go_wp2_with fail
  refine calls_gen (fun V => Blk V w.heap.size #[.slice da dn dcap, .int .i64 d.quorum, .int .i64 d.expiry] 24 ∧ Quiet w V) ⟨Blk.new' rfl, hq0 _ _⟩ ?_
  rintro V ⟨bd, hqV⟩
  refine (plain_any _ s V (h.quiet hqV) (by omega)).mono ?_
  rintro e w1 ⟨a, n, cap, rfl, hown, hn, hq1⟩
  have hC : Cmds w1 (.slice a n cap) (plainR s) := own_cmds hown hn (by have := HL.out; omega)
  replace bd := bd.quiet hq1
  replace hqV : Quiet w w1 := hqV.after hq1
  clear hown hn hq1
  have gd := bd.cell
  go_wp2_with fail
  refine (HA.out w1 a n cap hqV hC).mono ?_
  rintro e w2 ⟨rfl, hq2⟩
  replace bd := bd.quiet hq2
  clear gd
  have gd := bd.cell
  go_wp2_with fail
  refine (HB.out w2 a n cap (hqV.after hq2) (hC.quiet hq2)).mono ?_
  rintro e w3 ⟨rfl, hq3⟩
  go_wp2
  go_ret
  exact ⟨ret_bool (by simp), (hqV.after hq2).after hq3⟩

end Go.Proofs.Ytahfdglbbdacjaa

/-
  A script that comes in, opened.
-/
namespace Go.Proofs.Ytahfdglbbdacjaa
open Go.ChangeShapes Go.WideShapes Go.ChangeAt Go.RowKit Go.Deep

section
variable {H : Type} {enc : TypeId × Value → H} {w : World} {base : Nat} {spare : Nat → Bool} {held : Bool}

set_option maxRecDepth 100000 in
theorem cmds_open {r : Reach} {b0 : Nat} {v : Value} {d : DataW H} {p : List MemPlace} (hv : Value.okWide Try.prog w r b0 29 v) (h : DataW.Trod enc Try.prog w base spare held 29 v d p) (hb : Rows.uptoBulk d ≤ 1048576) :
    ∃ l : List Cmd, Cmds w v l ∧ l.length ≤ 1048576 ∧ ∀ c ∈ l, c.reason.size ≤ 9223372036854775807 := by
  obtain ⟨va, vn, vc, rfl⟩ := okWide_slice Try.underlying29 hv
  obtain ⟨fuel, hf⟩ := h
  obtain ⟨xs, harr, ⟨n, hrow⟩, hx⟩ := trod_rows Try.underlying29 Try.underlying55 (by kernel_rfl) (by kernel_rfl) (by decide) hf
  obtain ⟨l, rfl, hl⟩ := list_of (g := Cmd.cells) (p := fun c : Cmd => c.reason.size ≤ 9223372036854775807) (xs := xs) (fun cs hcs => by
    have hr := hrow cs hcs
    have hlen : cs.length = 7 := by obtain ⟨_, _, _, _, _, h4, _⟩ := harr; exact h4 cs hcs
    obtain ⟨v0, y0, g0, t0⟩ := hr 0 _ rfl
    obtain ⟨v1, y1, g1, t1⟩ := hr 1 _ rfl
    obtain ⟨v2, y2, g2, t2⟩ := hr 2 _ rfl
    obtain ⟨v3, y3, g3, t3⟩ := hr 3 _ rfl
    obtain ⟨v4, y4, g4, t4⟩ := hr 4 _ rfl
    obtain ⟨v5, y5, g5, t5⟩ := hr 5 _ rfl
    obtain ⟨v6, y6, g6, t6⟩ := hr 6 _ rfl
    obtain ⟨k, e0, _⟩ := DataW.trod_int Try.underlying3 t0
    obtain ⟨i, e1, _⟩ := DataW.trod_int Try.underlying3 t1
    obtain ⟨a, e2, _⟩ := DataW.trod_int Try.underlying3 t2
    obtain ⟨b, e3, _⟩ := DataW.trod_int Try.underlying3 t3
    obtain ⟨o, e4, _⟩ := DataW.trod_int Try.underlying3 t4
    obtain ⟨s, e5, _, hs⟩ := DataW.trod_string Try.underlying9 t5
    obtain ⟨q, e6, _⟩ := DataW.trod_bool Try.underlying4 t6
    simp only [List.cons.injEq, and_true] at e0 e1 e2 e3 e4 e5 e6
    subst e0 e1 e2 e3 e4 e5 e6
    refine ⟨⟨k, i, a, b, o, s, q⟩, ?_, ?_⟩
    · match cs, hlen with
      | [c0, c1, c2, c3, c4, c5, c6], _ => simp at g0 g1 g2 g3 g4 g5 g6; subst g0 g1 g2 g3 g4 g5 g6; rfl
    · exact Nat.le_trans hs (by unfold maxLen; omega))
  have hlen : l.length ≤ 1048576 := by
    rcases hx with ⟨_, hx⟩ | ⟨el, sp, hx, he⟩
    · have : l.length = 0 := by have := congrArg List.length hx; simpa using this
      omega
    · simp only at hx
      rw [hx] at hb
      have h1 : ∀ es : List (DataW H), es.length ≤ Rows.uptoBulkAll es := by
        intro es
        induction es with
        | nil => simp
        | cons e es ih =>
          have h0 : 1 ≤ Rows.uptoBulk e := by
            cases e with
            | lit l => cases l <;> simp [Rows.uptoBulk]
            | nil => simp [Rows.uptoBulk]
            | ptr d => simp [Rows.uptoBulk]
            | slice elems spare => simp [Rows.uptoBulk]
            | agg parts => simp [Rows.uptoBulk]
            | iface t d => simp [Rows.uptoBulk]
            | map entries => simp [Rows.uptoBulk]
            | held h => simp [Rows.uptoBulk]
          simp only [Rows.uptoBulkAll, List.length_cons]; omega
      have h2 := h1 el
      simp only [Rows.uptoBulk] at hb
      simp at he
      omega
  exact ⟨l, ⟨harr, by omega⟩, hlen, hl⟩
end

end Go.Proofs.Ytahfdglbbdacjaa

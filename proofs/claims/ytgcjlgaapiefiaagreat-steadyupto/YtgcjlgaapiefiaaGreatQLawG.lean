import Derived.Test.YtgcjlgaapiefiaaGreatQSamA
import Derived.Test.YtgcjlgaapiefiaaGreatQLawW
import Derived.Test.YtgcjlgaapiefiaaGreatQPlyM

/-
  Walks of the statements: plain.
-/
namespace Go.Proofs.YtgcjlgaapiefiaaGreat
open Go.RowKit

set_option maxRecDepth 100000 in
set_option maxHeartbeats 1000000 in
theorem plain_any (v : Value) (l : List Cmd) (w : World) (h : Cmds w v l) (hl : l.length ≤ 1099511627776) :
    Calls Tryz.prog 5 #[v] w fun e w' => ∃ a n cap, e = .returned (.slice a n cap) ∧ w'.ownsRow w.heap.size 29 7 (.slice a n cap) n (cmdVals (plainR l)) ∧ n = (plainR l).length ∧ Quiet w w' := by
  obtain ⟨i0, hi, hz0, hz1, hz2⟩ := info_parts Tryz.info29
  obtain ⟨a, n, cap, rfl⟩ := h.1.shape
  obtain ⟨hn, hm⟩ := h.len
  have hn40 : n ≤ 1099511627776 := by omega
  have HN : Hid (n = l.length) := hn
  clear hn
  go_enter Tryz.func5, Tryz.ntmps5
  go_wp2
  go_loopw [3, 4] (fun v i wr => ∃ (k : Nat) (a' : Option Addr) (n' cap' : Nat), k ≤ n ∧ i = .int .i64 k ∧ v = .slice a' n' cap' ∧ Hid (n' = (plainR (l.take k)).length) ∧ wr.ownsRow w.heap.size 29 7 (.slice a' n' cap') n' (cmdVals (plainR (l.take k))) ∧ Quiet w wr) (fun _ i _ => n - (intOf i).toNat)
  case atStart => exact ⟨0, none, 0, 0, Nat.zero_le _, rfl, rfl, rfl, World.ownsRow_nil _ _ _ _, Below.refl _ _⟩
  case round =>
    obtain ⟨k, a', n', cap', hk, rfl, rfl, HL, hrow, hqr⟩ := hrel
    by_cases hlt : k < n
    · have hkl : k < l.length := by have := HN.out; omega
      obtain ⟨b, off, rfl, hb, c0, c1, c2, c3, c4, c5, c6⟩ := (h.quiet hqr).cell k hkl
      have hpl := plainR_len (l.take k)
      have hn' : n' ≤ 1099511627776 := by have := HL.out; simp at hpl; omega
      clear hpl
      have HS : Hid (plainR (l.take (k + 1)) = plainStep (plainR (l.take k)) l[k]) := foldl_take_succ _ _ _ _ hkl
      generalize l[k] = c at *
      by_cases u1 : 1 ≤ c.kind
      · by_cases u2 : c.kind ≤ 4
        · have HS' : Hid (plainR (l.take (k + 1)) = plainR (l.take k) ++ [{ c with dry := false }]) := by
            show plainR (l.take (k + 1)) = _
            rw [HS.out, plainStep, if_pos ⟨u1, u2⟩]
          clear HS
          go_wp2_with (at_builtin; refine wpList_append_own _ rfl _ _ 25 rfl w.heap.size 29 i0 (.agg #[.int .i64 0, .int .i64 0, .int .i64 0, .int .i64 0, .int .i64 0, .string ⟨#[]⟩, .bool false]) 7 64 Tryz.underlying25 hi hz0 hz1 hz2 rfl (by decide) _ _ _ rfl ((hrow.alloc _).alloc _) ⟨wr.heap.size + 1, 0, none⟩ 1 1 [.int .i64 c.kind, .int .i64 c.inst, .int .i64 c.a, .int .i64 c.b, .int .i64 c.who, .string c.reason, .bool false] rfl rfl ?c1 ?c2 ?c3 ?c4 ?c5 ?_)
          case c1 =>
            have := World.news_of_block (heap_alloc_new (wr.alloc (.cells #[.int .i64 c.kind, .int .i64 c.inst, .int .i64 c.a, .int .i64 c.b, .int .i64 c.who, .string c.reason, .bool false] 29)) (.cells #[.int .i64 c.kind, .int .i64 c.inst, .int .i64 c.a, .int .i64 c.b, .int .i64 c.who, .string c.reason, .bool false] 29))
            simpa using this
          case c2 => intro u hu; simp at hu; rcases hu with rfl | rfl | rfl | rfl | rfl | rfl | rfl <;> rfl
          case c3 => unfold maxLen; omega
          case c4 => omega
          case c5 => have := hqr.size; simp; omega
          intro v' w2 hown2 hgrow _
          obtain ⟨a2, cap2, rfl⟩ := own_shape hown2
          have hq2 : Quiet w w2 := Below.grown ((hqr.alloc hqr.size _).alloc (by have := hqr.size; simp; omega) _) hgrow (by have := hqr.size; simp; omega) (fun k hk => (own_ge hrow k hk).1)
          clear hgrow hrow hqr c0 c1 c2 c3 c4 c5 c6 hb
          go_wp2
          go_roundw
          case rel => exact ⟨k + 1, a2, n' + 1, cap2, by omega, by go_num, rfl, by rw [HS'.out]; have := HL.out; show n' + 1 = _; simp; omega, by rw [HS'.out]; simpa [cmdVals, Cmd.cells] using hown2, hq2⟩
          case measure => simp [intOf]; omega
        · have HS' : Hid (plainR (l.take (k + 1)) = plainR (l.take k)) := by
            show plainR (l.take (k + 1)) = _
            rw [HS.out, plainStep, if_neg (fun h => u2 h.2)]
          clear HS
          go_wp2
          go_roundw
          case rel => exact ⟨k + 1, a', n', cap', by omega, by go_num, rfl, by rw [HS'.out]; exact HL, by rw [HS'.out]; exact hrow.alloc _, hqr.alloc hqr.size _⟩
          case measure => simp [intOf]; omega
      · have HS' : Hid (plainR (l.take (k + 1)) = plainR (l.take k)) := by
          show plainR (l.take (k + 1)) = _
          rw [HS.out, plainStep, if_neg (fun h => u1 h.1)]
        clear HS
        have u1' : decide (1 ≤ c.kind) = false := by simpa using u1
        go_wp2
        go_roundw
        case rel => exact ⟨k + 1, a', n', cap', by omega, by go_num, rfl, by rw [HS'.out]; exact HL, by rw [HS'.out]; exact hrow.alloc _, hqr.alloc hqr.size _⟩
        case measure => simp [intOf]; omega
    · have hkn : l.take k = l := by have := HN.out; rw [List.take_of_length_le (by omega)]
      rw [hkn] at hrow HL
      go_wp2
      go_ret
      exact ⟨a', n', cap', rfl, hrow, HL.out, hqr⟩

end Go.Proofs.YtgcjlgaapiefiaaGreat

/-
  The statements Plain and Steady: walked.
-/
namespace Go.Proofs.YtgcjlgaapiefiaaGreat
open Go.RowKit Go.Sort

def steadyStep (l : List Cmd) (c : Cmd) : List Cmd := if c.kind ≠ 8 ∧ c.kind ≠ 9 then l ++ [c] else l
def steadyR (l : List Cmd) : List Cmd := l.foldl steadyStep []
theorem steadyR_len (l : List Cmd) : (steadyR l).length ≤ l.length := by
  unfold steadyR
  suffices h : ∀ z : List Cmd, (l.foldl steadyStep z).length ≤ z.length + l.length by have := h []; simpa using this
  induction l with
  | nil => intro z; simp
  | cons c l ih =>
    intro z
    have := ih (steadyStep z c)
    have h2 : (steadyStep z c).length ≤ z.length + 1 := by unfold steadyStep; split <;> simp
    simp only [List.foldl_cons, List.length_cons]
    omega
theorem steadyR_mem (l : List Cmd) : ∀ c ∈ steadyR l, (c.kind ≠ 8 ∧ c.kind ≠ 9) ∧ ∃ c' ∈ l, c.reason = c'.reason := by
  unfold steadyR
  suffices h : ∀ (p : List Cmd) (z : List Cmd), (∀ c ∈ z, (c.kind ≠ 8 ∧ c.kind ≠ 9) ∧ ∃ c' ∈ p, c.reason = c'.reason) → (∀ c ∈ l, c ∈ p) → ∀ c ∈ l.foldl steadyStep z, (c.kind ≠ 8 ∧ c.kind ≠ 9) ∧ ∃ c' ∈ p, c.reason = c'.reason from h l [] (by simp) (fun c hc => hc)
  intro p
  induction l with
  | nil => intro z hz _; exact hz
  | cons c l ih =>
    intro z hz hp
    refine ih (steadyStep z c) ?_ (fun x hx => hp x (List.mem_cons_of_mem _ hx))
    intro x hx
    unfold steadyStep at hx
    split at hx
    · rename_i e
      rcases List.mem_append.1 hx with hx | hx
      · exact hz x hx
      · simp at hx; subst hx; exact ⟨e, x, hp x (List.mem_cons_self ..), rfl⟩
    · exact hz x hx
theorem plainR_mem (l : List Cmd) : ∀ c ∈ plainR l, (c.kind ≠ 8 ∧ c.kind ≠ 9) ∧ ∃ c' ∈ l, c.reason = c'.reason := by
  unfold plainR
  suffices h : ∀ (p : List Cmd) (z : List Cmd), (∀ c ∈ z, (c.kind ≠ 8 ∧ c.kind ≠ 9) ∧ ∃ c' ∈ p, c.reason = c'.reason) → (∀ c ∈ l, c ∈ p) → ∀ c ∈ l.foldl plainStep z, (c.kind ≠ 8 ∧ c.kind ≠ 9) ∧ ∃ c' ∈ p, c.reason = c'.reason from h l [] (by simp) (fun c hc => hc)
  intro p
  induction l with
  | nil => intro z hz _; exact hz
  | cons c l ih =>
    intro z hz hp
    refine ih (plainStep z c) ?_ (fun x hx => hp x (List.mem_cons_of_mem _ hx))
    intro x hx
    unfold plainStep at hx
    split at hx
    · rename_i e
      rcases List.mem_append.1 hx with hx | hx
      · exact hz x hx
      · simp at hx; subst hx
        refine ⟨⟨?_, ?_⟩, c, hp c (List.mem_cons_self ..), rfl⟩
        · show c.kind ≠ 8; omega
        · show c.kind ≠ 9; omega
    · exact hz x hx

set_option maxRecDepth 100000 in
set_option maxHeartbeats 1000000 in
theorem steady_any (v : Value) (l : List Cmd) (w : World) (h : Cmds w v l) (hl : l.length ≤ 1099511627776) :
    Calls Tryz.prog 8 #[v] w fun e w' => ∃ a n cap, e = .returned (.slice a n cap) ∧ w'.ownsRow w.heap.size 29 7 (.slice a n cap) n (cmdVals (steadyR l)) ∧ n = (steadyR l).length ∧ Quiet w w' := by
  obtain ⟨i0, hi, hz0, hz1, hz2⟩ := info_parts Tryz.info29
  obtain ⟨a, n, cap, rfl⟩ := h.1.shape
  obtain ⟨hn, hm⟩ := h.len
  have hn40 : n ≤ 1099511627776 := by omega
  have HN : Hid (n = l.length) := hn
  clear hn
  go_enter Tryz.func8, Tryz.ntmps8
  go_wp2
  go_loopw [3, 4] (fun v i wr => ∃ (k : Nat) (a' : Option Addr) (n' cap' : Nat), k ≤ n ∧ i = .int .i64 k ∧ v = .slice a' n' cap' ∧ Hid (n' = (steadyR (l.take k)).length) ∧ wr.ownsRow w.heap.size 29 7 (.slice a' n' cap') n' (cmdVals (steadyR (l.take k))) ∧ Quiet w wr) (fun _ i _ => n - (intOf i).toNat)
  case atStart => exact ⟨0, none, 0, 0, Nat.zero_le _, rfl, rfl, rfl, World.ownsRow_nil _ _ _ _, Below.refl _ _⟩
  case round =>
    obtain ⟨k, a', n', cap', hk, rfl, rfl, HL, hrow, hqr⟩ := hrel
    by_cases hlt : k < n
    · have hkl : k < l.length := by have := HN.out; omega
      obtain ⟨b, off, rfl, hb, c0, c1, c2, c3, c4, c5, c6⟩ := (h.quiet hqr).cell k hkl
      have hpl := steadyR_len (l.take k)
      have hn' : n' ≤ 1099511627776 := by have := HL.out; simp at hpl; omega
      clear hpl
      have HS : Hid (steadyR (l.take (k + 1)) = steadyStep (steadyR (l.take k)) l[k]) := foldl_take_succ _ _ _ _ hkl
      generalize l[k] = c at *
      cases u1 : c.kind != 8
      · have HS' : Hid (steadyR (l.take (k + 1)) = steadyR (l.take k)) := by
          show steadyR (l.take (k + 1)) = _
          simp at u1
          rw [HS.out, steadyStep, if_neg (fun h => h.1 u1)]
        clear HS
        go_wp2
        go_roundw
        case rel => exact ⟨k + 1, a', n', cap', by omega, by go_num, rfl, by rw [HS'.out]; exact HL, by rw [HS'.out]; exact hrow, hqr⟩
        case measure => simp [intOf]; omega
      cases u2 : c.kind != 9
      · have HS' : Hid (steadyR (l.take (k + 1)) = steadyR (l.take k)) := by
          show steadyR (l.take (k + 1)) = _
          simp at u2
          rw [HS.out, steadyStep, if_neg (fun h => h.2 u2)]
        clear HS
        go_wp2
        go_roundw
        case rel => exact ⟨k + 1, a', n', cap', by omega, by go_num, rfl, by rw [HS'.out]; exact HL, by rw [HS'.out]; exact hrow, hqr⟩
        case measure => simp [intOf]; omega
      · have HS' : Hid (steadyR (l.take (k + 1)) = steadyR (l.take k) ++ [c]) := by
          show steadyR (l.take (k + 1)) = _
          simp at u1 u2
          rw [HS.out, steadyStep, if_pos ⟨u1, u2⟩]
        clear HS
        go_wp2_with (at_builtin; refine wpList_append_own _ rfl _ _ 25 rfl w.heap.size 29 i0 (.agg #[.int .i64 0, .int .i64 0, .int .i64 0, .int .i64 0, .int .i64 0, .string ⟨#[]⟩, .bool false]) 7 64 Tryz.underlying25 hi hz0 hz1 hz2 rfl (by decide) _ _ _ rfl (hrow.alloc _) ⟨wr.heap.size, 0, none⟩ 1 1 c.cells rfl rfl ?c1 ?c2 ?c3 ?c4 ?c5 ?_)
        case c1 =>
          have := World.news_of_block (heap_alloc_new wr (.cells #[.int .i64 c.kind, .int .i64 c.inst, .int .i64 c.a, .int .i64 c.b, .int .i64 c.who, .string c.reason, .bool c.dry] 29))
          simpa [Cmd.cells] using this
        case c2 => intro u hu; simp [Cmd.cells] at hu; rcases hu with rfl | rfl | rfl | rfl | rfl | rfl | rfl <;> rfl
        case c3 => unfold maxLen; omega
        case c4 => omega
        case c5 => have := hqr.size; simp; omega
        intro v' w2 hown2 hgrow _
        obtain ⟨a2, cap2, rfl⟩ := own_shape hown2
        have hq2 : Quiet w w2 := Below.grown (hqr.alloc hqr.size _) hgrow (by have := hqr.size; simp; omega) (fun k hk => (own_ge hrow k hk).1)
        clear hgrow hrow hqr c0 c1 c2 c3 c4 c5 c6 hb
        go_wp2
        go_roundw
        case rel => exact ⟨k + 1, a2, n' + 1, cap2, by omega, by go_num, rfl, by rw [HS'.out]; have := HL.out; show n' + 1 = _; simp; omega, by rw [HS'.out]; have e : cmdVals (steadyR (l.take k) ++ [c]) = cmdVals (steadyR (l.take k)) ++ c.cells := by { unfold cmdVals; simp }; rw [e]; exact hown2, hq2⟩
        case measure => simp [intOf]; omega
    · have hkn : l.take k = l := by have := HN.out; rw [List.take_of_length_le (by omega)]
      rw [hkn] at hrow HL
      go_wp2
      go_ret
      exact ⟨a', n', cap', rfl, hrow, HL.out, hqr⟩


set_option maxRecDepth 100000 in
set_option maxHeartbeats 2000000 in
theorem steady_walk (dv sv : Value) (d : Def) (s : List Cmd) (w : World) (hd : DefIs w dv d) (h : Cmds w sv s) (hl : s.length ≤ 1048576) (hcr : ∀ c ∈ s, c.reason.size ≤ 9223372036854775807) :
    Calls Tryz.prog 4 #[dv, sv] w fun e w' => e = .returned (.bool true) ∧ Quiet w w' := by
  have hq0 : ∀ (w : World) o, Quiet w (w.alloc o) := fun w o => (Below.refl _ _).alloc (Nat.le_refl _) _
  have hd0 := hd
  obtain ⟨da, dn, dcap, rfl, hst⟩ := hd
  clear hst
  have hlen := steadyR_len s
  have hmem := steadyR_mem s
  have HA : Hid (∀ U (a : Option Addr) (n cap : Nat), Quiet w U → Cmds U (.slice a n cap) (steadyR s) → Calls Tryz.prog 6 #[.agg #[.slice da dn dcap, .int .i64 d.quorum, .int .i64 d.expiry], .slice a n cap] U fun e w' => e = .returned (.bool true) ∧ Quiet U w') := fun U a n cap hU hC =>
    answersM_walk _ _ d (steadyR s) (played_all _) U (hd0.quiet hU) hC (by omega) (fun c hc => by obtain ⟨_, c', hc', e⟩ := hmem c hc; rw [e]; exact hcr c' hc')
  have HB : Hid (∀ U (a : Option Addr) (n cap : Nat), Quiet w U → Cmds U (.slice a n cap) (steadyR s) → Calls Tryz.prog 7 #[.agg #[.slice da dn dcap, .int .i64 d.quorum, .int .i64 d.expiry], .slice a n cap] U fun e w' => e = .returned (.bool true) ∧ Quiet U w') := fun U a n cap hU hC =>
    worldsM_walk _ _ d (steadyR s) (played_all _) U (hd0.quiet hU) hC (by omega) (fun c hc => by obtain ⟨_, c', hc', e⟩ := hmem c hc; rw [e]; exact hcr c' hc')
  have HL : Hid ((steadyR s).length ≤ 1048576) := by show (steadyR s).length ≤ _; omega
  clear hmem hlen hcr
  go_enter Tryz.func4, Tryz.ntmps4
  go_wp2_with fail
  refine calls_gen (fun V => Blk V w.heap.size #[.slice da dn dcap, .int .i64 d.quorum, .int .i64 d.expiry] 24 ∧ Quiet w V) ⟨Blk.new' rfl, hq0 _ _⟩ ?_
  rintro V ⟨bd, hqV⟩
  refine (steady_any _ s V (h.quiet hqV) (by omega)).mono ?_
  rintro e w1 ⟨a, n, cap, rfl, hown, hn, hq1⟩
  have hC : Cmds w1 (.slice a n cap) (steadyR s) := own_cmds hown hn (by have := HL.out; omega)
  replace bd := bd.quiet hq1
  replace hqV : Quiet w w1 := hqV.after hq1
  clear hown hn hq1
  have gd := bd.cell
  go_wp2_with fail
  refine (HA.out w1 a n cap hqV hC).mono ?_
  rintro e w2 ⟨rfl, hq2⟩
  replace bd := bd.quiet hq2
  clear gd
  have gd := bd.cell
  go_wp2_with fail
  refine (HB.out w2 a n cap (hqV.after hq2) (hC.quiet hq2)).mono ?_
  rintro e w3 ⟨rfl, hq3⟩
  go_wp2
  go_ret
  exact ⟨ret_bool (by simp), (hqV.after hq2).after hq3⟩

set_option maxRecDepth 100000 in
set_option maxHeartbeats 2000000 in
theorem plain_walk (dv sv : Value) (d : Def) (s : List Cmd) (w : World) (hd : DefIs w dv d) (h : Cmds w sv s) (hl : s.length ≤ 1048576) (hcr : ∀ c ∈ s, c.reason.size ≤ 9223372036854775807) :
    Calls Tryz.prog 3 #[dv, sv] w fun e w' => e = .returned (.bool true) ∧ Quiet w w' := by
  have hq0 : ∀ (w : World) o, Quiet w (w.alloc o) := fun w o => (Below.refl _ _).alloc (Nat.le_refl _) _
  have hd0 := hd
  obtain ⟨da, dn, dcap, rfl, hst⟩ := hd
  clear hst
  have hlen := plainR_len s
  have hmem := plainR_mem s
  have HA : Hid (∀ U (a : Option Addr) (n cap : Nat), Quiet w U → Cmds U (.slice a n cap) (plainR s) → Calls Tryz.prog 6 #[.agg #[.slice da dn dcap, .int .i64 d.quorum, .int .i64 d.expiry], .slice a n cap] U fun e w' => e = .returned (.bool true) ∧ Quiet U w') := fun U a n cap hU hC =>
    answersM_walk _ _ d (plainR s) (played_all _) U (hd0.quiet hU) hC (by omega) (fun c hc => by obtain ⟨_, c', hc', e⟩ := hmem c hc; rw [e]; exact hcr c' hc')
  have HB : Hid (∀ U (a : Option Addr) (n cap : Nat), Quiet w U → Cmds U (.slice a n cap) (plainR s) → Calls Tryz.prog 7 #[.agg #[.slice da dn dcap, .int .i64 d.quorum, .int .i64 d.expiry], .slice a n cap] U fun e w' => e = .returned (.bool true) ∧ Quiet U w') := fun U a n cap hU hC =>
    worldsM_walk _ _ d (plainR s) (played_all _) U (hd0.quiet hU) hC (by omega) (fun c hc => by obtain ⟨_, c', hc', e⟩ := hmem c hc; rw [e]; exact hcr c' hc')
  have HL : Hid ((plainR s).length ≤ 1048576) := by show (plainR s).length ≤ _; omega
  clear hmem hlen hcr
  go_enter Tryz.func3, Tryz.ntmps3
  go_wp2_with fail
  refine calls_gen (fun V => Blk V w.heap.size #[.slice da dn dcap, .int .i64 d.quorum, .int .i64 d.expiry] 24 ∧ Quiet w V) ⟨Blk.new' rfl, hq0 _ _⟩ ?_
  rintro V ⟨bd, hqV⟩
  refine (plain_any _ s V (h.quiet hqV) (by omega)).mono ?_
  rintro e w1 ⟨a, n, cap, rfl, hown, hn, hq1⟩
  have hC : Cmds w1 (.slice a n cap) (plainR s) := own_cmds hown hn (by have := HL.out; omega)
  replace bd := bd.quiet hq1
  replace hqV : Quiet w w1 := hqV.after hq1
  clear hown hn hq1
  have gd := bd.cell
  go_wp2_with fail
  refine (HA.out w1 a n cap hqV hC).mono ?_
  rintro e w2 ⟨rfl, hq2⟩
  replace bd := bd.quiet hq2
  clear gd
  have gd := bd.cell
  go_wp2_with fail
  refine (HB.out w2 a n cap (hqV.after hq2) (hC.quiet hq2)).mono ?_
  rintro e w3 ⟨rfl, hq3⟩
  go_wp2
  go_ret
  exact ⟨ret_bool (by simp), (hqV.after hq2).after hq3⟩

end Go.Proofs.YtgcjlgaapiefiaaGreat

/- Proved here, out of the contracts of package edit: the walks of EditBack, EditOne. -/
import Derived.Test.YtjbgiaekckdoaaaEditLawA
namespace Go.Proofs.Ytjbgiaekckdoaaa
open Go.RowKit
set_option linter.unusedVariables false

theorem back_err {l : List Int} {N : Int} (h : may l N = true) (hl : l.length ≤ 2000) (hN : N ≤ 2000) : chErr l N = 0 ∧ chRes l N = chs l N ∧ mErr (chs l N) l.length N = 0 ∧ mRes (chs l N) l.length N = l := by
  have h1 : chErr l N = 0 := by unfold chErr; rw [if_neg (by omega), if_pos h]
  have hg := guess_chs h
  have h0 := (may_parts h).1
  have h2 : mErr (chs l N) l.length N = 0 := by unfold mErr; rw [if_neg (by omega), if_neg (by omega), if_pos (by rw [hg])]
  exact ⟨h1, by unfold chRes; rw [if_pos h1], h2, by unfold mRes; rw [if_pos h2, hg]⟩
theorem may_of {A : Option Addr} {n c : Nat} {l : List Int} {N : Int} {w : World} {mb : Bool} (hnc : n ≤ c) (hcm : c ≤ maxLen) (hN : inR N) (hA : Nums w w.heap.size A n l) (hmb : may l N = mb) : ∀ w', Below w.heap.size w w' →
    Calls Try.prog 16 #[.slice A n c, .int .i64 N] w' fun e w'' => e = .returned (.bool mb) ∧ w' = w'' := fun w' hb => hmb ▸ May_any A n c w'.heap.size l N w' (Nat.le_trans hnc hcm) hN.2 (hA.up hb)

section
variable (H : EditOk)
include H

set_option maxHeartbeats 2000000 in
theorem EditBack_walk (A : Option Addr) (n c : Nat) (l : List Int) (N : Int) (w : World) (hA : ArgInts w A n c l) (hN : inR N) :
    Calls Try.prog 5 #[.slice A n c, .int .i64 N] w fun e w' => e = .returned (.bool true) ∧ Below w.heap.size w w' := by
  obtain ⟨hnc, hcm, hR, hA⟩ := hA
  have hal := hA.len
  obtain ⟨mb, hmb⟩ : ∃ mb, may l N = mb := ⟨_, rfl⟩
  have hMay := Lib.hid (may_of hnc hcm hN hA hmb)
  have hmbh := Lib.hid hmb
  by_cases g1 : 60 < n
  · clear hcm hA hmb
    go_enter Try.func5, Try.ntmps5
    go_wp2_with fail
    refine (awake_any H _).mono ?_
    rintro e w1 ⟨rfl, hB1⟩
    go_wp2
    go_ret
    exact ⟨rfl, hB1⟩
  have g1' : decide ((60 : Int) < (n : Int)) = false := by simp; omega
  cases mb
  · clear hcm hA hmb
    go_enter Try.func5, Try.ntmps5
    go_wp2_with fail
    refine (awake_any H _).mono ?_
    rintro e w1 ⟨rfl, hB1⟩
    go_wp2_with (go_at_call 16; refine (hMay.out _ hB1).mono ?_; rintro e w' ⟨rfl, rfl⟩)
    go_ret
    exact ⟨rfl, hB1⟩
  by_cases g2 : 2000 < N
  · clear hcm hA hmb
    go_enter Try.func5, Try.ntmps5
    go_wp2_with fail
    refine (awake_any H _).mono ?_
    rintro e w1 ⟨rfl, hB1⟩
    go_wp2_with (go_at_call 16; refine (hMay.out _ hB1).mono ?_; rintro e w' ⟨rfl, rfl⟩)
    go_ret
    exact ⟨rfl, hB1⟩
  obtain ⟨e1, e2, e3, e4⟩ := back_err hmb (by omega) (by omega)
  have hci := chs_inR hmb (by omega) (by omega)
  have hN0 := (may_parts hmb).1
  rw [hal] at e3 e4
  have h1 := Lib.hid (fun (w' : World) (hb : Below w.heap.size w w') => e1 ▸ e2 ▸ H.changes_ok A n c l N w' hnc hcm hN hR (hA.up hb))
  have e5 : chErr l (2001 + N) = 4 := by unfold chErr; rw [if_pos (.inr (by omega))]
  have e6 : chRes l (2001 + N) = [] := by unfold chRes; rw [if_neg (by omega)]
  have h2 := Lib.hid (fun (w' : World) (hb : Below w.heap.size w w') => e5 ▸ e6 ▸ H.changes_ok A n c l (2001 + N) w' hnc hcm ⟨by omega, by omega⟩ hR (hA.up hb))
  have hcl := chs_len l N
  obtain ⟨cs, hcs⟩ : ∃ cs, cs = chs l N := ⟨_, rfl⟩
  rw [← hcs] at h1 e3 e4 hci hcl
  have hclh : Hid (cs.length ≤ 100) := Lib.hid (by omega)
  have h3 := Lib.hid (fun (A1 : Option Addr) (n1 c1 : Nat) (w' : World) (k0 : n1 = cs.length) (k1 : n1 ≤ c1) (k2 : c1 ≤ maxLen) (k3 : Chs w' w'.heap.size A1 n1 cs) => e3 ▸ e4 ▸ H.match_ok A1 n1 c1 cs (n : Int) N w' k1 k2 (by have := hclh.out; omega) ⟨by omega, by omega⟩ hN hci k3)
  have e7 : mErr cs (2001 + N) N = 4 := by unfold mErr; rw [if_pos (.inl (by omega))]
  have e8 : mRes cs (2001 + N) N = [] := by unfold mRes; rw [if_neg (by omega)]
  have h4 := Lib.hid (fun (A1 : Option Addr) (n1 c1 : Nat) (w' : World) (k0 : n1 = cs.length) (k1 : n1 ≤ c1) (k2 : c1 ≤ maxLen) (k3 : Chs w' w'.heap.size A1 n1 cs) => e7 ▸ e8 ▸ H.match_ok A1 n1 c1 cs (2001 + N) N w' k1 k2 (by have := hclh.out; omega) ⟨by omega, by omega⟩ hN hci k3)
  have h5 := Lib.hid (fun (A1 : Option Addr) (n1 c1 : Nat) (w' : World) (hb : Below w.heap.size w w') (k0 : n1 = l.length) (k3 : Nums w' w'.heap.size A1 n1 l) => by
    have h0 := nSame_any A1 A n1 n c1 c w'.heap.size w'.heap.size l l w' (by unfold maxLen; omega) (by unfold maxLen; omega) k3 (hA.up hb)
    rw [decide_eq_true rfl] at h0
    exact h0)
  clear e1 e2 e3 e4 e5 e6 e7 e8 hcs hcl hci hcm hA hmb hal hR hN
  have g2' : ¬ (2000 < N) := g2
  have tok1 := trivial
  have tok2 := trivial
  go_enter Try.func5, Try.ntmps5
  go_wp2_with fail
  refine (awake_any H _).mono ?_
  rintro e w1 ⟨rfl, hB1⟩
  have h1' := Lib.hid (h1.out w1 hB1)
  go_wp2_with (first
    | (go_at_call 16; refine (hMay.out _ hB1).mono ?_; rintro e w' ⟨rfl, rfl⟩)
    | (go_at_call 10; have _t := tok1; refine h1'.out.mono ?_; rintro e w2 ⟨A1, n1, c1, rfl, hn1, q1, q2, k1, hb2⟩; clear tok1; have hB2 := hB1.trans (hb2.mono hB1.size); have h3' := Lib.hid (h3.out A1 n1 c1 w2 hn1 q1 q2 k1); have hn1h := Lib.hid hn1; clear hn1)
    | (go_at_call 13; have _t := tok2; refine h3'.out.mono ?_; rintro e w3 ⟨A2, n2, c2, rfl, hn2, q3, q4, k2, hb3⟩; clear tok2; have hn2h := Lib.hid hn2; clear hn2; have hB3 := hB2.trans (hb3.mono hB2.size); have h2' := Lib.hid (h2.out w3 hB3); have k1u := k1.up hb3)
    | (go_at_call 10; refine h2'.out.mono ?_; rintro e w4 ⟨A3, n3, c3, rfl, hn3, -, -, -, hb4⟩; clear hn3; have hB4 := hB3.trans (hb4.mono hB3.size); have h4' := Lib.hid (h4.out A1 n1 c1 w4 hn1h.out q1 q2 (k1u.up hb4)); have k2u := k2.up hb4)
    | (go_at_call 13; refine h4'.out.mono ?_; rintro e w5 ⟨A4, n4, c4, rfl, hn4, -, -, -, hb5⟩; clear hn4; have hB5 := hB4.trans (hb5.mono hB4.size); have h5' := Lib.hid (h5.out A2 n2 c2 w5 hB5 hn2h.out (k2u.up hb5)))
    | (go_at_call 15; refine h5'.out.mono ?_; rintro e w6 ⟨rfl, q, rfl⟩))
  go_ret
  exact ⟨rfl, below_drewN hB5 q⟩

set_option maxHeartbeats 2000000 in
theorem EditOne_walk (A : Option Addr) (n c : Nat) (l : List Int) (A' : Option Addr) (n' c' : Nat) (k : List Int) (N : Int) (w : World) (hA : ArgInts w A n c l) (hA' : ArgInts w A' n' c' k) (hN : inR N) :
    Calls Try.prog 6 #[.slice A n c, .slice A' n' c', .int .i64 N] w fun e w' => e = .returned (.bool true) ∧ Below w.heap.size w w' := by
  obtain ⟨hnc, hcm, hR, hA⟩ := hA
  obtain ⟨hnc', hcm', hR', hA'⟩ := hA'
  have hal := hA.len
  have hal' := hA'.len
  obtain ⟨mb, hmb⟩ : ∃ mb, may l N = mb := ⟨_, rfl⟩
  obtain ⟨mb', hmb'⟩ : ∃ mb, may k N = mb := ⟨_, rfl⟩
  have hMay := Lib.hid (may_of hnc hcm hN hA hmb)
  have hMay' := Lib.hid (may_of hnc' hcm' hN hA' hmb')
  by_cases g1 : 60 < n
  · clear hcm hA hmb hcm' hA' hmb'
    go_enter Try.func6, Try.ntmps6
    go_wp2_with fail
    refine (awake_any H _).mono ?_
    rintro e w1 ⟨rfl, hB1⟩
    go_wp2
    go_ret
    exact ⟨rfl, hB1⟩
  have g1' : decide ((60 : Int) < (n : Int)) = false := by simp; omega
  by_cases g2 : n = n'
  rotate_left
  · have g2' : ((n : Int) != (n' : Int)) = true := by simp; omega
    clear hcm hA hmb hcm' hA' hmb'
    go_enter Try.func6, Try.ntmps6
    go_wp2_with fail
    refine (awake_any H _).mono ?_
    rintro e w1 ⟨rfl, hB1⟩
    go_wp2
    go_ret
    exact ⟨rfl, hB1⟩
  subst g2
  by_cases g3 : 300 < N
  · clear hcm hA hmb hcm' hA' hmb'
    go_enter Try.func6, Try.ntmps6
    go_wp2_with fail
    refine (awake_any H _).mono ?_
    rintro e w1 ⟨rfl, hB1⟩
    go_wp2
    go_ret
    exact ⟨rfl, hB1⟩
  have g3' : decide (300 < N) = false := by simp; omega
  cases mb
  · clear hcm hA hmb hcm' hA' hmb'
    go_enter Try.func6, Try.ntmps6
    go_wp2_with fail
    refine (awake_any H _).mono ?_
    rintro e w1 ⟨rfl, hB1⟩
    go_wp2_with (go_at_call 16; refine (hMay.out _ hB1).mono ?_; rintro e w' ⟨rfl, rfl⟩)
    go_ret
    exact ⟨rfl, hB1⟩
  cases mb'
  · clear hcm hA hmb hcm' hA' hmb'
    have tok := trivial
    go_enter Try.func6, Try.ntmps6
    go_wp2_with fail
    refine (awake_any H _).mono ?_
    rintro e w1 ⟨rfl, hB1⟩
    go_wp2_with (first | (go_at_call 16; have _t := tok; refine (hMay.out _ hB1).mono ?_; rintro e w' ⟨rfl, rfl⟩; clear tok) | (go_at_call 16; refine (hMay'.out _ hB1).mono ?_; rintro e w' ⟨rfl, rfl⟩))
    go_ret
    exact ⟨rfl, hB1⟩
  obtain ⟨e1, e2, -, -⟩ := back_err hmb (by omega) (by omega)
  obtain ⟨e3, e4, -, -⟩ := back_err hmb' (by omega) (by omega)
  have hcl := chs_len l N
  have hcl' := chs_len k N
  have hin : decide (chs l N = chs k N) = decide (l = k) := by
    by_cases e : l = k
    · subst e; simp
    · rw [decide_eq_false e, decide_eq_false (fun h => e (chs_inj hmb hmb' (by omega) h))]
  have h1 := Lib.hid (fun (w' : World) (hb : Below w.heap.size w w') => e1 ▸ e2 ▸ H.changes_ok A n c l N w' hnc hcm hN hR (hA.up hb))
  have h2 := Lib.hid (fun (w' : World) (hb : Below w.heap.size w w') => e3 ▸ e4 ▸ H.changes_ok A' n c' k N w' hnc' hcm' hN hR' (hA'.up hb))
  obtain ⟨x, hx⟩ : ∃ x, x = chs l N := ⟨_, rfl⟩
  obtain ⟨y, hy⟩ : ∃ y, y = chs k N := ⟨_, rfl⟩
  rw [← hx] at h1 hin hcl
  rw [← hy] at h2 hin hcl'
  obtain ⟨ob, hob⟩ : ∃ ob, ob = decide (l = k) := ⟨_, rfl⟩
  rw [← hob] at hin
  have h3 := Lib.hid (fun (A1 A2 : Option Addr) (n1 n2 c1 c2 : Nat) (w' : World) (q1 : n1 = x.length) (q2 : n2 = y.length) (k1 : Chs w' w'.heap.size A1 n1 x) (k2 : Chs w' w'.heap.size A2 n2 y) => by
    have h0 := cSame_any A1 A2 n1 n2 c1 c2 w'.heap.size w'.heap.size x y w' (by unfold maxLen; omega) (by unfold maxLen; omega) k1 k2
    rw [hin] at h0
    exact h0)
  have h4 := Lib.hid (fun (w' : World) (hb : Below w.heap.size w w') => by
    have h0 := nSame_any A A' n n c c' w'.heap.size w'.heap.size l k w' (by unfold maxLen; omega) (by unfold maxLen; omega) (hA.up hb) (hA'.up hb)
    rw [← hob] at h0
    exact h0)
  clear e1 e2 e3 e4 hcl hcl' hin hx hy hob hmb hmb' hA hA' hcm hcm' hal hal' hR hR' hN
  have tok1 := trivial
  have tok2 := trivial
  go_enter Try.func6, Try.ntmps6
  go_wp2_with fail
  refine (awake_any H _).mono ?_
  rintro e w1 ⟨rfl, hB1⟩
  have h1' := Lib.hid (h1.out w1 hB1)
  go_wp2_with (first
    | (go_at_call 16; have _t := tok1; refine (hMay.out _ hB1).mono ?_; rintro e w' ⟨rfl, rfl⟩; clear tok1)
    | (go_at_call 16; refine (hMay'.out _ hB1).mono ?_; rintro e w' ⟨rfl, rfl⟩)
    | (go_at_call 10; have _t := tok2; refine h1'.out.mono ?_; rintro e w2 ⟨A1, n1, c1, rfl, hn1, -, -, k1, hb2⟩; clear tok2; have hB2 := hB1.trans (hb2.mono hB1.size); have h2' := Lib.hid (h2.out w2 hB2); have hn1h := Lib.hid hn1; clear hn1)
    | (go_at_call 10; refine h2'.out.mono ?_; rintro e w3 ⟨A2, n2, c2, rfl, hn2, -, -, k2, hb3⟩; have hB3 := hB2.trans (hb3.mono hB2.size); have h3' := Lib.hid (h3.out A1 A2 n1 n2 c1 c2 w3 hn1h.out hn2 (k1.up hb3) k2); clear hn2)
    | (go_at_call 12; refine h3'.out.mono ?_; rintro e w4 ⟨rfl, q, rfl⟩; have hB4 := below_drewN hB3 q; have h4' := Lib.hid (h4.out _ hB4))
    | (go_at_call 15; refine h4'.out.mono ?_; rintro e w5 ⟨rfl, q2, rfl⟩))
  go_ret
  exact ⟨ret_bool (by simp), below_drewN hB3 (q + q2)⟩
end
end Go.Proofs.Ytjbgiaekckdoaaa

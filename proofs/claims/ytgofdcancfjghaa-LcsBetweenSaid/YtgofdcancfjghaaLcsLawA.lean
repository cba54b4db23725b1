/- Proved here, out of the contracts of package lcs: the walks of LcsTells, LcsBetween and LcsTurned. -/
import Derived.Test.YtgofdcancfjghaaLcsAwake
namespace Go.Proofs.Ytgofdcancfjghaa
open Go.RowKit
set_option linter.unusedVariables false

section
variable {Pr : World → Nat → (Nat → Prop) → List Int → List Int → Prop} (H : LcsOk Pr)
include H

set_option maxHeartbeats 1000000 in
theorem LcsTells_walk (A : Option Addr) (n c : Nat) (a : List Int) (A' : Option Addr) (n' c' : Nat) (b : List Int) (w : World) (hA : ArgNums w A n c a) (hA' : ArgNums w A' n' c' b) :
    Calls Try.prog 3 #[.slice A n c, .slice A' n' c'] w fun e w' => e = .returned (.bool true) ∧ Below w.heap.size w w' := by
  have hnc := hA.1
  have hcm := hA.2.1
  have hnc' := hA'.1
  have hcm' := hA'.2.1
  unfold maxLen at hcm hcm'
  have hal := Lib.hid hA.2.2.len
  have hal' := Lib.hid hA'.2.2.len
  by_cases g : 40 < n ∨ 40 < n'
  · rcases g with g | g
    · go_enter Try.func3, Try.ntmps3
      go_wp2_with fail
      refine (awake_any H _).mono ?_
      rintro e w1 ⟨rfl, hB1⟩
      go_wp2
      go_ret
      exact ⟨rfl, hB1⟩
    · by_cases g2 : 40 < n
      all_goals
        go_enter Try.func3, Try.ntmps3
        go_wp2_with fail
        refine (awake_any H _).mono ?_
        rintro e w1 ⟨rfl, hB1⟩
        go_wp2
        go_ret
        exact ⟨rfl, hB1⟩
  · have g1 : n ≤ 40 := by omega
    have g2 : n' ≤ 40 := by omega
    have hlb : Hid (lcsL a b ≤ 40) := Lib.hid (by have := lcs_le_left a b; have := hal.out; omega)
    clear g
    go_enter Try.func3, Try.ntmps3
    go_wp2_with fail
    refine (awake_any H _).mono ?_
    rintro e w1 ⟨rfl, hB1⟩
    have hN := Lib.hid (H.new_ok A A' n n' c c' a b w1 (by omega) (by omega) hnc hnc' hA.2.1 hA'.2.1 (hA.up hB1) (hA'.up hB1))
    have hMt := Lib.hid H.match_any
    have hLn := Lib.hid H.len_any
    go_wp2_with (first
      | (go_at_call 11; refine hN.out.mono ?_; rintro e w2 ⟨T, F, rfl, hP, hF, hB⟩; have hB2 := hB1.trans (hB.mono hB1.size); clear hB)
      | (go_at_call 13; refine (hMt.out T F _ _ _ hP).mono ?_; rintro e w3 ⟨Am, nm, cm, F3, rfl, hnm, hnc3, hcm3, hm, hAF, hP3, hb3, hF3⟩; have hB3 : Below w.heap.size w w3 := hB2.trans (hb3.below hB2.size (fun k hk => by have := hF k hk; have := hB1.size; omega)); have hF30 : ∀ k, F3 k → w.heap.size ≤ k := (fun k hk => by rcases hF3 k hk with h | h; (have := hF k h; have := hB1.size; omega); (have := hB2.size; omega)); obtain rfl : n = nm := (hnm.trans hal.out).symm; clear hF3 hb3 hnm)
      | (go_at_call 14; refine (rMatch_any A A' n n' c c' w.heap.size w.heap.size a b _ (by omega) (by omega) (hA.2.2.below hB3) (hA'.2.2.below hB3) hB3.size hB3.size).mono ?_; rintro e w4 ⟨Ar, nr, cr, rfl, hnr, hncr, hcmr, hr, hB4⟩; have hB40 := hB3.trans (hB4.mono hB3.size); have hP4 := H.kept hP3 hB4; obtain rfl : n = nr := (by rw [hnr, mt_len, hal.out]); clear hnr)
      | (go_at_call 12; refine (nSame_any Am Ar _ _ cm cr w3.heap.size w4.heap.size _ _ w4 (by unfold maxLen; omega) (by unfold maxLen; omega) (hm.below hB4) hr).mono ?_; rintro e w5 ⟨rfl, q, rfl⟩; rw [decide_eq_true rfl]; have hB5 := below_drewN hB40 q; have hP5 := H.kept hP4 (below_drewN (Below.refl w4.heap.size w4) q))
      | (go_at_call 15; refine (hLn.out T F3 _ _ _ hP5).mono ?_; rintro e w6 ⟨rfl, F6, hP6, hb6, hF6⟩; have hB6 : Below w.heap.size w w6 := hB5.trans (hb6.below hB5.size hF30))
      | (go_at_call 16; refine (rLen_any A A' n n' c c' w.heap.size w.heap.size a b _ (by omega) (by omega) (hA.2.2.below hB6) (hA'.2.2.below hB6) hB6.size hB6.size).mono ?_; rintro e w7 ⟨rfl, hB7⟩; have hB70 := hB6.trans (hB7.mono hB6.size)))
    go_ret
    exact ⟨rfl, hB70⟩

theorem long_of (A A' : Option Addr) (n n' c c' : Nat) (a b : List Int) (w : World) (hA : ArgNums w A n c a) (hA' : ArgNums w A' n' c' b) (h1 : n ≤ 2000) (h2 : n' ≤ 2000) : ∀ w', Below w.heap.size w w' →
    Calls Try.prog 17 #[.slice A n c, .slice A' n' c'] w' fun e w'' => e = .returned (.int .i64 (lcsL a b)) ∧ Below w.heap.size w w'' := fun w' hB =>
  (long_any H A A' n n' c c' a b w' h1 h2 hA.1 hA'.1 hA.2.1 hA'.2.1 (hA.up hB) (hA'.up hB)).mono fun e w'' ⟨he, hB'⟩ => ⟨he, hB.trans (hB'.mono hB.size)⟩

set_option maxHeartbeats 1000000 in
theorem LcsBetween_walk (A : Option Addr) (n c : Nat) (a : List Int) (A' : Option Addr) (n' c' : Nat) (b : List Int) (A2 : Option Addr) (n2 c2 : Nat) (d : List Int) (w : World) (hA : ArgNums w A n c a) (hA' : ArgNums w A' n' c' b) (hA2 : ArgNums w A2 n2 c2 d) :
    Calls Try.prog 8 #[.slice A n c, .slice A' n' c', .slice A2 n2 c2] w fun e w' => e = .returned (.bool true) ∧ Below w.heap.size w w' := by
  have hcm := hA.2.1
  have hcm' := hA'.2.1
  have hcm2 := hA2.2.1
  have hnc := hA.1
  have hnc' := hA'.1
  have hnc2 := hA2.1
  unfold maxLen at hcm hcm' hcm2
  have hal := Lib.hid hA.2.2.len
  have hal' := Lib.hid hA'.2.2.len
  by_cases g1 : 40 < n
  · go_enter Try.func8, Try.ntmps8
    go_wp2_with fail
    refine (awake_any H _).mono ?_
    rintro e w1 ⟨rfl, hB1⟩
    go_wp2
    go_ret
    exact ⟨rfl, hB1⟩
  by_cases g2 : 40 < n'
  · go_enter Try.func8, Try.ntmps8
    go_wp2_with fail
    refine (awake_any H _).mono ?_
    rintro e w1 ⟨rfl, hB1⟩
    go_wp2
    go_ret
    exact ⟨rfl, hB1⟩
  by_cases g3 : 40 < n2
  · go_enter Try.func8, Try.ntmps8
    go_wp2_with fail
    refine (awake_any H _).mono ?_
    rintro e w1 ⟨rfl, hB1⟩
    go_wp2
    go_ret
    exact ⟨rfl, hB1⟩
  have l1 := long_of H A A' n n' c c' a b w hA hA' (by omega) (by omega)
  have l2 := long_of H A' A2 n' n2 c' c2 b d w hA' hA2 (by omega) (by omega)
  have l3 := long_of H A A2 n n2 c c2 a d w hA hA2 (by omega) (by omega)
  have hbt := lcs_between a b d
  have hle := lcs_le_left a b
  have hri := lcs_le_right a b
  have hle3 := lcs_le_left a d
  have hle2 := lcs_le_left b d
  obtain ⟨L1, e1⟩ : ∃ L, L = lcsL a b := ⟨_, rfl⟩
  obtain ⟨L2, e2⟩ : ∃ L, L = lcsL b d := ⟨_, rfl⟩
  obtain ⟨L3, e3⟩ : ∃ L, L = lcsL a d := ⟨_, rfl⟩
  rw [← e1] at l1 hbt hle hri
  rw [← e2] at l2 hbt hle2
  rw [← e3] at l3 hbt hle3
  rw [hal'.out] at hbt hri hle2
  rw [hal.out] at hle hle3
  have l1' := Lib.hid l1
  have l2' := Lib.hid l2
  have l3' := Lib.hid l3
  have hbi : (L1 : Int) + (L2 : Int) ≤ (L3 : Int) + (n' : Int) := by omega
  clear l1 l2 l3 e1 e2 e3
  by_cases g4 : n < n'
  all_goals
    go_enter Try.func8, Try.ntmps8
    go_wp2_with fail
    refine (awake_any H _).mono ?_
    rintro e w1 ⟨rfl, hB⟩
    go_wp2_with (go_at_call 17; first
      | ((with_reducible refine (l1'.out _ hB).mono ?_); rintro e wk ⟨rfl, hBk⟩; clear hB; have hB := hBk; clear hBk)
      | ((with_reducible refine (l2'.out _ hB).mono ?_); rintro e wk ⟨rfl, hBk⟩; clear hB; have hB := hBk; clear hBk)
      | ((with_reducible refine (l3'.out _ hB).mono ?_); rintro e wk ⟨rfl, hBk⟩; clear hB; have hB := hBk; clear hBk))
    all_goals (go_ret; exact ⟨rfl, hB⟩)

set_option maxHeartbeats 1000000 in
theorem LcsTurned_walk (A : Option Addr) (n c : Nat) (a : List Int) (A' : Option Addr) (n' c' : Nat) (b : List Int) (w : World) (hA : ArgNums w A n c a) (hA' : ArgNums w A' n' c' b) :
    Calls Try.prog 6 #[.slice A n c, .slice A' n' c'] w fun e w' => e = .returned (.bool true) ∧ Below w.heap.size w w' := by
  have hnc := hA.1
  have hcm := hA.2.1
  have hnc' := hA'.1
  have hcm' := hA'.2.1
  unfold maxLen at hcm hcm'
  have hal := Lib.hid hA.2.2.len
  have hal' := Lib.hid hA'.2.2.len
  by_cases g1 : 40 < n
  · go_enter Try.func6, Try.ntmps6
    go_wp2_with fail
    refine (awake_any H _).mono ?_
    rintro e w1 ⟨rfl, hB1⟩
    go_wp2
    go_ret
    exact ⟨rfl, hB1⟩
  by_cases g2 : 40 < n'
  · go_enter Try.func6, Try.ntmps6
    go_wp2_with fail
    refine (awake_any H _).mono ?_
    rintro e w1 ⟨rfl, hB1⟩
    go_wp2
    go_ret
    exact ⟨rfl, hB1⟩
  have l1 := long_of H A A' n n' c c' a b w hA hA' (by omega) (by omega)
  have l2 := long_of H A' A n' n c' c b a w hA' hA (by omega) (by omega)
  have l3 := long_of H A A n n c c a a w hA hA (by omega) (by omega)
  have l4 := fun (w' : World) (Ar Ar' : Option Addr) (cr cr' : Nat) (h1 : n ≤ cr) (h2 : n' ≤ cr') (h3 : cr ≤ maxLen) (h4 : cr' ≤ maxLen) (h5 : Nums w' w'.heap.size Ar n a.reverse) (h6 : Nums w' w'.heap.size Ar' n' b.reverse) => long_any H Ar Ar' n n' cr cr' a.reverse b.reverse w' (by omega) (by omega) h1 h2 h3 h4 h5 h6
  have hle := lcs_le_left a b
  rw [hal.out] at hle
  rw [lcs_comm b a] at l2
  rw [lcs_self, hal.out] at l3
  rw [lcs_turned] at l4
  obtain ⟨L1, e1⟩ : ∃ L, L = lcsL a b := ⟨_, rfl⟩
  rw [← e1] at l1 l2 l4 hle
  have l1' := Lib.hid l1
  have l2' := Lib.hid l2
  have l3' := Lib.hid l3
  have l4' := Lib.hid l4
  clear l1 l2 l3 l4 e1
  have hrl : Hid (a.reverse.length = n ∧ b.reverse.length = n') := Lib.hid ⟨by rw [List.length_reverse, hal.out], by rw [List.length_reverse, hal'.out]⟩
  have tok1 := trivial
  go_enter Try.func6, Try.ntmps6
  go_wp2_with fail
  refine (awake_any H _).mono ?_
  rintro e w1 ⟨rfl, hB⟩
  go_wp2_with (first
    | (go_at_call 18; have _t := tok1; refine (turned_any A n c a _ (by omega) (hA.up hB)).mono ?_; rintro e wk ⟨Ar, nr, cr, rfl, hnr, hr1, hr2, hr3, hBk⟩; obtain rfl : n = nr := (hnr.trans hrl.out.1).symm; clear hnr tok1; have hB' := hB.trans (hBk.mono hB.size); clear hB; have hB := hB'; clear hB' hBk)
    | (go_at_call 18; refine (turned_any A' n' c' b _ (by omega) (hA'.up hB)).mono ?_; rintro e wk ⟨Ar', nr', cr', rfl, hnr', hr1', hr2', hr3', hBk⟩; obtain rfl : n' = nr' := (hnr'.trans hrl.out.2).symm; clear hnr'; have hB' := hB.trans (hBk.mono hB.size); have hr3k := (hr3.below hBk).more hBk.size; clear hB; have hB := hB'; clear hB' hBk hr3; have hr3 := hr3k; clear hr3k)
    | (go_at_call 17; first
      | ((with_reducible refine (l1'.out _ hB).mono ?_); rintro e wk ⟨rfl, hBk⟩; clear hB; have hB := hBk; clear hBk)
      | ((with_reducible refine (l2'.out _ hB).mono ?_); rintro e wk ⟨rfl, hBk⟩; clear hB; have hB := hBk; clear hBk)
      | ((with_reducible refine (l3'.out _ hB).mono ?_); rintro e wk ⟨rfl, hBk⟩; clear hB; have hB := hBk; clear hBk)
      | (refine (l4'.out _ Ar Ar' cr cr' hr1 hr1' hr2 hr2' hr3 hr3').mono ?_; rintro e wk ⟨rfl, hBk⟩; have hB' := hB.trans (hBk.mono hB.size); clear hB; have hB := hB'; clear hB' hBk)))
  go_ret
  exact ⟨rfl, hB⟩
end
end Go.Proofs.Ytgofdcancfjghaa

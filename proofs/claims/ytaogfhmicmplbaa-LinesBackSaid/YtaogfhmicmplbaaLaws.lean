/- Proved here: the walks of the laws of layer 1 over lists of strings: each returns true, and nothing that was there has turned. -/
import Derived.Test.YtaogfhmicmplbaaAwake
import Derived.Test.YtaogfhmicmplbaaFrame
namespace Go.Proofs.Ytaogfhmicmplbaa
open Go.RowKit
set_option linter.unusedVariables false

theorem fe_all (s : List UInt8) (h : s ≠ []) : fe s = s.length ↔ (nlN s = 0 ∨ (nlN s = 1 ∧ s.getLast? = some 10)) := by
  induction s with
  | nil => exact absurd rfl h
  | cons c r ih =>
    by_cases hc : c = 10
    · subst hc
      have hf : fe (10 :: r) = 1 := by simp [fe]
      have hn : nlN (10 :: r) = nlN r + 1 := by simp [nlN]
      rw [hf, hn]
      cases r with
      | nil => simp [nlN]
      | cons d t =>
        constructor
        · intro h; simp at h
        · rintro (h | ⟨h1, h2⟩)
          · omega
          · exfalso
            rw [List.getLast?_cons_cons] at h2
            have : (10 : UInt8) ∈ d :: t := List.mem_of_getLast? h2
            have := List.count_pos_iff.2 this
            unfold nlN at h1
            omega
    · have hf : fe (c :: r) = fe r + 1 := by simp [fe, hc]
      have hn : nlN (c :: r) = nlN r := by simp [nlN, hc]
      rw [hf, hn]
      cases r with
      | nil => simp [fe, nlN]
      | cons d t =>
        rw [List.getLast?_cons_cons, ← ih (by simp)]
        simp

theorem may_eq (ss : List (List UInt8)) : mayB ss = rmay ss := by
  induction ss with
  | nil => rfl
  | cons s r ih =>
    rw [mayB, rmay, ih]
    congr 1
    cases s with
    | nil => simp [lineB, nlN]
    | cons c t =>
      have hk := fe_all (c :: t) (by simp)
      have hle := fe_le (c :: t)
      have hd : (!decide (fe (c :: t) < (c :: t).length)) = decide (fe (c :: t) = (c :: t).length) := by
        rw [Bool.eq_iff_iff]; simp only [Bool.not_eq_true', decide_eq_false_iff_not, decide_eq_true_iff]; omega
      rw [hd]
      rw [Bool.eq_iff_iff]
      simp only [lineB, endedB, Bool.and_eq_true, Bool.or_eq_true, decide_eq_true_iff, beq_iff_eq, hk]
      by_cases h0 : nlN (c :: t) = 0
      · have hno : ¬ (c :: t).getLast? = some 10 := by
          intro h
          have := List.count_pos_iff.2 (List.mem_of_getLast? h)
          unfold nlN at h0
          omega
        simp [h0, hno]
      · simp [h0]
        exact fun _ h => .inr h

theorem few_le {ss : List (List UInt8)} {most : Nat} (h : fewB ss most = true) : ss.length ≤ most ∧ ∀ s ∈ ss, s.length ≤ 100 := by
  unfold fewB at h
  rw [Bool.and_eq_true, decide_eq_true_iff] at h
  refine ⟨h.1, fun s hs => ?_⟩
  have h2 := h.2
  rw [List.take_of_length_le (by omega), List.all_eq_true] at h2
  simpa using h2 s hs

set_option maxHeartbeats 1000000 in
theorem LinesMay_walk (A : Option Addr) (n c : Nat) (ss : List (List UInt8)) (w : World) (hz : ArgStrs w A n c ss) :
    Calls Try.prog 6 #[.slice A n c] w fun e w' => e = .returned (.bool true) ∧ Below w.heap.size w w' := by
  obtain ⟨hnc, hcm, hsz, hA⟩ := hz
  have hn : n ≤ maxLen := by omega
  by_cases hf : fewB ss 30 = true
  · have hfw := Lib.hid (few_le hf)
    have hf' := Lib.hid hf
    have hk := Lib.hid (may_eq ss)
    clear hf
    go_enter Try.func6, Try.ntmps6
    go_wp2_with (go_at_call 8; refine (awake_any _).mono ?_; rintro e w1 ⟨rfl, hB⟩)
    have hst := hA.below hB
    have hs : ∀ s ∈ ss, s.length ≤ maxLen := fun s h => by have := hfw.out.2 s h; unfold maxLen; omega
    have hF := Few_any A n c 30 _ ss w1 hn (by decide) hst
    have hM := May_any A n c _ ss w1 hn hs hst
    have hO := Open_any A n c _ ss w1 hn hs hst
    have hM2 := rMay_any A n c _ ss w1 hn hs hst
    have hO2 := rOpen_any A n c _ ss w1 hn hs hst
    rw [hf'.out] at hF
    rw [← hk.out] at hM2
    have hF := Lib.hid hF
    have hM := Lib.hid hM
    have hO := Lib.hid hO
    have hM2 := Lib.hid hM2
    have hO2 := Lib.hid hO2
    refine hF.out.mono ?_
    rintro e w' ⟨rfl, rfl⟩
    go_wp2_with (first
      | (go_at_call 12; refine hM.out.mono ?_; rintro e w' ⟨rfl, rfl⟩)
      | (go_at_call 18; refine hM2.out.mono ?_; rintro e w' ⟨rfl, rfl⟩)
      | (go_at_call 13; refine hO.out.mono ?_; rintro e w' ⟨rfl, rfl⟩)
      | (go_at_call 14; refine hO2.out.mono ?_; rintro e w' ⟨rfl, rfl⟩))
    go_ret
    exact ⟨rfl, hB⟩
  · have hf2 : fewB ss 30 = false := by simpa using hf
    have hf' := Lib.hid hf2
    clear hf hf2
    go_enter Try.func6, Try.ntmps6
    go_wp2_with (go_at_call 8; refine (awake_any _).mono ?_; rintro e w1 ⟨rfl, hB⟩)
    have hF := Few_any A n c 30 _ ss w1 hn (by decide) (hA.below hB)
    rw [hf'.out] at hF
    have hF := Lib.hid hF
    refine hF.out.mono ?_
    rintro e w' ⟨rfl, rfl⟩
    go_wp2
    go_ret
    exact ⟨rfl, hB⟩
end Go.Proofs.Ytaogfhmicmplbaa

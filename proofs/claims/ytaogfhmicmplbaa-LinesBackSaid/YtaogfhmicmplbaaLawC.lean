/- Proved here: the walk of the law LinesOne. -/
import Derived.Test.YtaogfhmicmplbaaLawB
import Derived.Test.YtaogfhmicmplbaaLaws
import Derived.Deep.RegionWith
namespace Go.Proofs.Ytaogfhmicmplbaa
open Go.RowKit
set_option linter.unusedVariables false

theorem fe_append {s : List UInt8} (hs : s ≠ []) (h : nlN s = 1 ∧ s.getLast? = some 10) (r : List UInt8) : fe (s ++ r) = fe s := by
  induction s with
  | nil => exact absurd rfl hs
  | cons c t ih =>
    by_cases hc : c = 10
    · simp [fe, hc]
    · cases t with
      | nil => simp at h; exact absurd h.2 hc
      | cons d u =>
        rw [List.cons_append, fe, fe, if_neg hc, if_neg hc]
        rw [List.getLast?_cons_cons] at h
        have : nlN (c :: d :: u) = nlN (d :: u) := by simp [nlN, hc]
        rw [this] at h
        rw [ih (by simp) h]

theorem split_one (ss : List (List UInt8)) : decide (splitL ss.flatten = ss) = mayB ss := by
  rw [Bool.eq_iff_iff, decide_eq_true_iff]
  constructor
  · intro h; rw [← h]; exact may_split _
  · induction ss with
    | nil => intro _; rfl
    | cons s r ih =>
      intro h
      simp only [mayB, Bool.and_eq_true, Bool.not_eq_true', Bool.or_eq_true] at h
      obtain ⟨⟨⟨h1, h2⟩, h3⟩, h4⟩ := h
      have hs : s ≠ [] := by intro e; rw [e] at h1; cases h1
      have hf : fe s = s.length := by have := fe_le s; simp at h2; omega
      rw [List.flatten_cons]
      rcases h3 with h3 | h3
      · have hr : r = [] := by simpa using h3
        subst hr
        rw [splitL_step (by simpa using hs)]
        simp [hf, splitL]
      · have hfe : fe (s ++ r.flatten) = s.length := by
          have hk := (fe_all s hs).1 hf
          rw [fe_append hs (by rcases hk with hk | hk; { exfalso; have := List.count_pos_iff.2 (List.mem_of_getLast? (by simpa [endedB] using h3) : (10 : UInt8) ∈ s); unfold nlN at hk; omega }; exact hk), hf]
        rw [splitL_step (by simp [hs]), hfe]
        simp [ih h4]

theorem flat_bound {ss : List (List UInt8)} {most : Nat} (h : ss.length ≤ most) (h2 : ∀ s ∈ ss, s.length ≤ 100) : ss.flatten.length ≤ most * 100 := by
  have : ss.flatten.length ≤ ss.length * 100 := by
    clear h
    induction ss with
    | nil => simp
    | cons s r ih =>
      have := ih (fun x hx => h2 x (by simp [hx]))
      have := h2 s (by simp)
      simp only [List.flatten_cons, List.length_append, List.length_cons]
      omega
  have := Nat.mul_le_mul_right 100 h
  omega

set_option maxHeartbeats 1000000 in
theorem LinesOne_walk (A : Option Addr) (n c : Nat) (ss : List (List UInt8)) (w : World) (hz : ArgStrs w A n c ss) :
    Calls Try.prog 5 #[.slice A n c] w fun e w' => e = .returned (.bool true) ∧ Below w.heap.size w w' := by
  obtain ⟨hnc, hcm, hsz, hA⟩ := hz
  have hn : n ≤ maxLen := by omega
  have hlen := Lib.hid hA.len
  by_cases hf : fewB ss 30 = true
  · have hfw := Lib.hid (few_le hf)
    have hf' := Lib.hid hf
    clear hf
    have hfl := Lib.hid (flat_bound hfw.out.1 hfw.out.2)
    go_enter Try.func5, Try.ntmps5
    go_wp2_with (go_at_call 8; refine (awake_any _).mono ?_; rintro e w1 ⟨rfl, hB1⟩)
    have hA1 := hA.below hB1
    have hF := Few_any A n c 30 _ ss w1 hn (by decide) hA1
    rw [hf'.out] at hF
    refine hF.mono ?_
    rintro e w' ⟨rfl, rfl⟩
    clear hF
    go_wp2_with fail
    have hj1 : joinL [ss] = ss.flatten := by simp [joinL]
    have hr1 : ∀ W : World, Strs W W.heap.size A n ss → Rows2 (W.alloc (.cells #[.slice A n c] 24)) (W.alloc (.cells #[.slice A n c] 24)).heap.size (some ⟨W.heap.size, 0, none⟩) 1 [(A, n, c)] [ss] := fun W hW => by
      refine Rows2.new _ 1 _ rfl rfl rfl fun k r s' h1 h2 => ?_
      have hr : r = (A, n, c) := by
        have := List.mem_of_getElem? h1
        simpa using this
      have hs : s' = ss := by
        have := List.mem_of_getElem? h2
        simpa using this
      subst hr; subst hs
      exact hW
    have hrn : ∀ s' ∈ [ss], s'.length ≤ maxLen := by
      intro s' h; have : s' = ss := by simpa using h
      subst this; have := hlen.out; omega
    have hJ := fun (W : World) (hW : Strs W W.heap.size A n ss) => Join_at (some ⟨W.heap.size, 0, none⟩) 1 1 _ [ss] _ (by decide) hrn (by rw [hj1]; have := hfl.out; omega) (hr1 W hW)
    rw [hj1] at hJ
    replace hJ := Lib.hid hJ
    replace hj1 := Lib.hid hj1
    replace hr1 := Lib.hid hr1
    replace hrn := Lib.hid hrn
    refine (hJ.out w1 (hA1.more hB1.size)).mono ?_
    rintro e w2 ⟨A2, n2, c2, rfl, hn2, hnc2, hcm2, hb2, hB2⟩
    replace hn2 := Lib.hid hn2
    go_wp2_with fail
    refine (Split_any A2 n2 c2 _ w2 (by have := hfl.out; omega) hb2).mono ?_
    rintro e w3 ⟨A3, n3, c3, rfl, hn3, hnc3, hcm3, hst3, hB3⟩
    replace hn3 := Lib.hid hn3
    have hz1 := hB1.size
    have hz2 : w1.heap.size ≤ w2.heap.size := by have := hB2.size; simp at this; omega
    have hz3 := hB3.size
    have hB12 : Below w.heap.size w w2 := (hB1.alloc hB1.size _).trans (hB2.mono (by simp; omega))
    have hB13 : Below w.heap.size w w3 := hB12.trans (hB3.mono (by omega))
    have hA3 := hA.below hB13
    go_wp2_with fail
    have hS := Same_any A3 A n3 n c3 c _ _ (splitL ss.flatten) ss w3 (by omega) hn hst3 hA3
    rw [split_one] at hS
    refine hS.mono ?_
    rintro e w4 ⟨rfl, k4, rfl⟩
    clear hS
    have hA4 := hA3.drewN k4
    have hbig : ∀ s ∈ ss, s.length ≤ maxLen := fun s h => by have := hfw.out.2 s h; unfold maxLen; omega
    have hB14 : Below w.heap.size w (w3.drewN k4) := below_drewN hB13 k4
    obtain ⟨W4, hW4⟩ : ∃ W4, w3.drewN k4 = W4 := ⟨_, rfl⟩
    rw [hW4] at hA4 hB14 ⊢
    clear hW4
    have hM := May_any A n c _ ss W4.drew hn hbig hA4.drew
    replace hM := Lib.hid hM
    have hR : ∀ W, Below w.heap.size w W → Calls Try.prog 17 #[.slice A n c] W fun e w' => e = .returned (.string (str ss.flatten)) ∧ W = w' := fun W h => rJoin_any A n c _ ss W hn (by have := hfl.out; omega) (hA.below h)
    replace hR := Lib.hid hR
    have hJ4 := Join_at (some ⟨W4.heap.size, 0, none⟩) 1 1 _ [ss] _ (by decide) hrn.out (by rw [hj1.out]; have := hfl.out; omega) (hr1.out W4 (hA4.more hB14.size)).drew
    rw [hj1.out] at hJ4
    replace hJ4 := Lib.hid hJ4
    clear hr1 hJ
    go_wp2
    go_region_with (first
      | (go_at_call 12; refine hM.out.mono ?_; rintro e w' ⟨rfl, rfl⟩)
      | (go_at_call 17; refine (hR.out _ (by first | exact hB14.drew | exact (hB14.alloc hB14.size _).drew | exact hB15)).mono ?_; rintro e w' ⟨rfl, rfl⟩)
      | (go_at_call 15; refine hJ4.out.mono ?_; rintro e w5 ⟨A5, n5, c5, rfl, hn5, hnc5, hcm5, hb5, hB5⟩; replace hn5 := Lib.hid hn5; have hcv := conv_bytes (P := Try.prog) hb5 c5 Try.underlying22 Try.underlying5 Try.underlying9; have hB15 := (hB14.alloc hB14.size (.cells #[.slice A n c] 24)).drew.trans (hB5.mono (by have := hB14.size; simp; omega)))
      )
    all_goals go_wp2
    all_goals go_ret
    all_goals exact ⟨rfl, hB15⟩
  · have hf2 : fewB ss 30 = false := by simpa using hf
    have hf' := Lib.hid hf2
    clear hf hf2
    go_enter Try.func5, Try.ntmps5
    go_wp2_with (go_at_call 8; refine (awake_any _).mono ?_; rintro e w1 ⟨rfl, hB⟩)
    have hF := Few_any A n c 30 _ ss w1 hn (by decide) (hA.below hB)
    rw [hf'.out] at hF
    have hF := Lib.hid hF
    refine hF.out.mono ?_
    rintro e w' ⟨rfl, rfl⟩
    go_wp2
    go_ret
    exact ⟨rfl, hB⟩
end Go.Proofs.Ytaogfhmicmplbaa

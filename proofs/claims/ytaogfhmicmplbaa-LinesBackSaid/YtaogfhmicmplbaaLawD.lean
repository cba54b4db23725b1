/- Proved here: the walk of the law LinesBack. -/
import Derived.Test.YtaogfhmicmplbaaLawC
namespace Go.Proofs.Ytaogfhmicmplbaa
open Go.RowKit
set_option linter.unusedVariables false

theorem split_count (l : List UInt8) : (splitL l).length = nlN l + (if openB (splitL l) = true then 1 else 0) := by
  rw [open_split]
  induction l with
  | nil => rfl
  | cons c r ih =>
    by_cases hc : c = 10
    · subst hc
      have hn : nlN (10 :: r) = nlN r + 1 := by simp [nlN]
      rw [splitL, if_pos rfl, List.length_cons, ih, hn]
      by_cases hr : r = []
      · subst hr; rfl
      · rw [ended_cons _ hr]
        simp [hr]
        omega
    · have hn : nlN (c :: r) = nlN r := by simp [nlN, hc]
      rw [splitL, if_neg hc, hn]
      cases h : splitL r with
      | nil =>
        have := splitL_nil h
        subst this
        simp [endedB, nlN, hc]
      | cons x xs =>
        rw [h] at ih
        have hr : r ≠ [] := by rintro rfl; simp [splitL] at h
        rw [ended_cons _ hr]
        simp only [List.length_cons] at ih ⊢
        rw [ih]
        simp [hr]

theorem rows_one (W : World) (A : Option Addr) (n c : Nat) (ss : List (List UInt8)) (hW : Strs W W.heap.size A n ss) :
    Rows2 (W.alloc (.cells #[.slice A n c] 24)) (W.alloc (.cells #[.slice A n c] 24)).heap.size (some ⟨W.heap.size, 0, none⟩) 1 [(A, n, c)] [ss] := by
  refine Rows2.new _ 1 _ rfl rfl rfl fun k r s' h1 h2 => ?_
  have hr : r = (A, n, c) := by
    have := List.mem_of_getElem? h1
    simpa using this
  have hs : s' = ss := by
    have := List.mem_of_getElem? h2
    simpa using this
  subst hr; subst hs
  exact hW

/-- lines.Join of one list, behind a draw. -/
theorem Join_one (W : World) (A : Option Addr) (n c : Nat) (ss : List (List UInt8)) (bs : List UInt8) (hbs : ss.flatten = bs) (hn : ss.length ≤ maxLen) (hl : bs.length ≤ 1000000000000) (hW : Strs W W.heap.size A n ss) :
    Calls Try.prog 15 #[.slice (some ⟨W.heap.size, 0, none⟩) 1 1] (W.alloc (.cells #[.slice A n c] 24)).drew fun e w' => ∃ A' n' c', e = .returned (.slice A' n' c') ∧ n' = bs.length ∧ n' ≤ c' ∧ c' ≤ maxLen ∧ Byts w' w'.heap.size A' n' bs ∧ Below W.heap.size W w' := by
  have hj : joinL [ss] = bs := by simp [joinL, hbs]
  refine (Join_at (some ⟨W.heap.size, 0, none⟩) 1 1 _ [ss] _ (by decide) (fun s' h => by rw [show s' = ss from by simpa using h]; exact hn) (by rw [hj]; exact hl) (rows_one W A n c ss hW).drew).mono ?_
  rintro e w' ⟨A', n', c', rfl, h1, h2, h3, h4, h5⟩
  rw [hj] at h1 h4
  exact ⟨A', n', c', rfl, h1, h2, h3, h4, ((Below.refl _ W).alloc (Nat.le_refl _) _).drew.trans (h5.mono (by simp))⟩

end Go.Proofs.Ytaogfhmicmplbaa

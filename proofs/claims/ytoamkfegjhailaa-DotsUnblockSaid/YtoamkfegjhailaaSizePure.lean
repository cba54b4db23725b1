/- Proved here, without conditions: plain facts on marks' sizes (layer 11): runs of signs; what fits. -/
import Derived.Test.YtoamkfegjhailaaContPure
namespace Go.Proofs.Ytoamkfegjhailaa
set_option linter.unusedVariables false

/-- Is a byte a marker sign? -/
def signB (c : UInt8) : Bool := c == 60 || c == 124 || c == 61 || c == 62
/-- How many bytes a text begins with that are the same marker sign. -/
def runN : Tx → Nat
  | [] => 0
  | c :: s => if signB c = true then 1 + (s.takeWhile fun x => x == c).length else 0
def maxR (n : Nat) (l : Txs) : Nat := l.foldl (fun n t => max n (runN t + 1)) n
def autoN (files : List Txs) : Nat := maxR 7 files.flatten
def fitsB (size : Int) (files : List Txs) : Bool := decide (1 ≤ size) && files.flatten.all fun t => decide ((runN t : Int) < size)

section
variable {n k : Nat} {l : Txs} {t s : Tx} {files a b : List Txs} {c : UInt8}
theorem run_cons (c : UInt8) (s : Tx) : runN (c :: s) = if signB c = true then 1 + (s.takeWhile fun x => x == c).length else 0 := rfl
theorem run_le : ∀ t : Tx, runN t ≤ t.length
  | [] => Nat.le_refl _
  | c :: s => by
    have h := (List.takeWhile_sublist (l := s) (fun x => x == c)).length_le
    rw [run_cons, List.length_cons]
    split <;> omega
theorem maxR_ge : ∀ {l : Txs} {n : Nat}, n ≤ maxR n l ∧ ∀ t ∈ l, runN t + 1 ≤ maxR n l
  | [], n => ⟨Nat.le_refl _, fun t h => by cases h⟩
  | t :: l, n => by
    obtain ⟨h1, h2⟩ := maxR_ge (l := l) (n := max n (runN t + 1))
    refine ⟨?_, fun x hx => ?_⟩
    · show n ≤ maxR (max n (runN t + 1)) l
      omega
    · show runN x + 1 ≤ maxR (max n (runN t + 1)) l
      rcases List.mem_cons.1 hx with rfl | hx
      · omega
      · exact h2 x hx
theorem maxR_is : ∀ {l : Txs} {n : Nat}, maxR n l = n ∨ ∃ t ∈ l, maxR n l = runN t + 1
  | [], n => .inl rfl
  | t :: l, n => by
    rcases maxR_is (l := l) (n := max n (runN t + 1)) with h | ⟨x, hx, h⟩
    · have e : maxR n (t :: l) = max n (runN t + 1) := h
      rcases Nat.le_total n (runN t + 1) with h' | h'
      · exact .inr ⟨t, List.mem_cons_self .., by rw [e, Nat.max_eq_right h']⟩
      · exact .inl (by rw [e, Nat.max_eq_left h'])
    · exact .inr ⟨x, List.mem_cons_of_mem _ hx, h⟩
theorem maxR_max : ∀ {l : Txs} {n m : Nat}, maxR (max n m) l = max n (maxR m l)
  | [], n, m => rfl
  | t :: l, n, m => by
    show maxR (max (max n m) (runN t + 1)) l = max n (maxR (max m (runN t + 1)) l)
    rw [Nat.max_assoc, maxR_max]
theorem maxR_append (n : Nat) (l m : Txs) : maxR n (l ++ m) = maxR (maxR n l) m := by unfold maxR; rw [List.foldl_append]
/-- OF MORE FILES IT IS THE GREATER ONE. -/
theorem auto_more : autoN (a ++ b) = max (autoN a) (autoN b) := by
  unfold autoN
  rw [List.flatten_append, maxR_append]
  have h := (maxR_ge (l := a.flatten) (n := 7)).1
  conv => lhs; rw [show maxR 7 a.flatten = max (maxR 7 a.flatten) 7 by omega]
  exact maxR_max
theorem auto_ge : 7 ≤ autoN files := maxR_ge.1
theorem fits_iff {z : Int} : fitsB z files = true ↔ 1 ≤ z ∧ ∀ t ∈ files.flatten, (runN t : Int) < z := by
  unfold fitsB
  rw [Bool.and_eq_true, decide_eq_true_eq, List.all_eq_true]
  exact ⟨fun h => ⟨h.1, fun t ht => by simpa using h.2 t ht⟩, fun h => ⟨h.1, fun t ht => by simpa using h.2 t ht⟩⟩
/-- WHAT IS TOLD FITS, AND ALL THAT IS LONGER; WHAT IS SHORTER DOESN'T. -/
theorem fits_auto (k : Nat) : fitsB ((autoN files : Int) + k) files = true := fits_iff.2 ⟨by have := auto_ge (files := files); omega, fun t ht => by
  have := (maxR_ge (l := files.flatten) (n := 7)).2 t ht
  unfold autoN
  omega⟩
theorem fits_less (h : autoN files ≠ 7) : fitsB ((autoN files : Int) - 1) files = false := by
  rcases maxR_is (l := files.flatten) (n := 7) with h' | ⟨t, ht, h'⟩
  · exact absurd h' h
  · cases hf : fitsB ((autoN files : Int) - 1) files with
    | false => rfl
    | true =>
      have := (fits_iff.1 hf).2 t ht
      unfold autoN at this
      omega
theorem takeW_take (P : UInt8 → Bool) : ∀ (s : Tx) (k : Nat), ((s.take k).takeWhile P).length = min k (s.takeWhile P).length
  | [], k => by simp
  | x :: s, 0 => by simp
  | x :: s, k + 1 => by
    have := takeW_take P s k
    rw [List.take_succ_cons, List.takeWhile_cons, List.takeWhile_cons]
    split
    · rw [List.length_cons, List.length_cons, this]; omega
    · simp
theorem run_take : ∀ (t : Tx) (k : Nat), runN (t.take k) = min k (runN t)
  | [], k => by simp [runN]
  | c :: s, 0 => by simp [runN]
  | c :: s, k + 1 => by
    rw [List.take_succ_cons, run_cons, run_cons]
    split
    · rw [takeW_take]; omega
    · simp
theorem run_marks (hc : signB c = true) : ∀ (k : Nat), k ≤ runN (List.replicate k c ++ s)
  | 0 => Nat.zero_le _
  | k + 1 => by
    rw [List.replicate_succ, List.cons_append, run_cons, if_pos hc]
    have : ∀ k : Nat, k ≤ ((List.replicate k c ++ s).takeWhile fun x => x == c).length := by
      intro k
      induction k with
      | zero => exact Nat.zero_le _
      | succ k ih =>
        rw [List.replicate_succ, List.cons_append, List.takeWhile_cons, if_pos (by simp), List.length_cons]
        omega
    have := this k
    omega
/-- A MARK OF A SIZE THAT FITS IS THE BEGIN OF NO TEXT. -/
theorem fits_mark (h : fitsB k files = true) (ht : t ∈ files.flatten) : runN (t.take k) ≠ k ∨ t.length < k := by
  have h1 := (fits_iff.1 h).2 t ht
  rw [run_take]
  left
  omega
theorem fits_begin (hc : signB c = true) : fitsB k (files ++ [[List.replicate k c ++ s]]) = false := by
  cases hf : fitsB k (files ++ [[List.replicate k c ++ s]]) with
  | false => rfl
  | true =>
    have h1 := (fits_iff.1 hf).2 (List.replicate k c ++ s) (by simp)
    have h2 := run_marks (s := s) hc k
    omega
end
end Go.Proofs.Ytoamkfegjhailaa

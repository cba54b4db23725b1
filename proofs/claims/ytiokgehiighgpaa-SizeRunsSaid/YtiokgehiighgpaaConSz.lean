/- What the statements ask of package size; few texts are small ones. -/
import Derived.Test.YtiokgehiighgpaaSzSm
import Derived.Test.YtiokgehiighgpaaContFew
namespace Go.Proofs.Ytiokgehiighgpaa
open Go.RowKit
set_option linter.unusedVariables false
set_option maxRecDepth 100000

/-- The contract of size.Run. -/
def SizeRunOk : Prop := ∀ (t : Tx) (w : World), t.length ≤ 1000000 → Calls Try.prog 9 #[.string (str t)] w fun e w' => e = .returned (.int .i64 (runN t)) ∧ Below w.heap.size w w'
/-- The contract of size.Auto. -/
def SizeAutoOk : Prop := ∀ (A : Option Addr) (n c : Nat) (rows : List Slc) (files : List (List Tx)) (w : World), n ≤ c → c ≤ maxLen → smallF files → RowsT w w.heap.size A n rows files →
    Calls Try.prog 12 #[.slice A n c] w fun e w' => e = .returned (.int .i64 (autoN files)) ∧ Below w.heap.size w w'
/-- The contract of size.Fits. -/
def SizeFitsOk : Prop := ∀ (z : Int) (A : Option Addr) (n c : Nat) (rows : List Slc) (files : List (List Tx)) (w : World), -9223372036854775808 ≤ z → z ≤ 9223372036854775807 → n ≤ c → c ≤ maxLen → smallF files → RowsT w w.heap.size A n rows files →
    Calls Try.prog 14 #[.int .i64 z, .slice A n c] w fun e w' => e = .returned (.bool (fitsB z files)) ∧ Below w.heap.size w w'
structure SizeOk : Prop where
  run_ok : SizeRunOk
  auto_ok : SizeAutoOk
  fits_ok : SizeFitsOk

theorem few_smallF {files : List (List Tx)} (h : fewT [] files = true) : smallF files := by
  obtain ⟨-, h1, h2⟩ := fewT_parts h
  refine ⟨by omega, fun f hf => ⟨by have := h2 f hf; omega, fun t ht => ?_⟩⟩
  unfold fewT at h
  rw [Bool.and_eq_true] at h
  have h3 := h.2
  rw [List.take_of_length_le (by omega), List.all_eq_true] at h3
  have h4 := h3 f hf
  unfold fewB at h4
  rw [Bool.and_eq_true, decide_eq_true_eq, List.take_of_length_le (by have := h2 f hf; omega), List.all_eq_true] at h4
  have := h4.2 t ht
  simp at this
  omega
end Go.Proofs.Ytiokgehiighgpaa

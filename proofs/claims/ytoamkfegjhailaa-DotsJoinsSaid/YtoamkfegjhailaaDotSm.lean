/- Texts that aren't too many, nor too long (layers 15 and 16). -/
import Derived.Test.YtoamkfegjhailaaDotPure
import Derived.Test.YtoamkfegjhailaaTxtRef
import Derived.Test.YtoamkfegjhailaaTxO
namespace Go.Proofs.Ytoamkfegjhailaa
open Go.RowKit
set_option linter.unusedVariables false
set_option maxRecDepth 100000

/-- Texts that aren't too many, nor too long. -/
def smallD (l : Txs) : Prop := l.length ≤ 100000 ∧ ∀ s ∈ l, s.length ≤ 1000000
/-- Texts that a call tells, and a bool. -/
def TxsB (w w' : World) (e : Ending) (x : Txs × Bool) : Prop := ∃ A n c, e = .returned (.tuple #[.slice A n c, .bool x.2]) ∧ TxR w' w'.heap.size (A, n, c) x.1 ∧ Below w.heap.size w w'
/-- Texts that a call tells, and a number. -/
def TxsN (w w' : World) (e : Ending) (x : Txs × Nat) : Prop := ∃ A n c, e = .returned (.tuple #[.slice A n c, .int .i64 (x.2 : Int)]) ∧ TxR w' w'.heap.size (A, n, c) x.1 ∧ Below w.heap.size w w'
theorem few_D {l : Txs} {k : Nat} (h : fewB l k = true) (hk : k ≤ 100000) : smallD l := by
  unfold fewB at h
  rw [Bool.and_eq_true, decide_eq_true_eq] at h
  refine ⟨by omega, fun t ht => ?_⟩
  have h2 := h.2
  rw [List.take_of_length_le (by omega), List.all_eq_true] at h2
  have := h2 t ht
  simp at this
  omega
theorem dotT_len (s : Tx) : (dotT s).length ≤ s.length + 1 := by unfold dotT; split <;> simp
theorem bareT_len (s : Tx) : (bareT s).length ≤ s.length := by unfold bareT; split <;> simp
theorem small_block {l : Txs} {k : Nat} (h : l.length ≤ 50000) (hs : ∀ s ∈ l, s.length ≤ 900000) : smallD (blockD l) := by
  refine ⟨by rw [block_len]; omega, fun s hs2 => ?_⟩
  unfold blockD at hs2
  rcases List.mem_append.1 hs2 with h1 | h1
  · obtain ⟨t, ht, rfl⟩ := List.mem_map.1 h1
    have := dotT_len t
    have := hs t ht
    omega
  · rw [List.mem_singleton.1 h1]
    simp [endD]
end Go.Proofs.Ytoamkfegjhailaa

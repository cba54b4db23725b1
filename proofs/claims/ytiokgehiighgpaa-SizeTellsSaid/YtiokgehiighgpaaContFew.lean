/- Proved here, without conditions on the program: few texts. -/
import Derived.Test.YtiokgehiighgpaaTxtFew
import Derived.Test.YtiokgehiighgpaaContPure
import Derived.Test.YtiokgehiighgpaaSteps
namespace Go.Proofs.Ytiokgehiighgpaa
open Go.RowKit
set_option linter.unusedVariables false

/-- A base, and 6 parts, of 20 texts of 100 bytes, at most. -/
def fewT (base : Txs) (parts : List Txs) : Bool := fewB base 20 && decide (parts.length ≤ 6) && (parts.take 7).all fun f => fewB f 20
theorem fewB_len {ss : Txs} {m : Nat} (h : fewB ss m = true) : ss.length ≤ m := by
  unfold fewB at h
  simp at h
  exact h.1
theorem fewT_parts {base : Txs} {parts : List Txs} (h : fewT base parts = true) : base.length ≤ 20 ∧ parts.length ≤ 6 ∧ ∀ f ∈ parts, f.length ≤ 20 := by
  unfold fewT at h
  rw [Bool.and_eq_true, Bool.and_eq_true, decide_eq_true_eq] at h
  obtain ⟨⟨h1, h2⟩, h3⟩ := h
  refine ⟨fewB_len h1, h2, fun f hf => ?_⟩
  rw [List.take_of_length_le (by omega), List.all_eq_true] at h3
  exact fewB_len (h3 f hf)
theorem fewB_txs {ss : Txs} {m : Nat} (h : fewB ss m = true) : ∀ s ∈ ss, s.length ≤ 100 := by
  have hl := fewB_len h
  unfold fewB at h
  rw [Bool.and_eq_true, List.all_eq_true] at h
  intro s hs
  have := h.2 s (by rw [List.take_of_length_le (by omega)]; exact hs)
  simpa using this
theorem fewT_txs {base : Txs} {parts : List Txs} (h : fewT base parts = true) : (∀ s ∈ base, s.length ≤ 100) ∧ ∀ f ∈ parts, ∀ s ∈ f, s.length ≤ 100 := by
  unfold fewT at h
  rw [Bool.and_eq_true, Bool.and_eq_true, decide_eq_true_eq] at h
  obtain ⟨⟨h1, h2⟩, h3⟩ := h
  refine ⟨fewB_txs h1, fun f hf => ?_⟩
  rw [List.take_of_length_le (by omega), List.all_eq_true] at h3
  exact fewB_txs (h3 f hf)
theorem fewT_step {files : List Txs} {k : Nat} {f : Txs} (hq : (files.take k).all (fun f => fewB f 20) = true) (ht : files[k]? = some f) (h : fewB f 20 = true) : (files.take (k + 1)).all (fun f => fewB f 20) = true := by
  rw [take_at ht, List.all_append, hq]
  simp [h]
theorem fewT_no {base : Txs} {files : List Txs} {k : Nat} {f : Txs} (hk : k < 7) (ht : files[k]? = some f) (h : fewB f 20 = false) : false = fewT base files := by
  unfold fewT
  have hm : f ∈ files.take 7 := List.mem_of_getElem? (i := k) (by rw [List.getElem?_take]; rw [if_pos hk]; exact ht)
  rw [eq_comm, Bool.and_eq_false_iff]
  right
  rw [Bool.eq_false_iff, ne_eq, List.all_eq_true]
  intro ha
  rw [ha f hm] at h
  cases h
theorem fewT_end {base : Txs} {files : List Txs} {k n : Nat} (hl : files.length = n) (h : k = n ∨ 7 ≤ k ∧ k < n) (hq : (files.take k).all (fun f => fewB f 20) = true) : (fewB base 20 && decide (n ≤ 6)) = fewT base files := by
  unfold fewT
  rw [hl]
  by_cases hm : n ≤ 6
  · have : k = n := by omega
    subst this
    rw [List.take_of_length_le (by omega)] at hq
    rw [List.take_of_length_le (by omega), hq]
    simp
  · simp [hm]

end Go.Proofs.Ytiokgehiighgpaa

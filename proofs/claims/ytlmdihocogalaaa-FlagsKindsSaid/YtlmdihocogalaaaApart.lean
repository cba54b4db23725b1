/- Proved here, without conditions: rows, and boxes, of different types lie in different blocks. -/
import Derived.Test.YtlmdihocogalaaaMore
namespace Go.Proofs.Ytlmdihocogalaaa
open Go.RowKit
set_option linter.unusedVariables false

/-- Two rows of different types. -/
theorem rows_apart {w : World} {b1 b2 n m s1 s2 : Nat} {e1 e2 : TypeId} {v u : Value} {xs ys : List Value} (h : w.ownsRow b1 e1 s1 v n xs) (k : w.ownsRow b2 e2 s2 u m ys) (hne : e1 ≠ e2) : ∀ j, v.ownBlock = some j → u.ownBlock ≠ some j := by
  intro j hj e
  rcases h.2 with ⟨rfl, _⟩ | ⟨g, cap, cur, rfl, _, hg, _⟩
  · simp [Value.ownBlock] at hj
  · rcases k.2 with ⟨rfl, _⟩ | ⟨g', cap', cur', rfl, _, hg', _⟩
    · simp [Value.ownBlock] at e
    · simp only [Value.ownBlock, Option.some.injEq] at e hj
      rw [e, ← hj, hg] at hg'
      injection hg' with hg'
      simp at hg'
      exact hne hg'.2
theorem cells_not_row {W : World} {L : Nat} {C : Array Value} {t e : TypeId} (h : W.heap[L]? = some (.cells C t (0, 0))) (hte : t ≠ e) {base size k : Nat} {v : Value} {xs : List Value} (hr : W.ownsRow base e size v k xs) : v.ownBlock ≠ some L := by
  rcases hr.2 with ⟨rfl, _⟩ | ⟨g, cap, cur, rfl, _, hgb, _⟩
  · simp [Value.ownBlock]
  · intro e'
    obtain rfl : g = L := by simpa [Value.ownBlock] using e'
    have := h.symm.trans hgb
    simp at this
    exact hte this.2
theorem box_ne {W : World} {a b : Nat} {C D : Array Value} {s t : TypeId} (h : W.heap[a]? = some (.cells C s (0, 0))) (k : W.heap[b]? = some (.cells D t (0, 0))) (hne : s ≠ t) : a ≠ b := by
  rintro rfl
  have := h.symm.trans k
  simp at this
  exact hne this.2
end Go.Proofs.Ytlmdihocogalaaa

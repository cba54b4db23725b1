/- Proved here, without conditions: files whose texts aren't too long; the greatest run as it is reckoned. -/
import Derived.Test.YtiokgehiighgpaaSzRef
namespace Go.Proofs.Ytiokgehiighgpaa
open Go.RowKit
set_option linter.unusedVariables false
set_option maxRecDepth 100000

/-- Files whose texts aren't too long. -/
def smallF (files : List (List Tx)) : Prop := files.length ≤ 1000000 ∧ ∀ f ∈ files, f.length ≤ 10000 ∧ ∀ t ∈ f, t.length ≤ 1000000
theorem maxR_one (n : Nat) (t : Tx) : maxR n [t] = max n (runN t + 1) := rfl
theorem maxR_up {l : List Tx} {n m : Nat} (h : ∀ t ∈ l, t.length ≤ m) (hn : n ≤ m + 1) : maxR n l ≤ m + 1 := by
  rcases maxR_is (l := l) (n := n) with e | ⟨t, ht, e⟩
  · omega
  · have := run_le t
    have := h t ht
    omega
theorem flatF_take {files : List (List Tx)} {i : Nat} {f : List Tx} (h : files[i]? = some f) : (files.take (i + 1)).flatten = (files.take i).flatten ++ f := by
  rw [take_at h, List.flatten_append]
  simp
end Go.Proofs.Ytiokgehiighgpaa

/- What the statements ask of pick.Same. -/
import Derived.Test.YtfennjefkfblgaaPcOut
namespace Go.Proofs.Ytfennjefkfblgaa
open Go.RowKit
set_option linter.unusedVariables false

/-- The contract of pick.Same. -/
def PickSameOk : Prop := ∀ (A A' : Option Addr) (n n' c c' : Nat) (vs vs' : List PcV) (xs ys : List Pc) (w : World), n ≤ c → c ≤ maxLen → n ≤ 10000 → n' ≤ c' → c' ≤ maxLen → n' ≤ 10000 → Pcs w w.heap.size A n vs xs → Pcs w w.heap.size A' n' vs' ys →
    Calls Try.prog 24 #[.slice A n c, .slice A' n' c'] w fun e w' => e = .returned (.bool (decide (xs = ys))) ∧ Below w.heap.size w w'
end Go.Proofs.Ytfennjefkfblgaa

/- What the statements ask of pick.Clean. -/
import Derived.Test.YtfennjefkfblgaaPcOut
namespace Go.Proofs.Ytfennjefkfblgaa
open Go.RowKit
set_option linter.unusedVariables false

/-- The contract of pick.Clean. -/
def PickCleanOk : Prop := ∀ (A : Option Addr) (n c : Nat) (vs : List PcV) (ps : List Pc) (w : World), n ≤ c → c ≤ maxLen → n ≤ 10000 → Pcs w w.heap.size A n vs ps →
    Calls Try.prog 14 #[.slice A n c] w fun e w' => e = .returned (.bool (cleanB ps)) ∧ Below w.heap.size w w'
end Go.Proofs.Ytfennjefkfblgaa

/- What the statements ask of pick.Choose. -/
import Derived.Test.YtfennjefkfblgaaPcOut
namespace Go.Proofs.Ytfennjefkfblgaa
open Go.RowKit
set_option linter.unusedVariables false

/-- The contract of pick.Choose. -/
def PickChooseOk : Prop := ∀ (A : Option Addr) (n c : Nat) (vs : List PcV) (ps : List Pc) (z : Int) (w : World), n ≤ c → c ≤ maxLen → n ≤ 10000 → inR64 z → (choose ps z).length ≤ 1000000 → Pcs w w.heap.size A n vs ps →
    Calls Try.prog 19 #[.slice A n c, .int .i64 z] w fun e w' => TxsOut w w' e (choose ps z)
end Go.Proofs.Ytfennjefkfblgaa

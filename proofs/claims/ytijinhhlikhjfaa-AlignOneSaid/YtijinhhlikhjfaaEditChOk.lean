/- What the statements ask of package edit's Changes. -/
import Derived.Test.YtijinhhlikhjfaaChs
import Derived.Test.YtijinhhlikhjfaaChecked
namespace Go.Proofs.Ytijinhhlikhjfaa
open Go.RowKit
set_option linter.unusedVariables false

/-- The contract of Changes. -/
def ChangesOk : Prop := ∀ (A : Option Addr) (n c : Nat) (l : List Int) (N : Int) (w : World), n ≤ c → c ≤ maxLen → inR N → NumsR l → Nums w w.heap.size A n l →
    Calls Try.prog 16 #[.slice A n c, .int .i64 N] w fun e w' => ChOut w w' e (chErr l N) (chRes l N)
end Go.Proofs.Ytijinhhlikhjfaa

/- What the statements ask of dots.Block. -/
import Derived.Test.YtoamkfegjhailaaDotSm
namespace Go.Proofs.Ytoamkfegjhailaa
open Go.RowKit
set_option linter.unusedVariables false
set_option maxRecDepth 100000

/-- The contract of dots.Block. -/
def DotBlockOk : Prop := ∀ (A : Option Addr) (n c : Nat) (l : Txs) (w : World), smallD l → TxR w w.heap.size (A, n, c) l → Calls Try.prog 10 #[.slice A n c] w fun e w' => TxsB w w' e (blockD l, dottedB l)
end Go.Proofs.Ytoamkfegjhailaa

/- What the statements ask of package dots. -/
import Derived.Test.YtoamkfegjhailaaConDtB
namespace Go.Proofs.Ytoamkfegjhailaa
open Go.RowKit
set_option linter.unusedVariables false
set_option maxRecDepth 100000

/-- The contracts of dots.Unblock, Strip. -/
def DotUnblockOk : Prop := ∀ (A : Option Addr) (n c : Nat) (l : Txs) (w : World), smallD l → TxR w w.heap.size (A, n, c) l → Calls Try.prog 16 #[.slice A n c] w fun e w' => TxsN w w' e (unblockD [] 0 l)
def DotStripOk : Prop := ∀ (A : Option Addr) (n c : Nat) (l : Txs) (w : World), smallD l → TxR w w.heap.size (A, n, c) l → Calls Try.prog 11 #[.slice A n c] w fun e w' => TxsB w w' e (stripD l, dottedB l)
structure DotsOk : Prop where
  block_ok : DotBlockOk
  unblock_ok : DotUnblockOk
  strip_ok : DotStripOk

end Go.Proofs.Ytoamkfegjhailaa

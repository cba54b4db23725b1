/- Proved here: the contracts of the landed package edit: Changes, Match, Swap. -/
import Derived.Test.YtjbgiaekckdoaaaEditMt
import Derived.Test.YtjbgiaekckdoaaaEditSw
namespace Go.Proofs.Ytjbgiaekckdoaaa
open Go.RowKit
set_option linter.unusedVariables false

theorem edit_ok : EditOk where
  changes_ok := fun A n c l N w h1 h2 hN _ hA => callsIn_wide.1 (Changes_in 6 (Nat.le_refl _) A n c l N w h1 h2 hN hA)
  match_ok := fun A n c l M N w h1 h2 h3 hM hN _ hA => callsIn_wide.1 (Match_in 7 (Nat.le_refl _) A n c l M N w h1 h2 h3 hM hN hA)
  swap_ok := fun A n c l w h1 h2 h3 hA => swap_any A n c l w h1 h2 h3 hA
end Go.Proofs.Ytjbgiaekckdoaaa

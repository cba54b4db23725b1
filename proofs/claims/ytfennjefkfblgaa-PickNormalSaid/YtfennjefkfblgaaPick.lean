/- Proved here: all that the laws of layer 7 ask of the landed package pick. -/
import Derived.Test.YtfennjefkfblgaaPkSame
import Derived.Test.YtfennjefkfblgaaPkClean
import Derived.Test.YtfennjefkfblgaaPkChoose
import Derived.Test.YtfennjefkfblgaaPkPiece
import Derived.Test.YtfennjefkfblgaaPkNorm
import Derived.Test.YtfennjefkfblgaaPickOk
namespace Go.Proofs.Ytfennjefkfblgaa
open Go.RowKit
set_option linter.unusedVariables false

/-- All that the laws of layer 7 ask of package pick. -/
theorem pick_ok : PickOk where
  piece_ok := piece_ok
  normal_ok := normal_ok
  clean_ok := clean_ok
  choose_ok := choose_ok
  same_ok := same_ok
end Go.Proofs.Ytfennjefkfblgaa

/- Proved here: the contract of content.Kind, as the statement FlagsContent asks it. -/
import Derived.Test.YtlmdihocogalaaaFlLawE
import Derived.Test.YtlmdihocogalaaaContDf
namespace Go.Proofs.Ytlmdihocogalaaa
open Go.RowKit
set_option linter.unusedVariables false
set_option maxRecDepth 100000

theorem ck_ok : ContKindOk := fun A0 n0 c0 base A n c rows parts w _ _ hn h0 hA => kind_any A0 n0 c0 base A n c rows parts w hn h0 hA
end Go.Proofs.Ytlmdihocogalaaa

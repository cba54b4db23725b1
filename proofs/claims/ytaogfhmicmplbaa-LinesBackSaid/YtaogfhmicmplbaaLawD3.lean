/- Proved here: the walk of the law LinesBack. -/
import Derived.Test.YtaogfhmicmplbaaLawD1
import Derived.Test.YtaogfhmicmplbaaLawD2
namespace Go.Proofs.Ytaogfhmicmplbaa
open Go.RowKit
set_option linter.unusedVariables false

set_option maxHeartbeats 600000 in
theorem LinesBack_walk (A : Option Addr) (n c : Nat) (bs : List UInt8) (w : World) (hz : ArgByts w A n c bs) :
    Calls Try.prog 4 #[.slice A n c] w fun e w' => e = .returned (.bool true) ∧ Below w.heap.size w w' := by
  obtain ⟨hnc, hcm, hA⟩ := hz
  have hlen := hA.len
  by_cases h300 : n ≤ 300
  · by_cases ho : openB (splitL bs) = true
    · exact LinesBack_open A n c bs w ⟨hnc, hcm, hA⟩ h300 ho
    · exact LinesBack_shut A n c bs w ⟨hnc, hcm, hA⟩ h300 (by simpa using ho)
  · have hi : (300 : Int) < (n : Int) := by omega
    go_enter Try.func4, Try.ntmps4
    go_wp2_with (go_at_call 8; refine (awake_any _).mono ?_; rintro e w1 ⟨rfl, hB1⟩)
    go_ret
    exact ⟨rfl, hB1⟩
end Go.Proofs.Ytaogfhmicmplbaa

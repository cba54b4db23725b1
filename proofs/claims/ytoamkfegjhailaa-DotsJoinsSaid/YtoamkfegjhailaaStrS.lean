/- Proved here, without conditions: a string cut ahead, or behind. -/
import Derived.Test.YtoamkfegjhailaaContPure
import Derived.Test.YtoamkfegjhailaaTxts
import Derived.Laws.Slices
import Derived.Test.YtoamkfegjhailaaChecked
import Derived.WalkKit
namespace Go.Proofs.Ytoamkfegjhailaa
open Go.RowKit
set_option linter.unusedVariables false

theorem slice_str_from (t : Tx) (k : Nat) (hk : k ≤ t.length) (W : World) : (Instr.slice 9 (.string (str t)) (some (.int .i64 (k : Int))) none none).run Try.prog W = .ok (.string (str (t.drop k))) W := by
  rw [run_slice_string_l (P := Try.prog) W 9 (str t) Try.underlying9 .i64 (k : Int) (by omega) (by rw [str_size]; omega), Int.toNat_natCast]
  congr 2
  apply ByteArray.ext
  simp [str, ByteArray.extract, ByteArray.copySlice]
  show List.take (t.length - k) _ = _
  rw [List.take_of_length_le (by rw [List.length_drop]; exact Nat.le_refl _)]
theorem str_take (t : Tx) (k : Nat) (hk : k ≤ t.length) : (str t).extract 0 k = str (t.take k) := by
  apply ByteArray.ext
  simp [str, ByteArray.extract, ByteArray.copySlice, hk]
theorem slice_str_to (t : Tx) (k : Nat) (hk : k ≤ t.length) (W : World) : (Instr.slice 9 (.string (str t)) none (some (.int .i64 (k : Int))) none).run Try.prog W = .ok (.string (str (t.take k))) W := by
  rw [run_slice_string_h (P := Try.prog) W 9 (str t) Try.underlying9 .i64 (k : Int) (by omega) (by rw [str_size]; omega), Int.toNat_natCast, str_take t k hk]
end Go.Proofs.Ytoamkfegjhailaa

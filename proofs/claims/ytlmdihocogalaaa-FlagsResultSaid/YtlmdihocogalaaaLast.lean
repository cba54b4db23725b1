/- Proved here, without conditions on the program: the last byte of a string. (NOT beside stage 1's Lines, which has the same name.) -/
import Derived.Test.YtlmdihocogalaaaTxts
import Derived.Test.YtlmdihocogalaaaChecked
import Derived.Test.YtlmdihocogalaaaPure
import Derived.WalkLawsBesides
import Derived.Deep.QuietTactic
import Derived.BigQuiet
import Derived.Lib.Hide
namespace Go.Proofs.Ytlmdihocogalaaa
open Go.RowKit
set_option linter.unusedVariables false

theorem last_byte (s : ByteArray) (h : 1 ≤ s.size) (k : Nat) (hk : k = s.size - 1) (h' : k < s.size) : endedB s.data.toList = (((s[k]'h').toNat : Int) == 10) := by
  subst hk
  have e : s.data.toList.getLast? = some (s[s.size - 1]'h') := by
    rw [List.getLast?_eq_getElem?]
    have hz : s.data.toList.length = s.size := (Lib.size_eq s).symm
    rw [hz, List.getElem?_eq_getElem (by omega)]
    rfl
  unfold endedB
  rw [e, Bool.eq_iff_iff]
  simp only [beq_iff_eq, Option.some.injEq]
  constructor
  · intro h; rw [h]; rfl
  · intro h; exact UInt8.toNat_inj.1 (by simpa using (by exact_mod_cast h : (s[s.size - 1]'h').toNat = 10))
end Go.Proofs.Ytlmdihocogalaaa

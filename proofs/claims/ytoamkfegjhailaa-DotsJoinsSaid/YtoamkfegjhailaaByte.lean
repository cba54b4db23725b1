/- Proved here, without a word of the program: a byte held against a number. -/
import Derived.Test.YtoamkfegjhailaaWords
namespace Go.Proofs.Ytoamkfegjhailaa
set_option linter.unusedVariables false

theorem byte_is {c : UInt8} {n : Nat} (hn : n < 256) : ((c.toNat : Int) == (n : Int)) = (c == UInt8.ofNat n) := by
  rw [Bool.eq_iff_iff, beq_iff_eq, beq_iff_eq]
  constructor
  · intro h
    have h' : c.toNat = n := by exact_mod_cast h
    exact UInt8.toNat_inj.1 (by rw [h', UInt8.toNat_ofNat']; omega)
  · intro h
    subst h
    rw [UInt8.toNat_ofNat']
    congr 1
    omega
theorem byte_at (s : ByteArray) (k : Nat) (h : k < s.size) : s.data.toList[k]? = some s[k] := by
  rw [List.getElem?_eq_getElem (by simpa using h)]
  rfl
end Go.Proofs.Ytoamkfegjhailaa

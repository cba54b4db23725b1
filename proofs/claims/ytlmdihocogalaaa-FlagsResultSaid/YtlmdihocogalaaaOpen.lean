/- Proved here: the contract of the document's own answer Open of layer 1 (for strings of at most maxLen bytes); for stages behind the first: NOT beside stage 1's Lines and Ref, which have the same names. -/
import Derived.Test.YtlmdihocogalaaaLast
import Derived.Test.YtlmdihocogalaaaChecked
import Derived.Test.YtlmdihocogalaaaPure
import Derived.WalkLawsBesides
import Derived.Deep.QuietTactic
import Derived.BigQuiet
import Derived.Lib.Hide
namespace Go.Proofs.Ytlmdihocogalaaa
open Go.RowKit
set_option linter.unusedVariables false

set_option maxHeartbeats 400000 in
theorem rOpen_any (A : Option Addr) (n c B : Nat) (ss : List (List UInt8)) (w : World) (hn : n ≤ maxLen) (hs : ∀ s ∈ ss, s.length ≤ maxLen) (hA : Strs w B A n ss) :
    Calls Try.prog 30 #[.slice A n c] w fun e w' => e = .returned (.bool (openB ss)) ∧ w = w' := by
  unfold maxLen at hn
  have hl := hA.len
  by_cases h0 : n = 0
  · subst h0
    go_enter Try.func30, Try.ntmps30
    go_wp2
    go_ret
    obtain rfl : ss = [] := List.eq_nil_of_length_eq_zero hl
    exact ⟨rfl, rfl⟩
  · obtain ⟨b, o, t, rfl, _, ht, hc⟩ := hA.at_ (k := n - 1) (by omega)
    have htl : t.length ≤ maxLen := hs t (List.mem_of_getElem? ht)
    unfold maxLen at htl
    have hres : Hid ((!endedB t) = openB ss) := Lib.hid <| by
      unfold openB; rw [List.getLast?_eq_getElem?, hl, ht]
    have h1 : (1 : Int) ≤ n := by omega
    have hd : (((n : Int)) == 0) = false := by simp; omega
    by_cases hz : (str t).size = 0
    · have hzz : ((((str t).size : Nat) : Int) == 0) = true := by rw [hz]; rfl
      have hz' := Lib.hid hz
      clear hz
      go_enter Try.func30, Try.ntmps30
      go_wp2
      go_ret
      refine ⟨ret_bool ?_, rfl⟩
      rw [← hres.out]
      have := hz'.out
      rw [str_size] at this
      rw [List.eq_nil_of_length_eq_zero this]; rfl
    · have hzz : ((((str t).size : Nat) : Int) == 0) = false := by rw [beq_eq_false_iff_ne]; omega
      have hp : 1 ≤ (str t).size := by omega
      have hsl : (str t).size ≤ 9223372036854775807 := by rw [str_size]; omega
      have hlb := Lib.hid (last_byte (str t) hp _ rfl (by omega))
      go_enter Try.func30, Try.ntmps30
      go_wp2
      go_ret
      refine ⟨ret_bool ?_, rfl⟩
      have h2 := hlb.out
      rw [str_data] at h2
      rw [← hres.out, h2]
      rfl
end Go.Proofs.Ytlmdihocogalaaa

/- Proved here: what the statement FlagsDoes says, by the contracts of package flags. -/
import Derived.Test.YtlmdihocogalaaaFlAwk
import Derived.Test.YtlmdihocogalaaaFlKind
namespace Go.Proofs.Ytlmdihocogalaaa
open Go.RowKit
set_option linter.unusedVariables false
set_option maxRecDepth 100000

section
variable (H : FlagsOk)
include H

set_option maxHeartbeats 4000000 in
theorem FlagsDoes_walk (y : Nat) (k : Int) (w : World) (hy : y ≤ 255) (hk : inR64 k) :
    Calls Try.prog 4 #[.int .u8 (y : Int), .int .i64 k] w fun e w' => e = .returned (.bool true) ∧ Below w.heap.size w w' := by
  obtain ⟨c, rfl⟩ : ∃ c : UInt8, c.toNat = y := ⟨UInt8.ofNat y, by simp; omega⟩
  have haw := Lib.hid (flAwake_any H w)
  have hK := Lib.hid (fun W : World => H.known_ok c W)
  have hD := Lib.hid (fun W : World => H.does_ok c k W hk)
  have hRK := Lib.hid (fun W : World => rfKnown_any c W)
  have hRD := Lib.hid (fun W : World => rfDoes_any c k W hk)
  have hz : knownB c = false → doesF c k = 0 := fun h => does_unknown h
  obtain ⟨d, hd⟩ : ∃ d, doesF c k = d := ⟨_, rfl⟩
  obtain ⟨kn, hkn⟩ : ∃ kn, knownB c = kn := ⟨_, rfl⟩
  rw [hd] at hD hRD hz
  rw [hkn] at hK hRK hz
  have hdd : ((d : Int) == (d : Int)) = true := by simp
  clear hd hkn hk hy
  cases kn
  case' false =>
    obtain rfl : d = 0 := hz rfl
  all_goals
    clear hz
    go_enter Try.func4, Try.ntmps4
    go_wp2_with (first
      | (go_at_call 8; refine haw.out.mono ?_; rintro e w1 ⟨rfl, hb1⟩; have hB1 := Lib.hid hb1; have tok1 := trivial; clear hb1)
      | (go_at_call 12; have _t := tok1; refine (hK.out _).mono ?_; rintro e w2 ⟨rfl, q2⟩; have hB2 := Lib.hid (hB1.out.trans (q2.mono hB1.out.size)); have tok2 := trivial; clear q2 tok1)
      | (go_at_call 13; refine (hRK.out _).mono ?_; rintro e w3 ⟨rfl, hww⟩; have hws := hww.symm; clear hww; subst hws)
      | (go_at_call 14; have _t := tok2; refine (hD.out _).mono ?_; rintro e w4 ⟨rfl, q4⟩; have hB4 := Lib.hid (hB2.out.trans (q4.mono hB2.out.size)); have tok4 := trivial; clear q4 tok2)
      | (go_at_call 15; refine (hRD.out _).mono ?_; rintro e w5 ⟨rfl, hww⟩; have hws := hww.symm; clear hww; subst hws)
      | (go_at_call 12; have _t := tok4; refine (hK.out _).mono ?_; rintro e w6 ⟨rfl, q6⟩; have hB6 := Lib.hid (hB4.out.trans (q6.mono hB4.out.size)); have tok6 := trivial; clear q6 tok4)
      | (go_at_call 14; have _t := tok6; refine (hD.out _).mono ?_; rintro e w7 ⟨rfl, q7⟩; have hB7 := Lib.hid (hB6.out.trans (q7.mono hB6.out.size)); clear q7 tok6))
    go_ret
    exact ⟨rfl, by first | exact hB7.out | exact hB6.out⟩
end
end Go.Proofs.Ytlmdihocogalaaa

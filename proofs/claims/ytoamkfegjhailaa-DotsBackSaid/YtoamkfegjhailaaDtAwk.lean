/- Proved here: the statements' own example of layer 15 comes to true. -/
import Derived.Test.YtoamkfegjhailaaConDots
import Derived.Test.YtoamkfegjhailaaPush
import Derived.Deep.DeepCutAuto
import Derived.RangeFuncBox
namespace Go.Proofs.Ytoamkfegjhailaa
open Go.RowKit
set_option linter.unusedVariables false
set_option maxRecDepth 100000

def dA : Txs := [[46, 97, 10], [98, 10]]
def dB : Txs := [[46, 46, 97, 10], [98, 10], [46, 10]]
def dC : Txs := [[46, 46, 97, 10], [98, 10]]
theorem dA_is : blockD dA = dB ∧ dottedB dA = true ∧ unblockD [] 0 dB = (dC, 3) ∧ stripD dC = dA ∧ dottedB dC = true := by refine ⟨by decide, by decide, by decide, by decide, by decide⟩

section
variable (H : DotsOk)
include H
set_option maxHeartbeats 4000000 in
theorem dtAwake_any (w : World) : Calls Try.prog 8 #[] w fun e w' => e = .returned (.bool true) ∧ Below w.heap.size w w' := by
  obtain ⟨W0, hW0⟩ : ∃ W0, W0 = w.alloc (.cells #[.string ⟨#[46, 97, 10]⟩, .string ⟨#[98, 10]⟩] 9) := ⟨_, rfl⟩
  have hT : TxR W0 W0.heap.size (some ⟨w.heap.size, 0, none⟩, 2, 2) dA := by rw [hW0]; exact txr_of (one_a w _) rfl rfl (by decide)
  have hB0 : Below w.heap.size w W0 := by rw [hW0]; exact below_alloc (Below.refl _ _) _
  have ya : smallD dA := ⟨by decide, by decide⟩
  have yb : smallD dB := ⟨by decide, by decide⟩
  have yc : smallD dC := ⟨by decide, by decide⟩
  have hC1 : Hid (Calls Try.prog 10 #[.slice (some ⟨w.heap.size, 0, none⟩) 2 2] W0 fun e w' => TxsB W0 w' e (dB, true)) := Lib.hid (by have := H.block_ok _ 2 2 dA W0 ya hT; rw [dA_is.1, dA_is.2.1] at this; exact this)
  have hC2 : Hid (∀ A n c W, TxR W W.heap.size (A, n, c) dB → Calls Try.prog 16 #[.slice A n c] W fun e w' => TxsN W w' e (dC, 3)) := Lib.hid (fun A n c W h => by have := H.unblock_ok A n c dB W yb h; rw [dA_is.2.2.1] at this; exact this)
  have hC3 : Hid (∀ A n c W, TxR W W.heap.size (A, n, c) dC → Calls Try.prog 11 #[.slice A n c] W fun e w' => TxsB W w' e (dA, true)) := Lib.hid (fun A n c W h => by have := H.strip_ok A n c dC W yc h; rw [dA_is.2.2.2.1, dA_is.2.2.2.2] at this; exact this)
  have hW0h := Lib.hid hW0
  have hB0h := Lib.hid hB0
  clear hT hB0 hW0 ya yb yc
  go_enter Try.func8, Try.ntmps8
  go_upto_region 4 with (first
    | (go_at_call 10; rw [← hW0h.out]; refine hC1.out.mono ?_; rintro e w1 ⟨A1, n1, c1, rfl, p1, q1⟩; have hP1 := Lib.hid p1; have hB1 := Lib.hid q1; clear p1 q1)
    | (go_at_call 16; refine (hC2.out _ _ _ _ hP1.out).mono ?_; rintro e w2 ⟨A2, n2, c2, rfl, p2, q2⟩; have hP2 := Lib.hid p2; have hP1b := Lib.hid (hP1.out.up q2); have hB2 := Lib.hid (hB1.out.trans (q2.mono hB1.out.size)); clear p2 q2)
    | (go_at_call 11; refine (hC3.out _ _ _ _ hP2.out).mono ?_; rintro e w3 ⟨A3, n3, c3, rfl, p3, q3⟩; have hP3 := Lib.hid p3; have hP1c := Lib.hid (hP1b.out.up q3); have hP2c := Lib.hid (hP2.out.up q3); have hB3 := Lib.hid (hB2.out.trans (q3.mono hB2.out.size)); clear p3 q3))
  have n1e : n1 = 3 := by have := hP1c.out.2.2.len; simpa [dB] using this.symm
  have n2e : n2 = 2 := by have := hP2c.out.2.2.len; simpa [dC] using this.symm
  have n3e : n3 = 2 := by have := hP3.out.2.2.len; simpa [dA] using this.symm
  subst n1e
  subst n2e
  subst n3e
  obtain ⟨b1, o1, rfl, hb1, hc1⟩ := hP1c.out.2.2.2 (by show 0 < 3; omega)
  obtain ⟨b3, o3, rfl, hb3, hc3⟩ := hP3.out.2.2.2 (by show 0 < 2; omega)
  have y0 : w3.cell? ⟨b1, o1, none⟩ = some (.string ⟨#[46, 46, 97, 10]⟩) := hc1 0 _ rfl
  have y2 : w3.cell? ⟨b1, o1 + 2, none⟩ = some (.string ⟨#[46, 10]⟩) := hc1 2 _ rfl
  have z0 : w3.cell? ⟨b3, o3, none⟩ = some (.string ⟨#[46, 97, 10]⟩) := hc3 0 _ rfl
  clear hc1 hc3 hP1 hP1b hP1c hP2 hP2c hP3
  go_wp2
  go_ret
  exact ⟨rfl, hB0h.out.trans (hB3.out.mono hB0h.out.size)⟩
end
end Go.Proofs.Ytoamkfegjhailaa

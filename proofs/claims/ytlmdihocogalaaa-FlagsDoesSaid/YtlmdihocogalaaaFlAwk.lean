/- Proved here: the statements' own functions of layer 14: few; their example comes to true. -/
import Derived.Test.YtlmdihocogalaaaConFlags
import Derived.Test.YtlmdihocogalaaaPush
import Derived.Deep.DeepCutAuto
import Derived.RangeFuncBox
namespace Go.Proofs.Ytlmdihocogalaaa
open Go.RowKit
set_option linter.unusedVariables false
set_option maxRecDepth 100000

set_option maxHeartbeats 2000000 in
theorem fl_few (A0 : Option Addr) (n0 c0 : Nat) (a : Txs) (A1 : Option Addr) (n1 c1 : Nat) (b : Txs) (A2 : Option Addr) (n2 c2 : Nat) (c : Txs) (w : World)
    (h0 : TxR w w.heap.size (A0, n0, c0) a) (h1 : TxR w w.heap.size (A1, n1, c1) b) (h2 : TxR w w.heap.size (A2, n2, c2) c) :
    Calls Try.prog 9 #[.slice A0 n0 c0, .slice A1 n1 c1, .slice A2 n2 c2] w fun e w' => e = .returned (.bool (fewB a 16 && fewB b 16 && fewB c 16)) ∧ w' = w := by
  have hS : ∀ (r : Slc) (d : Txs), TxR w w.heap.size r d → Calls Try.prog 20 #[.slice r.1 r.2.1 r.2.2, .int .i64 16] w fun e w' => e = .returned (.bool (fewB d 16)) ∧ w = w' := fun r d k => Few_any r.1 r.2.1 r.2.2 16 w.heap.size d w (Nat.le_trans k.1 k.2.1) (by decide) k.2.2
  obtain ⟨x, hx⟩ : ∃ x, fewB a 16 = x := ⟨_, rfl⟩
  obtain ⟨y, hy⟩ : ∃ y, fewB b 16 = y := ⟨_, rfl⟩
  obtain ⟨z, hz⟩ : ∃ z, fewB c 16 = z := ⟨_, rfl⟩
  have hA := Lib.hid (hx ▸ hS (A0, n0, c0) a h0)
  have hB := Lib.hid (hy ▸ hS (A1, n1, c1) b h1)
  have hC := Lib.hid (hz ▸ hS (A2, n2, c2) c h2)
  rw [hx, hy, hz]
  have tok1 := trivial
  clear h0 h1 h2 hS hx hy hz
  cases x <;> cases y <;> cases z
  all_goals
    go_enter Try.func9, Try.ntmps9
    go_wp2_with (first
      | (go_at_call 20; have _t := tok1; refine hA.out.mono ?_; rintro e w1 ⟨rfl, hww⟩; subst hww; have tok2 := trivial; clear tok1)
      | (go_at_call 20; have _t := tok2; refine hB.out.mono ?_; rintro e w1 ⟨rfl, hww⟩; subst hww; have tok3 := trivial; clear tok2)
      | (go_at_call 20; have _t := tok3; refine hC.out.mono ?_; rintro e w1 ⟨rfl, hww⟩; subst hww; clear tok3))
    go_ret
    exact ⟨rfl, rfl⟩

def rL : Txs := [[60, 60, 60, 60, 60, 60, 60, 32, 77, 73, 78, 69, 10], [97, 10], [124, 124, 124, 124, 124, 124, 124, 32, 79, 76, 68, 69, 82, 10], [61, 61, 61, 61, 61, 61, 61, 10], [99, 10], [62, 62, 62, 62, 62, 62, 62, 33, 32, 89, 79, 85, 82, 83, 10]]
theorem rL_is : resultF 65 [[97, 10]] [] [[99]] = rL := by decide
theorem rL_cells {W : World} {A : Option Addr} {n c : Nat} (h : TxR W W.heap.size (A, n, c) rL) : n = 6 ∧ ∃ b o, A = some ⟨b, o, none⟩ ∧ ∀ W', Below W.heap.size W W' → W'.cell? ⟨b, o, none⟩ = some (.string ⟨#[60, 60, 60, 60, 60, 60, 60, 32, 77, 73, 78, 69, 10]⟩) ∧ W'.cell? ⟨b, o + 2, none⟩ = some (.string ⟨#[124, 124, 124, 124, 124, 124, 124, 32, 79, 76, 68, 69, 82, 10]⟩) ∧ W'.cell? ⟨b, o + 5, none⟩ = some (.string ⟨#[62, 62, 62, 62, 62, 62, 62, 33, 32, 89, 79, 85, 82, 83, 10]⟩) := by
  have hn : n = 6 := by have := h.2.2.len; simpa [rL] using this.symm
  obtain ⟨b, o, e, hb, hc⟩ := h.2.2.2 (by show 0 < n; omega)
  refine ⟨hn, b, o, e, fun W' hW => ?_⟩
  exact ⟨(hW.cell (p := ⟨b, o, none⟩) hb).trans (hc 0 _ rfl), (hW.cell (p := ⟨b, o + 2, none⟩) hb).trans (hc 2 _ rfl), (hW.cell (p := ⟨b, o + 5, none⟩) hb).trans (hc 5 _ rfl)⟩

section
variable (H : FlagsOk)
include H

set_option maxHeartbeats 8000000 in
theorem flAwake_any (w : World) : Calls Try.prog 8 #[] w fun e w' => e = .returned (.bool true) ∧ Below w.heap.size w w' := by
  obtain ⟨W0, hW0⟩ : ∃ W0, W0 = w.alloc (.cells #[.string ⟨#[97, 10]⟩] 9) := ⟨_, rfl⟩
  have hT : TxR W0 W0.heap.size (some ⟨w.heap.size, 0, none⟩, 1, 1) [[97, 10]] := by rw [hW0]; exact txr_of (one_a w _) rfl rfl (by decide)
  have hB0 : Below w.heap.size w W0 := by rw [hW0]; exact below_alloc (Below.refl _ _) _
  obtain ⟨W1, hW1⟩ : ∃ W1, W1 = W0.alloc (.cells #[.string ⟨#[99]⟩] 9) := ⟨_, rfl⟩
  have hT1 : TxR W1 W1.heap.size (some ⟨W0.heap.size, 0, none⟩, 1, 1) [[99]] := by rw [hW1]; exact txr_of (one_a W0 _) rfl rfl (by decide)
  have hB1 : Below W0.heap.size W0 W1 := by rw [hW1]; exact below_alloc (Below.refl _ _) _
  have ya : smallX [[97, 10]] := ⟨by decide, by decide⟩
  have yn : smallX [] := ⟨by decide, by decide⟩
  have yc : smallX [[99]] := ⟨by decide, by decide⟩
  have hR : Hid (Calls Try.prog 17 #[.int .u8 65, .slice (some ⟨w.heap.size, 0, none⟩) 1 1, .slice none 0 0, .slice (some ⟨W0.heap.size, 0, none⟩) 1 1] W1 fun e w' => TxsOut W1 w' e rL) := Lib.hid (by
    rw [← rL_is]
    exact H.result_ok 65 _ 1 1 _ none 0 0 [] _ 1 1 _ W1 ya yn yc (hT.up hB1) (TxR.nil _ _) hT1)
  have hK1 : Hid (∀ W, Below W0.heap.size W0 W → Calls Try.prog 10 #[.slice (some ⟨w.heap.size, 0, none⟩) 1 1, .slice (some ⟨w.heap.size, 0, none⟩) 1 1, .slice (some ⟨w.heap.size, 0, none⟩) 1 1] W fun e w' => e = .returned (.int .i64 0) ∧ Below W.heap.size W w') := Lib.hid (fun W hW => H.kind_ok _ 1 1 [[97, 10]] _ 1 1 [[97, 10]] _ 1 1 [[97, 10]] W ya ya ya (hT.up hW) (hT.up hW) (hT.up hW))
  have hK2 : Hid (∀ W, Below W0.heap.size W0 W → Calls Try.prog 10 #[.slice (some ⟨w.heap.size, 0, none⟩) 1 1, .slice none 0 0, .slice (some ⟨w.heap.size, 0, none⟩) 1 1] W fun e w' => e = .returned (.int .i64 3) ∧ Below W.heap.size W w') := Lib.hid (fun W hW => H.kind_ok _ 1 1 [[97, 10]] none 0 0 [] _ 1 1 [[97, 10]] W ya yn ya (hT.up hW) (TxR.nil _ _) (hT.up hW))
  have hN1 : Hid (∀ W, Calls Try.prog 12 #[.int .u8 51] W fun e w' => e = .returned (.bool true) ∧ Below W.heap.size W w') := Lib.hid (fun W => H.known_ok 51 W)
  have hN2 : Hid (∀ W, Calls Try.prog 12 #[.int .u8 105] W fun e w' => e = .returned (.bool false) ∧ Below W.heap.size W w') := Lib.hid (fun W => H.known_ok 105 W)
  have hD : Hid (∀ W, Calls Try.prog 14 #[.int .u8 101, .int .i64 4] W fun e w' => e = .returned (.int .i64 1) ∧ Below W.heap.size W w') := Lib.hid (fun W => H.does_ok 101 4 W (by unfold inR64; decide))
  have hW0h := Lib.hid hW0
  have hW1h := Lib.hid hW1
  have hB0h := Lib.hid hB0
  have hB1h := Lib.hid hB1
  have tok1 := trivial
  clear hT hT1 hB0 hB1 hW0 hW1 ya yn yc
  go_enter Try.func8, Try.ntmps8
  go_upto_region 2 with fail
  rw [← hW0h.out]
  go_upto_region 3 with (go_at_call 17; rw [← hW1h.out]; refine hR.out.mono ?_; rintro e w2 ⟨A2, n2, c2, rfl, p2, q2⟩; obtain ⟨hn6, b, o, hA2, hcs⟩ := rL_cells p2; subst hn6; subst hA2; have hB2 := Lib.hid (hB1h.out.trans (q2.mono hB1h.out.size)); have hcsh := Lib.hid hcs; clear p2 q2 hcs)
  have hz := Lib.hid (Below.refl w2.heap.size w2)
  go_wp2_with (first
    | (go_at_call 10; have _t := tok1; refine (hK1.out _ hB2.out).mono ?_; rintro e w3 ⟨rfl, q3⟩; have hz3 := Lib.hid q3; have hB3 := Lib.hid (hB2.out.trans (q3.mono hB2.out.size)); have tok2 := trivial; clear tok1 q3)
    | (go_at_call 10; have _t := tok2; refine (hK2.out _ hB3.out).mono ?_; rintro e w4 ⟨rfl, q4⟩; have hz4 := Lib.hid (hz3.out.trans (q4.mono hz3.out.size)); have hB4 := Lib.hid (hB3.out.trans (q4.mono hB3.out.size)); have tok3 := trivial; clear tok2 q4)
    | (go_at_call 12; have _t := tok3; refine (hN1.out _).mono ?_; rintro e w5 ⟨rfl, q5⟩; have hz5 := Lib.hid (hz4.out.trans (q5.mono hz4.out.size)); have hB5 := Lib.hid (hB4.out.trans (q5.mono hB4.out.size)); have tok4 := trivial; clear tok3 q5)
    | (go_at_call 12; have _t := tok4; refine (hN2.out _).mono ?_; rintro e w6 ⟨rfl, q6⟩; have hz6 := Lib.hid (hz5.out.trans (q6.mono hz5.out.size)); have hB6 := Lib.hid (hB5.out.trans (q6.mono hB5.out.size)); clear tok4 q6)
    | (go_at_call 14; refine (hD.out _).mono ?_; rintro e w7 ⟨rfl, q7⟩; have hz7 := hz6.out.trans (q7.mono hz6.out.size); have hB7 := Lib.hid (hB6.out.trans (q7.mono hB6.out.size)); obtain ⟨y0, y2, y5⟩ := hcsh.out _ hz7; clear hz7 q7))
  go_ret
  exact ⟨rfl, hB0h.out.trans (hB7.out.mono hB0h.out.size)⟩
end
end Go.Proofs.Ytlmdihocogalaaa

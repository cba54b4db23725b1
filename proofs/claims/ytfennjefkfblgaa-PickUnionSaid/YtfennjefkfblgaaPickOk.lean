/- What the statements of layer 7 ask of package pick; and, out of it: awake returns true. -/
import Derived.Test.YtfennjefkfblgaaPickNm
import Derived.Test.YtfennjefkfblgaaPickPc
import Derived.Test.YtfennjefkfblgaaPickCh
import Derived.Test.YtfennjefkfblgaaConPiece
import Derived.Test.YtfennjefkfblgaaConNormal
import Derived.Test.YtfennjefkfblgaaConClean
import Derived.Test.YtfennjefkfblgaaConChoose
import Derived.Test.YtfennjefkfblgaaConSame
import Derived.Test.YtfennjefkfblgaaPickSm
namespace Go.Proofs.Ytfennjefkfblgaa
open Go.RowKit
set_option linter.unusedVariables false

/-- The contracts of package pick. -/
structure PickOk : Prop where
  piece_ok : PickPieceOk
  normal_ok : PickNormalOk
  clean_ok : PickCleanOk
  choose_ok : PickChooseOk
  same_ok : PickSameOk

section
variable (H : PickOk)
include H

set_option maxRecDepth 100000 in
set_option maxHeartbeats 4000000 in
theorem awake_any (w : World) : Calls Try.prog 9 #[] w fun e w' => e = .returned (.bool true) ∧ Below w.heap.size w w' := by
  have e0 : pieceD [[97]] [[[98]], [[99]]] 0 false = cPc [[97]] [[[98]], [[99]]] := by decide
  have e1 : normal [tPc [[120]], (false, [], [], []), tPc [[121]], cPc [[97]] [[[98]], [[99]]]] = [tPc [[120], [121]], cPc [[97]] [[[98]], [[99]]]] := by decide
  have e2 : choose [tPc [[120], [121]], cPc [[97]] [[[98]], [[99]]]] 2 = [[120], [121], [99]] := by decide
  have e3 : cleanB [tPc [[120], [121]], cPc [[97]] [[[98]], [[99]]]] = false := by decide
  have hsm : smallT [[97]] [[[98]], [[99]]] := by
    constructor
    · intro d hd
      simp at hd
      rcases hd with rfl | rfl | rfl <;> decide
    · intro d hd s hs
      simp at hd
      rcases hd with rfl | rfl | rfl <;> (simp at hs; subst hs; decide)
  have hP := Lib.hid (fun A0 n0 c0 A n c rows w1 h1 h2 h3 h4 h5 => H.piece_ok A0 n0 c0 [[97]] A n c rows [[[98]], [[99]]] 0 false w1 h1 h2 h3 (by unfold inR64; omega) hsm h4 h5)
  have hN := Lib.hid (fun A n c vs w1 h1 h2 h3 h4 => H.normal_ok A n c vs [tPc [[120]], (false, [], [], []), tPc [[121]], cPc [[97]] [[[98]], [[99]]]] w1 h1 h2 h3 (by decide) (by intro p hp; simp at hp; rcases hp with rfl | rfl | rfl | rfl <;> exact ⟨by decide, by intro d hd; simp [tPc, cPc] at hd; first | (subst hd; decide) | (rcases hd with rfl | rfl | rfl <;> decide)⟩) h4)
  have hC := Lib.hid (fun A n c vs w1 h1 h2 h3 h4 => H.choose_ok A n c vs [tPc [[120], [121]], cPc [[97]] [[[98]], [[99]]]] 2 w1 h1 h2 h3 (by unfold inR64; omega) (by decide) h4)
  have hK := Lib.hid (fun A n c vs w1 h1 h2 h3 h4 => H.clean_ok A n c vs [tPc [[120], [121]], cPc [[97]] [[[98]], [[99]]]] w1 h1 h2 h3 h4)
  have hS := Lib.hid (fun A n c vs w1 h1 h2 h3 h4 => H.same_ok A A n n c c vs vs [tPc [[120], [121]], cPc [[97]] [[[98]], [[99]]]] [tPc [[120], [121]], cPc [[97]] [[[98]], [[99]]]] w1 h1 h2 h3 h1 h2 h3 h4 h4)
  rw [e0] at hP
  rw [e1] at hN
  rw [e2] at hC
  rw [e3] at hK
  simp only [decide_true] at hS
  clear e0 e1 e2 e3 hsm
  go_enter Try.func9, Try.ntmps9
  go_wp2_with fail
  obtain ⟨W1, hW1⟩ : ∃ W1, W1 = (((w.alloc (.cells #[.string ⟨#[97]⟩] 9)).alloc (.cells #[.string ⟨#[98]⟩] 9)).alloc (.cells #[.string ⟨#[99]⟩] 9)).alloc (.cells #[.slice (some ⟨w.heap.size + 1, 0, none⟩) 1 1, .slice (some ⟨w.heap.size + 1 + 1, 0, none⟩) 1 1] 22) := ⟨_, rfl⟩
  have a0 : W1.heap[w.heap.size]? = some (.cells #[.string ⟨#[97]⟩] 9 (0, 0)) := by rw [hW1]; simp only [push_at, push_size]; repeat (first | rw [if_pos trivial] | rw [if_pos (by omega)] | rw [if_neg (by omega)])
  have a1 : W1.heap[w.heap.size + 1]? = some (.cells #[.string ⟨#[98]⟩] 9 (0, 0)) := by rw [hW1]; simp only [push_at, push_size]; repeat (first | rw [if_pos trivial] | rw [if_pos (by omega)] | rw [if_neg (by omega)])
  have a2 : W1.heap[w.heap.size + 1 + 1]? = some (.cells #[.string ⟨#[99]⟩] 9 (0, 0)) := by rw [hW1]; simp only [push_at, push_size]; repeat (first | rw [if_pos trivial] | rw [if_pos (by omega)] | rw [if_neg (by omega)])
  have a3 : W1.heap[w.heap.size + 1 + 1 + 1]? = some (.cells #[.slice (some ⟨w.heap.size + 1, 0, none⟩) 1 1, .slice (some ⟨w.heap.size + 1 + 1, 0, none⟩) 1 1] 22 (0, 0)) := by rw [hW1]; simp only [push_at, push_size]; repeat (first | rw [if_pos trivial] | rw [if_pos (by omega)] | rw [if_neg (by omega)])
  have hB1 : Below w.heap.size w W1 := by rw [hW1]; exact ((((Below.refl _ w).alloc (Nat.le_refl _) _).alloc (by simp) _).alloc (by simp; omega) _).alloc (by simp; omega) _
  rw [← hW1]
  clear hW1
  refine (hP.out _ 1 1 _ 2 2 [(some ⟨w.heap.size + 1, 0, none⟩, 1, 1), (some ⟨w.heap.size + 1 + 1, 0, none⟩, 1, 1)] W1 (Nat.le_refl _) (by decide) (by omega) (txr_of a0 rfl rfl (by decide)) (rowsT_of a3 rfl rfl rfl (fun k r ss h1 h2 => ?_))).mono ?_
  · match k, h1, h2 with
    | 0, h1, h2 => simp at h1 h2; subst h1; subst h2; exact txr_of a1 rfl rfl (by decide)
    | 1, h1, h2 => simp at h1 h2; subst h1; subst h2; exact txr_of a2 rfl rfl (by decide)
    | k + 2, h1, h2 => simp at h1
  rintro e w1 ⟨⟨⟨At, nt, ct⟩, ⟨Ab, nb, cb⟩, ⟨As, ns, cs⟩⟩, rfl, hV, hBp⟩
  have hns : ns = 2 := by obtain ⟨-, -, -, -, rr, h⟩ := hV; have := h.len; simpa [cPc] using this.symm
  subst hns
  clear a0 a1 a2 a3 hP
  have hB2 := hB1.trans (hBp.mono hB1.size)
  clear hB1 hBp
  have hVh := Lib.hid hV
  clear hV
  go_wp2_with fail
  obtain ⟨W2, hW2⟩ : ∃ W2, W2 = (((w1.alloc (.cells #[.bool true, .slice At nt ct, .slice Ab nb cb, .slice As 2 cs] 29)).alloc (.cells #[.string ⟨#[120]⟩] 9)).alloc (.cells #[.string ⟨#[121]⟩] 9)).alloc
    (.cells #[.bool false, .slice (some ⟨w1.heap.size + 1, 0, none⟩) 1 1, .slice none 0 0, .slice none 0 0, .bool false, .slice none 0 0, .slice none 0 0, .slice none 0 0, .bool false, .slice (some ⟨w1.heap.size + 1 + 1, 0, none⟩) 1 1, .slice none 0 0, .slice none 0 0, .bool true, .slice At nt ct, .slice Ab nb cb, .slice As 2 cs] 29) := ⟨_, rfl⟩
  have a0 : W2.heap[w1.heap.size]? = some (.cells #[.bool true, .slice At nt ct, .slice Ab nb cb, .slice As 2 cs] 29 (0, 0)) := by rw [hW2]; simp only [push_at, push_size]; repeat (first | rw [if_pos trivial] | rw [if_pos (by omega)] | rw [if_neg (by omega)])
  have a1 : W2.heap[w1.heap.size + 1]? = some (.cells #[.string ⟨#[120]⟩] 9 (0, 0)) := by rw [hW2]; simp only [push_at, push_size]; repeat (first | rw [if_pos trivial] | rw [if_pos (by omega)] | rw [if_neg (by omega)])
  have a2 : W2.heap[w1.heap.size + 1 + 1]? = some (.cells #[.string ⟨#[121]⟩] 9 (0, 0)) := by rw [hW2]; simp only [push_at, push_size]; repeat (first | rw [if_pos trivial] | rw [if_pos (by omega)] | rw [if_neg (by omega)])
  have a3 : W2.heap[w1.heap.size + 1 + 1 + 1]? = some (.cells #[.bool false, .slice (some ⟨w1.heap.size + 1, 0, none⟩) 1 1, .slice none 0 0, .slice none 0 0, .bool false, .slice none 0 0, .slice none 0 0, .slice none 0 0, .bool false, .slice (some ⟨w1.heap.size + 1 + 1, 0, none⟩) 1 1, .slice none 0 0, .slice none 0 0, .bool true, .slice At nt ct, .slice Ab nb cb, .slice As 2 cs] 29 (0, 0)) := by rw [hW2]; simp only [push_at, push_size]; repeat (first | rw [if_pos trivial] | rw [if_pos (by omega)] | rw [if_neg (by omega)])
  have hB3 : Below w1.heap.size w1 W2 := by rw [hW2]; exact ((((Below.refl _ w1).alloc (Nat.le_refl _) _).alloc (by simp) _).alloc (by simp; omega) _).alloc (by simp; omega) _
  have hg : (cPc [[97]] [[[98]], [[99]]]).1 = true := rfl
  rw [hg, ← hW2]
  clear hW2 hg
  have hpcs : Pcs W2 W2.heap.size (some ⟨w1.heap.size + 1 + 1 + 1, 0, none⟩) 4 [((some ⟨w1.heap.size + 1, 0, none⟩, 1, 1), (none, 0, 0), (none, 0, 0)), ((none, 0, 0), (none, 0, 0), (none, 0, 0)), ((some ⟨w1.heap.size + 1 + 1, 0, none⟩, 1, 1), (none, 0, 0), (none, 0, 0)), ((At, nt, ct), (Ab, nb, cb), (As, 2, cs))] [tPc [[120]], (false, [], [], []), tPc [[121]], cPc [[97]] [[[98]], [[99]]]] := by
    refine pcs_of (qs := [(((some ⟨w1.heap.size + 1, 0, none⟩, 1, 1), (none, 0, 0), (none, 0, 0)), tPc [[120]]), (((none, 0, 0), (none, 0, 0), (none, 0, 0)), (false, [], [], [])), (((some ⟨w1.heap.size + 1 + 1, 0, none⟩, 1, 1), (none, 0, 0), (none, 0, 0)), tPc [[121]]), (((At, nt, ct), (Ab, nb, cb), (As, 2, cs)), cPc [[97]] [[[98]], [[99]]])]) a3 rfl rfl fun q hq => ?_
    simp at hq
    rcases hq with rfl | rfl | rfl | rfl
    · exact PcR.text (txr_of a1 rfl rfl (by decide))
    · exact PcR.text (TxR.nil _ _)
    · exact PcR.text (txr_of a2 rfl rfl (by decide))
    · exact hVh.out.up hB3
  refine (hN.out _ 4 4 _ W2 (Nat.le_refl _) (by decide) (by omega) hpcs).mono ?_
  rintro e w2 ⟨A, n, c, vs, rfl, hn1, hn2, hR, hBn⟩
  have hnn : n = 2 := by have := hR.len; simpa using this.symm
  subst hnn
  obtain ⟨z0, -, -, z3, -⟩ := piece_at ((hBn.block _ (Array.getElem?_eq_some_iff.1 a0).1).trans a0)
  have hB4 := hB2.trans ((hB3.trans (hBn.mono hB3.size)).mono hB2.size)
  have hsz : w1.heap.size < w2.heap.size := Nat.lt_of_lt_of_le (Array.getElem?_eq_some_iff.1 a0).1 hBn.size
  clear a0 a1 a2 a3 hpcs hN hB2 hB3 hBn
  have hC1 := Lib.hid (hC.out A 2 c vs w2 hn1 hn2 (by omega) hR)
  have hRh := Lib.hid hR
  have hB4h := Lib.hid hB4
  obtain ⟨b, o, cf, At1, nt1, ct1, Ab1, nb1, cb1, As1, ns1, cs1, t1, bs1, ss1, rfl, hb, hv, hp, q1, q2, q3, q4, ⟨j1, j2, j3⟩, -, -⟩ := hR.at_ (k := 0) (by omega)
  simp [tPc] at hp
  obtain ⟨rfl, rfl, rfl, rfl⟩ := hp
  have hnt : nt1 = 2 := by have := j3.len; simpa using this.symm
  subst hnt
  clear hR hB4 hv q1 q3 q4 j1 j2 j3 hC
  simp only [Nat.zero_mul, Nat.add_zero] at q2
  go_wp2_with (first
    | (go_at_call 19; refine hC1.out.mono ?_; rintro e w3 ⟨A3, n3, c3, rfl, ⟨h31, h32, h33⟩, hb3⟩; dsimp only at h31 h32 h33; have hn3 : n3 = 3 := (by have := h33.len; simpa using this.symm); subst hn3; obtain ⟨b3, o3, s3, rfl, hb3', hs3, hc3⟩ := h33.at_ (k := 2) (by omega); have hs4 : s3 = [99] := (by simpa using hs3.symm); subst hs4; have x0 : w3.cell? ⟨w1.heap.size, 0, none⟩ = some (.bool true) := ((hb3.cell (p := ⟨w1.heap.size, 0, none⟩) hsz).trans z0); have x3 : w3.cell? ⟨w1.heap.size, 3, none⟩ = some (.slice As 2 cs) := ((hb3.cell (p := ⟨w1.heap.size, 3, none⟩) hsz).trans z3); have x2 : w3.cell? ⟨b, o + 1, none⟩ = some (.slice At1 2 ct1) := ((hb3.cell (p := ⟨b, o + 1, none⟩) hb).trans q2); have hR3 := Lib.hid (hRh.out.up hb3); have hB5 := Lib.hid (hB4h.out.trans (hb3.mono hB4h.out.size)); clear z0 z3 q2 hs3 h33 hb3)
    | (go_at_call 14; refine (hK.out _ 2 c vs w3 hn1 hn2 (by omega) hR3.out).mono ?_; rintro e w4 ⟨rfl, hb4⟩; have x4 : w4.cell? ⟨b3, o3 + 2, none⟩ = some (.string ⟨#[99]⟩) := ((hb4.cell (p := ⟨b3, o3 + 2, none⟩) hb3').trans hc3); have hR4 := Lib.hid (hR3.out.up hb4); have hB6 := Lib.hid (hB5.out.trans (hb4.mono hB5.out.size)); clear x0 x3 x2 hc3 hb4)
    | (go_at_call 24; refine (hS.out _ 2 c vs w4 hn1 hn2 (by omega) hR4.out).mono ?_; rintro e w5 ⟨rfl, hb5⟩; have hB7 := Lib.hid (hB6.out.trans (hb5.mono hB6.out.size)); clear hb5))
  go_ret
  exact ⟨rfl, hB7.out⟩
end
end Go.Proofs.Ytfennjefkfblgaa

/- Proved here: what the statement FlagsResult says, by the contracts of package flags. -/
import Derived.Test.YtlmdihocogalaaaFlAwk
import Derived.Test.YtlmdihocogalaaaFlRes
import Derived.RegionTactic
import Derived.Deep.RegionHeld3
namespace Go.Proofs.Ytlmdihocogalaaa
open Go.RowKit
set_option linter.unusedVariables false
set_option maxRecDepth 100000

section
variable (H : FlagsOk)
include H

set_option maxHeartbeats 16000000 in
theorem FlagsResult_walk (y : Nat) (A0 : Option Addr) (n0 c0 : Nat) (a : Txs) (A1 : Option Addr) (n1 c1 : Nat) (b : Txs) (A2 : Option Addr) (n2 c2 : Nat) (c : Txs) (w : World) (hy : y ≤ 255)
    (h0 : TxR w w.heap.size (A0, n0, c0) a) (h1 : TxR w w.heap.size (A1, n1, c1) b) (h2 : TxR w w.heap.size (A2, n2, c2) c) :
    Calls Try.prog 5 #[.int .u8 (y : Int), .agg #[.slice A0 n0 c0, .slice A1 n1 c1, .slice A2 n2 c2]] w fun e w' => e = .returned (.bool true) ∧ Below w.heap.size w w' := by
  obtain ⟨W1, hW1⟩ : ∃ W1, W1 = w.alloc (.cells #[.slice A0 n0 c0, .slice A1 n1 c1, .slice A2 n2 c2] 29) := ⟨_, rfl⟩
  have hb1 : Below w.heap.size w W1 := by rw [hW1]; exact (Below.refl _ _).alloc (Nat.le_refl _) _
  have k1 : W1.heap[w.heap.size]? = some (.cells #[.slice A0 n0 c0, .slice A1 n1 c1, .slice A2 n2 c2] 29 (0, 0)) := by rw [hW1]; exact Go.Deep.blk_alloc_new w _
  have haw := Lib.hid (flAwake_any H W1)
  have hk1 := Lib.hid k1
  have hb1h := Lib.hid hb1
  have hlt : Hid (w.heap.size < W1.heap.size) := Lib.hid (Array.getElem?_eq_some_iff.1 k1).1
  obtain ⟨P, hP⟩ : ∃ P : Nat, y % 7 = P := ⟨_, rfl⟩
  have hPt : ((y : Int)).tmod 7 = (P : Int) := by rw [← hP]; exact Int.ofNat_tmod y 7 ▸ rfl
  have hP7 : P = 0 ∨ P = 1 ∨ P = 2 ∨ P = 3 ∨ P = 4 ∨ P = 5 ∨ P = 6 := by omega
  obtain ⟨fm, hfm⟩ : ∃ fm, (fewB a 16 && fewB b 16 && fewB c 16) = fm := ⟨_, rfl⟩
  have hF := Lib.hid (fun (W : World) (hb : Below w.heap.size w W) => hfm ▸ fl_few A0 n0 c0 a A1 n1 c1 b A2 n2 c2 c W (h0.up hb) (h1.up hb) (h2.up hb))
  subst hW1
  have hC : Hid (∀ x1, Below (w.alloc (.cells #[.slice A0 n0 c0, .slice A1 n1 c1, .slice A2 n2 c2] 29)).heap.size (w.alloc (.cells #[.slice A0 n0 c0, .slice A1 n1 c1, .slice A2 n2 c2] 29)) x1 → (w.heap.size < x1.heap.size ∧ Below w.heap.size w x1) ∧ x1.cell? ⟨w.heap.size, 0, none⟩ = some (.slice A0 n0 c0) ∧ x1.cell? ⟨w.heap.size, 1, none⟩ = some (.slice A1 n1 c1) ∧ x1.cell? ⟨w.heap.size, 2, none⟩ = some (.slice A2 n2 c2)) := Lib.hid (fun x1 hb => by
    have e1 := (hb.block _ hlt.out).trans hk1.out
    exact ⟨⟨(Array.getElem?_eq_some_iff.1 e1).1, hb1h.out.trans (hb.mono hb1h.out.size)⟩, by rw [cells_of e1]; rfl, by rw [cells_of e1]; rfl, by rw [cells_of e1]; rfl⟩)
  cases fm
  · clear h0 h1 h2 hfm hb1 k1 hP hy
    rcases hP7 with rfl | rfl | rfl | rfl | rfl | rfl | rfl
    all_goals
      go_enter Try.func5, Try.ntmps5
      go_wp2_with (first
        | (go_at_call 8; refine haw.out.mono ?_; rintro e x1 ⟨rfl, hb⟩; obtain ⟨hB1x, q0, q1, q2⟩ := hC.out x1 hb; have hB1 := Lib.hid hB1x.2; clear hb hB1x)
        | (go_at_call 9; refine (hF.out _ hB1.out).mono ?_; rintro e w2 ⟨rfl, hww⟩; have hws := hww.symm; clear hww; subst hws))
      go_ret
      exact ⟨rfl, hB1.out⟩
  rw [Bool.and_eq_true, Bool.and_eq_true] at hfm
  have x0 := few16_X hfm.1.1
  have x1 := few16_X hfm.1.2
  have x2 := few16_X hfm.2
  have hRs : Hid (∀ (s : UInt8) (W : World), Below w.heap.size w W → Calls Try.prog 17 #[.int .u8 (s.toNat : Int), .slice A0 n0 c0, .slice A1 n1 c1, .slice A2 n2 c2] W fun e w' => TxsOut W w' e (resultF s a b c)) := Lib.hid (fun s W hb => H.result_ok s A0 n0 c0 a A1 n1 c1 b A2 n2 c2 c W x0 x1 x2 (h0.up hb) (h1.up hb) (h2.up hb))
  have hRRs : Hid (∀ (s : UInt8) (W : World), Below w.heap.size w W → Calls Try.prog 18 #[.int .u8 (s.toNat : Int), .slice A0 n0 c0, .slice A1 n1 c1, .slice A2 n2 c2] W fun e w' => TxsOut W w' e (resultF s a b c)) := Lib.hid (fun s W hb => rfResult_any s A0 n0 c0 a A1 n1 c1 b A2 n2 c2 c W x0 x1 x2 (h0.up hb) (h1.up hb) (h2.up hb))
  have hSa : Hid (∀ (X : Txs) (A1 A2 : Option Addr) (n1 c1 n2 c2 : Nat) (W : World), TxR W W.heap.size (A1, n1, c1) X → TxR W W.heap.size (A2, n2, c2) X → Calls Try.prog 16 #[.slice A1 n1 c1, .slice A2 n2 c2] W fun e w' => e = .returned (.bool true) ∧ Below W.heap.size W w') := Lib.hid (fun X A1 A2 n1 c1 n2 c2 W h1 h2 => by
    have h := Same_any A1 A2 n1 n2 c1 c2 W.heap.size W.heap.size X X W (Nat.le_trans h1.1 h1.2.1) (Nat.le_trans h2.1 h2.2.1) h1.2.2 h2.2.2
    rw [decide_eq_true (rfl : X = X)] at h
    refine h.mono ?_
    rintro e w' ⟨r, q, rfl⟩
    exact ⟨r, below_drewN (Below.refl _ _) q⟩)
  clear h0 h1 h2 hfm hb1 k1 hP hy x0 x1 x2
  rcases hP7 with rfl | rfl | rfl | rfl | rfl | rfl | rfl
  case' inl =>
    have hR : Hid (∀ W, Below w.heap.size w W → Calls Try.prog 17 #[.int .u8 101, .slice A0 n0 c0, .slice A1 n1 c1, .slice A2 n2 c2] W fun e w' => TxsOut W w' e (resultF 101 a b c)) := Lib.hid (fun W hb => hRs.out 101 W hb)
    have hRR : Hid (∀ W, Below w.heap.size w W → Calls Try.prog 18 #[.int .u8 101, .slice A0 n0 c0, .slice A1 n1 c1, .slice A2 n2 c2] W fun e w' => TxsOut W w' e (resultF 101 a b c)) := Lib.hid (fun W hb => hRRs.out 101 W hb)
    obtain ⟨R, hRe⟩ : ∃ R, resultF 101 a b c = R := ⟨_, rfl⟩
    rw [hRe] at hR hRR
    clear hRe
  case' inr.inl =>
    have hR : Hid (∀ W, Below w.heap.size w W → Calls Try.prog 17 #[.int .u8 120, .slice A0 n0 c0, .slice A1 n1 c1, .slice A2 n2 c2] W fun e w' => TxsOut W w' e (resultF 120 a b c)) := Lib.hid (fun W hb => hRs.out 120 W hb)
    have hRR : Hid (∀ W, Below w.heap.size w W → Calls Try.prog 18 #[.int .u8 120, .slice A0 n0 c0, .slice A1 n1 c1, .slice A2 n2 c2] W fun e w' => TxsOut W w' e (resultF 120 a b c)) := Lib.hid (fun W hb => hRRs.out 120 W hb)
    obtain ⟨R, hRe⟩ : ∃ R, resultF 120 a b c = R := ⟨_, rfl⟩
    rw [hRe] at hR hRR
    clear hRe
  case' inr.inr.inl =>
    have hR : Hid (∀ W, Below w.heap.size w W → Calls Try.prog 17 #[.int .u8 51, .slice A0 n0 c0, .slice A1 n1 c1, .slice A2 n2 c2] W fun e w' => TxsOut W w' e (resultF 51 a b c)) := Lib.hid (fun W hb => hRs.out 51 W hb)
    have hRR : Hid (∀ W, Below w.heap.size w W → Calls Try.prog 18 #[.int .u8 51, .slice A0 n0 c0, .slice A1 n1 c1, .slice A2 n2 c2] W fun e w' => TxsOut W w' e (resultF 51 a b c)) := Lib.hid (fun W hb => hRRs.out 51 W hb)
    obtain ⟨R, hRe⟩ : ∃ R, resultF 51 a b c = R := ⟨_, rfl⟩
    rw [hRe] at hR hRR
    clear hRe
  case' inr.inr.inr.inl =>
    have hR : Hid (∀ W, Below w.heap.size w W → Calls Try.prog 17 #[.int .u8 69, .slice A0 n0 c0, .slice A1 n1 c1, .slice A2 n2 c2] W fun e w' => TxsOut W w' e (resultF 69 a b c)) := Lib.hid (fun W hb => hRs.out 69 W hb)
    have hRR : Hid (∀ W, Below w.heap.size w W → Calls Try.prog 18 #[.int .u8 69, .slice A0 n0 c0, .slice A1 n1 c1, .slice A2 n2 c2] W fun e w' => TxsOut W w' e (resultF 69 a b c)) := Lib.hid (fun W hb => hRRs.out 69 W hb)
    obtain ⟨R, hRe⟩ : ∃ R, resultF 69 a b c = R := ⟨_, rfl⟩
    rw [hRe] at hR hRR
    clear hRe
  case' inr.inr.inr.inr.inl =>
    have hR : Hid (∀ W, Below w.heap.size w W → Calls Try.prog 17 #[.int .u8 88, .slice A0 n0 c0, .slice A1 n1 c1, .slice A2 n2 c2] W fun e w' => TxsOut W w' e (resultF 88 a b c)) := Lib.hid (fun W hb => hRs.out 88 W hb)
    have hRR : Hid (∀ W, Below w.heap.size w W → Calls Try.prog 18 #[.int .u8 88, .slice A0 n0 c0, .slice A1 n1 c1, .slice A2 n2 c2] W fun e w' => TxsOut W w' e (resultF 88 a b c)) := Lib.hid (fun W hb => hRRs.out 88 W hb)
    obtain ⟨R, hRe⟩ : ∃ R, resultF 88 a b c = R := ⟨_, rfl⟩
    rw [hRe] at hR hRR
    clear hRe
  case' inr.inr.inr.inr.inr.inl =>
    have hR : Hid (∀ W, Below w.heap.size w W → Calls Try.prog 17 #[.int .u8 65, .slice A0 n0 c0, .slice A1 n1 c1, .slice A2 n2 c2] W fun e w' => TxsOut W w' e (resultF 65 a b c)) := Lib.hid (fun W hb => hRs.out 65 W hb)
    have hRR : Hid (∀ W, Below w.heap.size w W → Calls Try.prog 18 #[.int .u8 65, .slice A0 n0 c0, .slice A1 n1 c1, .slice A2 n2 c2] W fun e w' => TxsOut W w' e (resultF 65 a b c)) := Lib.hid (fun W hb => hRRs.out 65 W hb)
    obtain ⟨R, hRe⟩ : ∃ R, resultF 65 a b c = R := ⟨_, rfl⟩
    rw [hRe] at hR hRR
    clear hRe
  case' inr.inr.inr.inr.inr.inr =>
    have hR : Hid (∀ W, Below w.heap.size w W → Calls Try.prog 17 #[.int .u8 63, .slice A0 n0 c0, .slice A1 n1 c1, .slice A2 n2 c2] W fun e w' => TxsOut W w' e (resultF 63 a b c)) := Lib.hid (fun W hb => hRs.out 63 W hb)
    have hRR : Hid (∀ W, Below w.heap.size w W → Calls Try.prog 18 #[.int .u8 63, .slice A0 n0 c0, .slice A1 n1 c1, .slice A2 n2 c2] W fun e w' => TxsOut W w' e (resultF 63 a b c)) := Lib.hid (fun W hb => hRRs.out 63 W hb)
    obtain ⟨R, hRe⟩ : ∃ R, resultF 63 a b c = R := ⟨_, rfl⟩
    rw [hRe] at hR hRR
    clear hRe
  all_goals
    clear hRs hRRs
    go_enter Try.func5, Try.ntmps5
    go_upto_region 5 with (first
      | (go_at_call 8; refine haw.out.mono ?_; rintro e x1 ⟨rfl, hb⟩; obtain ⟨hB1x, q0, q1, q2⟩ := hC.out x1 hb; have hB1 := Lib.hid hB1x.2; have hsz := hB1x.1; clear hb hB1x)
      | (go_at_call 9; refine (hF.out _ hB1.out).mono ?_; rintro e w2 ⟨rfl, hww⟩; have hws := hww.symm; clear hww; subst hws))
    have hrefl := Below.refl x1.heap.size x1
    have hS : Hid (∀ W, Below x1.heap.size x1 W → W.cell? ⟨w.heap.size, 0, none⟩ = some (.slice A0 n0 c0) ∧ W.cell? ⟨w.heap.size, 1, none⟩ = some (.slice A1 n1 c1) ∧ W.cell? ⟨w.heap.size, 2, none⟩ = some (.slice A2 n2 c2)) := Lib.hid (fun W h => ⟨(h.cell (p := ⟨w.heap.size, 0, none⟩) hsz).trans q0, (h.cell (p := ⟨w.heap.size, 1, none⟩) hsz).trans q1, (h.cell (p := ⟨w.heap.size, 2, none⟩) hsz).trans q2⟩)
    go_region_held3 (fun wx : World => wx.cell? ⟨w.heap.size, 0, none⟩ = some (.slice A0 n0 c0) ∧ wx.cell? ⟨w.heap.size, 1, none⟩ = some (.slice A1 n1 c1) ∧ wx.cell? ⟨w.heap.size, 2, none⟩ = some (.slice A2 n2 c2))
      ((first | exact ⟨q0, q1, q2⟩ | (refine hS.out _ ?_; repeat (first | assumption | refine below_drew ?_))))
      (first
        | (go_at_call 17; refine (hR.out _ ((hB1.out.trans ((below_drew hrefl).mono hB1.out.size)))).mono ?_; rintro e w3 ⟨A3, n3, c3, rfl, p3, q3⟩; have hT3 := Lib.hid p3; have hz3 := (below_drew hrefl).trans (q3.mono (below_drew hrefl).size); clear p3 q3)
        | (go_at_call 18; refine (hRR.out _ (hB1.out.trans (hz3.mono hB1.out.size))).mono ?_; rintro e w4 ⟨A4, n4, c4, rfl, p4, q4⟩; have hT4 := Lib.hid p4; have hT3b := Lib.hid (hT3.out.up q4); have hz4 := hz3.trans (q4.mono hz3.size); clear p4 q4)
        | (go_at_call 16; refine (hSa.out _ A3 A4 n3 c3 n4 c4 _ hT3b.out hT4.out).mono ?_; rintro e w5 ⟨rfl, q5⟩; have hz5 := hz4.trans (q5.mono hz4.size); clear q5))
    go_wp2
    go_ret
    exact ⟨rfl, hB1.out.trans (hz5.mono hB1.out.size)⟩
end
end Go.Proofs.Ytlmdihocogalaaa

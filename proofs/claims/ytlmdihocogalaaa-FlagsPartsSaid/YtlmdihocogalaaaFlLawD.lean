/- Proved here: what the statement FlagsParts says, by the contracts of package flags. -/
import Derived.Test.YtlmdihocogalaaaFlAwk
namespace Go.Proofs.Ytlmdihocogalaaa
open Go.RowKit
set_option linter.unusedVariables false
set_option maxRecDepth 100000

section
variable (H : FlagsOk)
include H

set_option maxHeartbeats 8000000 in
theorem FlagsParts_walk (A0 : Option Addr) (n0 c0 : Nat) (a : Txs) (A1 : Option Addr) (n1 c1 : Nat) (b : Txs) (A2 : Option Addr) (n2 c2 : Nat) (c : Txs) (w : World)
    (h0 : TxR w w.heap.size (A0, n0, c0) a) (h1 : TxR w w.heap.size (A1, n1, c1) b) (h2 : TxR w w.heap.size (A2, n2, c2) c) :
    Calls Try.prog 6 #[.slice A0 n0 c0, .slice A1 n1 c1, .slice A2 n2 c2] w fun e w' => e = .returned (.bool true) ∧ Below w.heap.size w w' := by
  have haw := Lib.hid (flAwake_any H w)
  obtain ⟨fm, hfm⟩ : ∃ fm, (fewB a 16 && fewB b 16 && fewB c 16) = fm := ⟨_, rfl⟩
  have hF := Lib.hid (fun (W : World) (hb : Below w.heap.size w W) => hfm ▸ fl_few A0 n0 c0 a A1 n1 c1 b A2 n2 c2 c W (h0.up hb) (h1.up hb) (h2.up hb))
  cases fm
  · clear h0 h1 h2 hfm
    go_enter Try.func6, Try.ntmps6
    go_wp2_with (first
      | (go_at_call 8; refine haw.out.mono ?_; rintro e w1 ⟨rfl, hb1⟩; have hB1 := Lib.hid hb1; clear hb1)
      | (go_at_call 9; refine (hF.out _ hB1.out).mono ?_; rintro e w2 ⟨rfl, hww⟩; have hws := hww.symm; clear hww; subst hws))
    go_ret
    exact ⟨rfl, hB1.out⟩
  rw [Bool.and_eq_true, Bool.and_eq_true] at hfm
  have x0 := few16_X hfm.1.1
  have x1 := few16_X hfm.1.2
  have x2 := few16_X hfm.2
  have hK1 := Lib.hid (fun (W : World) (hb : Below w.heap.size w W) => H.kind_ok A0 n0 c0 a A1 n1 c1 b A2 n2 c2 c W x0 x1 x2 (h0.up hb) (h1.up hb) (h2.up hb))
  have hRs : ∀ (s : UInt8) (W : World), Below w.heap.size w W → Calls Try.prog 17 #[.int .u8 (s.toNat : Int), .slice A0 n0 c0, .slice A1 n1 c1, .slice A2 n2 c2] W fun e w' => TxsOut W w' e (resultF s a b c) := fun s W hb => H.result_ok s A0 n0 c0 a A1 n1 c1 b A2 n2 c2 c W x0 x1 x2 (h0.up hb) (h1.up hb) (h2.up hb)
  obtain ⟨D, hD⟩ : ∃ D, (if kindF a b c = 4 then resultF 120 a b c else resultF 51 a b c) = D := ⟨_, rfl⟩
  obtain ⟨E, hE⟩ : ∃ E, (if kindF a b c = 4 then resultF 88 a b c else resultF 51 a b c) = E := ⟨_, rfl⟩
  have he : Hid (∀ (W : World), Below w.heap.size w W → Calls Try.prog 17 #[.int .u8 101, .slice A0 n0 c0, .slice A1 n1 c1, .slice A2 n2 c2] W fun e w' => TxsOut W w' e D) := Lib.hid (fun W hb => by
    have h := hRs 101 W hb
    rw [result_e, hD] at h
    exact h)
  have hEE : Hid (∀ (W : World), Below w.heap.size w W → Calls Try.prog 17 #[.int .u8 69, .slice A0 n0 c0, .slice A1 n1 c1, .slice A2 n2 c2] W fun e w' => TxsOut W w' e E) := Lib.hid (fun W hb => by
    have h := hRs 69 W hb
    rw [result_E, hE] at h
    exact h)
  have hSa : ∀ X : Txs, Hid (∀ (A1 A2 : Option Addr) (n1 c1 n2 c2 : Nat) (W : World), TxR W W.heap.size (A1, n1, c1) X → TxR W W.heap.size (A2, n2, c2) X → Calls Try.prog 16 #[.slice A1 n1 c1, .slice A2 n2 c2] W fun e w' => e = .returned (.bool true) ∧ Below W.heap.size W w') := fun X => Lib.hid (fun A1 A2 n1 c1 n2 c2 W h1 h2 => by
    have h := Same_any A1 A2 n1 n2 c1 c2 W.heap.size W.heap.size X X W (Nat.le_trans h1.1 h1.2.1) (Nat.le_trans h2.1 h2.2.1) h1.2.2 h2.2.2
    rw [decide_eq_true (rfl : X = X)] at h
    refine h.mono ?_
    rintro e w' ⟨r, q, rfl⟩
    exact ⟨r, below_drewN (Below.refl _ _) q⟩)
  have hSD := hSa D
  have hSE := hSa E
  have hle := kind_le (mine := a) (older := b) (yours := c)
  have h3s : Hid (∀ (W : World), Below w.heap.size w W → Calls Try.prog 17 #[.int .u8 51, .slice A0 n0 c0, .slice A1 n1 c1, .slice A2 n2 c2] W fun e w' => TxsOut W w' e (resultF 51 a b c)) := Lib.hid (fun W hb => hRs 51 W hb)
  have tok1 := trivial
  by_cases h4 : kindF a b c = 4
  · rw [if_pos h4] at hD hE
    have hxs : Hid (∀ (W : World), Below w.heap.size w W → Calls Try.prog 17 #[.int .u8 120, .slice A0 n0 c0, .slice A1 n1 c1, .slice A2 n2 c2] W fun e w' => TxsOut W w' e D) := Lib.hid (fun W hb => by have h := hRs 120 W hb; rw [hD] at h; exact h)
    have hXs : Hid (∀ (W : World), Below w.heap.size w W → Calls Try.prog 17 #[.int .u8 88, .slice A0 n0 c0, .slice A1 n1 c1, .slice A2 n2 c2] W fun e w' => TxsOut W w' e E) := Lib.hid (fun W hb => by have h := hRs 88 W hb; rw [hE] at h; exact h)
    rw [h4] at hK1
    generalize resultF 51 a b c = R3 at h3s
    clear h0 h1 h2 hfm x0 x1 x2 hRs hSa hD hE h4 hle
    go_enter Try.func6, Try.ntmps6
    go_wp2_with (first
      | (go_at_call 8; refine haw.out.mono ?_; rintro e w1 ⟨rfl, hb1⟩; have hB1 := Lib.hid hb1; clear hb1)
      | (go_at_call 9; refine (hF.out _ hB1.out).mono ?_; rintro e w2 ⟨rfl, hww⟩; have hws := hww.symm; clear hww; subst hws)
      | (go_at_call 10; refine (hK1.out _ hB1.out).mono ?_; rintro e w2 ⟨rfl, q2⟩; have hB2 := Lib.hid (hB1.out.trans (q2.mono hB1.out.size)); clear q2)
      | (go_at_call 17; have _t := tok1; refine (h3s.out _ hB2.out).mono ?_; rintro e w3 ⟨B3, m3, k3, rfl, -, q3⟩; have hB3 := Lib.hid (hB2.out.trans (q3.mono hB2.out.size)); have tok2 := trivial; clear q3 tok1)
      | (go_at_call 17; have _t := tok2; refine (h3s.out _ hB3.out).mono ?_; rintro e w4 ⟨B4, m4, k4, rfl, -, q4⟩; have hB4 := Lib.hid (hB3.out.trans (q4.mono hB3.out.size)); have tok3 := trivial; clear q4 tok2)
      | (go_at_call 17; have _t := tok3; refine (hxs.out _ hB4.out).mono ?_; rintro e w5 ⟨B5, m5, k5, rfl, p5, q5⟩; have hT5 := Lib.hid p5; have hB5 := Lib.hid (hB4.out.trans (q5.mono hB4.out.size)); have tok4 := trivial; clear p5 q5 tok3)
      | (go_at_call 17; have _t := tok4; refine (hXs.out _ hB5.out).mono ?_; rintro e w6 ⟨B6, m6, k6, rfl, p6, q6⟩; have hT6 := Lib.hid p6; have hT5b := Lib.hid (hT5.out.up q6); have hB6 := Lib.hid (hB5.out.trans (q6.mono hB5.out.size)); have tok5 := trivial; clear p6 q6 tok4)
      | (go_at_call 17; have _t := tok5; refine (he.out _ hB6.out).mono ?_; rintro e w7 ⟨B7, m7, k7, rfl, p7, q7⟩; have hT7 := Lib.hid p7; have hT5c := Lib.hid (hT5b.out.up q7); have hT6b := Lib.hid (hT6.out.up q7); have hB7 := Lib.hid (hB6.out.trans (q7.mono hB6.out.size)); have tok6 := trivial; clear p7 q7 tok5)
      | (go_at_call 16; have _t := tok6; refine (hSD.out B7 B5 m7 k7 m5 k5 _ hT7.out hT5c.out).mono ?_; rintro e w8 ⟨rfl, q8⟩; have hT6c := Lib.hid (hT6b.out.up q8); have hB8 := Lib.hid (hB7.out.trans (q8.mono hB7.out.size)); have tok7 := trivial; clear q8 tok6)
      | (go_at_call 17; have _t := tok7; refine (hEE.out _ hB8.out).mono ?_; rintro e w9 ⟨B9, m9, k9, rfl, p9, q9⟩; have hT9 := Lib.hid p9; have hT6d := Lib.hid (hT6c.out.up q9); have hB9 := Lib.hid (hB8.out.trans (q9.mono hB8.out.size)); have tok8 := trivial; clear p9 q9 tok7)
      | (go_at_call 16; have _t := tok8; refine (hSE.out B9 B6 m9 k9 m6 k6 _ hT9.out hT6d.out).mono ?_; rintro e w10 ⟨rfl, q10⟩; have hB10 := Lib.hid (hB9.out.trans (q10.mono hB9.out.size)); clear q10 tok8))
    go_ret
    exact ⟨rfl, hB10.out⟩
  · rw [if_neg h4] at hD hE
    rw [hD] at hE h3s
    subst hE
    obtain ⟨K, hKK⟩ : ∃ K, kindF a b c = K := ⟨_, rfl⟩
    rw [hKK] at hK1 h4
    have hK4 : ((K : Int) == 4) = false := by rw [beq_eq_false_iff_ne]; omega
    clear h0 h1 h2 hfm x0 x1 x2 hRs hSa hD hle hKK h4
    go_enter Try.func6, Try.ntmps6
    go_wp2_with (first
      | (go_at_call 8; refine haw.out.mono ?_; rintro e w1 ⟨rfl, hb1⟩; have hB1 := Lib.hid hb1; clear hb1)
      | (go_at_call 9; refine (hF.out _ hB1.out).mono ?_; rintro e w2 ⟨rfl, hww⟩; have hws := hww.symm; clear hww; subst hws)
      | (go_at_call 10; refine (hK1.out _ hB1.out).mono ?_; rintro e w2 ⟨rfl, q2⟩; have hB2 := Lib.hid (hB1.out.trans (q2.mono hB1.out.size)); clear q2)
      | (go_at_call 17; have _t := tok1; refine (h3s.out _ hB2.out).mono ?_; rintro e w5 ⟨B5, m5, k5, rfl, p5, q5⟩; have hT5 := Lib.hid p5; have hB5 := Lib.hid (hB2.out.trans (q5.mono hB2.out.size)); have tok4 := trivial; clear p5 q5 tok1)
      | (go_at_call 17; have _t := tok4; refine (h3s.out _ hB5.out).mono ?_; rintro e w6 ⟨B6, m6, k6, rfl, p6, q6⟩; have hT6 := Lib.hid p6; have hT5b := Lib.hid (hT5.out.up q6); have hB6 := Lib.hid (hB5.out.trans (q6.mono hB5.out.size)); have tok5 := trivial; clear p6 q6 tok4)
      | (go_at_call 17; have _t := tok5; refine (he.out _ hB6.out).mono ?_; rintro e w7 ⟨B7, m7, k7, rfl, p7, q7⟩; have hT7 := Lib.hid p7; have hT5c := Lib.hid (hT5b.out.up q7); have hT6b := Lib.hid (hT6.out.up q7); have hB7 := Lib.hid (hB6.out.trans (q7.mono hB6.out.size)); have tok6 := trivial; clear p7 q7 tok5)
      | (go_at_call 16; have _t := tok6; refine (hSD.out B7 B5 m7 k7 m5 k5 _ hT7.out hT5c.out).mono ?_; rintro e w8 ⟨rfl, q8⟩; have hT6c := Lib.hid (hT6b.out.up q8); have hB8 := Lib.hid (hB7.out.trans (q8.mono hB7.out.size)); have tok7 := trivial; clear q8 tok6)
      | (go_at_call 17; have _t := tok7; refine (hEE.out _ hB8.out).mono ?_; rintro e w9 ⟨B9, m9, k9, rfl, p9, q9⟩; have hT9 := Lib.hid p9; have hT6d := Lib.hid (hT6c.out.up q9); have hB9 := Lib.hid (hB8.out.trans (q9.mono hB8.out.size)); have tok8 := trivial; clear p9 q9 tok7)
      | (go_at_call 16; have _t := tok8; refine (hSE.out B9 B6 m9 k9 m6 k6 _ hT9.out hT6d.out).mono ?_; rintro e w10 ⟨rfl, q10⟩; have hB10 := Lib.hid (hB9.out.trans (q10.mono hB9.out.size)); clear q10 tok8))
    go_ret
    exact ⟨rfl, hB10.out⟩
end
end Go.Proofs.Ytlmdihocogalaaa

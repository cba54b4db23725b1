/- Proved here: what the statement FlagsKinds says, by the contracts of package flags. -/
import Derived.Test.YtlmdihocogalaaaFlAwk
import Derived.Test.YtlmdihocogalaaaFlKind
namespace Go.Proofs.Ytlmdihocogalaaa
open Go.RowKit
set_option linter.unusedVariables false
set_option maxRecDepth 100000

section
variable (H : FlagsOk)
include H

set_option maxHeartbeats 4000000 in
theorem FlagsKinds_walk (A0 : Option Addr) (n0 c0 : Nat) (a : Txs) (A1 : Option Addr) (n1 c1 : Nat) (b : Txs) (A2 : Option Addr) (n2 c2 : Nat) (c : Txs) (w : World)
    (h0 : TxR w w.heap.size (A0, n0, c0) a) (h1 : TxR w w.heap.size (A1, n1, c1) b) (h2 : TxR w w.heap.size (A2, n2, c2) c) :
    Calls Try.prog 3 #[.slice A0 n0 c0, .slice A1 n1 c1, .slice A2 n2 c2] w fun e w' => e = .returned (.bool true) ∧ Below w.heap.size w w' := by
  have haw := Lib.hid (flAwake_any H w)
  obtain ⟨fm, hfm⟩ : ∃ fm, (fewB a 16 && fewB b 16 && fewB c 16) = fm := ⟨_, rfl⟩
  have hF := Lib.hid (fun (W : World) (hb : Below w.heap.size w W) => hfm ▸ fl_few A0 n0 c0 a A1 n1 c1 b A2 n2 c2 c W (h0.up hb) (h1.up hb) (h2.up hb))
  cases fm
  · clear h0 h1 h2 hfm
    go_enter Try.func3, Try.ntmps3
    go_wp2_with (first
      | (go_at_call 8; refine haw.out.mono ?_; rintro e w1 ⟨rfl, hb1⟩; have hB1 := Lib.hid hb1; clear hb1)
      | (go_at_call 9; refine (hF.out _ hB1.out).mono ?_; rintro e w2 ⟨rfl, hww⟩; have hws := hww.symm; clear hww; subst hws))
    go_ret
    exact ⟨rfl, hB1.out⟩
  rw [Bool.and_eq_true, Bool.and_eq_true] at hfm
  have x0 := few16_X hfm.1.1
  have x1 := few16_X hfm.1.2
  have x2 := few16_X hfm.2
  have hK1 := Lib.hid (fun (W : World) (hb : Below w.heap.size w W) => H.kind_ok A0 n0 c0 a A1 n1 c1 b A2 n2 c2 c W x0 x1 x2 (h0.up hb) (h1.up hb) (h2.up hb))
  have hK2 := Lib.hid (fun (W : World) (hb : Below w.heap.size w W) => H.kind_ok A2 n2 c2 c A1 n1 c1 b A0 n0 c0 a W x2 x1 x0 (h2.up hb) (h1.up hb) (h0.up hb))
  have hR := Lib.hid (fun (W : World) (hb : Below w.heap.size w W) => rfKind_any A0 n0 c0 a A1 n1 c1 b A2 n2 c2 c W (h0.up hb) (h1.up hb) (h2.up hb))
  have hle := kind_le (mine := a) (older := b) (yours := c)
  rw [kind_turn] at hK2
  obtain ⟨K, hKK⟩ : ∃ K, kindF a b c = K := ⟨_, rfl⟩
  rw [hKK] at hK1 hK2 hR hle
  clear h0 h1 h2 hfm x0 x1 x2 hKK
  have tok1 := trivial
  rcases (by omega : K = 0 ∨ K = 1 ∨ K = 2 ∨ K = 3 ∨ K = 4) with rfl | rfl | rfl | rfl | rfl
  all_goals
    clear hle
    go_enter Try.func3, Try.ntmps3
    go_wp2_with (first
      | (go_at_call 8; refine haw.out.mono ?_; rintro e w1 ⟨rfl, hb1⟩; have hB1 := Lib.hid hb1; clear hb1)
      | (go_at_call 9; refine (hF.out _ hB1.out).mono ?_; rintro e w2 ⟨rfl, hww⟩; have hws := hww.symm; clear hww; subst hws)
      | (go_at_call 10; have _t := tok1; refine (hK1.out _ hB1.out).mono ?_; rintro e w2 ⟨rfl, q2⟩; have hB2 := Lib.hid (hB1.out.trans (q2.mono hB1.out.size)); have tok2 := trivial; clear q2 tok1)
      | (go_at_call 10; have _t := tok2; refine (hK2.out _ hB2.out).mono ?_; rintro e w3 ⟨rfl, q3⟩; have hB3 := Lib.hid (hB2.out.trans (q3.mono hB2.out.size)); clear q3 tok2)
      | (go_at_call 11; refine (hR.out _ hB3.out).mono ?_; rintro e w4 ⟨rfl, q4⟩; have hB4 := Lib.hid (hB3.out.trans (q4.mono hB3.out.size)); clear q4))
    go_ret
    exact ⟨rfl, hB4.out⟩
end
end Go.Proofs.Ytlmdihocogalaaa

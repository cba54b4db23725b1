/- Proved here: what the statements DotsBlock and DotsUnblock say, by the contracts of package dots. -/
import Derived.Test.YtoamkfegjhailaaDtAwk
import Derived.Test.YtoamkfegjhailaaDtRef2
namespace Go.Proofs.Ytoamkfegjhailaa
open Go.RowKit
set_option linter.unusedVariables false
set_option maxRecDepth 100000

/-- Lists that are the same are held to be. -/
theorem same_T (A A' : Option Addr) (n n' c c' : Nat) (ss : Txs) (W : World) (h : TxR W W.heap.size (A, n, c) ss) (h' : TxR W W.heap.size (A', n', c') ss) :
    Calls Try.prog 13 #[.slice A n c, .slice A' n' c'] W fun e w' => e = .returned (.bool true) ∧ Below W.heap.size W w' :=
  (Same_any A A' n n' c c' W.heap.size W.heap.size ss ss W (Nat.le_trans h.1 h.2.1) (Nat.le_trans h'.1 h'.2.1) h.2.2 h'.2.2).mono fun e w' ⟨h1, k, h2⟩ => ⟨by rw [h1, decide_eq_true rfl], by rw [h2]; exact below_drewN (Below.refl _ _) k⟩

section
variable (H : DotsOk)
include H

set_option maxHeartbeats 4000000 in
theorem DotsBlock_walk (A : Option Addr) (n c : Nat) (l : Txs) (w : World) (h0 : TxR w w.heap.size (A, n, c) l) :
    Calls Try.prog 3 #[.slice A n c] w fun e w' => e = .returned (.bool true) ∧ Below w.heap.size w w' := by
  have haw := Lib.hid (dtAwake_any H w)
  obtain ⟨fm, hfm⟩ : ∃ fm, fewB l 30 = fm := ⟨_, rfl⟩
  have hF : Hid (∀ W, Below w.heap.size w W → Calls Try.prog 9 #[.slice A n c, .int .i64 30] W fun e w' => e = .returned (.bool fm) ∧ W = w') := Lib.hid (fun W hW => by rw [← hfm]; exact Few_any A n c 30 W.heap.size l W (Nat.le_trans h0.1 h0.2.1) (by decide) (h0.up hW).2.2)
  cases fm
  · clear h0 hfm
    go_enter Try.func3, Try.ntmps3
    go_wp2_with (first
      | (go_at_call 8; refine haw.out.mono ?_; rintro e w1 ⟨rfl, hb1⟩; have hB1 := Lib.hid hb1; clear hb1)
      | (go_at_call 9; refine (hF.out _ hB1.out).mono ?_; rintro e w2 ⟨rfl, hww⟩; have hws := hww.symm; clear hww; subst hws))
    go_ret
    exact ⟨rfl, hB1.out⟩
  have x0 := few_D hfm (by decide)
  obtain ⟨o, ho⟩ : ∃ o, dottedB l = o := ⟨_, rfl⟩
  have hT0 := Lib.hid (fun (W : World) (hb : Below w.heap.size w W) => h0.up hb)
  have hC1 : Hid (∀ W, Below w.heap.size w W → Calls Try.prog 10 #[.slice A n c] W fun e w' => TxsB W w' e (blockD l, o)) := Lib.hid (fun W hW => by rw [← ho]; exact H.block_ok A n c l W x0 (h0.up hW))
  have hC2 : Hid (∀ W, Below w.heap.size w W → Calls Try.prog 11 #[.slice A n c] W fun e w' => TxsB W w' e (stripD l, o)) := Lib.hid (fun W hW => by rw [← ho]; exact H.strip_ok A n c l W x0 (h0.up hW))
  have hD1 : Hid (∀ W, Below w.heap.size w W → Calls Try.prog 12 #[.slice A n c] W fun e w' => e = .returned (.bool o) ∧ w' = W) := Lib.hid (fun W hW => by rw [← ho]; exact rDotted_any A n c W.heap.size l W (by have := h0.2.2.len; have := x0.1; dsimp only at *; omega) x0.2 (h0.up hW).2.2)
  have hD2 : Hid (∀ W, Below w.heap.size w W → Calls Try.prog 14 #[.slice A n c] W fun e w' => TxsOut W w' e (blockD l)) := Lib.hid (fun W hW => rBlock_any A n c l W x0 (h0.up hW))
  have hD3 : Hid (∀ W, Below w.heap.size w W → Calls Try.prog 15 #[.slice A n c] W fun e w' => TxsOut W w' e (stripD l)) := Lib.hid (fun W hW => rStrip_any A n c l W x0 (h0.up hW))
  have hSm := Lib.hid same_T
  have tok1 := trivial
  clear h0 hfm x0 ho
  cases o
  all_goals
    go_enter Try.func3, Try.ntmps3
    go_wp2_with (first
      | (go_at_call 8; refine haw.out.mono ?_; rintro e w1 ⟨rfl, hb1⟩; have hB1 := Lib.hid hb1; clear hb1)
      | (go_at_call 9; refine (hF.out _ hB1.out).mono ?_; rintro e w2 ⟨rfl, hww⟩; have hws := hww.symm; clear hww; subst hws)
      | (go_at_call 10; refine (hC1.out _ hB1.out).mono ?_; rintro e w3 ⟨A3, n3, c3, rfl, p3, q3⟩; have hP3 := Lib.hid p3; have hB3 := Lib.hid (hB1.out.trans (q3.mono hB1.out.size)); clear p3 q3)
      | (go_at_call 11; refine (hC2.out _ hB3.out).mono ?_; rintro e w4 ⟨A4, n4, c4, rfl, p4, q4⟩; have hP4 := Lib.hid p4; have hP34 := Lib.hid (hP3.out.up q4); have hB4 := Lib.hid (hB3.out.trans (q4.mono hB3.out.size)); clear p4 q4)
      | (go_at_call 12; refine (hD1.out _ hB4.out).mono ?_; rintro e w5 ⟨rfl, hww⟩; have hws := hww; clear hww; subst hws)
      | (go_at_call 14; refine (hD2.out _ hB4.out).mono ?_; rintro e w6 ⟨A6, n6, c6, rfl, p6, q6⟩; have hP6 := Lib.hid p6; have hP36 := Lib.hid (hP34.out.up q6); have hP46 := Lib.hid (hP4.out.up q6); have hB6 := Lib.hid (hB4.out.trans (q6.mono hB4.out.size)); clear p6 q6)
      | (go_at_call 13; have _t := tok1; refine (hSm.out _ _ _ _ _ _ _ _ hP36.out hP6.out).mono ?_; rintro e w7 ⟨rfl, q7⟩; have hP47 := Lib.hid (hP46.out.up q7); have hB7 := Lib.hid (hB6.out.trans (q7.mono hB6.out.size)); have tok2 := trivial; clear tok1 q7)
      | (go_at_call 15; refine (hD3.out _ hB7.out).mono ?_; rintro e w8 ⟨A8, n8, c8, rfl, p8, q8⟩; have hP8 := Lib.hid p8; have hP48 := Lib.hid (hP47.out.up q8); have hB8 := Lib.hid (hB7.out.trans (q8.mono hB7.out.size)); clear p8 q8)
      | (go_at_call 13; have _t := tok2; refine (hSm.out _ _ _ _ _ _ _ _ hP48.out hP8.out).mono ?_; rintro e w9 ⟨rfl, q9⟩; have hB9 := Lib.hid (hB8.out.trans (q9.mono hB8.out.size)); clear tok2 q9))
    go_ret
    exact ⟨rfl, hB9.out⟩

set_option maxHeartbeats 4000000 in
theorem DotsUnblock_walk (A : Option Addr) (n c : Nat) (l : Txs) (w : World) (h0 : TxR w w.heap.size (A, n, c) l) :
    Calls Try.prog 4 #[.slice A n c] w fun e w' => e = .returned (.bool true) ∧ Below w.heap.size w w' := by
  have haw := Lib.hid (dtAwake_any H w)
  obtain ⟨fm, hfm⟩ : ∃ fm, fewB l 30 = fm := ⟨_, rfl⟩
  have hF : Hid (∀ W, Below w.heap.size w W → Calls Try.prog 9 #[.slice A n c, .int .i64 30] W fun e w' => e = .returned (.bool fm) ∧ W = w') := Lib.hid (fun W hW => by rw [← hfm]; exact Few_any A n c 30 W.heap.size l W (Nat.le_trans h0.1 h0.2.1) (by decide) (h0.up hW).2.2)
  cases fm
  · clear h0 hfm
    go_enter Try.func4, Try.ntmps4
    go_wp2_with (first
      | (go_at_call 8; refine haw.out.mono ?_; rintro e w1 ⟨rfl, hb1⟩; have hB1 := Lib.hid hb1; clear hb1)
      | (go_at_call 9; refine (hF.out _ hB1.out).mono ?_; rintro e w2 ⟨rfl, hww⟩; have hws := hww.symm; clear hww; subst hws))
    go_ret
    exact ⟨rfl, hB1.out⟩
  have x0 := few_D hfm (by decide)
  obtain ⟨⟨u, m⟩, hU⟩ : ∃ x, unblockD [] 0 l = x := ⟨_, rfl⟩
  have hC1 : Hid (∀ W, Below w.heap.size w W → Calls Try.prog 16 #[.slice A n c] W fun e w' => TxsN W w' e (u, m)) := Lib.hid (fun W hW => by rw [← hU]; exact H.unblock_ok A n c l W x0 (h0.up hW))
  have hC2 : Hid (∀ W, Below w.heap.size w W → Calls Try.prog 17 #[.slice A n c] W fun e w' => TxsN W w' e (u, m)) := Lib.hid (fun W hW => by rw [← hU]; exact rUnblock_any A n c l W x0 (h0.up hW))
  have hSm := Lib.hid same_T
  clear h0 hfm x0 hU
  go_enter Try.func4, Try.ntmps4
  go_wp2_with (first
    | (go_at_call 8; refine haw.out.mono ?_; rintro e w1 ⟨rfl, hb1⟩; have hB1 := Lib.hid hb1; clear hb1)
    | (go_at_call 9; refine (hF.out _ hB1.out).mono ?_; rintro e w2 ⟨rfl, hww⟩; have hws := hww.symm; clear hww; subst hws)
    | (go_at_call 16; refine (hC1.out _ hB1.out).mono ?_; rintro e w3 ⟨A3, n3, c3, rfl, p3, q3⟩; have hP3 := Lib.hid p3; have hB3 := Lib.hid (hB1.out.trans (q3.mono hB1.out.size)); clear p3 q3)
    | (go_at_call 17; refine (hC2.out _ hB3.out).mono ?_; rintro e w4 ⟨A4, n4, c4, rfl, p4, q4⟩; have hP4 := Lib.hid p4; have hP34 := Lib.hid (hP3.out.up q4); have hB4 := Lib.hid (hB3.out.trans (q4.mono hB3.out.size)); clear p4 q4)
    | (go_at_call 13; refine (hSm.out _ _ _ _ _ _ _ _ hP34.out hP4.out).mono ?_; rintro e w5 ⟨rfl, q5⟩; have hB5 := Lib.hid (hB4.out.trans (q5.mono hB4.out.size)); clear q5))
  go_ret
  exact ⟨rfl, hB5.out⟩
end
end Go.Proofs.Ytoamkfegjhailaa

/- Proved here: the contract of the closure with which the landed package content asks a span, and Parts, as the laws of layer 6 ask it. -/
import Derived.Test.YtiokgfcndemadaaContFns
namespace Go.Proofs.Ytiokgfcndemadaa
open Go.RowKit
set_option linter.unusedVariables false

/-- The texts in a span; none, if it is no span of them. -/
def askT (ss : Txs) (s : Sp) : Txs := if inB s ss.length then cutT ss s else []

set_option maxRecDepth 100000 in
set_option maxHeartbeats 1000000 in
theorem ask_any (L : Nat) (ok : Bool) (A : Option Addr) (n c B : Nat) (ss : Txs) (a b : Int) (w : World) (hA : TxR w B (A, n, c) ss) (hBw : B ≤ w.heap.size) (hLB : B ≤ L) (hL : Boxed w L 4 (.bool ok)) :
    Calls Try.prog 19 #[.slice A n c, .agg #[.int .i64 a, .int .i64 b], .pointer (some ⟨L, 0, none⟩)] w fun e w' => ∃ A' m, e = .returned (.slice A' m m) ∧ TxR w B (A', m, m) (askT ss (a, b)) ∧ Boxed w' L 4 (.bool (ok && inB (a, b) n)) ∧ But (fun k => k = L) w w' := by
  have hn : n ≤ maxLen := Nat.le_trans hA.1 hA.2.1
  have hl : ss.length = n := hA.2.2.len
  have hb1 : Below w.heap.size w (w.alloc (.cells #[.int .i64 a, .int .i64 b] 23)) := (Below.refl _ _).alloc (Nat.le_refl _) _
  have hS := isSpan_any a b n (w.alloc (.cells #[.int .i64 a, .int .i64 b] 23)) hn
  have hbox : Boxed (w.alloc (.cells #[.int .i64 a, .int .i64 b] 23)) L 4 (.bool ok) := (hb1.block _ hL.lt).trans hL
  have hLlt := hL.lt
  have hs0 : (w.alloc (.cells #[.int .i64 a, .int .i64 b] 23)).heap[w.heap.size]? = some (.cells #[.int .i64 a, .int .i64 b] 23 (0, 0)) := Go.Deep.blk_alloc_new w _
  have hz0 : w.heap.size < (w.alloc (.cells #[.int .i64 a, .int .i64 b] 23)).heap.size := by simp
  obtain ⟨r, hr⟩ : ∃ r, inB (a, b) n = r := ⟨_, rfl⟩
  have hrh := Lib.hid hr
  have hlh := Lib.hid hl
  rw [hr] at hS ⊢
  have hbh := Lib.hid hb1
  have hSh := Lib.hid hS
  have hboxh := Lib.hid hbox
  have hs0h := Lib.hid hs0
  have hz0h := Lib.hid hz0
  have hAh := Lib.hid hA
  clear hA hL hS hb1 hr hbox hs0 hl hz0
  cases r
  · have heq : askT ss (a, b) = [] := by unfold askT; rw [hlh.out, hrh.out]; rfl
    have heqh := Lib.hid heq
    have hand : (ok && false) = false := by simp
    have handh := Lib.hid hand
    clear heq hand
    go_enter Try.func19, Try.ntmps19
    go_wp2_with (go_at_call 20; refine hSh.out.mono ?_; rintro e w1 ⟨rfl, hb2⟩; have hbx1 : Boxed w1 L 4 (.bool ok) := ((hb2.block _ hboxh.out.lt).trans hboxh.out); have d1 := hbx1.cell; have d2 := hbx1.frozen; have hb2h := Lib.hid hb2; have hbx := Lib.hid hbx1; clear hb2 hbx1)
    go_ret
    refine ⟨.none, 0, rfl, ?_, ?_, ?_⟩
    · rw [heqh.out]; exact TxR.nil _ _
    · rw [handh.out]
      show (w1.setCell ⟨L, 0, none⟩ (.bool false)).heap[L]? = _
      simp [World.setCell, Array.getElem?_modify, show w1.heap[L]? = _ from hbx.out]
    · exact (But.of_below (F := fun k => k = L) (hbh.out.trans (hb2h.out.mono (Nat.le_of_lt hz0h.out))) fun k hk _ => hk).trans (But.setCell (F := fun k => k = L) w1 (p := ⟨L, 0, none⟩) rfl _) fun k e => .inl e
  · have hin := inB_parts hrh.out
    obtain ⟨i1, i2, i3⟩ := hin
    dsimp only at i1 i2 i3
    have heq : askT ss (a, b) = cutL ss a b := by unfold askT; rw [hlh.out, hrh.out]; rfl
    have heqh := Lib.hid heq
    have hand : (ok && true) = ok := by simp
    have handh := Lib.hid hand
    have hC : Hid (∀ W : World, Below w.heap.size w W → Calls Try.prog 21 #[.slice A n c, .agg #[.int .i64 a, .int .i64 b]] W fun e w' => ∃ A' m, e = .returned (.slice A' m m) ∧ TxR W B (A', m, m) (cutL ss a b) ∧ Below W.heap.size W w') :=
      Lib.hid fun W hW => cut_any A n c B ss a b W (hAh.out.below (hW.mono hBw)) i1 i2 i3
    clear heq hand i1 i2 i3
    go_enter Try.func19, Try.ntmps19
    go_wp2_with (first
      | (go_at_call 20; refine hSh.out.mono ?_; rintro e w1 ⟨rfl, hb2⟩; have hb3 := Lib.hid (hbh.out.trans (hb2.mono (Nat.le_of_lt hz0h.out))); have e1 : w1.heap[w.heap.size]? = _ := ((hb2.block _ hz0h.out).trans hs0h.out); have e2 : w1.cell? ⟨w.heap.size, 0, none⟩ = some (.int .i64 a) := (by rw [cells_of e1]; rfl); have e3 : w1.cell? ⟨w.heap.size, 1, none⟩ = some (.int .i64 b) := (by rw [cells_of e1]; rfl); have hbx := Lib.hid (show Boxed w1 L 4 (.bool ok) from (hb2.block _ hboxh.out.lt).trans hboxh.out); clear hb2 e1)
      | (go_at_call 21; refine (hC.out _ hb3.out).mono ?_; rintro e w2 ⟨A2, m2, rfl, hT2, hb4⟩; have hT3 := Lib.hid hT2; have hb5 := Lib.hid hb4; clear hT2 hb4))
    go_ret
    refine ⟨A2, m2, rfl, ?_, ?_, ?_⟩
    · rw [heqh.out]
      exact hT3.out.keep fun p hp => (hb3.out.cell (p := p) (by omega)).symm
    · rw [handh.out]
      exact (hb5.out.block _ hbx.out.lt).trans hbx.out
    · exact But.of_below (F := fun k => k = L) (hb3.out.trans (hb5.out.mono hb3.out.size)) fun k hk _ => hk
end Go.Proofs.Ytiokgfcndemadaa

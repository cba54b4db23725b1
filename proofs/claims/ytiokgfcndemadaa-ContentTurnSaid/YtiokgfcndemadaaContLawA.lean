/- Proved here, out of the contracts of package content: the walk of ContentTells. -/
import Derived.Test.YtiokgfcndemadaaContOk
namespace Go.Proofs.Ytiokgfcndemadaa
open Go.RowKit
set_option linter.unusedVariables false

/-- Lists of texts that came in. -/
def ArgTs (w : World) (A : Option Addr) (n c : Nat) (rows : List Slc) (sss : List Txs) : Prop := n ≤ c ∧ c ≤ maxLen ∧ RowsT w w.heap.size A n rows sss

section
variable (H : ContOk)
include H

set_option maxRecDepth 100000 in
set_option maxHeartbeats 2000000 in
theorem ContentTells_walk (A0 : Option Addr) (n0 c0 : Nat) (base : Txs) (A : Option Addr) (n c : Nat) (rows : List Slc) (parts : List Txs) (w : World) (h0 : TxR w w.heap.size (A0, n0, c0) base) (h1 : ArgTs w A n c rows parts) :
    Calls Try.prog 4 #[.slice A0 n0 c0, .slice A n c] w fun e w' => e = .returned (.bool true) ∧ Below w.heap.size w w' := by
  have hn0 : n0 ≤ maxLen := Nat.le_trans h0.1 h0.2.1
  have hn : n ≤ maxLen := Nat.le_trans h1.1 h1.2.1
  have hpl := h1.2.2.len
  have haw := Lib.hid (awake_any H w)
  obtain ⟨fb, hfb⟩ : ∃ fb, fewT base parts = fb := ⟨_, rfl⟩
  have hF := Lib.hid (fun (W : World) (hb : Below w.heap.size w W) => rFew_any A0 n0 c0 w.heap.size base A n c w.heap.size rows parts W hn0 hn (Strs.below h0.2.2 hb) (h1.2.2.below hb))
  rw [hfb] at hF
  cases fb
  · clear h0 h1 hfb
    go_enter Try.func4, Try.ntmps4
    go_wp2_with (first
      | (go_at_call 8; refine haw.out.mono ?_; rintro e w1 ⟨rfl, hb1⟩)
      | (go_at_call 9; refine (hF.out _ hb1).mono ?_; rintro e w2 ⟨rfl, rfl⟩))
    go_ret
    exact ⟨rfl, hb1⟩
  · obtain ⟨f1, f2, f3⟩ := fewT_parts hfb
    have hn6 : n ≤ 6 := by omega
    have hD := Lib.hid (fun (W : World) (hb : Below w.heap.size w W) => H.dif_ok A0 n0 c0 base A n c rows parts W h1.1 h1.2.1 (by omega) (h0.up hb) (h1.2.2.up hb))
    have hK := Lib.hid (fun (W : World) (hb : Below w.heap.size w W) => H.kind_ok A0 n0 c0 base A n c rows parts W h1.1 h1.2.1 (by omega) (h0.up hb) (h1.2.2.up hb))
    have hrD := Lib.hid (fun (W : World) (hb : Below w.heap.size w W) => rDif_any A0 n0 c0 base A n c rows parts W hn0 (by omega) (h0.up hb).2.2 (h1.2.2.up hb))
    have hrK := Lib.hid (fun (W : World) (hb : Below w.heap.size w W) => rKind_any A0 n0 c0 base A n c rows parts W hn0 (by omega) (h0.up hb).2.2 (h1.2.2.up hb))
    have hall := Lib.hid (fun (A1 A2 : Option Addr) (n1 n2 c1 c2 : Nat) (r1 r2 : List Slc) (W : World) (e1 : n1 ≤ c1) (e2 : c1 ≤ maxLen) (e3 : n2 ≤ c2) (e4 : c2 ≤ maxLen) (k1 : RowsT W W.heap.size A1 n1 r1 (diffs base parts)) (k2 : RowsT W W.heap.size A2 n2 r2 (diffs base parts)) => All_any A1 A2 n1 n2 c1 c2 _ _ r1 r2 _ _ W (by omega) (by omega) k1 k2)
    obtain ⟨K, hKv⟩ : ∃ K, kindN base parts = K := ⟨_, rfl⟩
    rw [hKv] at hK hrK
    have hKr : K ≤ 2 := by rw [← hKv]; unfold kindN; omega
    clear h0 h1 hfb f1 f2 f3 hKv
    go_enter Try.func4, Try.ntmps4
    go_wp2_with (first
      | (go_at_call 8; refine haw.out.mono ?_; rintro e w1 ⟨rfl, hb1⟩)
      | (go_at_call 9; refine (hF.out _ hb1).mono ?_; rintro e w2 ⟨rfl, rfl⟩)
      | (go_at_call 14; refine (hD.out _ hb1).mono ?_; rintro e w3 ⟨A1, n1, c1, r1, rfl, a1, a2, a3, hb3⟩; have hB3 := hb1.trans (hb3.mono hb1.size))
      | (go_at_call 15; refine (hrD.out _ hB3).mono ?_; rintro e w4 ⟨A2, n2, c2, r2, rfl, b1, b2, b3, hb4⟩; have hB4 := hB3.trans (hb4.mono hB3.size); have hal := Lib.hid (hall.out A1 A2 n1 n2 c1 c2 r1 r2 w4 a1 a2 b1 b2 (a3.up hb4) b3))
      | (go_at_call 13; refine hal.out.mono ?_; rintro e w5 ⟨rfl, q, rfl⟩; have hB5 := below_drewN hB4 q; simp only [decide_true])
      | (go_at_call 16; refine (hK.out _ hB5).mono ?_; rintro e w6 ⟨rfl, hb6⟩; have hB6 := hB5.trans (hb6.mono hB5.size))
      | (go_at_call 17; refine (hrK.out _ hB6).mono ?_; rintro e w7 ⟨rfl, hb7⟩; have hB7 := hB6.trans (hb7.mono hB6.size)))
    go_ret
    exact ⟨by simp, hB7⟩
end
end Go.Proofs.Ytiokgfcndemadaa

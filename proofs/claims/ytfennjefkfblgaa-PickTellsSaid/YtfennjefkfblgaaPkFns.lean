/- Proved here: contracts of what the landed package pick calls of slices, and of its small functions: Clone, text, sideOf. -/
import Derived.Test.YtfennjefkfblgaaPcOut
import Derived.RangeFuncBox
import Derived.Deep.DeepCutAuto
import Derived.Outline
namespace Go.Proofs.Ytfennjefkfblgaa
open Go.RowKit
set_option linter.unusedVariables false

theorem ownsRow_low {w : World} {base base' : Nat} {e : TypeId} {size : Nat} {v : Value} {n : Nat} {xs : List Value} (h : w.ownsRow base e size v n xs) (hb : base' ≤ base) : w.ownsRow base' e size v n xs := by
  refine ⟨h.1, ?_⟩
  rcases h.2 with h | ⟨g, cap, cur, hv, h1, r⟩
  · exact .inl h
  · exact .inr ⟨g, cap, cur, hv, Nat.le_trans hb h1, r⟩

/-- Texts of the call's own, told. -/
def OwnOut (w w' : World) (e : Ending) (xs : Txs) : Prop := ∃ v, e = .returned v ∧ TxO w w' v xs

set_option maxHeartbeats 800000 in
theorem cloneT_any (A : Option Addr) (n c B : Nat) (ss : Txs) (w : World) (hn : n ≤ 1000000000) (hB : B ≤ w.heap.size) (hA : Strs w B A n ss) :
    Calls Try.prog 43 #[.slice A n c] w fun e w' => OwnOut w w' e ss := by
  have hl := hA.len
  obtain ⟨i0, hi, hzz⟩ := Option.map_eq_some_iff.1 infoStr
  simp only [Prod.mk.injEq] at hzz
  obtain ⟨hz0, hz1, hz2⟩ := hzz
  have hw0 : (w.alloc (.cells #[] 9)).ownsRow w.heap.size 9 1 (.slice (some ⟨w.heap.size, 0, none⟩) 0 0) 0 [] := own_empty w w.heap.size _ (Nat.le_refl _)
  have hB0 : Below w.heap.size w (w.alloc (.cells #[] 9)) := (Below.refl _ _).alloc (Nat.le_refl _) _
  have hm : Hid (0 + n ≤ maxLen ∧ (0 + n) * 16 ≤ 140737488355328) := Lib.hid ⟨by unfold maxLen; omega, by omega⟩
  cases A with
  | none =>
    have h0 : n = 0 := by
      rcases Nat.eq_zero_or_pos n with h0 | h0
      · exact h0
      · obtain ⟨_, _, h, _⟩ := hA.2 h0
        cases h
    subst h0
    obtain rfl : ss = [] := List.eq_nil_of_length_eq_zero hl
    have hq : ∀ W : World, (binOp .eql 22 (.slice none 0 c) (.slice none 0 0)).run Try.prog W = .ok (.bool true) W := fun W => Lib.run_eql_slice_nil W _ _ _ _ _ _ _ Try.underlying22
    go_enter Try.func43, Try.ntmps43
    go_wp2
    go_ret
    exact ⟨_, rfl, World.ownsRow_nil _ _ _ _, Below.refl _ _⟩
  | some p =>
    have hA0 := Lib.hid ((hA.more hB).below hB0)
    have hlh := Lib.hid hl
    clear hA hl
    have hq : ∀ W : World, (binOp .eql 22 (.slice (some p) n c) (.slice none 0 0)).run Try.prog W = .ok (.bool false) W := fun W => Lib.run_eql_slice_nil W _ _ _ _ _ _ _ Try.underlying22
    go_enter Try.func43, Try.ntmps43
    go_wp2_with (at_builtin; refine wpList_append_reads _ rfl _ _ 22 rfl w.heap.size 9 i0 (.string ByteArray.empty) 16 Try.underlying22 hi hz0 hz1 hz2 rfl _ 0 [] rfl hw0 w.heap.size (some p) n c _ rfl hA0.out (strs_one _) hm.out.1 hm.out.2 hB0.size ?_; intro v1 w1 hown1 hg1; have hB1 : Below w.heap.size w w1 := hB0.grown hg1 hB0.size (fun j e => (hw0.lt j e).1); rw [Nat.zero_add, List.nil_append] at hown1)
    go_ret
    exact ⟨_, rfl, by rw [hlh.out]; exact hown1, hB1⟩

/-- What a cell of a piece leaves. -/
theorem but_piece (w : World) (L : Nat) (hL : w.heap.size ≤ L) {w1 : World} (hb : Below w.heap.size w w1) (u0 u1 u2 u3 : Value) : Below w.heap.size w ((((w1.setCell ⟨L, 0, none⟩ u0).setCell ⟨L, 1, none⟩ u1).setCell ⟨L, 2, none⟩ u2).setCell ⟨L, 3, none⟩ u3) :=
  hb.trans ((But.piece w1 L u0 u1 u2 u3).below hb.size (by rintro k rfl; exact hL))

/-- A text, as the landed text makes it: a copy of the call's own. -/
def TextOut (w w' : World) (e : Ending) (xs : Txs) : Prop := ∃ A c, e = .returned (.agg #[.bool false, .slice A xs.length c, .slice none 0 0, .slice none 0 0]) ∧ TxO w w' (.slice A xs.length c) xs
theorem TextOut.piece {w w' : World} {e : Ending} {xs : Txs} (h : TextOut w w' e xs) : PieceOut w w' e (tPc xs) := by
  obtain ⟨A, c, rfl, hT⟩ := h
  obtain ⟨A', c', e1, h1, h2, h3⟩ := own_slice hT.own
  injection e1 with e2 e3 e4
  subst e2
  subst e4
  exact ⟨((A, xs.length, c), (none, 0, 0), (none, 0, 0)), rfl, PcR.text ⟨h1, h2, h3⟩, hT.below⟩

set_option maxHeartbeats 1000000 in
theorem text_any (A : Option Addr) (n c B : Nat) (ss : Txs) (w : World) (hn : n ≤ 1000000000) (hB : B ≤ w.heap.size) (hA : Strs w B A n ss) :
    Calls Try.prog 28 #[.slice A n c] w fun e w' => TextOut w w' e ss := by
  obtain ⟨W0, hW0⟩ : ∃ W0, W0 = w.alloc (.cells #[.bool false, .slice none 0 0, .slice none 0 0, .slice none 0 0] 29) := ⟨_, rfl⟩
  have hb0 : Below w.heap.size w W0 := by rw [hW0]; exact (Below.refl _ w).alloc (Nat.le_refl _) _
  have k0 : W0.heap[w.heap.size]? = some (.cells #[.bool false, .slice none 0 0, .slice none 0 0, .slice none 0 0] 29 (0, 0)) := by rw [hW0]; exact Go.Deep.blk_alloc_new w _
  have hs0 : W0.heap.size = w.heap.size + 1 := by rw [hW0]; simp
  have hC := Lib.hid (cloneT_any A n c B ss W0 hn (by omega) (hA.below (hb0.mono hB)))
  have hb0h := Lib.hid hb0
  have k0h := Lib.hid k0
  have hs0h := Lib.hid hs0
  have hW0h := Lib.hid hW0
  clear hA hb0 k0 hs0 hW0
  go_enter Try.func28, Try.ntmps28
  go_upto_region 1 with fail
  rw [← hW0h.out]
  go_wp2_with (go_at_call 43; refine hC.out.mono ?_; rintro e w1 ⟨v, rfl, hT⟩; obtain ⟨A1, c1, rfl, h1, h2, h3⟩ := own_slice hT.own; have k1 : w1.heap[w.heap.size]? = _ := ((hT.below.block _ (by have := hs0h.out; omega)).trans k0h.out); obtain ⟨e0, e1, e2, e3, z0, z1, z2, z3⟩ := piece_at k1; have hTh := Lib.hid hT; clear hT h1 h2 h3 k1)
  refine bodyPost_ret (v := .agg #[.bool false, .slice A1 ss.length c1, .slice none 0 0, .slice none 0 0]) (by simp [results, Try.results28, go_sem, World.cell?_setCell_same', e0, e1, e2, e3]) rfl ?_
  refine ⟨A1, c1, rfl, ?_, but_piece w w.heap.size (Nat.le_refl _) (hb0h.out.trans (hTh.out.below.mono hb0h.out.size)) _ _ _ _⟩
  have h1 := hTh.out.own
  refine ownsRow_kept (ownsRow_low h1 hb0h.out.size) fun k e => ?_
  have h2 := (h1.lt k e)
  have h3 := hs0h.out
  exact (But.piece w1 w.heap.size _ _ _ _).block k h2.2 (by omega)

set_option maxHeartbeats 1000000 in
/-- The side of a number. -/
theorem sideOf_yes (A : Option Addr) (n c k : Nat) (rows : List Slc) (sides : List Txs) (B : Nat) (w : World) (hn : n ≤ maxLen) (hk : k < n) (hA : RowsT w B A n rows sides) :
    Calls Try.prog 29 #[.slice A n c, .int .i64 ((k : Int) + 1)] w fun e w' => (∃ A1 n1 c1 ss, e = .returned (.tuple #[.slice A1 n1 c1, .bool true]) ∧ sides[k]? = some ss ∧ TxR w B (A1, n1, c1) ss) ∧ w' = w := by
  obtain ⟨b, o, A1, n1, c1, ss, rfl, hb, hss, -, hc, hnc, hcm, hS⟩ := hA.at_ hk
  unfold maxLen at hn
  have f1 : decide ((k : Int) + 1 < 1) = false := decide_eq_false (by omega)
  have f2 : decide ((n : Int) < (k : Int) + 1) = false := decide_eq_false (by omega)
  have i1 : (0 : Int) ≤ (k : Int) := by omega
  have i2 : (k : Int) < (n : Int) := by omega
  have hfin := Lib.hid (And.intro hss (show TxR w B (A1, n1, c1) ss from ⟨hnc, hcm, hS⟩))
  clear hA hss hnc hcm hS
  go_enter Try.func29, Try.ntmps29
  go_wp2
  go_ret2
  exact ⟨⟨A1, n1, c1, ss, rfl, hfin.out.1, hfin.out.2⟩, rfl⟩
set_option maxHeartbeats 1000000 in
theorem sideOf_no (A : Option Addr) (n c : Nat) (z : Int) (w : World) (hn : n ≤ maxLen) (hz : ¬ (1 ≤ z ∧ z ≤ n)) :
    Calls Try.prog 29 #[.slice A n c, .int .i64 z] w fun e w' => e = .returned (.tuple #[.slice none 0 0, .bool false]) ∧ w' = w := by
  unfold maxLen at hn
  by_cases h1 : z < 1
  · have f1 : decide (z < 1) = true := decide_eq_true h1
    clear hz
    go_enter Try.func29, Try.ntmps29
    go_wp2
    go_ret2
    exact ⟨rfl, rfl⟩
  · have h2 : (n : Int) < z := by omega
    have f1 : decide (z < 1) = false := decide_eq_false h1
    have f2 : decide ((n : Int) < z) = true := decide_eq_true h2
    clear hz
    go_enter Try.func29, Try.ntmps29
    go_wp2
    go_ret2
    exact ⟨rfl, rfl⟩
end Go.Proofs.Ytfennjefkfblgaa

/- Proved here: texts joined: ContAsk, RowF, ContGo, ConFlA, FlMap, EqT. -/
import Derived.Test.YtoopdgohdeddoaaGreatDoorBs02
import Derived.Test.YtoopdgohdeddoaaGreatDoorBs04
import Derived.Test.YtoopdgohdeddoaaGreatDoorBs06
import Derived.Test.YtoopdgohdeddoaaGreatDoorBs10
import Derived.Test.YtoopdgohdeddoaaGreatDoorBs23
import Derived.Test.YtoopdgohdeddoaaGreatDoorBs28
import Derived.Test.YtoopdgohdeddoaaGreatDoorChecked
import Derived.RangeFuncBox
import Derived.Deep.OwnRows
import Derived.Deep.DeepCutAuto
import Derived.Outline
import Derived.Maps.OwnSet
/- Proved here: the contract of the closure with which the landed package content asks a span, and Parts, as the laws of layer 6 ask it. -/
namespace Go.Proofs.YtoopdgohdeddoaaGreatDoor
open Go.RowKit
set_option linter.unusedVariables false

/-- The texts in a span; none, if it is no span of them. -/
def askT (ss : Txs) (s : Sp) : Txs := if inB s ss.length then cutT ss s else []

set_option maxRecDepth 100000 in
set_option maxHeartbeats 1000000 in
theorem ask_any (L : Nat) (ok : Bool) (A : Option Addr) (n c B : Nat) (ss : Txs) (a b : Int) (w : World) (hA : TxR w B (A, n, c) ss) (hBw : B ≤ w.heap.size) (hLB : B ≤ L) (hL : Boxed w L 4 (.bool ok)) :
    Calls Tryz.prog 76 #[.slice A n c, .agg #[.int .i64 a, .int .i64 b], .pointer (some ⟨L, 0, none⟩)] w fun e w' => ∃ A' m, e = .returned (.slice A' m m) ∧ TxR w B (A', m, m) (askT ss (a, b)) ∧ Boxed w' L 4 (.bool (ok && inB (a, b) n)) ∧ But (fun k => k = L) w w' := by
  have hn : n ≤ maxLen := Nat.le_trans hA.1 hA.2.1
  have hl : ss.length = n := hA.2.2.len
  have hb1 : Below w.heap.size w (w.alloc (.cells #[.int .i64 a, .int .i64 b] 48)) := (Below.refl _ _).alloc (Nat.le_refl _) _
  have hS := isSpan_any a b n (w.alloc (.cells #[.int .i64 a, .int .i64 b] 48)) hn
  have hbox : Boxed (w.alloc (.cells #[.int .i64 a, .int .i64 b] 48)) L 4 (.bool ok) := (hb1.block _ hL.lt).trans hL
  have hLlt := hL.lt
  have hs0 : (w.alloc (.cells #[.int .i64 a, .int .i64 b] 48)).heap[w.heap.size]? = some (.cells #[.int .i64 a, .int .i64 b] 48 (0, 0)) := Go.Deep.blk_alloc_new w _
  have hz0 : w.heap.size < (w.alloc (.cells #[.int .i64 a, .int .i64 b] 48)).heap.size := by simp
  obtain ⟨r, hr⟩ : ∃ r, inB (a, b) n = r := ⟨_, rfl⟩
  have hrh := Lib.hid hr
  have hlh := Lib.hid hl
  rw [hr] at hS ⊢
  have hbh := Lib.hid hb1
  have hSh := Lib.hid hS
  have hboxh := Lib.hid hbox
  have hs0h := Lib.hid hs0
  have hz0h := Lib.hid hz0
  have hAh := Lib.hid hA
  clear hA hL hS hb1 hr hbox hs0 hl hz0
  cases r
  · have heq : askT ss (a, b) = [] := by unfold askT; rw [hlh.out, hrh.out]; rfl
    have heqh := Lib.hid heq
    have hand : (ok && false) = false := by simp
    have handh := Lib.hid hand
    clear heq hand
    go_enter Tryz.func76, Tryz.ntmps76
    go_wp2_with (go_at_call 77; refine hSh.out.mono ?_; rintro e w1 ⟨rfl, hb2⟩; have hbx1 : Boxed w1 L 4 (.bool ok) := ((hb2.block _ hboxh.out.lt).trans hboxh.out); have d1 := hbx1.cell; have d2 := hbx1.frozen; have hb2h := Lib.hid hb2; have hbx := Lib.hid hbx1; clear hb2 hbx1)
    go_ret
    refine ⟨.none, 0, rfl, ?_, ?_, ?_⟩
    · rw [heqh.out]; exact TxR.nil _ _
    · rw [handh.out]
      show (w1.setCell ⟨L, 0, none⟩ (.bool false)).heap[L]? = _
      simp [World.setCell, Array.getElem?_modify, show w1.heap[L]? = _ from hbx.out]
    · exact (But.of_below (F := fun k => k = L) (hbh.out.trans (hb2h.out.mono (Nat.le_of_lt hz0h.out))) fun k hk _ => hk).trans (But.setCell (F := fun k => k = L) w1 (p := ⟨L, 0, none⟩) rfl _) fun k e => .inl e
  · have hin := inB_parts hrh.out
    obtain ⟨i1, i2, i3⟩ := hin
    dsimp only at i1 i2 i3
    have heq : askT ss (a, b) = cutL ss a b := by unfold askT; rw [hlh.out, hrh.out]; rfl
    have heqh := Lib.hid heq
    have hand : (ok && true) = ok := by simp
    have handh := Lib.hid hand
    have hC : Hid (∀ W : World, Below w.heap.size w W → Calls Tryz.prog 78 #[.slice A n c, .agg #[.int .i64 a, .int .i64 b]] W fun e w' => ∃ A' m, e = .returned (.slice A' m m) ∧ TxR W B (A', m, m) (cutL ss a b) ∧ Below W.heap.size W w') :=
      Lib.hid fun W hW => cut_any A n c B ss a b W (hAh.out.below (hW.mono hBw)) i1 i2 i3
    clear heq hand i1 i2 i3
    go_enter Tryz.func76, Tryz.ntmps76
    go_wp2_with (first
      | (go_at_call 77; refine hSh.out.mono ?_; rintro e w1 ⟨rfl, hb2⟩; have hb3 := Lib.hid (hbh.out.trans (hb2.mono (Nat.le_of_lt hz0h.out))); have e1 : w1.heap[w.heap.size]? = _ := ((hb2.block _ hz0h.out).trans hs0h.out); have e2 : w1.cell? ⟨w.heap.size, 0, none⟩ = some (.int .i64 a) := (by rw [cells_of e1]; rfl); have e3 : w1.cell? ⟨w.heap.size, 1, none⟩ = some (.int .i64 b) := (by rw [cells_of e1]; rfl); have hbx := Lib.hid (show Boxed w1 L 4 (.bool ok) from (hb2.block _ hboxh.out.lt).trans hboxh.out); clear hb2 e1)
      | (go_at_call 78; refine (hC.out _ hb3.out).mono ?_; rintro e w2 ⟨A2, m2, rfl, hT2, hb4⟩; have hT3 := Lib.hid hT2; have hb5 := Lib.hid hb4; clear hT2 hb4))
    go_ret
    refine ⟨A2, m2, rfl, ?_, ?_, ?_⟩
    · rw [heqh.out]
      exact hT3.out.keep fun p hp => (hb3.out.cell (p := p) (by omega)).symm
    · rw [handh.out]
      exact (hb5.out.block _ hbx.out.lt).trans hbx.out
    · exact But.of_below (F := fun k => k = L) (hb3.out.trans (hb5.out.mono hb3.out.size)) fun k hk _ => hk
end Go.Proofs.YtoopdgohdeddoaaGreatDoor
/- Proved here, without conditions: a new slice of slices of texts, and its cells as they are set one by one. -/
namespace Go.Proofs.YtoopdgohdeddoaaGreatDoor
open Go.RowKit
set_option linter.unusedVariables false

theorem make_rows (n : Nat) (hn : n ≤ 1000000) (w : World) : (Instr.makeSlice 40 (.int .i64 (n : Int)) (.int .i64 (n : Int))).run Tryz.prog w = .ok (.slice (some ⟨w.heap.size, 0, none⟩) n n) (w.alloc (.cells (madeCells #[.slice none 0 0] n) 22)) := by
  obtain ⟨i, hi, hzz⟩ := Option.map_eq_some_iff.1 infoTxs
  simp only [Prod.mk.injEq] at hzz
  obtain ⟨hz, hs, hb⟩ := hzz
  have := run_make (P := Tryz.prog) w 40 22 i (.slice none 0 0) Tryz.underlying40 hi hz .i64 .i64 n n (by omega) (Int.le_refl _) (by rw [hb]; omega) (by omega)
  simp only [Int.toNat_natCast, hs, Nat.mul_one] at this
  exact this

/-- The cells of parts, as far as they are asked. -/
def rowF (rs : List Slc) (i : Nat) : Value := slcV (rs.getD i (none, 0, 0))
theorem rowF_set {w : World} {G n k : Nat} {rs : List Slc} {r : Slc} (h : w.rowIs G 22 n (rowF rs)) (hk : rs.length = k) : (w.setCell ⟨G, k, none⟩ (slcV r)).rowIs G 22 n (rowF (rs ++ [r])) := by
  refine (h.set k _).congr fun i hi => ?_
  unfold rowF
  subst hk
  by_cases e : i = rs.length
  · subst e
    simp
  · rw [if_neg e]
    congr 1
    rw [List.getD_eq_getElem?_getD, List.getD_eq_getElem?_getD]
    rcases Nat.lt_or_ge i rs.length with h1 | h1
    · rw [List.getElem?_append_left h1]
    · rw [List.getElem?_eq_none h1, List.getElem?_eq_none (by simp; omega)]

end Go.Proofs.YtoopdgohdeddoaaGreatDoor
/- Proved here: the contract of the landed content.Parts, as the laws of layer 6 ask it. -/
namespace Go.Proofs.YtoopdgohdeddoaaGreatDoor
open Go.RowKit
set_option linter.unusedVariables false

/-- How far Parts has come: what was asked, the flag, the parts so far. -/
structure AskIn (w wr : World) (c : Ck) (A : Option Addr) (n k0 G : Nat) (ok : Bool) (rs : List Slc) : Prop where
  box : wr.heap[w.heap.size]? = some (.cells #[.bool c.1, .int .i64 c.2.1.1, .int .i64 c.2.1.2, .slice A n k0] 51 (0, 0))
  flag : Boxed wr (w.heap.size + 1) 4 (.bool ok)
  row : wr.rowIs G 22 n (rowF rs)
  far : w.heap.size + 1 < G
  below : Below w.heap.size w wr
section
variable {w wr w1 : World} {c : Ck} {A : Option Addr} {n k0 G : Nat} {ok ok' : Bool} {rs : List Slc}
theorem AskIn.at_ (h : AskIn w wr c A n k0 G ok rs) : wr.cell? ⟨w.heap.size, 1, none⟩ = some (.int .i64 c.2.1.1) ∧ wr.cell? ⟨w.heap.size, 2, none⟩ = some (.int .i64 c.2.1.2) ∧ wr.cell? ⟨w.heap.size, 3, none⟩ = some (.slice A n k0) ∧ w.heap.size < wr.heap.size :=
  ⟨by rw [cells_of h.box]; rfl, by rw [cells_of h.box]; rfl, by rw [cells_of h.box]; rfl, (Array.getElem?_eq_some_iff.1 h.box).1⟩
theorem AskIn.asked (h : AskIn w wr c A n k0 G ok rs) (hb : But (fun k => k = w.heap.size + 1) wr w1) (hf : Boxed w1 (w.heap.size + 1) 4 (.bool ok')) : AskIn w w1 c A n k0 G ok' rs :=
  ⟨(hb.block _ h.at_.2.2.2 (by omega)).trans h.box, hf, h.row.of_block (hb.block _ h.row.lt (by have := h.far; omega)), h.far, h.below.trans (hb.below h.below.size (by omega))⟩
theorem AskIn.put {r : Slc} {k : Nat} (h : AskIn w wr c A n k0 G ok rs) (hk : rs.length = k) : AskIn w (wr.setCell ⟨G, k, none⟩ (slcV r)) c A n k0 G ok (rs ++ [r]) := by
  have hf := h.far
  have hb : But (fun j => j = G) wr (wr.setCell ⟨G, k, none⟩ (slcV r)) := But.setCell (F := fun j => j = G) wr (p := ⟨G, k, none⟩) rfl _
  exact ⟨(hb.block _ h.at_.2.2.2 (by omega)).trans h.box, (hb.block _ h.flag.lt (by omega)).trans h.flag, rowF_set h.row hk, hf, h.below.trans (hb.below h.below.size (by omega))⟩
end

set_option maxRecDepth 100000 in
set_option maxHeartbeats 4000000 in
theorem parts_anyB (B : Nat) (st : Bool) (f t : Int) (spans : List Sp) (A1 : Option Addr) (n1 c1 : Nat) (A0 : Option Addr) (n0 c0 : Nat) (base : Txs) (A : Option Addr) (n c : Nat) (rows : List Slc) (sides : List Txs) (w : World) (hn : n ≤ 100000) (hn1 : n1 ≤ maxLen) (hA1 : Spans w w.heap.size A1 n1 spans) (hB : B ≤ w.heap.size) (hA0 : TxR w B (A0, n0, c0) base) (hA : RowsT w w.heap.size A n rows sides) :
    Calls Tryz.prog 42 #[.agg #[.bool st, .int .i64 f, .int .i64 t, .slice A1 n1 c1], .slice A0 n0 c0, .slice A n c] w fun e w' => PartsOutB B w w' e (partErr (st, (f, t), spans) base sides) (partBase (st, (f, t), spans) base sides) (partSides (st, (f, t), spans) base sides) := by
  have hl := hA.len
  have hl1 := hA1.len
  have hl0 : base.length = n0 := hA0.2.2.len
  unfold maxLen at hn1
  by_cases hnn : n1 = n
  rotate_left
  · have he : partErr (st, (f, t), spans) base sides = 1 := err_arg (by show spans.length ≠ _; omega)
    have hb : partBase (st, (f, t), spans) base sides = [] := by unfold partBase; rw [he]; rfl
    have hs : partSides (st, (f, t), spans) base sides = [] := by unfold partSides; rw [he]; rfl
    rw [he, hb, hs]
    have hne : ((n1 : Int) != (n : Int)) = true := by simp; omega
    clear hA0 hA hA1 he hb hs
    go_enter Tryz.func42, Tryz.ntmps42
    go_wp2
    go_ret3
    exact PartsOutB.nothing 1 ((Below.refl _ _).alloc (Nat.le_refl _) _)
  subst hnn
  have hne : ((n1 : Int) != (n1 : Int)) = false := by simp
  have hAh := Lib.hid hA
  have hA0h := Lib.hid hA0
  have hA1h := Lib.hid hA1
  have hlh := Lib.hid hl
  have hl1h := Lib.hid hl1
  have hl0h := Lib.hid hl0
  have hmk := make_rows n1 (by omega)
  obtain ⟨W0, hW0⟩ : ∃ W0, W0 = ((w.alloc (.cells #[.bool st, .int .i64 f, .int .i64 t, .slice A1 n1 c1] 51)).alloc (.cells #[.bool true] 4)) := ⟨_, rfl⟩
  have k0 : W0.heap[w.heap.size]? = some (.cells #[.bool st, .int .i64 f, .int .i64 t, .slice A1 n1 c1] 51 (0, 0)) := by
    rw [hW0]
    rw [push_at, if_neg (by simp), push_at, if_pos rfl]
  have k1 : Boxed W0 (w.heap.size + 1) 4 (.bool true) := by
    unfold Boxed
    rw [hW0, push_at, push_size, if_pos rfl]
  have k2 : Below w.heap.size w W0 := by
    rw [hW0]
    exact ((Below.refl _ w).alloc (Nat.le_refl _) _).alloc (by simp) _
  have k3 : W0.heap.size = w.heap.size + 2 := by rw [hW0]; simp
  have hask : Hid (∀ (W : World) (ok : Bool) (A2 : Option Addr) (n2 c2 : Nat) (ss : Txs) (a b : Int), Below w.heap.size w W → TxR w w.heap.size (A2, n2, c2) ss → Boxed W (w.heap.size + 1) 4 (.bool ok) →
      Calls Tryz.prog 76 #[.slice A2 n2 c2, .agg #[.int .i64 a, .int .i64 b], .pointer (some ⟨w.heap.size + 1, 0, none⟩)] W fun e w' => ∃ A' m, e = .returned (.slice A' m m) ∧ TxR w w.heap.size (A', m, m) (askT ss (a, b)) ∧ Boxed w' (w.heap.size + 1) 4 (.bool (ok && inB (a, b) n2)) ∧ But (fun k => k = w.heap.size + 1) W w') :=
    Lib.hid fun W ok A2 n2 c2 ss a b hW hT hB => (ask_any (w.heap.size + 1) ok A2 n2 c2 w.heap.size ss a b W (hT.below hW) hW.size (by omega) hB).mono fun e w' ⟨A', m, h1, h2, h3, h4⟩ => ⟨A', m, h1, h2.keep fun p hp => (hW.cell (p := p) hp).symm, h3, h4⟩
  have d1 : W0.cell? ⟨w.heap.size, 1, none⟩ = some (.int .i64 f) := by rw [cells_of k0]; rfl
  have d2 : W0.cell? ⟨w.heap.size, 2, none⟩ = some (.int .i64 t) := by rw [cells_of k0]; rfl
  have hBh := Lib.hid hB
  have hQ0 : Hid (Calls Tryz.prog 76 #[.slice A0 n0 c0, .agg #[.int .i64 f, .int .i64 t], .pointer (some ⟨w.heap.size + 1, 0, none⟩)] W0 fun e w' => ∃ A' m, e = .returned (.slice A' m m) ∧ TxR w B (A', m, m) (askT base (f, t)) ∧ Boxed w' (w.heap.size + 1) 4 (.bool (true && inB (f, t) n0)) ∧ But (fun k => k = w.heap.size + 1) W0 w') :=
    Lib.hid ((ask_any (w.heap.size + 1) true A0 n0 c0 B base f t W0 (hA0.below (k2.mono hB)) (Nat.le_trans hB k2.size) (by omega) k1).mono fun e w' ⟨A', m, h1, h2, h3, h4⟩ => ⟨A', m, h1, h2.keep fun p hp => (k2.cell (p := p) (Nat.lt_of_lt_of_le hp hB)).symm, h3, h4⟩)
  have k0h := Lib.hid k0
  have k2h := Lib.hid k2
  have k3h := Lib.hid k3
  have hW0h := Lib.hid hW0
  obtain ⟨ok0, hok0⟩ : ∃ ok0, inB (f, t) n0 = ok0 := ⟨_, rfl⟩
  rw [hok0, Bool.true_and] at hQ0
  have hok0h := Lib.hid hok0
  have hst : Hid (∀ (w1 : World), Boxed w1 (w.heap.size + 1) 4 (.bool ok0) → But (fun k => k = w.heap.size + 1) W0 w1 → AskIn w (w1.alloc (.cells (madeCells #[.slice none 0 0] n1) 22)) (st, (f, t), spans) A1 n1 c1 w1.heap.size ok0 []) :=
    Lib.hid fun w1 h1 h2 => by
      have h3 : Below w.heap.size w w1 := k2h.out.trans (h2.below k2h.out.size (by omega))
      have h4 := h2.size
      have h5 := k3h.out
      refine ⟨(Below.heap_alloc w1 _ _ (by omega)).trans ((h2.block _ (by omega) (by omega)).trans k0h.out), (Below.heap_alloc w1 _ _ h1.lt).trans h1, (World.rowIs_made w1 _ _ _).congr fun i _ => rfl, by omega, h3.alloc h3.size _⟩
  clear hA hA0 hA1 hok0 hB hl hl1 hl0 k0 k1 k2 k3 d1 d2 hW0
  go_enter Tryz.func42, Tryz.ntmps42
  go_upto_region 5 with fail
  rw [← hW0h.out]
  have d1 : W0.cell? ⟨w.heap.size, 1, none⟩ = some (.int .i64 f) := by rw [cells_of k0h.out]; rfl
  have d2 : W0.cell? ⟨w.heap.size, 2, none⟩ = some (.int .i64 t) := by rw [cells_of k0h.out]; rfl
  go_wp2_with (go_at_call 76; refine hQ0.out.mono ?_; rintro e w1 ⟨Ab, mb, rfl, hTb, hf1, hb1⟩; have hTbh := Lib.hid hTb; have hst1 := Lib.hid (hst.out w1 hf1 hb1); clear hTb hf1 hb1 d1 d2)
  obtain ⟨G, hG⟩ : ∃ G, w1.heap.size = G := ⟨_, rfl⟩
  rw [hG] at hst1 ⊢
  clear hG
  go_loopw [13, 14, 32] (fun _ _ s32 wr => ∃ (k : Nat) (ok : Bool) (rs : List Slc), k ≤ n1 ∧ rs.length = k ∧ s32 = .int .i64 k ∧ Hid (ok = true ↔ ok0 = true ∧ insB spans sides k) ∧ Hid (∀ (i : Nat) (r : Slc) (s : Sp) (l : Txs), rs[i]? = some r → spans[i]? = some s → sides[i]? = some l → TxR w w.heap.size r (askT l s)) ∧ Hid (AskIn w wr (st, (f, t), spans) A1 n1 c1 G ok rs)) (fun _ _ s32 _ => n1 - (intOf s32).toNat)
  case atStart => exact ⟨0, ok0, [], Nat.zero_le _, rfl, rfl, Lib.hid ⟨fun h => ⟨h, fun i s l hi => absurd hi (by omega)⟩, fun h => h.1⟩, Lib.hid (fun i r s l h => by simp at h), hst1⟩
  case round =>
    obtain ⟨k, ok, rs, hkn, hrl, rfl, hok, hRs, hP⟩ := hrel
    obtain ⟨wo, rfl⟩ : ∃ wo : World, wo = wr := ⟨_, rfl⟩
    clear hst1 hst hQ0
    obtain ⟨d1, d2, d3, hwl⟩ := hP.out.at_
    dsimp only at d1 d2
    by_cases hlt : k < n1
    · obtain ⟨b, o, A2, n2, c2, l, rfl, hb, hll, hrow, hc, hnc, hcm, hSt⟩ := (hAh.out.below hP.out.below).at_ (k := k) hlt
      obtain ⟨b', o', ⟨s1, s2⟩, rfl, hb', hs, e1, e2⟩ := (hA1h.out.keep (w' := wo) (fun p hp => hP.out.below.cell hp)).at_ (k := k) hlt
      dsimp only at e1 e2
      have i1 : (0 : Int) ≤ (k : Int) := by omega
      have i2 : (k : Int) < (n1 : Int) := by omega
      have hC := Lib.hid (hask.out wo ok A2 n2 c2 l s1 s2 hP.out.below (hAh.out.2.2 k _ _ hrow hll) hP.out.flag)
      have hsh := Lib.hid (And.intro hs hll)
      have hl2 := Lib.hid (hSt.len)
      obtain ⟨bb, hbb⟩ : ∃ bb, inB (s1, s2) n2 = bb := ⟨_, rfl⟩
      rw [hbb] at hC
      have hbbh := Lib.hid hbb
      have hrlh := Lib.hid hrl
      clear hs hll hrow hSt hbb hrl
      go_wp2_with (go_at_call 76; refine hC.out.mono ?_; rintro e w2 ⟨A3, m3, rfl, hT3, hf3, hb3⟩; have hP2 := Lib.hid (hP.out.asked hb3 hf3); have z1 := hP2.out.row.cell hlt; have z2 := hP2.out.row.frozen k; have hT3h := Lib.hid hT3; clear hT3 hf3 hb3)
      go_roundw
      case rel =>
        refine ⟨k + 1, ok && bb, rs ++ [(A3, m3, m3)], by omega, by simp [hrlh.out], by go_num, Lib.hid ?_, Lib.hid ?_, Lib.hid (hP2.out.put (r := (A3, m3, m3)) hrlh.out)⟩
        · rw [insB_step hsh.out.1 hsh.out.2, hl2.out, hbbh.out, Bool.and_eq_true, hok.out]
          exact and_assoc
        · intro i r s l' h1 h2 h3
          rcases Nat.lt_or_ge i k with hik | hik
          · rw [List.getElem?_append_left (by rw [hrlh.out]; exact hik)] at h1
            exact hRs.out i r s l' h1 h2 h3
          · rw [List.getElem?_append_right (by rw [hrlh.out]; exact hik), hrlh.out] at h1
            obtain rfl : i = k := by
              have := (List.getElem?_eq_some_iff.1 h1).1
              simp at this
              omega
            simp at h1
            rw [hsh.out.1] at h2
            rw [hsh.out.2] at h3
            injection h2 with h2
            injection h3 with h3
            subst h1
            subst h2
            subst h3
            exact hT3h.out
      case measure => simp [intOf]; omega
    · obtain rfl : k = n1 := by omega
      have z1 := hP.out.flag.cell
      have hok1 := hok.out
      cases ok
      · have hno : ¬ (inB (f, t) base.length = true ∧ insB spans sides sides.length) := by
          rw [hl0h.out, hok0h.out, hlh.out]
          intro h
          have := hok1.2 h
          cases this
        have he := err_range (c := (st, (f, t), spans)) (base := base) (sides := sides) (by show spans.length = _; rw [hlh.out, hl1h.out]) hno
        have hb : partBase (st, (f, t), spans) base sides = [] := by unfold partBase; rw [he]; rfl
        have hs : partSides (st, (f, t), spans) base sides = [] := by unfold partSides; rw [he]; rfl
        have heh := Lib.hid (And.intro he (And.intro hb hs))
        clear hno he hb hs hok1
        go_wp2
        go_ret3
        rw [heh.out.1, heh.out.2.1, heh.out.2.2]
        exact PartsOutB.nothing 3 hP.out.below
      · have hyes := hok1.1 rfl
        have hin0 : inB (f, t) base.length = true := by rw [hl0h.out, hok0h.out]; exact hyes.1
        have he := err_none (c := (st, (f, t), spans)) (base := base) (sides := sides) (by show spans.length = _; rw [hlh.out, hl1h.out]) ⟨hin0, by rw [hlh.out]; exact hyes.2⟩
        have hb : partBase (st, (f, t), spans) base sides = cutT base (f, t) := by unfold partBase; rw [he]; rfl
        have hs : partSides (st, (f, t), spans) base sides = cutsT spans sides := by unfold partSides; rw [he]; rfl
        have heh := Lib.hid (And.intro he (And.intro hb hs))
        have hask0 : askT base (f, t) = cutT base (f, t) := by unfold askT; rw [if_pos hin0]
        have hTb2 : TxR wo B (Ab, mb, mb) (cutT base (f, t)) := by
          rw [← hask0]
          exact hTbh.out.below (hP.out.below.mono hBh.out)
        have hRows : RowsT wo wo.heap.size (some ⟨G, 0, none⟩) k rs (cutsT spans sides) := by
          refine ⟨reads_of_row hP.out.row _ (by rw [List.length_map, hrl]) (fun i u hu => ?_), ?_, fun i r ss h1 h2 => ?_⟩
          · rw [List.getElem?_map] at hu
            unfold rowF
            rw [List.getD_eq_getElem?_getD]
            cases h : rs[i]? with
            | none => rw [h] at hu; cases hu
            | some r => rw [h] at hu; simpa using hu
          · unfold cutsT
            rw [List.length_zipWith, hl1h.out, hlh.out, hrl]
            simp
          · unfold cutsT at h2
            rw [List.getElem?_zipWith] at h2
            cases h3 : spans[i]? with
            | none => rw [h3] at h2; simp at h2
            | some s =>
              cases h4 : sides[i]? with
              | none => rw [h3, h4] at h2; simp at h2
              | some l =>
                rw [h3, h4] at h2
                simp at h2
                subst h2
                have h5 := hRs.out i r s l h1 h3 h4
                have h6 : askT l s = cutT l s := by
                  unfold askT
                  rw [if_pos (hyes.2 i s l (by have := (List.getElem?_eq_some_iff.1 h1).1; omega) h3 h4)]
                rw [h6] at h5
                exact (h5.below hP.out.below).more hP.out.below.size
        have hTb3 := Lib.hid hTb2
        have hRowsh := Lib.hid hRows
        clear he hb hs hok1 hyes hin0 hTb2 hRows hask0
        go_wp2
        go_ret3
        rw [heh.out.1, heh.out.2.1, heh.out.2.2]
        exact ⟨Ab, mb, mb, some ⟨G, 0, none⟩, _, _, rs, rfl, hTb3.out, Nat.le_refl _, by unfold maxLen; omega, hRowsh.out, hP.out.below⟩

theorem parts_any (st : Bool) (f t : Int) (spans : List Sp) (A1 : Option Addr) (n1 c1 : Nat) (A0 : Option Addr) (n0 c0 : Nat) (base : Txs) (A : Option Addr) (n c : Nat) (rows : List Slc) (sides : List Txs) (w : World) (hn : n ≤ 100000) (hn1 : n1 ≤ maxLen) (hA1 : Spans w w.heap.size A1 n1 spans) (hA0 : TxR w w.heap.size (A0, n0, c0) base) (hA : RowsT w w.heap.size A n rows sides) :
    Calls Tryz.prog 42 #[.agg #[.bool st, .int .i64 f, .int .i64 t, .slice A1 n1 c1], .slice A0 n0 c0, .slice A n c] w fun e w' => PartsOut w w' e (partErr (st, (f, t), spans) base sides) (partBase (st, (f, t), spans) base sides) (partSides (st, (f, t), spans) base sides) :=
  (parts_anyB w.heap.size st f t spans A1 n1 c1 A0 n0 c0 base A n c rows sides w hn hn1 hA1 (Nat.le_refl _) hA0 hA).mono fun e w' h => h.out (Nat.le_refl _)
end Go.Proofs.YtoopdgohdeddoaaGreatDoor
/- What the statements ask of flags.Kind, Known, Does. -/
namespace Go.Proofs.YtoopdgohdeddoaaGreatDoor
open Go.RowKit
set_option linter.unusedVariables false
set_option maxRecDepth 100000

/-- Texts that aren't too many, nor too long. -/
def smallX (l : Txs) : Prop := l.length ≤ 100000 ∧ ∀ s ∈ l, s.length ≤ 1000000
/-- The contracts of flags.Kind, Known, Does, Result. -/
def FlagKindOk : Prop := ∀ (A0 : Option Addr) (n0 c0 : Nat) (mine : Txs) (A1 : Option Addr) (n1 c1 : Nat) (older : Txs) (A2 : Option Addr) (n2 c2 : Nat) (yours : Txs) (w : World), smallX mine → smallX older → smallX yours →
    TxR w w.heap.size (A0, n0, c0) mine → TxR w w.heap.size (A1, n1, c1) older → TxR w w.heap.size (A2, n2, c2) yours →
    Calls Tryz.prog 44 #[.slice A0 n0 c0, .slice A1 n1 c1, .slice A2 n2 c2] w fun e w' => e = .returned (.int .i64 (kindF mine older yours : Nat)) ∧ Below w.heap.size w w'
def FlagKnownOk : Prop := ∀ (c : UInt8) (w : World), Calls Tryz.prog 18 #[.int .u8 (c.toNat : Int)] w fun e w' => e = .returned (.bool (knownB c)) ∧ Below w.heap.size w w'
def FlagDoesOk : Prop := ∀ (c : UInt8) (k : Int) (w : World), inR64 k → Calls Tryz.prog 43 #[.int .u8 (c.toNat : Int), .int .i64 k] w fun e w' => e = .returned (.int .i64 (doesF c k : Nat)) ∧ Below w.heap.size w w'
theorem few16 {l : Txs} (h : fewB l 16 = true) : l.length ≤ 16 ∧ ∀ t ∈ l, t.length ≤ 100 := by
  unfold fewB at h
  rw [Bool.and_eq_true, decide_eq_true_eq] at h
  refine ⟨h.1, fun t ht => ?_⟩
  have h2 := h.2
  rw [List.take_of_length_le (by omega), List.all_eq_true] at h2
  simpa using h2 t ht
theorem few16_X {l : Txs} (h : fewB l 16 = true) : smallX l := by
  obtain ⟨h1, h2⟩ := few16 h
  exact ⟨by omega, fun s hs => by have := h2 s hs; omega⟩
end Go.Proofs.YtoopdgohdeddoaaGreatDoor
/- Proved here: the contracts of the landed flags' map of deeds: what byFlag makes, what Known and Does read of it. -/
namespace Go.Proofs.YtoopdgohdeddoaaGreatDoor
open Go.RowKit
set_option linter.unusedVariables false
set_option maxRecDepth 100000

/-- Five numbers, read as data. -/
def deedsR (v : Value) : Option (DataW Unit × List MemPlace) :=
  match v with
  | .agg a => match a.toList with
    | [.int .i64 x0, .int .i64 x1, .int .i64 x2, .int .i64 x3, .int .i64 x4] => some (.agg [.lit (.int .i64 x0), .lit (.int .i64 x1), .lit (.int .i64 x2), .lit (.int .i64 x3), .lit (.int .i64 x4)], [])
    | _ => none
  | _ => none
def deedV (x2 x4 : Int) : Value := .agg #[.int .i64 0, .int .i64 0, .int .i64 x2, .int .i64 0, .int .i64 x4]
def deedD (x2 x4 : Int) : DataW Unit := .agg [.lit (.int .i64 0), .lit (.int .i64 0), .lit (.int .i64 x2), .lit (.int .i64 0), .lit (.int .i64 x4)]
theorem deedsR_mk (x2 x4 : Int) : deedsR (deedV x2 x4) = some (deedD x2 x4, []) := rfl
theorem deedsR_inv {v : Value} {ps : List MemPlace} {x2 x4 : Int} (h : deedsR v = some (deedD x2 x4, ps)) : v = deedV x2 x4 := by
  unfold deedsR at h
  split at h
  · rename_i a
    split at h
    · rename_i y0 y1 y2 y3 y4 h2
      simp only [deedD, Option.some.injEq, Prod.mk.injEq, DataW.agg.injEq, List.cons.injEq, DataW.lit.injEq, Lit.int.injEq, true_and, and_true] at h
      obtain ⟨⟨e0, e1, e2, e3, e4⟩, -⟩ := h
      unfold deedV
      congr 1
      apply Array.toList_inj.1
      rw [h2, e0, e1, e2, e3, e4]
    · cases h
  · cases h

/-- What byFlag has. -/
def deedMap : DataW Unit := ((((((DataW.map []).put (.int .u8 101) (deedD 1 1)).put (.int .u8 120) (deedD 0 1)).put (.int .u8 51) (deedD 1 0)).put (.int .u8 69) (deedD 1 2)).put (.int .u8 88) (deedD 0 2)).put (.int .u8 65) (deedD 1 3)
theorem deedMap_at (c : UInt8) : deedMap.atKey (.int .u8 (c.toNat : Int)) (deedD 0 0) = deedD (doesF c 2 : Nat) (doesF c 4 : Nat) := by
  cases h : knownB c with
  | true => rcases known_eq c h with rfl | rfl | rfl | rfl | rfl | rfl <;> rfl
  | false =>
    obtain ⟨h1, h2, h3, h4, h5, h6⟩ := known_not h
    simp only [beq_eq_false_iff_ne, ne_eq] at h1 h2 h3 h4 h5 h6
    have g : ∀ d : Int, ¬ (c.toNat : Int) = d → Lit.int .u8 (c.toNat : Int) ≠ Lit.int .u8 d := fun d hd e => hd (by injection e)
    rw [does_unknown h, does_unknown h]
    unfold deedMap
    rw [Maps.atKey_put_other (g _ h6), Maps.atKey_put_other (g _ h5), Maps.atKey_put_other (g _ h4), Maps.atKey_put_other (g _ h3), Maps.atKey_put_other (g _ h2), Maps.atKey_put_other (g _ h1)]
    rfl
theorem deedMap_has (c : UInt8) : Maps.has deedMap (.int .u8 (c.toNat : Int)) = knownB c := by
  cases h : knownB c with
  | true => rcases known_eq c h with rfl | rfl | rfl | rfl | rfl | rfl <;> rfl
  | false =>
    obtain ⟨h1, h2, h3, h4, h5, h6⟩ := known_not h
    simp only [beq_eq_false_iff_ne, ne_eq] at h1 h2 h3 h4 h5 h6
    have g : ∀ d : Int, ¬ (c.toNat : Int) = d → Lit.int .u8 (c.toNat : Int) ≠ Lit.int .u8 d := fun d hd e => hd (by injection e)
    unfold deedMap
    rw [Maps.has_put_other (g _ h6), Maps.has_put_other (g _ h5), Maps.has_put_other (g _ h4), Maps.has_put_other (g _ h3), Maps.has_put_other (g _ h2), Maps.has_put_other (g _ h1)]
    rfl

theorem lawU8 : Maps.Keyed Tryz.prog 5 := Maps.int_keyed Tryz.underlying5
theorem zeroDeeds (w : World) : (zeroValue 64).run Tryz.prog w = .ok (deedV 0 0) w := by kernel_rfl
theorem keyU8 (c : UInt8) : keyOf Tryz.prog 5 (.int .u8 (c.toNat : Int)) = some (.int .u8 (c.toNat : Int)) := Maps.keyOf_int_mk Tryz.underlying5 (by
  have := c.toNat_lt
  rw [Lit.wf, Bool.and_eq_true]
  exact ⟨decide_eq_true (show (0 : Int) ≤ (c.toNat : Int) by omega), decide_eq_true (show (c.toNat : Int) ≤ 255 by omega)⟩)

/-- A key is laid into a map that is being made. -/
theorem wpList_insert_own {H : Type} {P : Program} (w : World) {ops : Array Oper} {rest : List Oper} {o : Oper} {a : Act} {Q : Exit → Act → World → Prop}
    (hg : o.guard = none) (m x v : Operand) (t : TypeId) (hop : o.op = Op.insert t m x v)
    (k e : TypeId) (K : Maps.Keyed P k) (ht : P.underlying t = some (.map k e)) (R : Value → Option (DataW H × List MemPlace)) (b n : Nat) (D : DataW H)
    (hm : a.eval m = .map (some b)) (hown : w.ownsMap P k R b n D) (hn : n < maxLen) (key val : Value) (kl : Lit) (hx : a.eval x = key) (hv : a.eval v = val) (hkey : keyOf P k key = some kl)
    (d : DataW H) (ps : List MemPlace) (hval : R val = some (d, ps))
    (hK : ∀ w', w'.ownsMap P k R b (n + 1) (D.put kl d) → w.grownBy w' (some b) → wpList P ops Q rest (a.put o.dst undef) w') :
    wpList P ops Q (o :: rest) a w := by
  refine wpList_plain hg fun K' hK' => ?_
  obtain ⟨w', hrun, r1, r2⟩ := hown.update K ht hn hkey hval
  unfold Oper.wp
  simp [execOp, hop, hm, hx, hv, hrun, Result.andThen]
  exact hK' _ _ (hK w' r1 r2)

/-- What byFlag tells: a map of the call's own. -/
def DeedsOut (w w' : World) (e : Ending) : Prop := ∃ b, e = .returned (.map (some b)) ∧ w'.ownsMap Tryz.prog 5 deedsR b 6 deedMap ∧ Below w.heap.size w w'

set_option maxHeartbeats 2000000 in
theorem byFlag_any (w : World) : Calls Tryz.prog 33 #[] w fun e w' => DeedsOut w w' e := by
  have hmm := @run_makeMap Tryz.prog
  have m0 := Lib.hid (World.ownsMap_made w Tryz.prog 5 deedsR)
  have hB0 := Lib.hid (below_alloc (Below.refl w.heap.size w) (.map #[] 0))
  have tok1 := trivial
  go_enter Tryz.func33, Tryz.ntmps33
  go_wp2_with (first
    | (have _t := tok1; refine wpList_insert_own _ rfl _ _ _ 66 rfl 5 64 lawU8 Tryz.underlying66 deedsR w.heap.size 0 _ rfl m0.out (by unfold maxLen; omega) _ _ (.int .u8 101) rfl rfl (keyU8 101) (deedD 1 1) [] (deedsR_mk 1 1) ?_; intro w1 m1 g1; have hB1 := Lib.hid (hB0.out.grown g1 hB0.out.size (by intro g e; injection e with e; omega)); have tok2 := trivial; clear tok1 g1)
    | (have _t := tok2; refine wpList_insert_own _ rfl _ _ _ 66 rfl 5 64 lawU8 Tryz.underlying66 deedsR w.heap.size 1 _ rfl m1 (by unfold maxLen; omega) _ _ (.int .u8 120) rfl rfl (keyU8 120) (deedD 0 1) [] (deedsR_mk 0 1) ?_; intro w2 m2 g2; have hB2 := Lib.hid (hB1.out.grown g2 hB1.out.size (by intro g e; injection e with e; omega)); have tok3 := trivial; clear tok2 g2 m1)
    | (have _t := tok3; refine wpList_insert_own _ rfl _ _ _ 66 rfl 5 64 lawU8 Tryz.underlying66 deedsR w.heap.size 2 _ rfl m2 (by unfold maxLen; omega) _ _ (.int .u8 51) rfl rfl (keyU8 51) (deedD 1 0) [] (deedsR_mk 1 0) ?_; intro w3 m3 g3; have hB3 := Lib.hid (hB2.out.grown g3 hB2.out.size (by intro g e; injection e with e; omega)); have tok4 := trivial; clear tok3 g3 m2)
    | (have _t := tok4; refine wpList_insert_own _ rfl _ _ _ 66 rfl 5 64 lawU8 Tryz.underlying66 deedsR w.heap.size 3 _ rfl m3 (by unfold maxLen; omega) _ _ (.int .u8 69) rfl rfl (keyU8 69) (deedD 1 2) [] (deedsR_mk 1 2) ?_; intro w4 m4 g4; have hB4 := Lib.hid (hB3.out.grown g4 hB3.out.size (by intro g e; injection e with e; omega)); have tok5 := trivial; clear tok4 g4 m3)
    | (have _t := tok5; refine wpList_insert_own _ rfl _ _ _ 66 rfl 5 64 lawU8 Tryz.underlying66 deedsR w.heap.size 4 _ rfl m4 (by unfold maxLen; omega) _ _ (.int .u8 88) rfl rfl (keyU8 88) (deedD 0 2) [] (deedsR_mk 0 2) ?_; intro w5 m5 g5; have hB5 := Lib.hid (hB4.out.grown g5 hB4.out.size (by intro g e; injection e with e; omega)); have tok6 := trivial; clear tok5 g5 m4)
    | (have _t := tok6; refine wpList_insert_own _ rfl _ _ _ 66 rfl 5 64 lawU8 Tryz.underlying66 deedsR w.heap.size 5 _ rfl m5 (by unfold maxLen; omega) _ _ (.int .u8 65) rfl rfl (keyU8 65) (deedD 1 3) [] (deedsR_mk 1 3) ?_; intro w6 m6 g6; have hB6 := Lib.hid (hB5.out.grown g6 hB5.out.size (by intro g e; injection e with e; omega)); have tok7 := trivial; clear tok6 g6 m5))
  go_ret
  exact ⟨_, rfl, m6, hB6.out⟩
end Go.Proofs.YtoopdgohdeddoaaGreatDoor
/- Proved here: the contract of slices.Equal over texts. -/
namespace Go.Proofs.YtoopdgohdeddoaaGreatDoor
open Go.RowKit
set_option linter.unusedVariables false

set_option maxRecDepth 100000 in
set_option maxHeartbeats 400000 in
theorem equal_any (A A' : Option Addr) (n n' c c' B B' : Nat) (ss ss' : Txs) (w : World) (hn : n ≤ maxLen) (hn' : n' ≤ maxLen) (hA : Strs w B A n ss) (hA' : Strs w B' A' n' ss') :
    Calls Tryz.prog 79 #[.slice A n c, .slice A' n' c'] w fun e w' => e = .returned (.bool (decide (ss = ss'))) ∧ ∃ k, w' = w.drewN k := by
  unfold maxLen at hn hn'
  have hl := hA.len
  have hl' := hA'.len
  by_cases hnn : n = n'
  · subst hnn
    go_enter Tryz.func79, Tryz.ntmps79
    go_wp2
    go_loopw [5, 13] (fun _ i wr => ∃ k : Nat, k ≤ n ∧ i = .int .i64 k ∧ Hid (ss.take k = ss'.take k) ∧ ∃ q, wr = w.drewN q) (fun _ i _ => n - (intOf i).toNat)
    case atStart => exact ⟨0, Nat.zero_le _, rfl, Lib.hid rfl, 0, rfl⟩
    case round =>
      obtain ⟨k, hk, rfl, hq, q, rfl⟩ := hrel
      by_cases hlt : k < n
      · obtain ⟨b, o, t, rfl, hb, ht, hc0⟩ := hA.at_ (k := k) hlt
        obtain ⟨b', o', t', rfl, hb', ht', hc0'⟩ := hA'.at_ (k := k) hlt
        have hi1 : (0 : Int) ≤ (k : Int) := by omega
        have hi2 : (k : Int) < (n : Int) := by omega
        go_wp2
        go_quiet (fail)
        go_wp2
        · have h : (!(str t).toList == (str t').toList) = true := by assumption
          go_ret
          exact ⟨ret_bool (same_no ht ht' h), q + nq, World.drewN_drewN _ _ _⟩
        · have h : (!(str t).toList == (str t').toList) = false := by assumption
          go_roundw
          case rel => exact ⟨k + 1, by omega, by go_num, Lib.hid (same_yes hq.out ht ht' h), q + nq, rfl⟩
          case measure => simp [intOf]; omega
      · go_wp2
        go_ret
        exact ⟨ret_bool (by rw [eq_comm, decide_eq_true_iff]; have := hq.out; rwa [List.take_of_length_le (by omega), List.take_of_length_le (by omega)] at this), q, rfl⟩
  · have hne : (((n : Int) != (n' : Int))) = true := by simp; omega
    go_enter Tryz.func79, Tryz.ntmps79
    go_wp2
    go_ret
    exact ⟨ret_bool (by rw [eq_comm, decide_eq_false_iff_not]; rintro rfl; omega), 0, rfl⟩
end Go.Proofs.YtoopdgohdeddoaaGreatDoor

/- What the statements of layer 6 ask of package content; and, out of it: awake returns true. -/
import Derived.Test.YtiokgfcndemadaaContPt
import Derived.Test.YtiokgfcndemadaaContKd
namespace Go.Proofs.Ytiokgfcndemadaa
open Go.RowKit
set_option linter.unusedVariables false

/-- The contracts of package content. -/
structure ContOk : Prop where
  parts_ok : ∀ (st : Bool) (f t : Int) (spans : List Sp) (A1 : Option Addr) (n1 c1 : Nat) (A0 : Option Addr) (n0 c0 : Nat) (base : Txs) (A : Option Addr) (n c : Nat) (rows : List Slc) (sides : List Txs) (w : World), n ≤ c → c ≤ maxLen → n ≤ 100000 → n1 ≤ c1 → c1 ≤ maxLen →
    Spans w w.heap.size A1 n1 spans → TxR w w.heap.size (A0, n0, c0) base → RowsT w w.heap.size A n rows sides →
    Calls Try.prog 10 #[.agg #[.bool st, .int .i64 f, .int .i64 t, .slice A1 n1 c1], .slice A0 n0 c0, .slice A n c] w fun e w' => PartsOut w w' e (partErr (st, (f, t), spans) base sides) (partBase (st, (f, t), spans) base sides) (partSides (st, (f, t), spans) base sides)
  dif_ok : ∀ (A0 : Option Addr) (n0 c0 : Nat) (base : Txs) (A : Option Addr) (n c : Nat) (rows : List Slc) (parts : List Txs) (w : World), n ≤ c → c ≤ maxLen → n ≤ 100000 → TxR w w.heap.size (A0, n0, c0) base → RowsT w w.heap.size A n rows parts →
    Calls Try.prog 14 #[.slice A0 n0 c0, .slice A n c] w fun e w' => RowsOut w w' e (diffs base parts)
  kind_ok : ∀ (A0 : Option Addr) (n0 c0 : Nat) (base : Txs) (A : Option Addr) (n c : Nat) (rows : List Slc) (parts : List Txs) (w : World), n ≤ c → c ≤ maxLen → n ≤ 100000 → TxR w w.heap.size (A0, n0, c0) base → RowsT w w.heap.size A n rows parts →
    Calls Try.prog 16 #[.slice A0 n0 c0, .slice A n c] w fun e w' => e = .returned (.int .i64 (kindN base parts)) ∧ Below w.heap.size w w'

theorem txr_of {W : World} {g n : Nat} {ss : Txs} {C : Array Value} {t : TypeId} (h : W.heap[g]? = some (.cells C t (0, 0))) (hC : C = (ss.map fun s => Value.string (str s)).toArray) (hn : ss.length = n) (hm : n ≤ maxLen) : TxR W W.heap.size (some ⟨g, 0, none⟩, n, n) ss := by
  refine ⟨Nat.le_refl _, hm, by simpa using hn, fun _ => ⟨g, 0, rfl, (Array.getElem?_eq_some_iff.1 h).1, fun j u hu => ?_⟩⟩
  rw [Nat.zero_add, cells_of h, hC]
  simpa using hu
theorem rowsT_of {W : World} {g n : Nat} {rows : List Slc} {sss : List Txs} {C : Array Value} {t : TypeId} (h : W.heap[g]? = some (.cells C t (0, 0))) (hC : C = (rows.map slcV).toArray) (hn : rows.length = n) (hl : rows.length = sss.length)
    (each : ∀ (k : Nat) (r : Slc) (ss : Txs), rows[k]? = some r → sss[k]? = some ss → TxR W W.heap.size r ss) : RowsT W W.heap.size (some ⟨g, 0, none⟩) n rows sss := by
  refine ⟨⟨by simpa using hn, fun _ => ⟨g, 0, rfl, (Array.getElem?_eq_some_iff.1 h).1, fun j u hu => ?_⟩⟩, hl, each⟩
  rw [Nat.zero_add, cells_of h, hC]
  simpa using hu
theorem push_at (w : World) (o : Obj) (k : Nat) : (w.alloc o).heap[k]? = if k = w.heap.size then some o else w.heap[k]? := by
  show (w.heap.push o)[k]? = _
  rw [Array.getElem?_push]
theorem push_size (w : World) (o : Obj) : (w.alloc o).heap.size = w.heap.size + 1 := by simp
/-- One text of one byte in a list of one. -/
theorem one_at {w : World} {B n : Nat} {A : Option Addr} {s : Tx} (h : Strs w B A n [s]) : n = 1 ∧ ∃ b o, A = some ⟨b, o, none⟩ ∧ w.cell? ⟨b, o, none⟩ = some (.string (str s)) := by
  obtain rfl : n = 1 := by have := h.len; simpa using this.symm
  obtain ⟨b, o, t, rfl, hb, ht, hc⟩ := h.at_ (k := 0) (by omega)
  simp at ht
  subst ht
  exact ⟨rfl, b, o, rfl, hc⟩
theorem row_at {w : World} {B n : Nat} {A : Option Addr} {rows : List Slc} {s : Tx} (h : RowsT w B A n rows [[s]]) : n = 1 ∧ ∃ b o b' o' c', A = some ⟨b, o, none⟩ ∧ w.cell? ⟨b, o, none⟩ = some (.slice (some ⟨b', o', none⟩) 1 c') ∧ w.cell? ⟨b', o', none⟩ = some (.string (str s)) := by
  obtain rfl : n = 1 := by have := h.len; simpa using this.symm
  obtain ⟨b, o, A', n', c', ss, rfl, hb, hss, -, hc, h1, h2, h3⟩ := h.at_ (k := 0) (by omega)
  simp at hss
  subst hss
  obtain ⟨rfl, b', o', rfl, hc'⟩ := one_at h3
  exact ⟨rfl, b, o, b', o', c', rfl, hc, hc'⟩

section
variable (H : ContOk)
include H

set_option maxRecDepth 100000 in
set_option maxHeartbeats 2000000 in
theorem awake_any (w : World) : Calls Try.prog 8 #[] w fun e w' => e = .returned (.bool true) ∧ Below w.heap.size w w' := by
  have e0 : partErr (false, (1, 2), [(0, 1)]) [[97], [98]] [[[99]]] = 0 := err_none rfl ⟨by decide, fun i s l hi h1 h2 => by
    obtain rfl : i = 0 := by simpa using hi
    simp at h1 h2
    subst h1
    subst h2
    decide⟩
  have e1 : partBase (false, (1, 2), [(0, 1)]) [[97], [98]] [[[99]]] = [[98]] := by unfold partBase; rw [e0]; rfl
  have e2 : partSides (false, (1, 2), [(0, 1)]) [[97], [98]] [[[99]]] = [[[99]]] := by unfold partSides; rw [e0]; rfl
  have e3 : diffs [[97]] [[[98]], [[97]], [[98]]] = [[[98]]] := by decide
  have e4 : kindN [] [[[97]], [[98]]] = 2 := by decide
  have hD := Lib.hid (fun A0 n0 c0 A n c rows w1 h1 h2 h3 h4 h5 => H.dif_ok A0 n0 c0 [[97]] A n c rows [[[98]], [[97]], [[98]]] w1 h1 h2 h3 h4 h5)
  have hP := Lib.hid (fun A1 n1 c1 A0 n0 c0 A n c rows w1 h1 h2 h3 h4 h5 h6 h7 h8 => H.parts_ok false 1 2 [(0, 1)] A1 n1 c1 A0 n0 c0 [[97], [98]] A n c rows [[[99]]] w1 h1 h2 h3 h4 h5 h6 h7 h8)
  have hK := Lib.hid (fun A n c rows w1 h1 h2 h3 h4 h5 => H.kind_ok none 0 0 [] A n c rows [[[97]], [[98]]] w1 h1 h2 h3 h4 h5)
  rw [e3] at hD
  rw [e0, e1, e2] at hP
  rw [e4] at hK
  clear e0 e1 e2 e3 e4
  go_enter Try.func8, Try.ntmps8
  go_wp2_with fail
  obtain ⟨W1, hW1⟩ : ∃ W1, W1 = ((((w.alloc (.cells #[.string ⟨#[97]⟩] 9)).alloc (.cells #[.string ⟨#[98]⟩] 9)).alloc (.cells #[.string ⟨#[97]⟩] 9)).alloc (.cells #[.string ⟨#[98]⟩] 9)).alloc (.cells #[.slice (some ⟨w.heap.size + 1, 0, none⟩) 1 1, .slice (some ⟨w.heap.size + 1 + 1, 0, none⟩) 1 1, .slice (some ⟨w.heap.size + 1 + 1 + 1, 0, none⟩) 1 1] 27) := ⟨_, rfl⟩
  have a0 : W1.heap[w.heap.size]? = some (.cells #[.string ⟨#[97]⟩] 9 (0, 0)) := by rw [hW1]; simp only [push_at, push_size]; repeat (first | rw [if_pos trivial] | rw [if_pos (by omega)] | rw [if_neg (by omega)])
  have a1 : W1.heap[w.heap.size + 1]? = some (.cells #[.string ⟨#[98]⟩] 9 (0, 0)) := by rw [hW1]; simp only [push_at, push_size]; repeat (first | rw [if_pos trivial] | rw [if_pos (by omega)] | rw [if_neg (by omega)])
  have a2 : W1.heap[w.heap.size + 1 + 1]? = some (.cells #[.string ⟨#[97]⟩] 9 (0, 0)) := by rw [hW1]; simp only [push_at, push_size]; repeat (first | rw [if_pos trivial] | rw [if_pos (by omega)] | rw [if_neg (by omega)])
  have a3 : W1.heap[w.heap.size + 1 + 1 + 1]? = some (.cells #[.string ⟨#[98]⟩] 9 (0, 0)) := by rw [hW1]; simp only [push_at, push_size]; repeat (first | rw [if_pos trivial] | rw [if_pos (by omega)] | rw [if_neg (by omega)])
  have a4 : W1.heap[w.heap.size + 1 + 1 + 1 + 1]? = some (.cells #[.slice (some ⟨w.heap.size + 1, 0, none⟩) 1 1, .slice (some ⟨w.heap.size + 1 + 1, 0, none⟩) 1 1, .slice (some ⟨w.heap.size + 1 + 1 + 1, 0, none⟩) 1 1] 27 (0, 0)) := by rw [hW1]; simp only [push_at, push_size]; repeat (first | rw [if_pos trivial] | rw [if_pos (by omega)] | rw [if_neg (by omega)])
  have hB1 : Below w.heap.size w W1 := by rw [hW1]; exact (((((Below.refl _ w).alloc (Nat.le_refl _) _).alloc (by simp) _).alloc (by simp; omega) _).alloc (by simp; omega) _).alloc (by simp; omega) _
  rw [← hW1]
  clear hW1
  refine (hD.out _ 1 1 _ 3 3 [(some ⟨w.heap.size + 1, 0, none⟩, 1, 1), (some ⟨w.heap.size + 1 + 1, 0, none⟩, 1, 1), (some ⟨w.heap.size + 1 + 1 + 1, 0, none⟩, 1, 1)] W1 (Nat.le_refl _) (by decide) (by omega) (txr_of a0 rfl rfl (by decide)) (rowsT_of a4 rfl rfl rfl (fun k r ss h1 h2 => ?_))).mono ?_
  · match k, h1, h2 with
    | 0, h1, h2 => simp at h1 h2; subst h1; subst h2; exact txr_of a1 rfl rfl (by decide)
    | 1, h1, h2 => simp at h1 h2; subst h1; subst h2; exact txr_of a2 rfl rfl (by decide)
    | 2, h1, h2 => simp at h1 h2; subst h1; subst h2; exact txr_of a3 rfl rfl (by decide)
    | k + 3, h1, h2 => simp at h1
  rintro e w1 ⟨Ad, nd, cd, rd, rfl, -, -, hRd, hBd⟩
  clear a0 a1 a2 a3 a4 hD
  have hB2 := hB1.trans (hBd.mono hB1.size)
  clear hB1 hBd
  go_wp2_with fail
  obtain ⟨W2, hW2⟩ : ∃ W2, W2 = (((w1.alloc (.cells #[.int .i64 0, .int .i64 1] 23)).alloc (.cells #[.string ⟨#[97]⟩, .string ⟨#[98]⟩] 9)).alloc (.cells #[.string ⟨#[99]⟩] 9)).alloc (.cells #[.slice (some ⟨w1.heap.size + 1 + 1, 0, none⟩) 1 1] 27) := ⟨_, rfl⟩
  have a0 : W2.heap[w1.heap.size]? = some (.cells #[.int .i64 0, .int .i64 1] 23 (0, 0)) := by rw [hW2]; simp only [push_at, push_size]; repeat (first | rw [if_pos trivial] | rw [if_pos (by omega)] | rw [if_neg (by omega)])
  have a1 : W2.heap[w1.heap.size + 1]? = some (.cells #[.string ⟨#[97]⟩, .string ⟨#[98]⟩] 9 (0, 0)) := by rw [hW2]; simp only [push_at, push_size]; repeat (first | rw [if_pos trivial] | rw [if_pos (by omega)] | rw [if_neg (by omega)])
  have a2 : W2.heap[w1.heap.size + 1 + 1]? = some (.cells #[.string ⟨#[99]⟩] 9 (0, 0)) := by rw [hW2]; simp only [push_at, push_size]; repeat (first | rw [if_pos trivial] | rw [if_pos (by omega)] | rw [if_neg (by omega)])
  have a3 : W2.heap[w1.heap.size + 1 + 1 + 1]? = some (.cells #[.slice (some ⟨w1.heap.size + 1 + 1, 0, none⟩) 1 1] 27 (0, 0)) := by rw [hW2]; simp only [push_at, push_size]; repeat (first | rw [if_pos trivial] | rw [if_pos (by omega)] | rw [if_neg (by omega)])
  have hB3 : Below w1.heap.size w1 W2 := by rw [hW2]; exact ((((Below.refl _ w1).alloc (Nat.le_refl _) _).alloc (by simp) _).alloc (by simp; omega) _).alloc (by simp; omega) _
  rw [← hW2]
  clear hW2
  refine (hP.out (some ⟨w1.heap.size, 0, none⟩) 1 1 _ 2 2 _ 1 1 [(some ⟨w1.heap.size + 1 + 1, 0, none⟩, 1, 1)] W2 (Nat.le_refl _) (by decide) (by omega) (Nat.le_refl _) (by decide) ⟨rfl, fun _ => ⟨w1.heap.size, 0, rfl, (Array.getElem?_eq_some_iff.1 a0).1, fun j s hs => ?_⟩⟩ (txr_of a1 rfl rfl (by decide)) (rowsT_of a3 rfl rfl rfl (fun k r ss h1 h2 => ?_))).mono ?_
  · match j, hs with
    | 0, hs => simp at hs; subst hs; exact ⟨by rw [cells_of a0]; rfl, by rw [cells_of a0]; rfl⟩
    | j + 1, hs => simp at hs
  · match k, h1, h2 with
    | 0, h1, h2 => simp at h1 h2; subst h1; subst h2; exact txr_of a2 rfl rfl (by decide)
    | k + 1, h1, h2 => simp at h1
  rintro e w2 ⟨Ab, nb, cb, Ap, np, cp, rp, rfl, hTb, -, -, hRp, hBp⟩
  clear a0 a1 a2 a3 hP
  have hRd2 := (hRd.up hB3).up hBp
  have hB4 := hB2.trans ((hB3.mono hB2.size).trans (hBp.mono (Nat.le_trans hB2.size hB3.size)))
  clear hRd hB2 hB3 hBp
  obtain ⟨rfl, b1, o1, b2, o2, c2, rfl, k1, k2⟩ := row_at hRd2
  obtain ⟨rfl, b3, o3, b4, o4, c4, rfl, k3, k4⟩ := row_at hRp
  obtain ⟨-, -, hTb⟩ := hTb
  dsimp only at hTb
  obtain ⟨rfl, b5, o5, rfl, k5⟩ := one_at hTb
  have k2' : w2.cell? ⟨b2, o2, none⟩ = some (.string ⟨#[98]⟩) := k2
  have k4' : w2.cell? ⟨b4, o4, none⟩ = some (.string ⟨#[99]⟩) := k4
  have k5' : w2.cell? ⟨b5, o5, none⟩ = some (.string ⟨#[98]⟩) := k5
  have hBh := Lib.hid hB4
  clear k2 k4 k5 hRd2 hRp hTb hB4
  go_wp2_with fail
  obtain ⟨W3, hW3⟩ : ∃ W3, W3 = ((w2.alloc (.cells #[.string ⟨#[97]⟩] 9)).alloc (.cells #[.string ⟨#[98]⟩] 9)).alloc (.cells #[.slice (some ⟨w2.heap.size, 0, none⟩) 1 1, .slice (some ⟨w2.heap.size + 1, 0, none⟩) 1 1] 27) := ⟨_, rfl⟩
  have a0 : W3.heap[w2.heap.size]? = some (.cells #[.string ⟨#[97]⟩] 9 (0, 0)) := by rw [hW3]; simp only [push_at, push_size]; repeat (first | rw [if_pos trivial] | rw [if_pos (by omega)] | rw [if_neg (by omega)])
  have a1 : W3.heap[w2.heap.size + 1]? = some (.cells #[.string ⟨#[98]⟩] 9 (0, 0)) := by rw [hW3]; simp only [push_at, push_size]; repeat (first | rw [if_pos trivial] | rw [if_pos (by omega)] | rw [if_neg (by omega)])
  have a2 : W3.heap[w2.heap.size + 1 + 1]? = some (.cells #[.slice (some ⟨w2.heap.size, 0, none⟩) 1 1, .slice (some ⟨w2.heap.size + 1, 0, none⟩) 1 1] 27 (0, 0)) := by rw [hW3]; simp only [push_at, push_size]; repeat (first | rw [if_pos trivial] | rw [if_pos (by omega)] | rw [if_neg (by omega)])
  have hB5 : Below w2.heap.size w2 W3 := by rw [hW3]; exact (((Below.refl _ w2).alloc (Nat.le_refl _) _).alloc (by simp) _).alloc (by simp; omega) _
  rw [← hW3]
  clear hW3
  refine (hK.out _ 2 2 [(some ⟨w2.heap.size, 0, none⟩, 1, 1), (some ⟨w2.heap.size + 1, 0, none⟩, 1, 1)] W3 (Nat.le_refl _) (by decide) (by omega) (TxR.nil _ _) (rowsT_of a2 rfl rfl rfl (fun k r ss h1 h2 => ?_))).mono ?_
  · match k, h1, h2 with
    | 0, h1, h2 => simp at h1 h2; subst h1; subst h2; exact txr_of a0 rfl rfl (by decide)
    | 1, h1, h2 => simp at h1 h2; subst h1; subst h2; exact txr_of a1 rfl rfl (by decide)
    | k + 2, h1, h2 => simp at h1
  rintro e w3 ⟨rfl, hBk⟩
  have hB6 := Lib.hid (hBh.out.trans ((hB5.mono hBh.out.size).trans (hBk.mono (Nat.le_trans hBh.out.size hB5.size))))
  clear hBk hB5 a0 a1 a2
  go_wp2_with fail
  go_ret
  exact ⟨rfl, hB6.out⟩
end
end Go.Proofs.Ytiokgfcndemadaa

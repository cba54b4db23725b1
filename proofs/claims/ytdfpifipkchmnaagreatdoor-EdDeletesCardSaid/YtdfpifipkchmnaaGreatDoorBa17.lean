/- Proved here: texts joined: EdFail, EdLayR, DotSm, Byte, DtRef, StrS. -/
import Derived.Test.YtdfpifipkchmnaaGreatDoorBa01
import Derived.Test.YtdfpifipkchmnaaGreatDoorBa03
import Derived.Test.YtdfpifipkchmnaaGreatDoorBa07
import Derived.Test.YtdfpifipkchmnaaGreatDoorBa10
import Derived.Test.YtdfpifipkchmnaaGreatDoorBa13
import Derived.Test.YtdfpifipkchmnaaGreatDoorBa14
import Derived.Test.YtdfpifipkchmnaaGreatDoorBa16
import Derived.RangeFuncBox
import Derived.Deep.DeepCutAuto
import Derived.Laws.OwnMore
import Derived.Laws.Slices
import Derived.Test.YtdfpifipkchmnaaGreatDoorChecked
import Derived.WalkKit
/- Proved here: the contracts of the document's own answers of layer 17: fail, lay. -/
namespace Go.Proofs.YtdfpifipkchmnaaGreatDoor
open Go.RowKit
set_option linter.unusedVariables false
set_option maxRecDepth 100000

/-- A state, flat: the file's slice, whether it was written, how far, what is wrong, where. -/
def stV (A : Option Addr) (n c : Nat) (sv : Bool) (at_ bad line : Nat) : Value := .agg #[.slice A n c, .bool sv, .int .i64 (at_ : Int), .int .i64 (bad : Int), .int .i64 (line : Int)]

theorem rFail_any (A : Option Addr) (n c : Nat) (sv : Bool) (at_ bad line bad' line' : Nat) (w : World) : Calls Tryz.prog 24 #[stV A n c sv at_ bad line, .int .i64 (bad' : Int), .int .i64 (line' : Int)] w fun e w' => e = .returned (stV A n c sv at_ bad' line') ∧ Below w.heap.size w w' := by
  unfold stV
  have hb := Lib.hid (Below.refl w.heap.size w)
  go_enter Tryz.func24, Tryz.ntmps24
  go_wp2
  refine bodyPost_ret (v := .agg #[.slice A n c, .bool sv, .int .i64 (at_ : Int), .int .i64 (bad' : Int), .int .i64 (line' : Int)]) (by simp [results, Tryz.results24, go_sem]) rfl ?_
  exact ⟨rfl, below_alloc (below_alloc hb.out _) _⟩
theorem st_cells {V : World} {g : Nat} {a0 a1 a2 a3 a4 : Value} {t : TypeId} (h : V.heap[g]? = some (.cells #[a0, a1, a2, a3, a4] t (0, 0))) : (V.cell? ⟨g, 0, none⟩ = some a0 ∧ V.cell? ⟨g, 1, none⟩ = some a1 ∧ V.cell? ⟨g, 2, none⟩ = some a2 ∧ V.cell? ⟨g, 3, none⟩ = some a3 ∧ V.cell? ⟨g, 4, none⟩ = some a4) ∧ (V.frozen? ⟨g, 0, none⟩ = false ∧ V.frozen? ⟨g, 1, none⟩ = false ∧ V.frozen? ⟨g, 2, none⟩ = false ∧ V.frozen? ⟨g, 3, none⟩ = false ∧ V.frozen? ⟨g, 4, none⟩ = false) := by
  refine ⟨⟨?_, ?_, ?_, ?_, ?_⟩, unfrozen_of h 0, unfrozen_of h 1, unfrozen_of h 2, unfrozen_of h 3, unfrozen_of h 4⟩
  all_goals (rw [cells_of h]; rfl)
theorem set_one {V : World} {L : Nat} {C : Array Value} {t : TypeId} (j : Nat) (x : Value) (h : V.heap[L]? = some (.cells C t (0, 0))) : (V.setCell ⟨L, j, none⟩ x).heap[L]? = some (.cells (C.setIfInBounds j x) t (0, 0)) := by
  obtain ⟨hlt, hk⟩ := Array.getElem?_eq_some_iff.1 h
  show (V.heap.modify L _)[L]? = _
  rw [Array.getElem?_eq_getElem (by rw [Array.size_modify]; exact hlt), Array.getElem_modify_self, hk]
  rfl
theorem set_keep {V : World} {L g : Nat} {x : Option Obj} (j : Nat) (u : Value) (hne : L ≠ g) (h : V.heap[L]? = x) : (V.setCell ⟨g, j, none⟩ u).heap[L]? = x := (Below.heap_setCell _ _ _ _ hne).trans h
/-- A state is stored whole. -/
def setS (V : World) (L : Nat) (a0 a1 a2 a3 a4 : Value) : World := ((((V.setCell ⟨L, 0, none⟩ a0).setCell ⟨L, 1, none⟩ a1).setCell ⟨L, 2, none⟩ a2).setCell ⟨L, 3, none⟩ a3).setCell ⟨L, 4, none⟩ a4
theorem setS_at {V : World} {L : Nat} {b0 b1 b2 b3 b4 : Value} {t : TypeId} (a0 a1 a2 a3 a4 : Value) (h : V.heap[L]? = some (.cells #[b0, b1, b2, b3, b4] t (0, 0))) : (setS V L a0 a1 a2 a3 a4).heap[L]? = some (.cells #[a0, a1, a2, a3, a4] t (0, 0)) := set_one 4 a4 (set_one 3 a3 (set_one 2 a2 (set_one 1 a1 (set_one 0 a0 h))))
theorem setS_keep {V : World} {L g : Nat} {x : Option Obj} (a0 a1 a2 a3 a4 : Value) (hne : L ≠ g) (h : V.heap[L]? = x) : (setS V g a0 a1 a2 a3 a4).heap[L]? = x := set_keep 4 a4 hne (set_keep 3 a3 hne (set_keep 2 a2 hne (set_keep 1 a1 hne (set_keep 0 a0 hne h))))
theorem setS_below {w V : World} {B L : Nat} (a0 a1 a2 a3 a4 : Value) (h : Below B w V) (hL : B ≤ L) : Below B w (setS V L a0 a1 a2 a3 a4) := ((((h.setCell (p := ⟨L, 0, none⟩) hL a0).setCell (p := ⟨L, 1, none⟩) hL a1).setCell (p := ⟨L, 2, none⟩) hL a2).setCell (p := ⟨L, 3, none⟩) hL a3).setCell (p := ⟨L, 4, none⟩) hL a4
theorem setS_same (V : World) (L : Nat) (a0 a1 a2 a3 a4 : Value) (k : Nat) (hne : k ≠ L) : (setS V L a0 a1 a2 a3 a4).heap[k]? = V.heap[k]? := setS_keep a0 a1 a2 a3 a4 hne rfl
theorem set_same (V : World) (g j : Nat) (u : Value) (k : Nat) (hne : k ≠ g) : (V.setCell ⟨g, j, none⟩ u).heap[k]? = V.heap[k]? := set_keep j u hne rfl
/-- A row of the call's own, told. -/
theorem txr_own {W : World} {base n c m : Nat} {A : Option Addr} {xs : Txs} (h : W.ownsRow base 9 1 (.slice A n c) m (xs.map fun s => .string (str s))) : TxR W W.heap.size (A, n, c) xs := by
  obtain ⟨A', c', e, h1, h2, h3⟩ := own_slice h
  injection e with e1 e2 e3
  subst e1
  subst e2
  subst e3
  exact ⟨h1, h2, h3⟩
theorem set_but (V : World) (g j : Nat) (u : Value) : But (fun k => k = g) V (V.setCell ⟨g, j, none⟩ u) := But.setCell (F := fun k => k = g) V (p := ⟨g, j, none⟩) rfl u
theorem setS_but (V : World) (L : Nat) (a0 a1 a2 a3 a4 : Value) : But (fun k => k = L) V (setS V L a0 a1 a2 a3 a4) :=
  ((((set_but V L 0 a0).trans (set_but _ L 1 a1) fun k h => .inl h).trans (set_but _ L 2 a2) fun k h => .inl h).trans (set_but _ L 3 a3) fun k h => .inl h).trans (set_but _ L 4 a4) fun k h => .inl h
/-- Texts don't lie where a state lies. -/
theorem not_state {W : World} {B n c g q o : Nat} {A : Option Addr} {f : Txs} {A' : Option Addr} {n' c' : Nat} {b : Bool} {i1 i2 i3 : Int} {t : TypeId} (h : TxR W B (A, n, c) f) (hg : W.heap[g]? = some (.cells #[.slice A' n' c', .bool b, .int .i64 i1, .int .i64 i2, .int .i64 i3] t (0, 0))) (hn : 0 < n) (hA : A = some ⟨q, o, none⟩) : q ≠ g := by
  rintro rfl
  obtain ⟨b', o', e, _, hc⟩ := h.2.2.2 hn
  rw [hA] at e
  simp only [Option.some.injEq, Addr.mk.injEq, and_true] at e
  obtain ⟨rfl, rfl⟩ := e
  have hl := h.2.2.len
  dsimp only at hl
  obtain ⟨s, hs⟩ : ∃ s, f[0]? = some s := ⟨f[0]'(by omega), List.getElem?_eq_getElem _⟩
  have h0 := hc 0 (.string (str s)) (by rw [List.getElem?_map, hs]; rfl)
  rw [Nat.add_zero, cells_of hg] at h0
  rcases o with _ | _ | _ | _ | _ | o
  · simp at h0
  · simp at h0
  · simp at h0
  · simp at h0
  · simp at h0
  · simp at h0
end Go.Proofs.YtdfpifipkchmnaaGreatDoor
/- Proved here: the contract of the document's own answer of layer 17: lay. -/
namespace Go.Proofs.YtdfpifipkchmnaaGreatDoor
open Go.RowKit
set_option linter.unusedVariables false
set_option maxRecDepth 100000

/-- A state that a call tells: the file reads so. -/
def StOut (w w' : World) (e : Ending) (f : Txs) (sv : Bool) (at_ bad line : Nat) : Prop := ∃ A n c, e = .returned (stV A n c sv at_ bad line) ∧ TxR w' w'.heap.size (A, n, c) f ∧ Below w.heap.size w w'

theorem lay_end {V : World} {R : Nat} {tmps : Array Value} {a0 a1 a2 a3 a4 : Value} {Q : Ending → World → Prop} (h2 : tmps[8]? = some (.pointer (some ⟨R, 0, none⟩))) (hh : V.heap[R]? = some (.cells #[a0, a1, a2, a3, a4] 45 (0, 0))) (hQ : Q (.returned (.agg #[a0, a1, a2, a3, a4])) V) : bodyPost Tryz.prog Tryz.f40 Q Exit.ret { tmps := tmps, defers := [] } V := by
  obtain ⟨⟨y0, y1, y2, y3, y4⟩, -⟩ := st_cells hh
  refine bodyPost_ret (v := .agg #[a0, a1, a2, a3, a4]) (by simp [results, Tryz.results40, go_sem, h2, y0, y1, y2, y3, y4]) rfl hQ
set_option maxHeartbeats 4000000 in
theorem rLay_any (A : Option Addr) (n c : Nat) (sv : Bool) (at_ bad line m k : Nat) (file : Txs) (Al : Option Addr) (nl cl : Nat) (l : Txs) (w : World) (hf : file.length ≤ 1000000) (hl : l.length ≤ 1000000) (hm : m ≤ n) (hk : k ≤ n) (hA : TxR w w.heap.size (A, n, c) file) (hL : TxR w w.heap.size (Al, nl, cl) l) :
    Calls Tryz.prog 40 #[stV A n c sv at_ bad line, .int .i64 (m : Int), .int .i64 (k : Int), .slice Al nl cl] w fun e w' => StOut w w' e (layE file m k l) false at_ bad line := by
  obtain ⟨i0, hi, hzz⟩ := Option.map_eq_some_iff.1 infoStr
  simp only [Prod.mk.injEq] at hzz
  obtain ⟨hz0, hz1, hz2⟩ := hzz
  have hfl : file.length = n := hA.2.2.len
  have hll : l.length = nl := hL.2.2.len
  obtain ⟨A1, m1, q1, hs1, hT1, e1⟩ := slice_to hA hm
  obtain ⟨A2, m2, q2, hs2, hT2, e2⟩ := slice_from hA hk
  subst e1
  obtain ⟨W2, hW2⟩ : ∃ W2, W2 = (w.alloc (.cells #[.slice A n c, .bool sv, .int .i64 (at_ : Int), .int .i64 (bad : Int), .int .i64 (line : Int)] 45)).alloc (.cells #[.slice none 0 0, .bool false, .int .i64 0, .int .i64 0, .int .i64 0] 45) := ⟨_, rfl⟩
  obtain ⟨k1, k2⟩ := two_a w (.cells #[.slice A n c, .bool sv, .int .i64 (at_ : Int), .int .i64 (bad : Int), .int .i64 (line : Int)] 45) (.cells #[.slice none 0 0, .bool false, .int .i64 0, .int .i64 0, .int .i64 0] 45)
  have hb2 : Below w.heap.size w W2 := by rw [hW2]; exact below_alloc (below_alloc (Below.refl _ _) _) _
  rw [← hW2] at k1 k2
  have hs2z : W2.heap.size = w.heap.size + 1 + 1 := by rw [hW2, push_size, push_size]
  have hcell : Hid (∀ V, Below W2.heap.size W2 V → V.heap[w.heap.size]? = some (.cells #[.slice A n c, .bool sv, .int .i64 (at_ : Int), .int .i64 (bad : Int), .int .i64 (line : Int)] 45 (0, 0)) ∧ V.heap[w.heap.size + 1]? = some (.cells #[.slice none 0 0, .bool false, .int .i64 0, .int .i64 0, .int .i64 0] 45 (0, 0))) := Lib.hid (fun V hV => ⟨(hV.block _ (by omega)).trans k1, (hV.block _ (by omega)).trans k2⟩)
  have hR1 : Hid (∀ V, Below W2.heap.size W2 V → Strs V w.heap.size A1 m1 (file.take m1)) := Lib.hid (fun V hV => Strs.below hT1.2.2 (hb2.trans (hV.mono hb2.size)))
  have hRl : Hid (∀ V, Below W2.heap.size W2 V → Strs V w.heap.size Al nl l) := Lib.hid (fun V hV => Strs.below hL.2.2 (hb2.trans (hV.mono hb2.size)))
  have hR2 : Hid (∀ V, Below W2.heap.size W2 V → Strs V w.heap.size A2 m2 (file.drop k)) := Lib.hid (fun V hV => Strs.below hT2.2.2 (hb2.trans (hV.mono hb2.size)))
  have l1 : (file.take m1).length = m1 := by rw [List.length_take]; omega
  have l2 : (file.drop k).length = m2 := hT2.2.2.len
  have hown0 := own_empty W2 W2.heap.size 9 (Nat.le_refl _)
  have hO0 := Lib.hid (TxO.mk (w := W2) (xs := []) hown0 (below_alloc (Below.refl _ _) _))
  have hmax : Hid ((0 + m1 ≤ maxLen ∧ (0 + m1) * 16 ≤ 140737488355328) ∧ (m1 + nl ≤ maxLen ∧ (m1 + nl) * 16 ≤ 140737488355328) ∧ (m1 + nl + m2 ≤ maxLen ∧ (m1 + nl + m2) * 16 ≤ 140737488355328)) := Lib.hid (by unfold maxLen; omega)
  have hput1 : Hid (∀ (v1 : Value) (w3 : World), w3.ownsRow W2.heap.size 9 1 v1 (0 + m1) ([] ++ (file.take m1).map fun s => .string (str s)) → (W2.alloc (.cells #[] 9)).grownBy w3 (some W2.heap.size) → TxO W2 w3 v1 (file.take m1) ∧ w3.ownsRow W2.heap.size 9 1 v1 m1 ((file.take m1).map fun s => .string (str s))) := Lib.hid (fun v1 w3 h1 h2 => by
    have h3 := hO0.out.put l1 h1 h2
    rw [List.nil_append] at h3
    refine ⟨h3, ?_⟩
    have := h3.own
    rw [l1] at this
    exact this)
  have hput2 : Hid (∀ (v1 v2 : Value) (w3 w4 : World), TxO W2 w3 v1 (file.take m1) → w4.ownsRow W2.heap.size 9 1 v2 (m1 + nl) (((file.take m1).map fun s => .string (str s)) ++ l.map fun s => .string (str s)) → w3.grownBy w4 v1.ownBlock → TxO W2 w4 v2 (file.take m1 ++ l) ∧ w4.ownsRow W2.heap.size 9 1 v2 (m1 + nl) ((file.take m1 ++ l).map fun s => .string (str s))) := Lib.hid (fun v1 v2 w3 w4 h0 h1 h2 => by
    have h3 := h0.put hll (by rw [l1]; exact h1) h2
    refine ⟨h3, ?_⟩
    have := h3.own
    rw [List.length_append, l1, hll] at this
    exact this)
  have hput3 : Hid (∀ (v2 v3 : Value) (w4 w5 : World), TxO W2 w4 v2 (file.take m1 ++ l) → w5.ownsRow W2.heap.size 9 1 v3 (m1 + nl + m2) (((file.take m1 ++ l).map fun s => .string (str s)) ++ (file.drop k).map fun s => .string (str s)) → w4.grownBy w5 v2.ownBlock → TxO W2 w5 v3 (layE file m1 k l)) := Lib.hid (fun v2 v3 w4 w5 h0 h1 h2 => h0.put l2 (by rw [List.length_append, l1, hll]; exact h1) h2)
  have hW2h := Lib.hid hW2
  have hb2h := Lib.hid hb2
  have hs2h := Lib.hid hs2z
  have tok1 := trivial
  unfold stV
  have y0 : (W2.alloc (.cells #[] 9)).cell? ⟨w.heap.size, 0, none⟩ = some (.slice A n c) := by
    rw [cells_of (hcell.out _ (below_alloc (Below.refl _ _) _)).1]; rfl
  have x0 : W2.cell? ⟨w.heap.size, 0, none⟩ = some (.slice A n c) := by rw [cells_of k1]; rfl
  have hlt : w.heap.size < W2.heap.size := by omega
  clear hA hL hT1 hT2 l1 l2 hW2 hb2 hs2z k1 k2 hf hl hfl hll hm hk e2
  go_enter Tryz.func40, Tryz.ntmps40
  go_upto_region 1 with fail
  rw [← hW2h.out]
  go_wp2_with (first
    | (at_builtin; have _t := tok1; refine wpList_append_reads _ rfl _ _ 22 rfl W2.heap.size 9 i0 (.string ByteArray.empty) 16 Tryz.underlying22 hi hz0 hz1 hz2 rfl _ 0 [] rfl hown0 w.heap.size A1 m1 q1 _ rfl (hR1.out _ hO0.out.below) (strs_one _) hmax.out.1.1 hmax.out.1.2 hO0.out.below.size ?_; intro v1 w3 hown1 hg1; obtain ⟨p1, p2⟩ := hput1.out v1 w3 hown1 hg1; have hT3 := Lib.hid p1; have hown3 := p2; have tok2 := trivial; clear tok1 hown1 hg1 p1 p2 hown0)
    | (at_builtin; have _t := tok2; refine wpList_append_reads _ rfl _ _ 22 rfl W2.heap.size 9 i0 (.string ByteArray.empty) 16 Tryz.underlying22 hi hz0 hz1 hz2 rfl v1 m1 _ rfl hown3 w.heap.size Al nl cl _ rfl (hRl.out _ hT3.out.below) (strs_one _) hmax.out.2.1.1 hmax.out.2.1.2 hT3.out.below.size ?_; intro v2 w4 hown1 hg1; obtain ⟨p1, p2⟩ := hput2.out v1 v2 w3 w4 hT3.out hown1 hg1; have hT4 := Lib.hid p1; have hown4 := p2; have z0 : w4.cell? ⟨w.heap.size, 0, none⟩ = some (.slice A n c) := (by rw [cells_of (hcell.out _ p1.below).1]; rfl); have tok3 := trivial; clear tok2 hown1 hg1 p1 p2 hown3)
    | (at_builtin; have _t := tok3; refine wpList_append_reads _ rfl _ _ 22 rfl W2.heap.size 9 i0 (.string ByteArray.empty) 16 Tryz.underlying22 hi hz0 hz1 hz2 rfl v2 (m1 + nl) _ rfl hown4 w.heap.size A2 m2 q2 _ rfl (hR2.out _ hT4.out.below) (strs_one _) hmax.out.2.2.1 hmax.out.2.2.2 hT4.out.below.size ?_; intro v3 w5 hown1 hg1; have p1 := hput3.out v2 v3 w4 w5 hT4.out hown1 hg1; have hT5 := Lib.hid p1; obtain ⟨h51, h52⟩ := hcell.out _ p1.below; obtain ⟨⟨c0, c1, c2, c3, c4⟩, d0, d1, d2, d3, d4⟩ := st_cells h51; obtain ⟨⟨r0, r1, r2, r3, r4⟩, f0, f1, f2, f3, f4⟩ := st_cells h52; have h51h := Lib.hid h51; have h52h := Lib.hid h52; clear h51 h52; obtain ⟨A5, c5, rfl, -, -, -⟩ := own_slice hown1; clear tok3 hown1 hg1 p1 hown4))
  have g1 : w.heap.size + 1 ≠ w.heap.size := by omega
  have hB5 := (hb2h.out.trans (hT5.out.below.mono hb2h.out.size))
  have hh := setS_at (.slice A5 (m1 + nl + m2) c5) (.bool false) (.int .i64 (at_ : Int)) (.int .i64 (bad : Int)) (.int .i64 (line : Int)) (set_keep 1 (.bool false) g1 (set_keep 0 (.slice A5 (m1 + nl + m2) c5) g1 h52h.out))
  have hB6 := setS_below (.slice A5 (m1 + nl + m2) c5) (.bool false) (.int .i64 (at_ : Int)) (.int .i64 (bad : Int)) (.int .i64 (line : Int)) ((hB5.setCell (p := ⟨w.heap.size, 0, none⟩) (Nat.le_refl _) (.slice A5 (m1 + nl + m2) c5)).setCell (p := ⟨w.heap.size, 1, none⟩) (Nat.le_refl _) (.bool false)) (Nat.le_succ w.heap.size)
  refine lay_end rfl hh ⟨A5, m1 + nl + m2, c5, rfl, ?_, hB6⟩
  refine txr_own (ownsRow_kept hT5.out.own fun j e => ?_)
  have hj := (hT5.out.own.lt j e).1
  have hz := hs2h.out
  exact (setS_same _ _ _ _ _ _ _ j (by omega)).trans ((set_same _ _ _ _ j (by omega)).trans (set_same _ _ _ _ j (by omega)))
end Go.Proofs.YtdfpifipkchmnaaGreatDoor
/- Texts that aren't too many, nor too long (layers 15 and 16). -/
namespace Go.Proofs.YtdfpifipkchmnaaGreatDoor
open Go.RowKit
set_option linter.unusedVariables false
set_option maxRecDepth 100000

/-- Texts that aren't too many, nor too long. -/
def smallD (l : Txs) : Prop := l.length ≤ 100000 ∧ ∀ s ∈ l, s.length ≤ 1000000
/-- Texts that a call tells, and a bool. -/
def TxsB (w w' : World) (e : Ending) (x : Txs × Bool) : Prop := ∃ A n c, e = .returned (.tuple #[.slice A n c, .bool x.2]) ∧ TxR w' w'.heap.size (A, n, c) x.1 ∧ Below w.heap.size w w'
/-- Texts that a call tells, and a number. -/
def TxsN (w w' : World) (e : Ending) (x : Txs × Nat) : Prop := ∃ A n c, e = .returned (.tuple #[.slice A n c, .int .i64 (x.2 : Int)]) ∧ TxR w' w'.heap.size (A, n, c) x.1 ∧ Below w.heap.size w w'
theorem few_D {l : Txs} {k : Nat} (h : fewB l k = true) (hk : k ≤ 100000) : smallD l := by
  unfold fewB at h
  rw [Bool.and_eq_true, decide_eq_true_eq] at h
  refine ⟨by omega, fun t ht => ?_⟩
  have h2 := h.2
  rw [List.take_of_length_le (by omega), List.all_eq_true] at h2
  have := h2 t ht
  simp at this
  omega
theorem dotT_len (s : Tx) : (dotT s).length ≤ s.length + 1 := by unfold dotT; split <;> simp
theorem bareT_len (s : Tx) : (bareT s).length ≤ s.length := by unfold bareT; split <;> simp
theorem small_block {l : Txs} {k : Nat} (h : l.length ≤ 50000) (hs : ∀ s ∈ l, s.length ≤ 900000) : smallD (blockD l) := by
  refine ⟨by rw [block_len]; omega, fun s hs2 => ?_⟩
  unfold blockD at hs2
  rcases List.mem_append.1 hs2 with h1 | h1
  · obtain ⟨t, ht, rfl⟩ := List.mem_map.1 h1
    have := dotT_len t
    have := hs t ht
    omega
  · rw [List.mem_singleton.1 h1]
    simp [endD]
theorem str_dot (t : Tx) : (⟨#[46]⟩ : ByteArray) ++ str t = str (46 :: t) := by
  apply ByteArray.ext
  simp [str]
theorem unblock_step (l : Txs) (k : Nat) (t : Tx) (ht : l[k]? = some t) : unblockD (l.take k) k (l.drop k) = if t = endD then (l.take k, k + 1) else unblockD (l.take (k + 1)) (k + 1) (l.drop (k + 1)) := by
  rw [drop_at ht, unblockD, take_at ht]
end Go.Proofs.YtdfpifipkchmnaaGreatDoor
/- Proved here, without a word of the program: a byte held against a number. -/
namespace Go.Proofs.YtdfpifipkchmnaaGreatDoor
set_option linter.unusedVariables false

theorem byte_is {c : UInt8} {n : Nat} (hn : n < 256) : ((c.toNat : Int) == (n : Int)) = (c == UInt8.ofNat n) := by
  rw [Bool.eq_iff_iff, beq_iff_eq, beq_iff_eq]
  constructor
  · intro h
    have h' : c.toNat = n := by exact_mod_cast h
    exact UInt8.toNat_inj.1 (by rw [h', UInt8.toNat_ofNat']; omega)
  · intro h
    subst h
    rw [UInt8.toNat_ofNat']
    congr 1
    omega
theorem byte_at (s : ByteArray) (k : Nat) (h : k < s.size) : s.data.toList[k]? = some s[k] := by
  rw [List.getElem?_eq_getElem (by simpa using h)]
  rfl
end Go.Proofs.YtdfpifipkchmnaaGreatDoor
/- Proved here: the contracts of the document's own answers of layer 15: Dotted, Block, Unblock, Strip. -/
namespace Go.Proofs.YtdfpifipkchmnaaGreatDoor
open Go.RowKit
set_option linter.unusedVariables false
set_option maxRecDepth 100000

theorem rBegins_anyD (s : Tx) (w : World) (hs : s.length ≤ 1000000) : Calls Tryz.prog 31 #[.string (str s)] w fun e w' => e = .returned (.bool (pointB s)) ∧ w' = w := by
  cases s with
  | nil =>
    have hz : (str []).size = 0 := rfl
    go_enter Tryz.func31, Tryz.ntmps31
    go_wp2
    go_ret
    exact ⟨rfl, rfl⟩
  | cons c r =>
    have hz : (str (c :: r)).size = r.length + 1 := by rw [str_size]; rfl
    have h0 : (0 : Int) < ((str (c :: r)).size : Int) := by rw [hz]; omega
    have hres : Hid (pointB (c :: r) = (((c.toNat : Nat) : Int) == 46)) := Lib.hid (by
      have := byte_is (c := c) (n := 46) (by omega)
      rw [show ((46 : Nat) : Int) = 46 from rfl] at this
      rw [this]
      unfold pointB
      rw [Bool.eq_iff_iff]
      simp)
    obtain ⟨S, hS⟩ : ∃ S, str (c :: r) = S := ⟨_, rfl⟩
    have h1 : 0 < S.size := by rw [← hS, hz]; omega
    have hb : S[0]'h1 = c := by subst hS; rfl
    rw [hS] at h0 ⊢
    clear hS hz
    go_enter Tryz.func31, Tryz.ntmps31
    go_wp2
    go_ret
    exact ⟨ret_bool (by rw [hres.out]), rfl⟩

theorem dotted_step {l : Txs} {k : Nat} {t : Tx} (ht : l[k]? = some t) : dottedB (l.drop k) = (pointB t || dottedB (l.drop (k + 1))) := by
  rw [drop_at ht]
  rfl
set_option maxHeartbeats 1000000 in
theorem rDotted_any (A : Option Addr) (n c B : Nat) (l : Txs) (w : World) (hn : n ≤ 100000) (hs : ∀ s ∈ l, s.length ≤ 1000000) (hA : Strs w B A n l) :
    Calls Tryz.prog 17 #[.slice A n c] w fun e w' => e = .returned (.bool (dottedB l)) ∧ w' = w := by
  have hl := hA.len
  go_enter Tryz.func17, Tryz.ntmps17
  go_wp2
  go_loop [3] (fun i => ∃ k : Nat, k ≤ n ∧ i = .int .i64 k ∧ Hid (dottedB l = dottedB (l.drop k))) (fun i => n - (intOf i).toNat)
  case atStart => exact ⟨0, Nat.zero_le _, rfl, Lib.hid rfl⟩
  case round =>
    obtain ⟨k, hk, rfl, hm⟩ := hrel
    by_cases hlt : k < n
    · obtain ⟨b, o, t, rfl, _, ht, hc⟩ := hA.at_ (k := k) hlt
      have hB := Lib.hid (rBegins_anyD t w (hs t (List.mem_of_getElem? ht)))
      obtain ⟨p, hp⟩ : ∃ p, pointB t = p := ⟨_, rfl⟩
      have hd : Hid (dottedB l = (p || dottedB (l.drop (k + 1)))) := Lib.hid (by rw [hm.out, dotted_step ht, hp])
      rw [hp] at hB
      clear ht hp
      cases p
      · go_wp2_with (go_at_call 31; refine hB.out.mono ?_; rintro e w' ⟨rfl, hw⟩; rw [hw])
        go_round
        case rel => exact ⟨k + 1, by omega, by go_num, Lib.hid (by rw [hd.out]; rfl)⟩
        case measure => simp [intOf]; omega
      · go_wp2_with (go_at_call 31; refine hB.out.mono ?_; rintro e w' ⟨rfl, hw⟩; rw [hw])
        go_ret
        exact ⟨ret_bool (by rw [hd.out]; rfl), rfl⟩
    · go_wp2
      go_ret
      have : k = n := by omega
      subst this
      exact ⟨ret_bool (by rw [hm.out, List.drop_of_length_le (by omega)]; rfl), rfl⟩
theorem OwnT.out {w w' : World} {e : Ending} {xs : Txs} (h : OwnT w w' e xs) : TxsOut w w' e xs := by
  obtain ⟨v, rfl, h⟩ := h
  exact h.out
end Go.Proofs.YtdfpifipkchmnaaGreatDoor
/- Proved here, without conditions: a string cut ahead, or behind. -/
namespace Go.Proofs.YtdfpifipkchmnaaGreatDoor
open Go.RowKit
set_option linter.unusedVariables false

theorem slice_str_from (t : Tx) (k : Nat) (hk : k ≤ t.length) (W : World) : (Instr.slice 9 (.string (str t)) (some (.int .i64 (k : Int))) none none).run Tryz.prog W = .ok (.string (str (t.drop k))) W := by
  rw [run_slice_string_l (P := Tryz.prog) W 9 (str t) Tryz.underlying9 .i64 (k : Int) (by omega) (by rw [str_size]; omega), Int.toNat_natCast]
  congr 2
  apply ByteArray.ext
  simp [str, ByteArray.extract, ByteArray.copySlice]
  show List.take (t.length - k) _ = _
  rw [List.take_of_length_le (by rw [List.length_drop]; exact Nat.le_refl _)]
theorem str_take (t : Tx) (k : Nat) (hk : k ≤ t.length) : (str t).extract 0 k = str (t.take k) := by
  apply ByteArray.ext
  simp [str, ByteArray.extract, ByteArray.copySlice, hk]
theorem slice_str_to (t : Tx) (k : Nat) (hk : k ≤ t.length) (W : World) : (Instr.slice 9 (.string (str t)) none (some (.int .i64 (k : Int))) none).run Tryz.prog W = .ok (.string (str (t.take k))) W := by
  rw [run_slice_string_h (P := Tryz.prog) W 9 (str t) Tryz.underlying9 .i64 (k : Int) (by omega) (by rw [str_size]; omega), Int.toNat_natCast, str_take t k hk]
end Go.Proofs.YtdfpifipkchmnaaGreatDoor

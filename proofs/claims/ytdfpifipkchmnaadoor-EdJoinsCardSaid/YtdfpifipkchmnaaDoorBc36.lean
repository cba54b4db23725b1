/- Proved here: texts joined: EdFail, EdCm4. -/
import Derived.Test.YtdfpifipkchmnaaDoorBc17
import Derived.Test.YtdfpifipkchmnaaDoorBc25
import Derived.Test.YtdfpifipkchmnaaDoorBc27
import Derived.Test.YtdfpifipkchmnaaDoorBc33
import Derived.Test.YtdfpifipkchmnaaDoorBc35
import Derived.RangeFuncBox
import Derived.Deep.RegionHeld3
/- Proved here: the contracts of the document's own answers of layer 17: fail, lay. -/
namespace Go.Proofs.YtdfpifipkchmnaaDoor
open Go.RowKit
set_option linter.unusedVariables false
set_option maxRecDepth 100000

theorem st_cells {V : World} {g : Nat} {a0 a1 a2 a3 a4 : Value} {t : TypeId} (h : V.heap[g]? = some (.cells #[a0, a1, a2, a3, a4] t (0, 0))) : (V.cell? ⟨g, 0, none⟩ = some a0 ∧ V.cell? ⟨g, 1, none⟩ = some a1 ∧ V.cell? ⟨g, 2, none⟩ = some a2 ∧ V.cell? ⟨g, 3, none⟩ = some a3 ∧ V.cell? ⟨g, 4, none⟩ = some a4) ∧ (V.frozen? ⟨g, 0, none⟩ = false ∧ V.frozen? ⟨g, 1, none⟩ = false ∧ V.frozen? ⟨g, 2, none⟩ = false ∧ V.frozen? ⟨g, 3, none⟩ = false ∧ V.frozen? ⟨g, 4, none⟩ = false) := by
  refine ⟨⟨?_, ?_, ?_, ?_, ?_⟩, unfrozen_of h 0, unfrozen_of h 1, unfrozen_of h 2, unfrozen_of h 3, unfrozen_of h 4⟩
  all_goals (rw [cells_of h]; rfl)
theorem set_one {V : World} {L : Nat} {C : Array Value} {t : TypeId} (j : Nat) (x : Value) (h : V.heap[L]? = some (.cells C t (0, 0))) : (V.setCell ⟨L, j, none⟩ x).heap[L]? = some (.cells (C.setIfInBounds j x) t (0, 0)) := by
  obtain ⟨hlt, hk⟩ := Array.getElem?_eq_some_iff.1 h
  show (V.heap.modify L _)[L]? = _
  rw [Array.getElem?_eq_getElem (by rw [Array.size_modify]; exact hlt), Array.getElem_modify_self, hk]
  rfl
theorem set_keep {V : World} {L g : Nat} {x : Option Obj} (j : Nat) (u : Value) (hne : L ≠ g) (h : V.heap[L]? = x) : (V.setCell ⟨g, j, none⟩ u).heap[L]? = x := (Below.heap_setCell _ _ _ _ hne).trans h
/-- A state is stored whole. -/
def setS (V : World) (L : Nat) (a0 a1 a2 a3 a4 : Value) : World := ((((V.setCell ⟨L, 0, none⟩ a0).setCell ⟨L, 1, none⟩ a1).setCell ⟨L, 2, none⟩ a2).setCell ⟨L, 3, none⟩ a3).setCell ⟨L, 4, none⟩ a4
theorem setS_at {V : World} {L : Nat} {b0 b1 b2 b3 b4 : Value} {t : TypeId} (a0 a1 a2 a3 a4 : Value) (h : V.heap[L]? = some (.cells #[b0, b1, b2, b3, b4] t (0, 0))) : (setS V L a0 a1 a2 a3 a4).heap[L]? = some (.cells #[a0, a1, a2, a3, a4] t (0, 0)) := set_one 4 a4 (set_one 3 a3 (set_one 2 a2 (set_one 1 a1 (set_one 0 a0 h))))
theorem setS_keep {V : World} {L g : Nat} {x : Option Obj} (a0 a1 a2 a3 a4 : Value) (hne : L ≠ g) (h : V.heap[L]? = x) : (setS V g a0 a1 a2 a3 a4).heap[L]? = x := set_keep 4 a4 hne (set_keep 3 a3 hne (set_keep 2 a2 hne (set_keep 1 a1 hne (set_keep 0 a0 hne h))))
theorem setS_below {w V : World} {B L : Nat} (a0 a1 a2 a3 a4 : Value) (h : Below B w V) (hL : B ≤ L) : Below B w (setS V L a0 a1 a2 a3 a4) := ((((h.setCell (p := ⟨L, 0, none⟩) hL a0).setCell (p := ⟨L, 1, none⟩) hL a1).setCell (p := ⟨L, 2, none⟩) hL a2).setCell (p := ⟨L, 3, none⟩) hL a3).setCell (p := ⟨L, 4, none⟩) hL a4
theorem setS_same (V : World) (L : Nat) (a0 a1 a2 a3 a4 : Value) (k : Nat) (hne : k ≠ L) : (setS V L a0 a1 a2 a3 a4).heap[k]? = V.heap[k]? := setS_keep a0 a1 a2 a3 a4 hne rfl
theorem set_same (V : World) (g j : Nat) (u : Value) (k : Nat) (hne : k ≠ g) : (V.setCell ⟨g, j, none⟩ u).heap[k]? = V.heap[k]? := set_keep j u hne rfl
/-- A row of the call's own, told. -/
theorem txr_own {W : World} {base n c m : Nat} {A : Option Addr} {xs : Txs} (h : W.ownsRow base 9 1 (.slice A n c) m (xs.map fun s => .string (str s))) : TxR W W.heap.size (A, n, c) xs := by
  obtain ⟨A', c', e, h1, h2, h3⟩ := own_slice h
  injection e with e1 e2 e3
  subst e1
  subst e2
  subst e3
  exact ⟨h1, h2, h3⟩
theorem set_but (V : World) (g j : Nat) (u : Value) : But (fun k => k = g) V (V.setCell ⟨g, j, none⟩ u) := But.setCell (F := fun k => k = g) V (p := ⟨g, j, none⟩) rfl u
theorem setS_but (V : World) (L : Nat) (a0 a1 a2 a3 a4 : Value) : But (fun k => k = L) V (setS V L a0 a1 a2 a3 a4) :=
  ((((set_but V L 0 a0).trans (set_but _ L 1 a1) fun k h => .inl h).trans (set_but _ L 2 a2) fun k h => .inl h).trans (set_but _ L 3 a3) fun k h => .inl h).trans (set_but _ L 4 a4) fun k h => .inl h
/-- Texts don't lie where a state lies. -/
theorem not_state {W : World} {B n c g q o : Nat} {A : Option Addr} {f : Txs} {A' : Option Addr} {n' c' : Nat} {b : Bool} {i1 i2 i3 : Int} {t : TypeId} (h : TxR W B (A, n, c) f) (hg : W.heap[g]? = some (.cells #[.slice A' n' c', .bool b, .int .i64 i1, .int .i64 i2, .int .i64 i3] t (0, 0))) (hn : 0 < n) (hA : A = some ⟨q, o, none⟩) : q ≠ g := by
  rintro rfl
  obtain ⟨b', o', e, _, hc⟩ := h.2.2.2 hn
  rw [hA] at e
  simp only [Option.some.injEq, Addr.mk.injEq, and_true] at e
  obtain ⟨rfl, rfl⟩ := e
  have hl := h.2.2.len
  dsimp only at hl
  obtain ⟨s, hs⟩ : ∃ s, f[0]? = some s := ⟨f[0]'(by omega), List.getElem?_eq_getElem _⟩
  have h0 := hc 0 (.string (str s)) (by rw [List.getElem?_map, hs]; rfl)
  rw [Nat.add_zero, cells_of hg] at h0
  rcases o with _ | _ | _ | _ | _ | o
  · simp at h0
  · simp at h0
  · simp at h0
  · simp at h0
  · simp at h0
  · simp at h0
end Go.Proofs.YtdfpifipkchmnaaDoor
/- Proved here: the landed editor's command strip. -/
namespace Go.Proofs.YtdfpifipkchmnaaDoor
open Go.RowKit
set_option linter.unusedVariables false
set_option maxRecDepth 100000

section
variable {B0 E a n c k f t : Nat} {w : World} {As : Option Addr} {ns cs : Nat} {fv : Value} {script file : Txs} {wr : Bool} {A : Option Addr} {l : List Nat}
set_option maxHeartbeats 1000000 in
theorem strip_form (h : EdI B0 w E (As, ns, cs) fv script ((a + 1 : Nat) : Int) file wr false) (hA : Nums w w.heap.size A n (l.map fun x : Nat => (x : Int))) (h1 : n ≠ 1) (h2 : n ≠ 2) :
    Calls Tryd.prog 28 #[.pointer (some ⟨E, 0, none⟩), .slice A n c] w fun e w' => EdWrong B0 w w' e (a + 1) 2 := by
  have hat := Lib.hid (at_form (c := c) h hA h1 h2)
  have hB := h.leB
  clear h hA h1 h2
  go_enter Tryd.func28, Tryd.ntmps28
  go_wp2_with (go_at_call 39; refine hat.out.mono ?_; rintro e w' ⟨rfl, hb⟩)
  exact ⟨rfl, rfl, hb.mono hB⟩
set_option maxHeartbeats 1000000 in
theorem strip_range (h : EdI B0 w E (As, ns, cs) fv script ((a + 1 : Nat) : Int) file wr false) (hA : Nums w w.heap.size A n (l.map fun x : Nat => (x : Int))) (hl : TwoN l n f t) (hf : f < 1000000000) (ht : t < 1000000000) (hbad : ¬ (0 < f ∧ f ≤ t ∧ t ≤ file.length)) :
    Calls Tryd.prog 28 #[.pointer (some ⟨E, 0, none⟩), .slice A n c] w fun e w' => EdWrong B0 w w' e (a + 1) 3 := by
  have hat := Lib.hid (at_range (c := c) h hA hl hf ht hbad)
  have hB := h.leB
  clear h hA hl hf ht hbad
  go_enter Tryd.func28, Tryd.ntmps28
  go_wp2_with (go_at_call 39; refine hat.out.mono ?_; rintro e w' ⟨rfl, hb⟩)
  exact ⟨rfl, rfl, hb.mono hB⟩

set_option maxHeartbeats 4000000 in
theorem strip_ok (h : EdI B0 w E (As, ns, cs) fv script ((a + 1 : Nat) : Int) file wr false) (hs : smallD file) (hA : Nums w w.heap.size A n (l.map fun x : Nat => (x : Int))) (hl : TwoN l n f t) (hf : f < 1000000000) (ht : t < 1000000000) (hok : 0 < f ∧ f ≤ t ∧ t ≤ file.length) :
    Calls Tryd.prog 28 #[.pointer (some ⟨E, 0, none⟩), .slice A n c] w fun e w' => CmdO B0 E (As, ns, cs) script w w' e (a + 1) (if dottedB (partE file f t) = false then .inl (7, a + 1) else .inr (layE file (f - 1) t (stripD (partE file f t)), false, 0)) := by
  have hat := at_ok (c := c) h hA hl hf ht hok
  rw [show (f : Int) - 1 = ((f - 1 : Nat) : Int) by omega] at hat
  have hB := h.leB
  have hlow := h.low
  obtain ⟨P, hP⟩ : ∃ P, partE file f t = P := ⟨_, rfl⟩
  rw [hP]
  have hP2 : (file.drop (f - 1)).take (t - (f - 1)) = P := by
    rw [← hP, ← List.drop_take]
    unfold partE
    congr 1
    omega
  have hPs : smallD P := by
    rw [← hP2]
    exact ⟨by rw [List.length_take, List.length_drop]; have := hs.1; omega, fun s hx => hs.2 s (List.mem_of_mem_drop (List.mem_of_mem_take hx))⟩
  obtain ⟨Af, cf, rfl, hnc, hcm, -⟩ := own_slice h.own
  have hTx : TxR w w.heap.size (Af, file.length, cf) file := txr_own h.own
  obtain ⟨A', m, q, hslc, hT, hm, -⟩ := slice_mid (i := f - 1) (k := t) hTx (by omega) hok.2.2
  rw [hP2] at hT
  have hdo : Hid (∀ (V : World), Below w.heap.size w V → Calls Tryd.prog 40 #[.slice A' m q] V fun e w' => OwnB V w' e (stripD P, dottedB P)) := Lib.hid (fun V hV => strip_own A' m q P V hPs (hT.up hV))
  have hSz : World → file.length + (stripD P).length ≤ 1000000 := fun _ => by
    have := hPs.1
    have := hs.1
    have e : (stripD P).length = P.length := by simp [stripD]
    omega
  have hput : Hid (∀ (V w2 : World) (v : Value), Below w.heap.size w V → Below V.heap.size V w2 → w2.ownsRow V.heap.size 9 1 v (stripD P).length (txC (stripD P)) →
      Calls Tryd.prog 37 #[.pointer (some ⟨E, 0, none⟩), .agg #[.int .i64 ((f - 1 : Nat) : Int), .int .i64 (t : Int)], v] w2 fun e w' => EdLeft B0 E (As, ns, cs) script w2 w' e ((a + 1 : Nat) : Int) (layE file (f - 1) t (stripD P)) false false) := Lib.hid (fun V w2 v hV h2 hv => put_any (h.up (hV.trans (h2.mono hV.size))) (by omega) hok.2.2 (hSz w2) hv (fun q e e2 => by have h3 := (hv.lt q e).1; have h4 := (h.own.lt q e2).2; have := hV.size; omega))
  have hcell := Lib.hid (fun (V : World) (hV : Below w.heap.size w V) => (h.up hV).cells)
  have hath := Lib.hid hat
  have hE := h.lt
  obtain ⟨I, hI⟩ : ∃ I : Int, I = ((f - 1 : Nat) : Int) := ⟨_, rfl⟩
  obtain ⟨T, hT2⟩ : ∃ T : Int, T = (t : Int) := ⟨_, rfl⟩
  obtain ⟨Z, hZ⟩ : ∃ Z, layE file (f - 1) t (stripD P) = Z := ⟨_, rfl⟩
  obtain ⟨Y, hY⟩ : ∃ Y, stripD P = Y := ⟨_, rfl⟩
  obtain ⟨D, hD⟩ : ∃ D, dottedB P = D := ⟨_, rfl⟩
  obtain ⟨N, hN⟩ : ∃ N, file.length = N := ⟨_, rfl⟩
  rw [← hI, ← hT2] at hath hput hslc
  rw [hZ] at hput ⊢
  rw [hY] at hput hdo
  rw [hD] at hdo ⊢
  rw [hN] at hslc hcell
  clear h hA hl hf ht hok hat hI hZ hs hP hP2 hPs hTx hT hT2 hm hY hD hN hnc hcm hSz
  cases D
  all_goals
    go_enter Tryd.func28, Tryd.ntmps28
    go_upto_region 1 with (go_at_call 39; refine hath.out.mono ?_; rintro e w1 ⟨rfl, hb⟩; have hB1 := Lib.hid hb; clear hb)
    have hs1 := hB1.out.size
    have hB2 : Below w.heap.size w (w1.alloc (.cells #[.int .i64 I, .int .i64 T] 63)).drew := (below_alloc hB1.out _).trans (below_drewN (Below.refl _ _) 1)
    have hbox : (w1.alloc (.cells #[.int .i64 I, .int .i64 T] 63)).drew.heap[w1.heap.size]? = some (.cells #[.int .i64 I, .int .i64 T] 63 (0, 0)) := by
      rw [heap_drew, push_at, if_pos rfl]
    have hsz : (w1.alloc (.cells #[.int .i64 I, .int .i64 T] 63)).drew.heap.size = w1.heap.size + 1 := by
      rw [heap_drew]; simp
    have hB2h := Lib.hid hB2
    have hkp := Lib.hid (fun (w2 : World) (hb : Below (w1.alloc (.cells #[.int .i64 I, .int .i64 T] 63)).drew.heap.size (w1.alloc (.cells #[.int .i64 I, .int .i64 T] 63)).drew w2) => cells_of ((hb.block w1.heap.size (by omega)).trans hbox))
    have hce := Lib.hid (fun (w2 : World) (hb : Below (w1.alloc (.cells #[.int .i64 I, .int .i64 T] 63)).drew.heap.size (w1.alloc (.cells #[.int .i64 I, .int .i64 T] 63)).drew w2) => (hcell.out w2 (hB2h.out.trans (hb.mono hB2h.out.size))).2.1)
    have z0 := (cells_of hbox 0).trans (show _ = some (Value.int .i64 I) from rfl)
    have z1 := (cells_of hbox 1).trans (show _ = some (Value.int .i64 T) from rfl)
    obtain ⟨-, -, x2, -, -⟩ := hcell.out _ hB2
    have hk3 := Lib.hid (fun (w2 : World) (hb : Below (w1.alloc (.cells #[.int .i64 I, .int .i64 T] 63)).drew.heap.size (w1.alloc (.cells #[.int .i64 I, .int .i64 T] 63)).drew w2) => And.intro (hcell.out w2 (hB2h.out.trans (hb.mono hB2h.out.size))).2.2.1 (And.intro ((hkp.out w2 hb 0).trans (show _ = some (Value.int .i64 I) from rfl)) ((hkp.out w2 hb 1).trans (show _ = some (Value.int .i64 T) from rfl))))
    have hst := Lib.hid (hdo.out _ hB2)
    have hputW := Lib.hid (fun w2 v => hput.out _ w2 v hB2)
    clear hB2 hbox hsz hdo hput
    go_region_held3 (fun wx : World => wx.cell? ⟨E, 2, none⟩ = some (.slice Af N cf) ∧ wx.cell? ⟨w1.heap.size, 0, none⟩ = some (.int .i64 I) ∧ wx.cell? ⟨w1.heap.size, 1, none⟩ = some (.int .i64 T))
      ((first | exact ⟨x2, z0, z1⟩ | exact hk3.out _ hb2.out))
      ((go_at_call 40; refine hst.out.mono ?_; rintro e w2 ⟨v, rfl, hT⟩; have hb2 := Lib.hid hT.below; have ho2 := Lib.hid hT.own; clear hT))
  · have hmb := Lib.hid (must_bad E 7 _ w2 (hce.out w2 hb2.out))
    have hfin := Lib.hid ((hB2h.out.mono hB).trans (hb2.out.mono (Nat.le_trans hB hB2h.out.size)))
    clear hkp hce hk3 hst hputW x2 z0 z1 hcell
    go_wp2_with (go_at_call 22; refine hmb.out.mono ?_; rintro e w' ⟨rfl, hww⟩; have hws := hww.symm; clear hww; subst hws)
    exact ⟨rfl, rfl, hfin.out⟩
  · have hmb := Lib.hid (must_ok E 7 w2)
    have hfin := Lib.hid ((BmK.of hB2h.out hB).trans (BmK.of hb2.out (Nat.le_trans hB hB2h.out.size)))
    obtain ⟨-, y0, y1⟩ := hk3.out w2 hb2.out
    have hP := Lib.hid (hputW.out w2 v hb2.out ho2.out)
    clear hkp hce hk3 hst hputW x2 z0 z1 hcell
    go_wp2_with (first
      | (go_at_call 22; refine hmb.out.mono ?_; rintro e w' ⟨rfl, hww⟩; have hws := hww.symm; clear hww; subst hws)
      | (go_at_call 37; refine hP.out.mono ?_; rintro e w3 ⟨fv3, rfl, hE3, hb3⟩; have hF := Lib.hid (And.intro hE3 hb3); clear hE3 hb3))
    go_end0
    exact ⟨fv3, rfl, hF.out.1, hfin.out.trans hF.out.2⟩
end
end Go.Proofs.YtdfpifipkchmnaaDoor

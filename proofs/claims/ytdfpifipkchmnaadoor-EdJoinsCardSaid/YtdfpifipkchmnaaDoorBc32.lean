/- Proved here: texts joined: EdAtL. -/
import Derived.Test.YtdfpifipkchmnaaDoorBc17
import Derived.Test.YtdfpifipkchmnaaDoorBc24
/- Proved here: the landed editor's at: which lines the numbers tell. -/
namespace Go.Proofs.YtdfpifipkchmnaaDoor
open Go.RowKit
set_option linter.unusedVariables false
set_option maxRecDepth 100000

theorem nums_at {w : World} {B n k : Nat} {A : Option Addr} {l : List Nat} {x : Nat} (h : Nums w B A n (l.map fun x : Nat => (x : Int))) (hk : l[k]? = some x) : ∃ b o, A = some ⟨b, o, none⟩ ∧ b < B ∧ w.cell? ⟨b, o + k, none⟩ = some (.int .i64 (x : Int)) := by
  have hl := h.len
  rw [List.length_map] at hl
  have hlt := (List.getElem?_eq_some_iff.1 hk).1
  obtain ⟨b, o, y, e, hb, hy, hc⟩ := h.at_ (k := k) (by omega)
  rw [List.getElem?_map, hk] at hy
  simp only [Option.map_some, Option.some.injEq] at hy
  exact ⟨b, o, e, hb, by rw [hc, hy]⟩
theorem cset {V : World} {L : Nat} {C : Array Value} {t : TypeId} (j : Nat) (x : Value) (h : V.heap[L]? = some (.cells C t (0, 0))) : (V.setCell ⟨L, j, none⟩ x).heap[L]? = some (.cells (C.setIfInBounds j x) t (0, 0)) := by
  obtain ⟨hlt, hk⟩ := Array.getElem?_eq_some_iff.1 h
  show (V.heap.modify L _)[L]? = _
  rw [Array.getElem?_eq_getElem (by rw [Array.size_modify]; exact hlt), Array.getElem_modify_self, hk]
  rfl
/-- A span, stored in a variable of its own. -/
theorem span_new {w V : World} (hb : Below w.heap.size w V) {L : Nat} (hL : w.heap.size ≤ L) (h0 : V.heap[L]? = some (.cells #[.int .i64 0, .int .i64 0] 63 (0, 0))) (a b : Int) :
    ((V.setCell ⟨L, 0, none⟩ (.int .i64 a)).setCell ⟨L, 1, none⟩ (.int .i64 b)).heap[L]? = some (.cells #[.int .i64 a, .int .i64 b] 63 (0, 0)) ∧
    Below w.heap.size w ((V.setCell ⟨L, 0, none⟩ (.int .i64 a)).setCell ⟨L, 1, none⟩ (.int .i64 b)) :=
  ⟨cset 1 _ (cset 0 _ h0), (hb.setCell (p := ⟨L, 0, none⟩) hL _).setCell (p := ⟨L, 1, none⟩) hL _⟩

section
variable {B0 E : Nat} {w : World} {S : Slc} {fv : Value} {script file : Txs} {rd : Int} {wr ov : Bool} {A : Option Addr} {n c : Nat} {l : List Nat}
set_option maxHeartbeats 1000000 in
theorem at_form (h : EdI B0 w E S fv script rd file wr ov) (hA : Nums w w.heap.size A n (l.map fun x : Nat => (x : Int))) (h1 : n ≠ 1) (h2 : n ≠ 2) :
    Calls Tryd.prog 39 #[.pointer (some ⟨E, 0, none⟩), .slice A n c] w fun e w' => e = .panicked (WR rd 2) ∧ Below w.heap.size w w' := by
  obtain ⟨W0, hW0⟩ : ∃ W0, W0 = w.alloc (.cells #[.int .i64 0, .int .i64 0] 63) := ⟨_, rfl⟩
  have hb0 : Below w.heap.size w W0 := by rw [hW0]; exact below_alloc (Below.refl _ _) _
  have hk0 := Lib.hid (And.intro hW0 hb0)
  have hm := Lib.hid (must_bad E 2 rd W0 (h.up hb0).cells.2.1)
  have e1 : ((n : Int) == 1) = false := by rw [beq_eq_false_iff_ne]; omega
  have e2 : ((n : Int) == 2) = false := by rw [beq_eq_false_iff_ne]; omega
  clear hW0 hb0 h1 h2 h hA
  go_enter Tryd.func39, Tryd.ntmps39
  go_upto_region 1 with fail
  rw [← hk0.out.1]
  go_wp2_with (go_at_call 22; refine hm.out.mono ?_; rintro e w' ⟨rfl, rfl⟩)
  exact ⟨rfl, rfl, hk0.out.2⟩

/-- The lines that numbers tell. -/
def TwoN (l : List Nat) (n f t : Nat) : Prop := (n = 1 ∧ l = [f] ∧ t = f) ∨ (n = 2 ∧ l = [f, t])

set_option maxHeartbeats 4000000 in
theorem at_range (h : EdI B0 w E S fv script rd file wr ov) {f t : Nat} (hA : Nums w w.heap.size A n (l.map fun x : Nat => (x : Int))) (hl : TwoN l n f t) (hf : f < 1000000000) (ht : t < 1000000000) (hbad : ¬ (0 < f ∧ f ≤ t ∧ t ≤ file.length)) :
    Calls Tryd.prog 39 #[.pointer (some ⟨E, 0, none⟩), .slice A n c] w fun e w' => e = .panicked (WR rd 3) ∧ Below w.heap.size w w' := by
  obtain ⟨W0, hW0⟩ : ∃ W0, W0 = w.alloc (.cells #[.int .i64 0, .int .i64 0] 63) := ⟨_, rfl⟩
  have hb0 : Below w.heap.size w W0 := by rw [hW0]; exact below_alloc (Below.refl _ _) _
  have hbx : W0.heap[w.heap.size]? = some (.cells #[.int .i64 0, .int .i64 0] 63 (0, 0)) := by rw [hW0, push_at, if_pos rfl]
  have hk0 := Lib.hid (And.intro hW0 (And.intro hb0 hbx))
  have hE := h.up hb0
  have hm := Lib.hid (must_ok E 2 W0)
  have hm2 := Lib.hid (must_bad E 3 rd W0.drew hE.cells.2.1)
  obtain ⟨-, -, x2, -, -⟩ := hE.cells
  obtain ⟨Af, cf, hfv, -, -, -⟩ := own_slice h.own
  rw [hfv] at x2
  obtain ⟨N, hN⟩ : ∃ N, file.length = N := ⟨_, rfl⟩
  rw [hN] at x2 hbad
  have hA0 := hA.below hb0
  have q0 := (cells_of hbx 0).trans rfl
  have q1 := (cells_of hbx 1).trans rfl
  have u0 := unfrozen_of hbx 0
  have u1 := unfrozen_of hbx 1
  rcases hl with ⟨rfl, rfl, rfl⟩ | ⟨rfl, rfl⟩
  · obtain ⟨b, o, rfl, hb, c0⟩ := nums_at (k := 0) hA0 rfl
    rw [Nat.add_zero] at c0
    by_cases g1 : 0 < t
    · have g3 : ¬ (t ≤ N) := fun hx => hbad ⟨g1, Nat.le_refl _, hx⟩
      have d0 : decide ((0 : Int) < (t : Int)) = true := decide_eq_true (by omega)
      have p0 : ((0 : Int) < (t : Int)) := by omega
      have d1 : decide ((t : Int) ≤ (t : Int)) = true := decide_eq_true (by omega)
      have p1 : ((t : Int) ≤ (t : Int)) := by omega
      have d2 : decide ((t : Int) ≤ (N : Int)) = false := decide_eq_false (by omega)
      have p2 : ¬ ((t : Int) ≤ (N : Int)) := by omega
      clear hW0 hb0 hbx hE h hA hA0 hfv hN hbad
      go_enter Tryd.func39, Tryd.ntmps39
      go_upto_region 1 with fail
      rw [← hk0.out.1]
      go_upto_region 2 with (go_at_call 22; refine hm.out.mono ?_; rintro e w' ⟨rfl, rfl⟩)
      go_region
      all_goals
        go_wp2_with (go_at_call 22; refine hm2.out.mono ?_; rintro e w' ⟨rfl, rfl⟩)
        exact ⟨rfl, rfl, below_drew hk0.out.2.1⟩
    · skip
      have d0 : decide ((0 : Int) < (t : Int)) = false := decide_eq_false (by omega)
      have p0 : ¬ ((0 : Int) < (t : Int)) := by omega
      clear hW0 hb0 hbx hE h hA hA0 hfv hN hbad
      go_enter Tryd.func39, Tryd.ntmps39
      go_upto_region 1 with fail
      rw [← hk0.out.1]
      go_upto_region 2 with (go_at_call 22; refine hm.out.mono ?_; rintro e w' ⟨rfl, rfl⟩)
      go_region
      all_goals
        go_wp2_with (go_at_call 22; refine hm2.out.mono ?_; rintro e w' ⟨rfl, rfl⟩)
        exact ⟨rfl, rfl, below_drew hk0.out.2.1⟩
  · obtain ⟨b, o, rfl, hb, c0⟩ := nums_at (k := 0) hA0 rfl
    obtain ⟨b', o', e', -, c1⟩ := nums_at (k := 1) hA0 rfl
    injection e' with e'
    injection e' with e1' e2'
    subst e1' e2'
    rw [Nat.add_zero] at c0
    by_cases g1 : 0 < f
    · by_cases g2 : f ≤ t
      · have g3 : ¬ (t ≤ N) := fun hx => hbad ⟨g1, g2, hx⟩
        have d0 : decide ((0 : Int) < (f : Int)) = true := decide_eq_true (by omega)
        have p0 : ((0 : Int) < (f : Int)) := by omega
        have d1 : decide ((f : Int) ≤ (t : Int)) = true := decide_eq_true (by omega)
        have p1 : ((f : Int) ≤ (t : Int)) := by omega
        have d2 : decide ((t : Int) ≤ (N : Int)) = false := decide_eq_false (by omega)
        have p2 : ¬ ((t : Int) ≤ (N : Int)) := by omega
        have e1 : ((2 : Int) == 1) = false := by decide
        clear hW0 hb0 hbx hE h hA hA0 hfv hN hbad
        go_enter Tryd.func39, Tryd.ntmps39
        go_upto_region 1 with fail
        rw [← hk0.out.1]
        go_upto_region 2 with (go_at_call 22; refine hm.out.mono ?_; rintro e w' ⟨rfl, rfl⟩)
        go_region
        all_goals
          go_wp2_with (go_at_call 22; refine hm2.out.mono ?_; rintro e w' ⟨rfl, rfl⟩)
          exact ⟨rfl, rfl, below_drew hk0.out.2.1⟩
      · skip
        have d0 : decide ((0 : Int) < (f : Int)) = true := decide_eq_true (by omega)
        have p0 : ((0 : Int) < (f : Int)) := by omega
        have d1 : decide ((f : Int) ≤ (t : Int)) = false := decide_eq_false (by omega)
        have p1 : ¬ ((f : Int) ≤ (t : Int)) := by omega
        have e1 : ((2 : Int) == 1) = false := by decide
        clear hW0 hb0 hbx hE h hA hA0 hfv hN hbad
        go_enter Tryd.func39, Tryd.ntmps39
        go_upto_region 1 with fail
        rw [← hk0.out.1]
        go_upto_region 2 with (go_at_call 22; refine hm.out.mono ?_; rintro e w' ⟨rfl, rfl⟩)
        go_region
        all_goals
          go_wp2_with (go_at_call 22; refine hm2.out.mono ?_; rintro e w' ⟨rfl, rfl⟩)
          exact ⟨rfl, rfl, below_drew hk0.out.2.1⟩
    · skip
      have d0 : decide ((0 : Int) < (f : Int)) = false := decide_eq_false (by omega)
      have p0 : ¬ ((0 : Int) < (f : Int)) := by omega
      have e1 : ((2 : Int) == 1) = false := by decide
      clear hW0 hb0 hbx hE h hA hA0 hfv hN hbad
      go_enter Tryd.func39, Tryd.ntmps39
      go_upto_region 1 with fail
      rw [← hk0.out.1]
      go_upto_region 2 with (go_at_call 22; refine hm.out.mono ?_; rintro e w' ⟨rfl, rfl⟩)
      go_region
      all_goals
        go_wp2_with (go_at_call 22; refine hm2.out.mono ?_; rintro e w' ⟨rfl, rfl⟩)
        exact ⟨rfl, rfl, below_drew hk0.out.2.1⟩
set_option maxHeartbeats 4000000 in
theorem at_ok (h : EdI B0 w E S fv script rd file wr ov) {f t : Nat} (hA : Nums w w.heap.size A n (l.map fun x : Nat => (x : Int))) (hl : TwoN l n f t) (hf : f < 1000000000) (ht : t < 1000000000) (hok : 0 < f ∧ f ≤ t ∧ t ≤ file.length) :
    Calls Tryd.prog 39 #[.pointer (some ⟨E, 0, none⟩), .slice A n c] w fun e w' => e = .returned (.agg #[.int .i64 ((f : Int) - 1), .int .i64 (t : Int)]) ∧ Below w.heap.size w w' := by
  obtain ⟨W0, hW0⟩ : ∃ W0, W0 = w.alloc (.cells #[.int .i64 0, .int .i64 0] 63) := ⟨_, rfl⟩
  have hb0 : Below w.heap.size w W0 := by rw [hW0]; exact below_alloc (Below.refl _ _) _
  have hbx : W0.heap[w.heap.size]? = some (.cells #[.int .i64 0, .int .i64 0] 63 (0, 0)) := by rw [hW0, push_at, if_pos rfl]
  have hk0 := Lib.hid (And.intro hW0 (And.intro hb0 hbx))
  have hE := h.up hb0
  have hm := Lib.hid (must_ok E 2 W0)
  have hm2 := Lib.hid (must_ok E 3 W0.drew)
  obtain ⟨-, -, x2, -, -⟩ := hE.cells
  obtain ⟨Af, cf, hfv, -, -, -⟩ := own_slice h.own
  rw [hfv] at x2
  obtain ⟨N, hN⟩ : ∃ N, file.length = N := ⟨_, rfl⟩
  rw [hN] at x2 hok
  have hA0 := hA.below hb0
  have q0 := (cells_of hbx 0).trans rfl
  have q1 := (cells_of hbx 1).trans rfl
  have u0 := unfrozen_of hbx 0
  have u1 := unfrozen_of hbx 1
  obtain ⟨g1, g2, g3⟩ := hok
  rcases hl with ⟨rfl, rfl, rfl⟩ | ⟨rfl, rfl⟩
  · obtain ⟨b, o, rfl, hb, c0⟩ := nums_at (k := 0) hA0 rfl
    rw [Nat.add_zero] at c0
    have d0 : decide ((0 : Int) < (t : Int)) = true := decide_eq_true (by omega)
    have p0 : ((0 : Int) < (t : Int)) := by omega
    have d1 : decide ((t : Int) ≤ (t : Int)) = true := decide_eq_true (by omega)
    have p1 : ((t : Int) ≤ (t : Int)) := by omega
    have d2 : decide ((t : Int) ≤ (N : Int)) = true := decide_eq_true (by omega)
    have p2 : ((t : Int) ≤ (N : Int)) := by omega
    clear hW0 hb0 hbx hE h hA hA0 hfv hN
    go_enter Tryd.func39, Tryd.ntmps39
    go_upto_region 1 with fail
    rw [← hk0.out.1]
    go_upto_region 2 with (go_at_call 22; refine hm.out.mono ?_; rintro e w' ⟨rfl, hww⟩; have hws := hww.symm; clear hww; subst hws)
    go_region
    all_goals
      obtain ⟨W1, hW1⟩ : ∃ W1, World.drew W0 = W1 := ⟨_, rfl⟩
      rw [hW1] at hm2 ⊢
      have hbw : Below w.heap.size w W1 := hW1 ▸ below_drew hk0.out.2.1
      have hbxw : W1.heap[w.heap.size]? = some (.cells #[.int .i64 0, .int .i64 0] 63 (0, 0)) := hW1 ▸ hk0.out.2.2
      have x3 : W1.cell? ⟨E, 2, none⟩ = some (.slice Af N cf) := hW1 ▸ x2
      have q0 : W1.cell? ⟨w.heap.size, 0, none⟩ = some (.int .i64 0) := (cells_of hbxw 0).trans rfl
      have q1 : W1.cell? ⟨w.heap.size, 1, none⟩ = some (.int .i64 0) := (cells_of hbxw 1).trans rfl
      have u0 := unfrozen_of hbxw 0
      have u1 := unfrozen_of hbxw 1
      clear hW1
      go_wp2_with (go_at_call 22; refine hm2.out.mono ?_; rintro e w' ⟨rfl, hww⟩; have hws := hww.symm; clear hww; subst hws)
      obtain ⟨z1, z2⟩ := span_new hbw (Nat.le_refl _) hbxw ((t : Int) - 1) (t : Int)
      have y0 : ((W1.setCell ⟨w.heap.size, 0, none⟩ (.int .i64 ((t : Int) - 1))).setCell ⟨w.heap.size, 1, none⟩ (.int .i64 (t : Int))).cell? ⟨w.heap.size, 0, none⟩ = some (.int .i64 ((t : Int) - 1)) := (cells_of z1 0).trans rfl
      have y1 : ((W1.setCell ⟨w.heap.size, 0, none⟩ (.int .i64 ((t : Int) - 1))).setCell ⟨w.heap.size, 1, none⟩ (.int .i64 (t : Int))).cell? ⟨w.heap.size, 1, none⟩ = some (.int .i64 (t : Int)) := (cells_of z1 1).trans rfl
      refine  bodyPost_ret (v := .agg #[.int .i64 ((t : Int) - 1), .int .i64 (t : Int)]) (by simp [results, Tryd.results39, go_sem, y0, y1]) rfl ?_
      exact ⟨rfl, z2⟩
  · obtain ⟨b, o, rfl, hb, c0⟩ := nums_at (k := 0) hA0 rfl
    obtain ⟨b', o', e', -, c1⟩ := nums_at (k := 1) hA0 rfl
    injection e' with e'
    injection e' with e1' e2'
    subst e1' e2'
    rw [Nat.add_zero] at c0
    have d0 : decide ((0 : Int) < (f : Int)) = true := decide_eq_true (by omega)
    have p0 : ((0 : Int) < (f : Int)) := by omega
    have d1 : decide ((f : Int) ≤ (t : Int)) = true := decide_eq_true (by omega)
    have p1 : ((f : Int) ≤ (t : Int)) := by omega
    have d2 : decide ((t : Int) ≤ (N : Int)) = true := decide_eq_true (by omega)
    have p2 : ((t : Int) ≤ (N : Int)) := by omega
    have e1 : ((2 : Int) == 1) = false := by decide
    clear hW0 hb0 hbx hE h hA hA0 hfv hN
    go_enter Tryd.func39, Tryd.ntmps39
    go_upto_region 1 with fail
    rw [← hk0.out.1]
    go_upto_region 2 with (go_at_call 22; refine hm.out.mono ?_; rintro e w' ⟨rfl, hww⟩; have hws := hww.symm; clear hww; subst hws)
    go_region
    all_goals
      obtain ⟨W1, hW1⟩ : ∃ W1, World.drew W0 = W1 := ⟨_, rfl⟩
      rw [hW1] at hm2 ⊢
      have hbw : Below w.heap.size w W1 := hW1 ▸ below_drew hk0.out.2.1
      have hbxw : W1.heap[w.heap.size]? = some (.cells #[.int .i64 0, .int .i64 0] 63 (0, 0)) := hW1 ▸ hk0.out.2.2
      have x3 : W1.cell? ⟨E, 2, none⟩ = some (.slice Af N cf) := hW1 ▸ x2
      have q0 : W1.cell? ⟨w.heap.size, 0, none⟩ = some (.int .i64 0) := (cells_of hbxw 0).trans rfl
      have q1 : W1.cell? ⟨w.heap.size, 1, none⟩ = some (.int .i64 0) := (cells_of hbxw 1).trans rfl
      have u0 := unfrozen_of hbxw 0
      have u1 := unfrozen_of hbxw 1
      clear hW1
      go_wp2_with (go_at_call 22; refine hm2.out.mono ?_; rintro e w' ⟨rfl, hww⟩; have hws := hww.symm; clear hww; subst hws)
      obtain ⟨z1, z2⟩ := span_new hbw (Nat.le_refl _) hbxw ((f : Int) - 1) (t : Int)
      have y0 : ((W1.setCell ⟨w.heap.size, 0, none⟩ (.int .i64 ((f : Int) - 1))).setCell ⟨w.heap.size, 1, none⟩ (.int .i64 (t : Int))).cell? ⟨w.heap.size, 0, none⟩ = some (.int .i64 ((f : Int) - 1)) := (cells_of z1 0).trans rfl
      have y1 : ((W1.setCell ⟨w.heap.size, 0, none⟩ (.int .i64 ((f : Int) - 1))).setCell ⟨w.heap.size, 1, none⟩ (.int .i64 (t : Int))).cell? ⟨w.heap.size, 1, none⟩ = some (.int .i64 (t : Int)) := (cells_of z1 1).trans rfl
      refine  bodyPost_ret (v := .agg #[.int .i64 ((f : Int) - 1), .int .i64 (t : Int)]) (by simp [results, Tryd.results39, go_sem, y0, y1]) rfl ?_
      exact ⟨rfl, z2⟩
end
end Go.Proofs.YtdfpifipkchmnaaDoor

/- Proved here: texts joined: EdAtL, EdCm, ConDtS. -/
import Derived.Test.YtdfpifipkchmnaaGreatDoorBa13
import Derived.Test.YtdfpifipkchmnaaGreatDoorBa17
import Derived.Test.YtdfpifipkchmnaaGreatDoorBa27
import Derived.Test.YtdfpifipkchmnaaGreatDoorBa31
/- Proved here: the landed editor's at: which lines the numbers tell. -/
namespace Go.Proofs.YtdfpifipkchmnaaGreatDoor
open Go.RowKit
set_option linter.unusedVariables false
set_option maxRecDepth 100000

theorem nums_at {w : World} {B n k : Nat} {A : Option Addr} {l : List Nat} {x : Nat} (h : Nums w B A n (l.map fun x : Nat => (x : Int))) (hk : l[k]? = some x) : ∃ b o, A = some ⟨b, o, none⟩ ∧ b < B ∧ w.cell? ⟨b, o + k, none⟩ = some (.int .i64 (x : Int)) := by
  have hl := h.len
  rw [List.length_map] at hl
  have hlt := (List.getElem?_eq_some_iff.1 hk).1
  obtain ⟨b, o, y, e, hb, hy, hc⟩ := h.at_ (k := k) (by omega)
  rw [List.getElem?_map, hk] at hy
  simp only [Option.map_some, Option.some.injEq] at hy
  exact ⟨b, o, e, hb, by rw [hc, hy]⟩
theorem cset {V : World} {L : Nat} {C : Array Value} {t : TypeId} (j : Nat) (x : Value) (h : V.heap[L]? = some (.cells C t (0, 0))) : (V.setCell ⟨L, j, none⟩ x).heap[L]? = some (.cells (C.setIfInBounds j x) t (0, 0)) := by
  obtain ⟨hlt, hk⟩ := Array.getElem?_eq_some_iff.1 h
  show (V.heap.modify L _)[L]? = _
  rw [Array.getElem?_eq_getElem (by rw [Array.size_modify]; exact hlt), Array.getElem_modify_self, hk]
  rfl
/-- A span, stored in a variable of its own. -/
theorem span_new {w V : World} (hb : Below w.heap.size w V) {L : Nat} (hL : w.heap.size ≤ L) (h0 : V.heap[L]? = some (.cells #[.int .i64 0, .int .i64 0] 88 (0, 0))) (a b : Int) :
    ((V.setCell ⟨L, 0, none⟩ (.int .i64 a)).setCell ⟨L, 1, none⟩ (.int .i64 b)).heap[L]? = some (.cells #[.int .i64 a, .int .i64 b] 88 (0, 0)) ∧
    Below w.heap.size w ((V.setCell ⟨L, 0, none⟩ (.int .i64 a)).setCell ⟨L, 1, none⟩ (.int .i64 b)) :=
  ⟨cset 1 _ (cset 0 _ h0), (hb.setCell (p := ⟨L, 0, none⟩) hL _).setCell (p := ⟨L, 1, none⟩) hL _⟩

section
variable {B0 E : Nat} {w : World} {S : Slc} {fv : Value} {script file : Txs} {rd : Int} {wr ov : Bool} {A : Option Addr} {n c : Nat} {l : List Nat}
set_option maxHeartbeats 1000000 in
theorem at_form (h : EdI B0 w E S fv script rd file wr ov) (hA : Nums w w.heap.size A n (l.map fun x : Nat => (x : Int))) (h1 : n ≠ 1) (h2 : n ≠ 2) :
    Calls Tryz.prog 60 #[.pointer (some ⟨E, 0, none⟩), .slice A n c] w fun e w' => e = .panicked (WR rd 2) ∧ Below w.heap.size w w' := by
  obtain ⟨W0, hW0⟩ : ∃ W0, W0 = w.alloc (.cells #[.int .i64 0, .int .i64 0] 88) := ⟨_, rfl⟩
  have hb0 : Below w.heap.size w W0 := by rw [hW0]; exact below_alloc (Below.refl _ _) _
  have hk0 := Lib.hid (And.intro hW0 hb0)
  have hm := Lib.hid (must_bad E 2 rd W0 (h.up hb0).cells.2.1)
  have e1 : ((n : Int) == 1) = false := by rw [beq_eq_false_iff_ne]; omega
  have e2 : ((n : Int) == 2) = false := by rw [beq_eq_false_iff_ne]; omega
  clear hW0 hb0 h1 h2 h hA
  go_enter Tryz.func60, Tryz.ntmps60
  go_upto_region 1 with fail
  rw [← hk0.out.1]
  go_wp2_with (go_at_call 36; refine hm.out.mono ?_; rintro e w' ⟨rfl, rfl⟩)
  exact ⟨rfl, rfl, hk0.out.2⟩

/-- The lines that numbers tell. -/
def TwoN (l : List Nat) (n f t : Nat) : Prop := (n = 1 ∧ l = [f] ∧ t = f) ∨ (n = 2 ∧ l = [f, t])

set_option maxHeartbeats 4000000 in
theorem at_range (h : EdI B0 w E S fv script rd file wr ov) {f t : Nat} (hA : Nums w w.heap.size A n (l.map fun x : Nat => (x : Int))) (hl : TwoN l n f t) (hf : f < 1000000000) (ht : t < 1000000000) (hbad : ¬ (0 < f ∧ f ≤ t ∧ t ≤ file.length)) :
    Calls Tryz.prog 60 #[.pointer (some ⟨E, 0, none⟩), .slice A n c] w fun e w' => e = .panicked (WR rd 3) ∧ Below w.heap.size w w' := by
  obtain ⟨W0, hW0⟩ : ∃ W0, W0 = w.alloc (.cells #[.int .i64 0, .int .i64 0] 88) := ⟨_, rfl⟩
  have hb0 : Below w.heap.size w W0 := by rw [hW0]; exact below_alloc (Below.refl _ _) _
  have hbx : W0.heap[w.heap.size]? = some (.cells #[.int .i64 0, .int .i64 0] 88 (0, 0)) := by rw [hW0, push_at, if_pos rfl]
  have hk0 := Lib.hid (And.intro hW0 (And.intro hb0 hbx))
  have hE := h.up hb0
  have hm := Lib.hid (must_ok E 2 W0)
  have hm2 := Lib.hid (must_bad E 3 rd W0.drew hE.cells.2.1)
  obtain ⟨-, -, x2, -, -⟩ := hE.cells
  obtain ⟨Af, cf, hfv, -, -, -⟩ := own_slice h.own
  rw [hfv] at x2
  obtain ⟨N, hN⟩ : ∃ N, file.length = N := ⟨_, rfl⟩
  rw [hN] at x2 hbad
  have hA0 := hA.below hb0
  have q0 := (cells_of hbx 0).trans rfl
  have q1 := (cells_of hbx 1).trans rfl
  have u0 := unfrozen_of hbx 0
  have u1 := unfrozen_of hbx 1
  rcases hl with ⟨rfl, rfl, rfl⟩ | ⟨rfl, rfl⟩
  · obtain ⟨b, o, rfl, hb, c0⟩ := nums_at (k := 0) hA0 rfl
    rw [Nat.add_zero] at c0
    by_cases g1 : 0 < t
    · have g3 : ¬ (t ≤ N) := fun hx => hbad ⟨g1, Nat.le_refl _, hx⟩
      have d0 : decide ((0 : Int) < (t : Int)) = true := decide_eq_true (by omega)
      have p0 : ((0 : Int) < (t : Int)) := by omega
      have d1 : decide ((t : Int) ≤ (t : Int)) = true := decide_eq_true (by omega)
      have p1 : ((t : Int) ≤ (t : Int)) := by omega
      have d2 : decide ((t : Int) ≤ (N : Int)) = false := decide_eq_false (by omega)
      have p2 : ¬ ((t : Int) ≤ (N : Int)) := by omega
      clear hW0 hb0 hbx hE h hA hA0 hfv hN hbad
      go_enter Tryz.func60, Tryz.ntmps60
      go_upto_region 1 with fail
      rw [← hk0.out.1]
      go_upto_region 2 with (go_at_call 36; refine hm.out.mono ?_; rintro e w' ⟨rfl, rfl⟩)
      go_region
      all_goals
        go_wp2_with (go_at_call 36; refine hm2.out.mono ?_; rintro e w' ⟨rfl, rfl⟩)
        exact ⟨rfl, rfl, below_drew hk0.out.2.1⟩
    · skip
      have d0 : decide ((0 : Int) < (t : Int)) = false := decide_eq_false (by omega)
      have p0 : ¬ ((0 : Int) < (t : Int)) := by omega
      clear hW0 hb0 hbx hE h hA hA0 hfv hN hbad
      go_enter Tryz.func60, Tryz.ntmps60
      go_upto_region 1 with fail
      rw [← hk0.out.1]
      go_upto_region 2 with (go_at_call 36; refine hm.out.mono ?_; rintro e w' ⟨rfl, rfl⟩)
      go_region
      all_goals
        go_wp2_with (go_at_call 36; refine hm2.out.mono ?_; rintro e w' ⟨rfl, rfl⟩)
        exact ⟨rfl, rfl, below_drew hk0.out.2.1⟩
  · obtain ⟨b, o, rfl, hb, c0⟩ := nums_at (k := 0) hA0 rfl
    obtain ⟨b', o', e', -, c1⟩ := nums_at (k := 1) hA0 rfl
    injection e' with e'
    injection e' with e1' e2'
    subst e1' e2'
    rw [Nat.add_zero] at c0
    by_cases g1 : 0 < f
    · by_cases g2 : f ≤ t
      · have g3 : ¬ (t ≤ N) := fun hx => hbad ⟨g1, g2, hx⟩
        have d0 : decide ((0 : Int) < (f : Int)) = true := decide_eq_true (by omega)
        have p0 : ((0 : Int) < (f : Int)) := by omega
        have d1 : decide ((f : Int) ≤ (t : Int)) = true := decide_eq_true (by omega)
        have p1 : ((f : Int) ≤ (t : Int)) := by omega
        have d2 : decide ((t : Int) ≤ (N : Int)) = false := decide_eq_false (by omega)
        have p2 : ¬ ((t : Int) ≤ (N : Int)) := by omega
        have e1 : ((2 : Int) == 1) = false := by decide
        clear hW0 hb0 hbx hE h hA hA0 hfv hN hbad
        go_enter Tryz.func60, Tryz.ntmps60
        go_upto_region 1 with fail
        rw [← hk0.out.1]
        go_upto_region 2 with (go_at_call 36; refine hm.out.mono ?_; rintro e w' ⟨rfl, rfl⟩)
        go_region
        all_goals
          go_wp2_with (go_at_call 36; refine hm2.out.mono ?_; rintro e w' ⟨rfl, rfl⟩)
          exact ⟨rfl, rfl, below_drew hk0.out.2.1⟩
      · skip
        have d0 : decide ((0 : Int) < (f : Int)) = true := decide_eq_true (by omega)
        have p0 : ((0 : Int) < (f : Int)) := by omega
        have d1 : decide ((f : Int) ≤ (t : Int)) = false := decide_eq_false (by omega)
        have p1 : ¬ ((f : Int) ≤ (t : Int)) := by omega
        have e1 : ((2 : Int) == 1) = false := by decide
        clear hW0 hb0 hbx hE h hA hA0 hfv hN hbad
        go_enter Tryz.func60, Tryz.ntmps60
        go_upto_region 1 with fail
        rw [← hk0.out.1]
        go_upto_region 2 with (go_at_call 36; refine hm.out.mono ?_; rintro e w' ⟨rfl, rfl⟩)
        go_region
        all_goals
          go_wp2_with (go_at_call 36; refine hm2.out.mono ?_; rintro e w' ⟨rfl, rfl⟩)
          exact ⟨rfl, rfl, below_drew hk0.out.2.1⟩
    · skip
      have d0 : decide ((0 : Int) < (f : Int)) = false := decide_eq_false (by omega)
      have p0 : ¬ ((0 : Int) < (f : Int)) := by omega
      have e1 : ((2 : Int) == 1) = false := by decide
      clear hW0 hb0 hbx hE h hA hA0 hfv hN hbad
      go_enter Tryz.func60, Tryz.ntmps60
      go_upto_region 1 with fail
      rw [← hk0.out.1]
      go_upto_region 2 with (go_at_call 36; refine hm.out.mono ?_; rintro e w' ⟨rfl, rfl⟩)
      go_region
      all_goals
        go_wp2_with (go_at_call 36; refine hm2.out.mono ?_; rintro e w' ⟨rfl, rfl⟩)
        exact ⟨rfl, rfl, below_drew hk0.out.2.1⟩
set_option maxHeartbeats 4000000 in
theorem at_ok (h : EdI B0 w E S fv script rd file wr ov) {f t : Nat} (hA : Nums w w.heap.size A n (l.map fun x : Nat => (x : Int))) (hl : TwoN l n f t) (hf : f < 1000000000) (ht : t < 1000000000) (hok : 0 < f ∧ f ≤ t ∧ t ≤ file.length) :
    Calls Tryz.prog 60 #[.pointer (some ⟨E, 0, none⟩), .slice A n c] w fun e w' => e = .returned (.agg #[.int .i64 ((f : Int) - 1), .int .i64 (t : Int)]) ∧ Below w.heap.size w w' := by
  obtain ⟨W0, hW0⟩ : ∃ W0, W0 = w.alloc (.cells #[.int .i64 0, .int .i64 0] 88) := ⟨_, rfl⟩
  have hb0 : Below w.heap.size w W0 := by rw [hW0]; exact below_alloc (Below.refl _ _) _
  have hbx : W0.heap[w.heap.size]? = some (.cells #[.int .i64 0, .int .i64 0] 88 (0, 0)) := by rw [hW0, push_at, if_pos rfl]
  have hk0 := Lib.hid (And.intro hW0 (And.intro hb0 hbx))
  have hE := h.up hb0
  have hm := Lib.hid (must_ok E 2 W0)
  have hm2 := Lib.hid (must_ok E 3 W0.drew)
  obtain ⟨-, -, x2, -, -⟩ := hE.cells
  obtain ⟨Af, cf, hfv, -, -, -⟩ := own_slice h.own
  rw [hfv] at x2
  obtain ⟨N, hN⟩ : ∃ N, file.length = N := ⟨_, rfl⟩
  rw [hN] at x2 hok
  have hA0 := hA.below hb0
  have q0 := (cells_of hbx 0).trans rfl
  have q1 := (cells_of hbx 1).trans rfl
  have u0 := unfrozen_of hbx 0
  have u1 := unfrozen_of hbx 1
  obtain ⟨g1, g2, g3⟩ := hok
  rcases hl with ⟨rfl, rfl, rfl⟩ | ⟨rfl, rfl⟩
  · obtain ⟨b, o, rfl, hb, c0⟩ := nums_at (k := 0) hA0 rfl
    rw [Nat.add_zero] at c0
    have d0 : decide ((0 : Int) < (t : Int)) = true := decide_eq_true (by omega)
    have p0 : ((0 : Int) < (t : Int)) := by omega
    have d1 : decide ((t : Int) ≤ (t : Int)) = true := decide_eq_true (by omega)
    have p1 : ((t : Int) ≤ (t : Int)) := by omega
    have d2 : decide ((t : Int) ≤ (N : Int)) = true := decide_eq_true (by omega)
    have p2 : ((t : Int) ≤ (N : Int)) := by omega
    clear hW0 hb0 hbx hE h hA hA0 hfv hN
    go_enter Tryz.func60, Tryz.ntmps60
    go_upto_region 1 with fail
    rw [← hk0.out.1]
    go_upto_region 2 with (go_at_call 36; refine hm.out.mono ?_; rintro e w' ⟨rfl, hww⟩; have hws := hww.symm; clear hww; subst hws)
    go_region
    all_goals
      obtain ⟨W1, hW1⟩ : ∃ W1, World.drew W0 = W1 := ⟨_, rfl⟩
      rw [hW1] at hm2 ⊢
      have hbw : Below w.heap.size w W1 := hW1 ▸ below_drew hk0.out.2.1
      have hbxw : W1.heap[w.heap.size]? = some (.cells #[.int .i64 0, .int .i64 0] 88 (0, 0)) := hW1 ▸ hk0.out.2.2
      have x3 : W1.cell? ⟨E, 2, none⟩ = some (.slice Af N cf) := hW1 ▸ x2
      have q0 : W1.cell? ⟨w.heap.size, 0, none⟩ = some (.int .i64 0) := (cells_of hbxw 0).trans rfl
      have q1 : W1.cell? ⟨w.heap.size, 1, none⟩ = some (.int .i64 0) := (cells_of hbxw 1).trans rfl
      have u0 := unfrozen_of hbxw 0
      have u1 := unfrozen_of hbxw 1
      clear hW1
      go_wp2_with (go_at_call 36; refine hm2.out.mono ?_; rintro e w' ⟨rfl, hww⟩; have hws := hww.symm; clear hww; subst hws)
      obtain ⟨z1, z2⟩ := span_new hbw (Nat.le_refl _) hbxw ((t : Int) - 1) (t : Int)
      have y0 : ((W1.setCell ⟨w.heap.size, 0, none⟩ (.int .i64 ((t : Int) - 1))).setCell ⟨w.heap.size, 1, none⟩ (.int .i64 (t : Int))).cell? ⟨w.heap.size, 0, none⟩ = some (.int .i64 ((t : Int) - 1)) := (cells_of z1 0).trans rfl
      have y1 : ((W1.setCell ⟨w.heap.size, 0, none⟩ (.int .i64 ((t : Int) - 1))).setCell ⟨w.heap.size, 1, none⟩ (.int .i64 (t : Int))).cell? ⟨w.heap.size, 1, none⟩ = some (.int .i64 (t : Int)) := (cells_of z1 1).trans rfl
      refine  bodyPost_ret (v := .agg #[.int .i64 ((t : Int) - 1), .int .i64 (t : Int)]) (by simp [results, Tryz.results60, go_sem, y0, y1]) rfl ?_
      exact ⟨rfl, z2⟩
  · obtain ⟨b, o, rfl, hb, c0⟩ := nums_at (k := 0) hA0 rfl
    obtain ⟨b', o', e', -, c1⟩ := nums_at (k := 1) hA0 rfl
    injection e' with e'
    injection e' with e1' e2'
    subst e1' e2'
    rw [Nat.add_zero] at c0
    have d0 : decide ((0 : Int) < (f : Int)) = true := decide_eq_true (by omega)
    have p0 : ((0 : Int) < (f : Int)) := by omega
    have d1 : decide ((f : Int) ≤ (t : Int)) = true := decide_eq_true (by omega)
    have p1 : ((f : Int) ≤ (t : Int)) := by omega
    have d2 : decide ((t : Int) ≤ (N : Int)) = true := decide_eq_true (by omega)
    have p2 : ((t : Int) ≤ (N : Int)) := by omega
    have e1 : ((2 : Int) == 1) = false := by decide
    clear hW0 hb0 hbx hE h hA hA0 hfv hN
    go_enter Tryz.func60, Tryz.ntmps60
    go_upto_region 1 with fail
    rw [← hk0.out.1]
    go_upto_region 2 with (go_at_call 36; refine hm.out.mono ?_; rintro e w' ⟨rfl, hww⟩; have hws := hww.symm; clear hww; subst hws)
    go_region
    all_goals
      obtain ⟨W1, hW1⟩ : ∃ W1, World.drew W0 = W1 := ⟨_, rfl⟩
      rw [hW1] at hm2 ⊢
      have hbw : Below w.heap.size w W1 := hW1 ▸ below_drew hk0.out.2.1
      have hbxw : W1.heap[w.heap.size]? = some (.cells #[.int .i64 0, .int .i64 0] 88 (0, 0)) := hW1 ▸ hk0.out.2.2
      have x3 : W1.cell? ⟨E, 2, none⟩ = some (.slice Af N cf) := hW1 ▸ x2
      have q0 : W1.cell? ⟨w.heap.size, 0, none⟩ = some (.int .i64 0) := (cells_of hbxw 0).trans rfl
      have q1 : W1.cell? ⟨w.heap.size, 1, none⟩ = some (.int .i64 0) := (cells_of hbxw 1).trans rfl
      have u0 := unfrozen_of hbxw 0
      have u1 := unfrozen_of hbxw 1
      clear hW1
      go_wp2_with (go_at_call 36; refine hm2.out.mono ?_; rintro e w' ⟨rfl, hww⟩; have hws := hww.symm; clear hww; subst hws)
      obtain ⟨z1, z2⟩ := span_new hbw (Nat.le_refl _) hbxw ((f : Int) - 1) (t : Int)
      have y0 : ((W1.setCell ⟨w.heap.size, 0, none⟩ (.int .i64 ((f : Int) - 1))).setCell ⟨w.heap.size, 1, none⟩ (.int .i64 (t : Int))).cell? ⟨w.heap.size, 0, none⟩ = some (.int .i64 ((f : Int) - 1)) := (cells_of z1 0).trans rfl
      have y1 : ((W1.setCell ⟨w.heap.size, 0, none⟩ (.int .i64 ((f : Int) - 1))).setCell ⟨w.heap.size, 1, none⟩ (.int .i64 (t : Int))).cell? ⟨w.heap.size, 1, none⟩ = some (.int .i64 (t : Int)) := (cells_of z1 1).trans rfl
      refine  bodyPost_ret (v := .agg #[.int .i64 ((f : Int) - 1), .int .i64 (t : Int)]) (by simp [results, Tryz.results60, go_sem, y0, y1]) rfl ?_
      exact ⟨rfl, z2⟩
end
end Go.Proofs.YtdfpifipkchmnaaGreatDoor
/- Proved here: the landed editor's commands write and quit; and add. -/
namespace Go.Proofs.YtdfpifipkchmnaaGreatDoor
open Go.RowKit
set_option linter.unusedVariables false
set_option maxRecDepth 100000

section
variable {B0 E r n c k : Nat} {w : World} {As : Option Addr} {ns cs : Nat} {fv : Value} {script file : Txs} {wr ov : Bool} {A : Option Addr} {l : List Nat}
/-- A line that is wrong, told. -/
def EdWrong (B0 : Nat) (w w' : World) (e : Ending) (line err : Nat) : Prop := e = .panicked (WR (line : Int) (err : Int)) ∧ Below B0 w w'
theorem EdI.leB (h : EdI B0 w E (As, ns, cs) fv script (r : Int) file wr ov) : B0 ≤ w.heap.size := by have := h.lt; have := h.low; omega

set_option maxHeartbeats 1000000 in
theorem write_bad (h : EdI B0 w E (As, ns, cs) fv script (r : Int) file wr ov) (hn : n ≠ 0) : Calls Tryz.prog 48 #[.pointer (some ⟨E, 0, none⟩), .slice A n c] w fun e w' => EdWrong B0 w w' e r 2 := by
  have hm := Lib.hid (must_bad E 2 (r : Int) w h.cells.2.1)
  have e1 : ((n : Int) == 0) = false := by rw [beq_eq_false_iff_ne]; omega
  clear h hn
  go_enter Tryz.func48, Tryz.ntmps48
  go_wp2_with (go_at_call 36; refine hm.out.mono ?_; rintro e w' ⟨rfl, rfl⟩)
  exact ⟨rfl, rfl, Below.refl _ _⟩
set_option maxHeartbeats 1000000 in
theorem write_ok (h : EdI B0 w E (As, ns, cs) fv script (r : Int) file wr ov) : Calls Tryz.prog 48 #[.pointer (some ⟨E, 0, none⟩), .slice A 0 c] w fun e w' => EdLeft B0 E (As, ns, cs) script w w' e (r : Int) file true ov := by
  have hm := Lib.hid (must_ok E 2 w)
  obtain ⟨-, -, -, x3, -⟩ := h.cells
  have x3f := h.free 3
  have hfin := Lib.hid (And.intro (h.setWr true) (And.intro ((Below.refl B0 w).setCell (p := ⟨E, 3, none⟩) h.low (.bool true)) (h.setK 3 (.bool true))))
  have e1 : (((0 : Nat) : Int) == 0) = true := rfl
  clear h
  go_enter Tryz.func48, Tryz.ntmps48
  go_wp2_with (go_at_call 36; refine hm.out.mono ?_; rintro e w' ⟨rfl, rfl⟩)
  go_end0
  exact ⟨_, rfl, hfin.out.1, hfin.out.2⟩
set_option maxHeartbeats 1000000 in
theorem quit_bad (h : EdI B0 w E (As, ns, cs) fv script (r : Int) file wr ov) (hn : n ≠ 0) : Calls Tryz.prog 49 #[.pointer (some ⟨E, 0, none⟩), .slice A n c] w fun e w' => EdWrong B0 w w' e r 2 := by
  have hm := Lib.hid (must_bad E 2 (r : Int) w h.cells.2.1)
  have e1 : ((n : Int) == 0) = false := by rw [beq_eq_false_iff_ne]; omega
  clear h hn
  go_enter Tryz.func49, Tryz.ntmps49
  go_wp2_with (go_at_call 36; refine hm.out.mono ?_; rintro e w' ⟨rfl, rfl⟩)
  exact ⟨rfl, rfl, Below.refl _ _⟩
set_option maxHeartbeats 1000000 in
theorem quit_ok (h : EdI B0 w E (As, ns, cs) fv script (r : Int) file wr ov) : Calls Tryz.prog 49 #[.pointer (some ⟨E, 0, none⟩), .slice A 0 c] w fun e w' => EdLeft B0 E (As, ns, cs) script w w' e (r : Int) file wr true := by
  have hm := Lib.hid (must_ok E 2 w)
  obtain ⟨-, -, -, -, x4⟩ := h.cells
  have x4f := h.free 4
  have hfin := Lib.hid (And.intro (h.setOv true) (And.intro ((Below.refl B0 w).setCell (p := ⟨E, 4, none⟩) h.low (.bool true)) (h.setK 4 (.bool true))))
  have e1 : (((0 : Nat) : Int) == 0) = true := rfl
  clear h
  go_enter Tryz.func49, Tryz.ntmps49
  go_wp2_with (go_at_call 36; refine hm.out.mono ?_; rintro e w' ⟨rfl, rfl⟩)
  go_end0
  exact ⟨_, rfl, hfin.out.1, hfin.out.2⟩
set_option maxHeartbeats 1000000 in
theorem add_count (h : EdI B0 w E (As, ns, cs) fv script (r : Int) file wr ov) (hn : n ≠ 1) : Calls Tryz.prog 44 #[.pointer (some ⟨E, 0, none⟩), .slice A n c] w fun e w' => EdWrong B0 w w' e r 2 := by
  have hm := Lib.hid (must_bad E 2 (r : Int) w h.cells.2.1)
  have e1 : ((n : Int) == 1) = false := by rw [beq_eq_false_iff_ne]; omega
  clear h hn
  go_enter Tryz.func44, Tryz.ntmps44
  go_wp2_with (go_at_call 36; refine hm.out.mono ?_; rintro e w' ⟨rfl, rfl⟩)
  exact ⟨rfl, rfl, Below.refl _ _⟩
set_option maxHeartbeats 1000000 in
theorem add_range (h : EdI B0 w E (As, ns, cs) fv script (r : Int) file wr ov) (hA : Nums w w.heap.size A 1 ([k].map fun x : Nat => (x : Int))) (hk : file.length < k) (hk9 : k < 1000000000) : Calls Tryz.prog 44 #[.pointer (some ⟨E, 0, none⟩), .slice A 1 c] w fun e w' => EdWrong B0 w w' e r 3 := by
  have hm1 := Lib.hid (must_ok E 2 w)
  have hm := Lib.hid (must_bad E 3 (r : Int) w h.cells.2.1)
  obtain ⟨-, -, x2, -, -⟩ := h.cells
  obtain ⟨Af, cf, hfv, -, -, -⟩ := own_slice h.own
  rw [hfv] at x2
  obtain ⟨N, hN⟩ : ∃ N, file.length = N := ⟨_, rfl⟩
  rw [hN] at x2 hk
  obtain ⟨b, o, rfl, -, c0⟩ := nums_at (k := 0) hA rfl
  rw [Nat.add_zero] at c0
  have d1 : decide ((k : Int) ≤ (N : Int)) = false := decide_eq_false (by omega)
  have p1 : ¬ (k : Int) ≤ (N : Int) := by omega
  have d2 : decide (k ≤ N) = false := decide_eq_false (by omega)
  have p2 : ¬ k ≤ N := by omega
  clear h hA hfv hN hk
  go_enter Tryz.func44, Tryz.ntmps44
  go_upto_region 1 with (go_at_call 36; refine hm1.out.mono ?_; rintro e w' ⟨rfl, hww⟩; have hws := hww.symm; clear hww; subst hws)
  go_wp2_with (go_at_call 36; refine hm.out.mono ?_; rintro e w' ⟨rfl, hww⟩; have hws := hww.symm; clear hww; subst hws)
  exact ⟨rfl, rfl, Below.refl _ _⟩

/-- What is told of a command, by the document's words. -/
def CmdO (B0 E : Nat) (S : Slc) (script : Txs) (w w' : World) (e : Ending) (r : Nat) : StE → Prop
  | .inl (err, line) => EdWrong B0 w w' e line err
  | .inr (f, sv, k) => EdLeft B0 E S script w w' e ((r + k : Nat) : Int) f sv false
theorem ins_split (h0 : mayB [] = true) {len at_ m n : Nat} {rest file text : Txs} {K : Nat} (hX : unblockD [] 0 rest = (text, K)) :
    insE len at_ m n rest file = if K = 0 then .inl (2, len + 1) else if (mayB text && !openB text) = false then .inl (2, at_ + 1) else .inr (layE file m n text, false, K) := by
  unfold insE
  rw [hX]
  dsimp only
  by_cases h : K = 0
  · rw [if_pos h, if_pos h]
  · rw [if_neg h, if_neg h]
    by_cases h2 : (mayB text && !openB text) = false
    · rw [if_pos h2, if_pos]
      cases h3 : mayB text
      · exact .inl rfl
      · rw [h3] at h2
        exact .inr (by simpa using h2)
    · rw [if_neg h2, if_neg]
      rw [Bool.not_eq_false, Bool.and_eq_true] at h2
      rintro (h3 | h3)
      · rw [h2.1] at h3; cases h3
      · rw [h3] at h2; simp at h2
/-- What handed tells, in one. -/
theorem handed_all (h : EdI B0 w E (As, ns, cs) fv script (r : Int) file wr ov) (hs : smallD script) (hr : r ≤ script.length) {text : Txs} {K : Nat} (hX : unblockD [] 0 (script.drop r) = (text, K)) :
    (K = 0 ∧ Calls Tryz.prog 59 #[.pointer (some ⟨E, 0, none⟩)] w fun e w' => EdWrong B0 w w' e (script.length + 1) 2) ∨
    (K ≠ 0 ∧ (mayB text && !openB text) = false ∧ Calls Tryz.prog 59 #[.pointer (some ⟨E, 0, none⟩)] w fun e w' => EdWrong B0 w w' e r 2) ∨
    (K ≠ 0 ∧ (mayB text && !openB text) = true ∧ Calls Tryz.prog 59 #[.pointer (some ⟨E, 0, none⟩)] w fun e w' => ∃ v, e = .returned v ∧ EdI B0 w' E (As, ns, cs) fv script ((r + K : Nat) : Int) file wr ov ∧ w'.ownsRow w.heap.size 9 1 v text.length (txC text) ∧ But (fun j => j = E) w w') := by
  have hB := h.leB
  by_cases hK : K = 0
  · refine .inl ⟨hK, (handed_none h hs hr (by rw [hX]; exact hK)).mono fun e w' h => ⟨?_, h.2.mono hB⟩⟩
    rw [h.1]
    rfl
  · cases ht : (mayB text && !openB text)
    · exact .inr (.inl ⟨hK, rfl, (handed_bad h hs hr (by rw [hX]; exact hK) (by rw [hX]; exact ht)).mono fun e w' h => ⟨h.1, h.2.mono hB⟩⟩)
    · exact .inr (.inr ⟨hK, rfl, handed_ok h hs hr hX hK ht⟩)
end
end Go.Proofs.YtdfpifipkchmnaaGreatDoor
/- What the statements ask of dots.Strip. -/
namespace Go.Proofs.YtdfpifipkchmnaaGreatDoor
open Go.RowKit
set_option linter.unusedVariables false
set_option maxRecDepth 100000

/-- The contract of dots.Strip. -/
def DotStripOk : Prop := ∀ (A : Option Addr) (n c : Nat) (l : Txs) (w : World), smallD l → TxR w w.heap.size (A, n, c) l → Calls Tryz.prog 61 #[.slice A n c] w fun e w' => TxsB w w' e (stripD l, dottedB l)
end Go.Proofs.YtdfpifipkchmnaaGreatDoor

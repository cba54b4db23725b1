/- Proved here: texts joined: FoGo, Fo, FoldLawB, FrameZ. -/
import Derived.Test.YtoephlkfejcadaaGreatBf02
import Derived.Test.YtoephlkfejcadaaGreatBf20
import Derived.Test.YtoephlkfejcadaaGreatBf26
import Derived.Test.YtoephlkfejcadaaGreatBf27
import Derived.Test.YtoephlkfejcadaaGreatBf42
import Derived.Test.YtoephlkfejcadaaGreatBf45
import Derived.Defers
import Derived.Recover
import Derived.RangeFuncBox
import Derived.SizedLaws
/- Proved here: the contract of the landed fold.Octopus. -/
namespace Go.Proofs.YtoephlkfejcadaaGreat
open Go.RowKit
set_option linter.unusedVariables false
set_option maxRecDepth 100000

set_option maxHeartbeats 2000000 in
/-- The deferred call: what is told is stored. -/
theorem close_any (L P M E k : Nat) (Q : Option Addr → Nat → Nat → World → Prop) (w : World) (v0 : Value) (v1 v2 : Int) (hP : Boxed w P 26 v0) (hM : Boxed w M 3 (.int .i64 v1)) (hE : Boxed w E 27 (.int .i64 v2)) (hPM : P ≠ M) (hPE : P ≠ E) (hME : M ≠ E)
    (hH : Calls Tryz.prog 21 #[.pointer (some ⟨L, 0, none⟩)] w fun e w' => ∃ A n c, e = .returned (.tuple #[.slice A n c, .int .i64 (k : Int), .int .i64 0]) ∧ Q A n c w' ∧ Below w.heap.size w w') :
    CallsD Tryz.prog 20 #[.pointer (some ⟨L, 0, none⟩), .pointer (some ⟨P, 0, none⟩), .pointer (some ⟨M, 0, none⟩), .pointer (some ⟨E, 0, none⟩)] .returning w fun e u' w' => u' = .returning ∧ (e = .returned (.tuple #[]) ∧ ∃ A n c w1, Q A n c w1 ∧ Below w.heap.size w w1 ∧ w' = ((w1.setCell ⟨P, 0, none⟩ (.slice A n c)).setCell ⟨M, 0, none⟩ (.int .i64 (k : Int))).setCell ⟨E, 0, none⟩ (.int .i64 0)) := by
  have hMP : M ≠ P := fun e => hPM e.symm
  have hEP : E ≠ P := fun e => hPE e.symm
  have hEM : E ≠ M := fun e => hME e.symm
  have hPl := hP.lt
  have hMl := hM.lt
  have hEl := hE.lt
  have hHh := Lib.hid hH
  have hPh := Lib.hid hP
  have hMh := Lib.hid hM
  have hEh := Lib.hid hE
  clear hH hP hM hE
  go_enter_d Tryz.func20, Tryz.ntmps20
  go_wp2_with (go_at_call 21; refine hHh.out.mono ?_; rintro e w1 ⟨A, n, c, rfl, hq, hb⟩; have kP : Boxed w1 P 26 v0 := (hb.block P hPl).trans hPh.out; have kM : Boxed w1 M 3 (.int .i64 v1) := (hb.block M hMl).trans hMh.out; have kE : Boxed w1 E 27 (.int .i64 v2) := (hb.block E hEl).trans hEh.out; have c0 := kP.cell; have c1 := kM.cell; have c2 := kE.cell; have g0 := kP.frozen; have g1 := kM.frozen; have g2 := kE.frozen; have hqh := Lib.hid (And.intro hq hb); clear hq hb kP kM kE)
  go_end0
  exact ⟨rfl, A, n, c, w1, hqh.out.1, hqh.out.2, rfl⟩

theorem octs_no {base : Txs} {sides : List Txs} {w : World} {z : Int} (hz : wrongN base sides = z) (h0 : z ≠ 0) {w' : World} (hb : Below w.heap.size w w') : OctOut w w' (.returned (.tuple #[.slice none 0 0, .int .i64 0, .int .i64 z])) base sides :=
  ⟨z, 0, none, 0, 0, [], [], rfl, Nat.le_refl _, Nat.zero_le _, Pcs.nil _ _ _, (by unfold OctsTo; rw [if_pos (by rw [hz]; exact h0)]; exact ⟨hz.symm, rfl, rfl⟩), hb⟩
theorem threeF (w : World) (o1 o2 o3 : Obj) : (((w.alloc o1).alloc o2).alloc o3).heap.size = w.heap.size + 3 ∧ (((w.alloc o1).alloc o2).alloc o3).heap[w.heap.size]? = some o1 ∧ (((w.alloc o1).alloc o2).alloc o3).heap[w.heap.size + 1]? = some o2 ∧ (((w.alloc o1).alloc o2).alloc o3).heap[w.heap.size + 1 + 1]? = some o3 ∧ Below w.heap.size w (((w.alloc o1).alloc o2).alloc o3) := threeP w o1 o2 o3

/-- Three variables are stored. -/
theorem boxes3 {w1 : World} {P M E : Nat} {tP tM tE : TypeId} {vP vM vE : Value} (hP : Boxed w1 P tP vP) (hM : Boxed w1 M tM vM) (hE : Boxed w1 E tE vE) (hPM : P ≠ M) (hPE : P ≠ E) (hME : M ≠ E) (uP uM uE : Value) :
    Boxed (((w1.setCell ⟨P, 0, none⟩ uP).setCell ⟨M, 0, none⟩ uM).setCell ⟨E, 0, none⟩ uE) P tP uP ∧ Boxed (((w1.setCell ⟨P, 0, none⟩ uP).setCell ⟨M, 0, none⟩ uM).setCell ⟨E, 0, none⟩ uE) M tM uM ∧ Boxed (((w1.setCell ⟨P, 0, none⟩ uP).setCell ⟨M, 0, none⟩ uM).setCell ⟨E, 0, none⟩ uE) E tE uE ∧
    But (fun j => j = P ∨ j = M ∨ j = E) w1 (((w1.setCell ⟨P, 0, none⟩ uP).setCell ⟨M, 0, none⟩ uM).setCell ⟨E, 0, none⟩ uE) := by
  have o1 : ∀ (w : World) (a b : Nat) (t : TypeId) (v u : Value), Boxed w a t v → a ≠ b → Boxed (w.setCell ⟨b, 0, none⟩ u) a t v := fun w a b t v u h hne => (Below.heap_setCell w ⟨b, 0, none⟩ u a hne).trans h
  refine ⟨o1 _ _ _ _ _ _ (o1 _ _ _ _ _ _ (hP.set uP) hPM) hPE, o1 _ _ _ _ _ _ ((o1 _ _ _ _ _ _ hM (fun e => hPM e.symm)).set uM) hME, (o1 _ _ _ _ _ _ (o1 _ _ _ _ _ _ hE (fun e => hPE e.symm)) (fun e => hME e.symm)).set uE, ?_⟩
  exact ((But.setCell (F := fun j => j = P ∨ j = M ∨ j = E) w1 (p := ⟨P, 0, none⟩) (.inl rfl) uP).trans (But.setCell (F := fun j => j = P ∨ j = M ∨ j = E) _ (p := ⟨M, 0, none⟩) (.inr (.inl rfl)) uM) fun j e => .inl e).trans (But.setCell (F := fun j => j = P ∨ j = M ∨ j = E) _ (p := ⟨E, 0, none⟩) (.inr (.inr rfl)) uE) fun j e => .inl e

set_option maxHeartbeats 2000000 in
theorem octs_wrong (A0 : Option Addr) (n0 c0 : Nat) (base : Txs) (A : Option Addr) (n c : Nat) (rows : List Slc) (sides : List Txs) (w : World) (hnc : n ≤ c) (hcm : c ≤ maxLen) (hfew : fewM base sides = true) (hA0 : TxR w w.heap.size (A0, n0, c0) base) (hA : RowsT w w.heap.size A n rows sides) (hz : wrongN base sides ≠ 0) :
    Calls Tryz.prog 9 #[.slice A0 n0 c0, .slice A n c] w fun e w' => OctOut w w' e base sides := by
  obtain ⟨W0, hW0⟩ : ∃ W0, W0 = (((w.alloc (.cells #[.slice none 0 0] 26)).alloc (.cells #[.int .i64 0] 3)).alloc (.cells #[.int .i64 0] 27)) := ⟨_, rfl⟩
  have h3 := threeF w (.cells #[.slice none 0 0] 26) (.cells #[.int .i64 0] 3) (.cells #[.int .i64 0] 27)
  rw [← hW0] at h3
  obtain ⟨hs0, k0, k1, k2, hb0⟩ := h3
  have hC := Lib.hid (chunks_any A0 n0 c0 base A n c rows sides W0 hnc hcm (fewM_M hfew) (hA0.up hb0) (hA.up hb0))
  obtain ⟨z, hz'⟩ : ∃ z, wrongN base sides = z := ⟨_, rfl⟩
  rw [hz'] at hz
  have hfin := Lib.hid (fun w' hb => octs_no (w := w) (w' := w') hz' hz hb)
  have hz0 : (z != 0) = true := by simpa using hz
  have hzh := Lib.hid hz'
  have hmf : ∀ (fn : Fn) (first cap : Array Value) (w : World), (Instr.makeFunc fn first cap).run Tryz.prog w = .ok (.func fn first cap) w := fun _ _ _ _ => rfl
  have hW0h := Lib.hid hW0
  have hk := Lib.hid (And.intro k0 (And.intro k1 (And.intro k2 (And.intro hb0 hs0))))
  clear hz hz' hA hA0 hfew hW0 k0 k1 k2 hb0 hs0
  go_enter_defers Tryz.func9, Tryz.ntmps9
  go_upto_region 1 with fail
  rw [← hW0h.out]
  go_wp2_with (go_at_call 19; refine hC.out.mono ?_; rintro e w1 ⟨er, A1, n1, c1, cks, rfl, q1, q2, q3, q4, q5⟩; have her : er = z := (q4.1.trans hzh.out); subst her; have kP : Boxed w1 w.heap.size 26 (.slice none 0 0) := (q5.block _ (by have := hk.out.2.2.2.2; omega)).trans hk.out.1; have kM : Boxed w1 (w.heap.size + 1) 3 (.int .i64 0) := (q5.block _ (by have := hk.out.2.2.2.2; omega)).trans hk.out.2.1; have kE : Boxed w1 (w.heap.size + 1 + 1) 27 (.int .i64 0) := (q5.block _ (by have := hk.out.2.2.2.2; omega)).trans hk.out.2.2.1; have c0 := kP.cell; have c1 := kM.cell; have c2 := kE.cell; have g0 := kP.frozen; have g1 := kM.frozen; have g2 := kE.frozen; have hb1 := Lib.hid (hk.out.2.2.2.1.trans (q5.mono hk.out.2.2.2.1.size)); have h3 := Lib.hid (boxes3 kP kM kE (by omega) (by omega) (by omega) (.slice none 0 0) (.int .i64 0) (.int .i64 er)); clear q1 q2 q3 q4 q5 kP kM kE)
  obtain ⟨b1, b2, b3, hbb⟩ := h3.out
  have d1 := b1.cell
  have d2 := b2.cell
  have d3 := b3.cell
  refine ⟨.tuple #[.slice none 0 0, .int .i64 0, .int .i64 er], by simp [results, Tryz.results9, go_sem, d1, d2, d3], hfin.out _ (hb1.out.trans (hbb.below hb1.out.size ?_))⟩
  rintro j (rfl | rfl | rfl) <;> omega

/-- A slice's last rows. -/
theorem rowsT_tail {w : World} {B n c : Nat} {A : Option Addr} {rows : List Slc} {xss : List Txs} (h : RowsT w B A n rows xss) (h1 : 1 ≤ n) (hn : n ≤ c) (hc : c ≤ maxLen) :
    ∃ A' m k, (∀ W : World, (Instr.slice 23 (.slice A n c) (some (.int .i64 1)) none none).run Tryz.prog W = .ok (.slice A' m k) W) ∧ m + 1 = n ∧ RowsT w B A' m (rows.drop 1) (xss.drop 1) := by
  have hl := h.rlen
  have hl2 := h.len
  refine ⟨(if c = 1 then A else A.map (·.add 1)), n - 1, c - 1, fun W => ?_, by omega, ⟨by rw [List.length_map, List.length_drop]; omega, fun hn1 => ?_⟩, by rw [List.length_drop, List.length_drop, h.2.1], fun k r' ss' a b => h.2.2 (1 + k) r' ss' (by rw [List.getElem?_drop] at a; exact a) (by rw [List.getElem?_drop] at b; exact b)⟩
  · rw [run_slice_l (P := Tryz.prog) W 23 A n c Tryz.underlying23 .i64 1 (by omega) (by omega)]
    go_simp
  · obtain ⟨b, o, rfl, hb, hcell⟩ := h.1.2 (by omega)
    rw [if_neg (by omega)]
    refine ⟨b, o + 1, rfl, hb, fun j u hu => ?_⟩
    rw [Nat.add_assoc]
    rw [List.map_drop, List.getElem?_drop] at hu
    exact hcell (1 + j) u hu

/-- What is told at the end, and stored. -/
theorem octs_done {base : Txs} {sides : List Txs} {w wr w1 : World} {A : Option Addr} {n c k : Nat} {vs : List PcV} {ps : List Pc} {v0 : Value} {v1 v2 : Int} (hbw : Below w.heap.size w wr) (hP : Boxed wr w.heap.size 26 v0) (hM : Boxed wr (w.heap.size + 1) 3 (.int .i64 v1)) (hE : Boxed wr (w.heap.size + 1 + 1) 27 (.int .i64 v2))
    (hb : Below wr.heap.size wr w1) (h1 : n ≤ c) (h2 : c ≤ maxLen) (hQ : ∀ w2, But (fun j => j = w.heap.size ∨ j = w.heap.size + 1 ∨ j = w.heap.size + 1 + 1) w1 w2 → Pcs w2 w2.heap.size A n vs ps) (hO : OctsTo base sides 0 k ps) :
    ∃ W, W = (((w1.setCell ⟨w.heap.size, 0, none⟩ (.slice A n c)).setCell ⟨w.heap.size + 1, 0, none⟩ (.int .i64 (k : Int))).setCell ⟨w.heap.size + 1 + 1, 0, none⟩ (.int .i64 0)) ∧
      W.cell? ⟨w.heap.size, 0, none⟩ = some (.slice A n c) ∧ W.cell? ⟨w.heap.size + 1, 0, none⟩ = some (.int .i64 (k : Int)) ∧ W.cell? ⟨w.heap.size + 1 + 1, 0, none⟩ = some (.int .i64 0) ∧ OctOut w W (.returned (.tuple #[.slice A n c, .int .i64 (k : Int), .int .i64 0])) base sides := by
  have kP : Boxed w1 w.heap.size 26 v0 := (hb.block _ hP.lt).trans hP
  have kM : Boxed w1 (w.heap.size + 1) 3 (.int .i64 v1) := (hb.block _ hM.lt).trans hM
  have kE : Boxed w1 (w.heap.size + 1 + 1) 27 (.int .i64 v2) := (hb.block _ hE.lt).trans hE
  obtain ⟨b1, b2, b3, hbb⟩ := boxes3 kP kM kE (by omega) (by omega) (by omega) (.slice A n c) (.int .i64 (k : Int)) (.int .i64 0)
  have l1 := hP.lt
  have l2 := hM.lt
  have l3 := hE.lt
  have hb1 : Below w.heap.size w w1 := hbw.trans (hb.mono hbw.size)
  refine ⟨_, rfl, b1.cell, b2.cell, b3.cell, 0, k, A, n, c, vs, ps, rfl, h1, h2, hQ _ hbb, hO, hb1.trans (hbb.below hb1.size fun j e => ?_)⟩
  · rcases e with rfl | rfl | rfl <;> omega

theorem take_bool {L : Nat} {rb rt : Slc} {k : Nat} {base t s : Txs} {w w' : World} {e : Ending} (h : TakeOut L rb rt k base t s w w' e) : ∃ ps cl, MergesTo base [t, s] 0 false 0 ps ∧ But (fun j => j = L) w w' ∧ cleanB ps = cl ∧ e = .returned (.bool cl) ∧
    (cl = false → ∃ a n c vs, n ≤ c ∧ c ≤ maxLen ∧ w'.heap[L]? = some (wkObj rb rt k (some a, n, c)) ∧ ∀ w2, But (fun j => j < w.heap.size) w' w2 → Pcs w2 w2.heap.size (some a) n vs ps) ∧
    (cl = true → ∃ r, TxR w' w'.heap.size r (choose ps 0) ∧ w'.heap[L]? = some (wkObj rb r ((k + 1 : Nat) : Int) (none, 0, 0))) := by
  obtain ⟨ps, h1, h2, ⟨h3, h4, h5⟩ | ⟨h3, h4, h5⟩⟩ := h
  · exact ⟨ps, false, h1, h2, h3, h4, fun _ => h5, (fun e => by cases e)⟩
  · exact ⟨ps, true, h1, h2, h3, h4, (fun e => by cases e), fun _ => h5⟩

set_option maxHeartbeats 8000000 in
theorem octs_good (A0 : Option Addr) (n0 c0 : Nat) (base : Txs) (A : Option Addr) (n c : Nat) (rows : List Slc) (sides : List Txs) (w : World) (hnc : n ≤ c) (hcm : c ≤ maxLen) (hfew : fewM base sides = true) (hA0 : TxR w w.heap.size (A0, n0, c0) base) (hA : RowsT w w.heap.size A n rows sides) (hz : wrongN base sides = 0) :
    Calls Tryz.prog 9 #[.slice A0 n0 c0, .slice A n c] w fun e w' => OctOut w w' e base sides := by
  obtain ⟨W0, hW0⟩ : ∃ W0, W0 = (((w.alloc (.cells #[.slice none 0 0] 26)).alloc (.cells #[.int .i64 0] 3)).alloc (.cells #[.int .i64 0] 27)) := ⟨_, rfl⟩
  have h3 := threeF w (.cells #[.slice none 0 0] 26) (.cells #[.int .i64 0] 3) (.cells #[.int .i64 0] 27)
  rw [← hW0] at h3
  obtain ⟨hs0, k0, k1, k2, hb0⟩ := h3
  have hC := Lib.hid (chunks_any A0 n0 c0 base A n c rows sides W0 hnc hcm (fewM_M hfew) (hA0.up hb0) (hA.up hb0))
  have hzh := Lib.hid hz
  have hmf : ∀ (fn : Fn) (first cap : Array Value) (w : World), (Instr.makeFunc fn first cap).run Tryz.prog w = .ok (.func fn first cap) w := fun _ _ _ _ => rfl
  have hW0h := Lib.hid hW0
  have hk := Lib.hid (And.intro k0 (And.intro k1 (And.intro k2 (And.intro hb0 hs0))))
  have hl := hA.len
  obtain ⟨v1, v2, -, -, -, -⟩ := wrong_none hz
  have hA0h := Lib.hid hA0
  have hlh := Lib.hid hl
  have h1n : 1 ≤ n := by omega
  have hnm : n ≤ 16 := by omega
  obtain ⟨A', m, kk, hsl, hm, hR⟩ := rowsT_tail hA h1n hnc hcm
  obtain ⟨b, o, As, ns, cs, f0, rfl, hb, ht, hr, hc, hnc', hcm', hst⟩ := hA.at_ (k := 0) (by omega)
  have hdrop : sides = f0 :: sides.drop 1 := by
    have := drop_at ht
    simpa using this
  have hG0 : Hid (FewG base f0 (sides.drop 1)) := Lib.hid (by rw [hdrop] at hfew hz; exact FewG.start hfew hz)
  have hO0 : Hid (∀ er k qs, Folds base f0 (sides.drop 1) 1 er k qs → OctsTo base sides er k qs) := Lib.hid fun er k qs h => by
    unfold OctsTo
    rw [if_neg (by rw [hz]; simp)]
    exact ⟨f0, sides.drop 1, hdrop, h⟩
  have hT0 : Hid (TxR w w.heap.size (As, ns, cs) f0) := Lib.hid ⟨hnc', hcm', (hA.2.2 0 _ _ hr ht).2.2⟩
  have hlt0 : b < w.heap.size := hb
  have hch : w.cell? ⟨b, o, none⟩ = some (.slice As ns cs) := hc
  have hchh := Lib.hid hch
  have hRh := Lib.hid hR
  have hmh := Lib.hid hm
  have hm15 : m ≤ 15 := by omega
  have hn0 : (0 : Int) < (n : Int) := by omega
  clear hz hA hA0 hfew hW0 k0 k1 k2 hb0 hs0 hl v1 v2 hnm hm hR ht hr hc hst hdrop hb hnc' hcm' hch h1n hnc hcm
  go_enter_defers Tryz.func9, Tryz.ntmps9
  go_upto_region 1 with fail
  rw [← hW0h.out]
  go_wp2_with (go_at_call 19; refine hC.out.mono ?_; rintro e w1 ⟨er, A1, n1, c1, cks, rfl, q1, q2, q3, q4, q5⟩; have her : er = 0 := (q4.1.trans hzh.out); subst her; have hb01 : Below w.heap.size w w1 := hk.out.2.2.2.1.trans (q5.mono hk.out.2.2.2.1.size); have hc := (hb01.cell (p := ⟨b, o, none⟩) hlt0).trans hchh.out; have kP : Boxed w1 w.heap.size 26 (.slice none 0 0) := (q5.block _ (by have := hk.out.2.2.2.2; omega)).trans hk.out.1; have kM : Boxed w1 (w.heap.size + 1) 3 (.int .i64 0) := (q5.block _ (by have := hk.out.2.2.2.2; omega)).trans hk.out.2.1; have kE : Boxed w1 (w.heap.size + 1 + 1) 27 (.int .i64 0) := (q5.block _ (by have := hk.out.2.2.2.2; omega)).trans hk.out.2.2.1; have hbx := Lib.hid (And.intro kP (And.intro kM kE)); have hb1 := Lib.hid hb01; clear q1 q2 q3 q4 q5 kP kM kE hb01)
  have hlA : Hid (Below w1.heap.size w1 (w1.alloc (wkObj (A0, n0, c0) (As, ns, cs) 1 (none, 0, 0)))) := Lib.hid ((Below.refl _ _).alloc (Nat.le_refl _) _)
  have hLA : Hid ((w1.alloc (wkObj (A0, n0, c0) (As, ns, cs) 1 (none, 0, 0))).heap[w1.heap.size]? = some (wkObj (A0, n0, c0) (As, ns, cs) 1 (none, 0, 0))) := Lib.hid (Go.Deep.blk_alloc_new _ _)
  clear hc
  go_loopw [12, 32] (fun _ s32 wr => ∃ (j : Nat) (At : Option Addr) (nt ct : Nat) (t : Txs), j ≤ m ∧ s32 = .int .i64 j ∧ Hid (wr.heap[w1.heap.size]? = some (wkObj (A0, n0, c0) (At, nt, ct) ((j + 1 : Nat) : Int) (none, 0, 0))) ∧ Hid (TxR wr wr.heap.size (At, nt, ct) t) ∧ Hid (FewG base t (sides.drop (j + 1))) ∧ Hid (∀ er k' qs, Folds base t (sides.drop (j + 1)) ((j + 1 : Nat) : Int) er k' qs → OctsTo base sides er k' qs) ∧ Hid (Below w1.heap.size w1 wr)) (fun _ s32 _ => m - (intOf s32).toNat)
  case atStart => exact ⟨0, As, ns, cs, f0, Nat.zero_le _, rfl, hLA, Lib.hid ((hT0.out.up hb1.out).up hlA.out), hG0, hO0, hlA⟩
  case round =>
    obtain ⟨j, At, nt, ct, t, hj, rfl, hL, hT, hG, hO, hB⟩ := hrel
    obtain ⟨wo, rfl⟩ : ∃ wo : World, wo = wr := ⟨_, rfl⟩
    have hbw := Lib.hid (hb1.out.trans (hB.out.mono hb1.out.size))
    have hBx : Hid (Boxed wo w.heap.size 26 (.slice none 0 0) ∧ Boxed wo (w.heap.size + 1) 3 (.int .i64 0) ∧ Boxed wo (w.heap.size + 1 + 1) 27 (.int .i64 0)) := Lib.hid ⟨(hB.out.block _ hbx.out.1.lt).trans hbx.out.1, (hB.out.block _ hbx.out.2.1.lt).trans hbx.out.2.1, (hB.out.block _ hbx.out.2.2.lt).trans hbx.out.2.2⟩
    have hne : Hid (w.heap.size ≠ w1.heap.size ∧ w.heap.size + 1 ≠ w1.heap.size ∧ w.heap.size + 1 + 1 ≠ w1.heap.size) := Lib.hid (by have h1 := hbx.out.1.lt; have h2 := hbx.out.2.1.lt; have h3 := hbx.out.2.2.lt; omega)
    clear hlA hLA hG0 hO0 hT0
    by_cases hlt : j < m
    · obtain ⟨b2, o2, A2, n2, c2, s, rfl, hb2, ht, hr, hc, hnc', hcm', hst⟩ := (hRh.out.up hbw.out).at_ (k := j) hlt
      have i1 : (0 : Int) ≤ (j : Int) := by omega
      have i2 : (j : Int) < (m : Int) := by omega
      have hTs : TxR wo wo.heap.size (A2, n2, c2) s := (hRh.out.up hbw.out).2.2 j _ _ hr ht
      have ht2 : sides[j + 1]? = some s := by rw [List.getElem?_drop] at ht; rw [Nat.add_comm]; exact ht
      have hd := drop_at ht2
      have hG2 := hG.out
      have hO2 := hO.out
      rw [hd] at hG2 hO2
      have hTk := Lib.hid (take_any w1.heap.size A0 At A2 n0 c0 nt ct n2 c2 (j + 1) base t s _ wo hL.out (by omega) hG2 (hA0h.out.up hbw.out) hT.out hTs)
      have hstop : Hid (∀ ps, MergesTo base [t, s] 0 false 0 ps → cleanB ps = false → OctsTo base sides 0 ((j + 1 : Nat) : Int) ps) := Lib.hid fun ps hm hcl => hO2 0 _ ps (.stop hm hcl)
      have hgoes : Hid (∀ ps, MergesTo base [t, s] 0 false 0 ps → cleanB ps = true → FewG base (choose ps 0) (sides.drop (j + 1 + 1)) ∧ ∀ er k' qs, Folds base (choose ps 0) (sides.drop (j + 1 + 1)) ((j + 1 + 1 : Nat) : Int) er k' qs → OctsTo base sides er k' qs) := Lib.hid fun ps hm hcl =>
        ⟨((hG2.step hm).2 hcl).1, fun er k' qs h => hO2 er k' qs (.goes hm hcl (by exact_mod_cast h))⟩
      clear hG hO hG2 hO2 ht ht2 hr hd hst hTs hnc' hcm' hT
      go_upto_if 39 with (go_at_call 22; refine hTk.out.mono ?_; intro e w5 htk; obtain ⟨ps, cl, hm5, hbt, hcl, rfl, hf5, ht5⟩ := take_bool htk; have hm5h := Lib.hid (And.intro hm5 (And.intro hcl hbt)); have hf5h := Lib.hid hf5; have ht5h := Lib.hid ht5; clear htk hm5 hbt hcl hf5 ht5)
      cases cl
      · go_wp2
        obtain ⟨a, n5, c5, vs5, h1, h2, hL5, hPc⟩ := hf5h.out (by trivial)
        have hB5 : Below w1.heap.size w1 w5 := hB.out.trans (hm5h.out.2.2.below hB.out.size (by rintro q rfl; exact Nat.le_refl _))
        have kP : Boxed w5 w.heap.size 26 (.slice none 0 0) := (hm5h.out.2.2.block _ hBx.out.1.lt hne.out.1).trans hBx.out.1
        have kM : Boxed w5 (w.heap.size + 1) 3 (.int .i64 0) := (hm5h.out.2.2.block _ hBx.out.2.1.lt hne.out.2.1).trans hBx.out.2.1
        have kE : Boxed w5 (w.heap.size + 1 + 1) 27 (.int .i64 0) := (hm5h.out.2.2.block _ hBx.out.2.2.lt hne.out.2.2).trans hBx.out.2.2
        refine leaves_cons (f := 20) (args := #[.pointer (some ⟨w1.heap.size, 0, none⟩), .pointer (some ⟨w.heap.size, 0, none⟩), .pointer (some ⟨w.heap.size + 1, 0, none⟩), .pointer (some ⟨w.heap.size + 1 + 1, 0, none⟩)]) (by simp) (by simp [go_sem]) ?_
        refine (close_any w1.heap.size w.heap.size (w.heap.size + 1) (w.heap.size + 1 + 1) (j + 1) (fun A n c w' => A = some a ∧ n = n5 ∧ c = c5 ∧ Below w5.heap.size w5 w') w5 _ _ _ kP kM kE (by omega) (by omega) (by omega) ((told_conf w1.heap.size _ _ a n5 c5 (j + 1) w5 hL5).mono (fun e w' h => ⟨some a, n5, c5, h.1, ⟨rfl, rfl, rfl, h.2⟩, h.2⟩))).mono ?_
        rintro e u' w'' ⟨rfl, rfl, A7, n7, c7, w6, ⟨rfl, rfl, rfl, hb6⟩, -, rfl⟩
        obtain ⟨W, hW, d1, d2, d3, hfin⟩ := octs_done (k := j + 1) (hb1.out.trans (hB5.mono hb1.out.size)) kP kM kE hb6 h1 h2 (fun w2 hb2 => hPc w2 (((But.of_below (F := fun q => q < wo.heap.size) hb6 fun q hq _ => hq).trans hb2 fun q e => .inl (by have l1 := hBx.out.1.lt; have l2 := hBx.out.2.1.lt; have l3 := hBx.out.2.2.lt; rcases e with rfl | rfl | rfl <;> assumption)))) (hstop.out ps hm5h.out.1 hm5h.out.2.1)
        rw [← hW]
        exact ⟨.tuple #[.slice (some a) n7 c7, .int .i64 ((j + 1 : Nat) : Int), .int .i64 0], by simp [results, Tryz.results9, go_sem, d1, d2, d3], hfin⟩
      · obtain ⟨r, hr5, hL5⟩ := ht5h.out rfl
        obtain ⟨A5, n5, c5⟩ := r
        have hL5h := Lib.hid hL5
        have hr5h := Lib.hid hr5
        have hB5 : Hid (Below w1.heap.size w1 w5) := Lib.hid (hB.out.trans (hm5h.out.2.2.below hB.out.size (by rintro q rfl; exact Nat.le_refl _)))
        have hnx := Lib.hid (hgoes.out ps hm5h.out.1 hm5h.out.2.1)
        clear hc hL5 hr5
        go_wp2
        go_roundw
        case rel => exact ⟨j + 1, A5, n5, c5, _, by omega, by go_num, hL5h, hr5h, Lib.hid hnx.out.1, Lib.hid hnx.out.2, hB5⟩
        case measure => simp [intOf]; omega
    · obtain rfl : j = m := by omega
      go_wp2
      have hd : sides.drop (j + 1) = [] := List.drop_eq_nil_iff.2 (by have := hmh.out; have := hlh.out; omega)
      have hG2 := hG.out
      have hO2 := hO.out
      rw [hd] at hG2 hO2
      obtain ⟨kP, kM, kE⟩ := hBx.out
      have l1 := kP.lt
      have l2 := kM.lt
      have l3 := kE.lt
      refine leaves_cons (f := 20) (args := #[.pointer (some ⟨w1.heap.size, 0, none⟩), .pointer (some ⟨w.heap.size, 0, none⟩), .pointer (some ⟨w.heap.size + 1, 0, none⟩), .pointer (some ⟨w.heap.size + 1 + 1, 0, none⟩)]) (by simp) (by simp [go_sem]) ?_
      refine (close_any w1.heap.size w.heap.size (w.heap.size + 1) (w.heap.size + 1 + 1) (j + 1) (fun A n c w' => n ≤ c ∧ c ≤ maxLen ∧ (∃ vs, ∀ w2, But (fun q => q < wo.heap.size) w' w2 → Pcs w2 w2.heap.size A n vs (normal [tPc t])) ∧ Below wo.heap.size wo w') wo _ _ _ kP kM kE (by omega) (by omega) (by omega) ((told_text w1.heap.size _ At nt ct (j + 1) t wo hL.out hT.out (text_len hG2).2).mono (fun e w' h => by
        obtain ⟨A7, n7, c7, vs7, q1, q2, q3, q4, q5⟩ := h
        exact ⟨A7, n7, c7, q1, ⟨q2, q3, ⟨vs7, q4⟩, q5⟩, q5⟩))).mono ?_
      rintro e u' w'' ⟨rfl, rfl, A7, n7, c7, w6, ⟨h1, h2, ⟨vs7, hPc⟩, hb6⟩, -, rfl⟩
      obtain ⟨W, hW, d1, d2, d3, hfin⟩ := octs_done (k := j + 1) hbw.out kP kM kE hb6 h1 h2 (fun w2 hb2 => hPc w2 (hb2.more fun q e => by rcases e with rfl | rfl | rfl <;> assumption)) (hO2 0 _ _ (.done t _))
      rw [← hW]
      exact ⟨.tuple #[.slice A7 n7 c7, .int .i64 ((j + 1 : Nat) : Int), .int .i64 0], by simp [results, Tryz.results9, go_sem, d1, d2, d3], hfin⟩

/-- The landed package keeps what the statements ask of Octopus. -/
theorem octs_any : FoldOctOk := fun A0 n0 c0 base A n c rows sides w hnc hcm hfew hA0 hA => by
  by_cases hz : wrongN base sides = 0
  · exact octs_good A0 n0 c0 base A n c rows sides w hnc hcm hfew hA0 hA hz
  · exact octs_wrong A0 n0 c0 base A n c rows sides w hnc hcm hfew hA0 hA hz
end Go.Proofs.YtoephlkfejcadaaGreat
/- Proved here: the landed packages keep what the statements of layer 9 ask of them. -/
namespace Go.Proofs.YtoephlkfejcadaaGreat
open Go.RowKit

theorem fo_ok : FoldOk := ⟨octs_any, merge_any, choose_ok, clean_ok⟩
end Go.Proofs.YtoephlkfejcadaaGreat
/- Proved here: what the statement FoldTwo says, by the contracts of packages fold, merge and pick. -/
namespace Go.Proofs.YtoephlkfejcadaaGreat
open Go.RowKit
set_option linter.unusedVariables false
set_option maxRecDepth 100000

section
variable (H : FoldOk)
include H

theorem lTwo_call {A0 A1 A2 : Option Addr} {n0 c0 n1 c1 n2 c2 g : Nat} {base t s : Txs} {rest : List Txs} {wo W : World} (hf : FewG base t (s :: rest)) (h0 : TxR wo wo.heap.size (A0, n0, c0) base) (h1 : TxR wo wo.heap.size (A1, n1, c1) t) (h2 : TxR wo wo.heap.size (A2, n2, c2) s)
    (hb : Below wo.heap.size wo W) (hg : W.heap[g]? = some (.cells #[.slice A1 n1 c1, .slice A2 n2 c2] 22 (0, 0))) :
    Calls Tryz.prog 13 #[.slice A0 n0 c0, .slice (some ⟨g, 0, none⟩) 2 2, .agg #[.int .i64 0, .bool false]] W fun e w' => TwoOut W w' e base t s :=
  two_call (fun A0 n0 c0 base A n c rows sides w a b c' d e => H.merge_ok A0 n0 c0 base A n c rows sides 0 false w a b (by unfold inR64; omega) (smallR_M c') d e) hf h0 h1 h2 hb hg

set_option maxHeartbeats 8000000 in
theorem FoldTwo_walk (A0 : Option Addr) (n0 c0 : Nat) (base : Txs) (A1 : Option Addr) (n1 c1 : Nat) (one : Txs) (A2 : Option Addr) (n2 c2 : Nat) (two : Txs) (w : World) (h0 : TxR w w.heap.size (A0, n0, c0) base) (h1 : TxR w w.heap.size (A1, n1, c1) one) (h2 : TxR w w.heap.size (A2, n2, c2) two) :
    Calls Tryz.prog 4 #[.slice A0 n0 c0, .slice A1 n1 c1, .slice A2 n2 c2] w fun e w' => e = .returned (.bool true) ∧ Below w.heap.size w w' := by
  have haw := Lib.hid (fAwake_any H w)
  obtain ⟨fm, hfm⟩ : ∃ fm, (fewM base [one, two] && decide (wrongN base [one, two] = 0)) = fm := ⟨_, rfl⟩
  have hF : Hid (∀ (W : World) (g : Nat), Below w.heap.size w W → W.heap[g]? = some (.cells #[.slice A1 n1 c1, .slice A2 n2 c2] 22 (0, 0)) → Calls Tryz.prog 12 #[.slice A0 n0 c0, .slice (some ⟨g, 0, none⟩) 2 2] W fun e w' => e = .returned (.bool fm) ∧ W = w') := Lib.hid (fun W g hb hg => by
    have := mMay_any A0 n0 c0 base (some ⟨g, 0, none⟩) 2 2 W.heap.size _ [one, two] W (Nat.le_trans h0.1 h0.2.1) (by decide) (h0.up hb).2.2 (two_rows (r1 := (A1, n1, c1)) (r2 := (A2, n2, c2)) hb hg h1 h2)
    rw [hfm] at this
    exact this)
  cases fm
  · clear h0 h1 h2 hfm
    go_enter Tryz.func4, Tryz.ntmps4
    go_wp2_with (first
      | (go_at_call 7; refine haw.out.mono ?_; rintro e w1 ⟨rfl, hb1⟩; have hB1 := Lib.hid hb1; clear hb1)
      | (go_at_call 12; refine (hF.out _ _ (below_alloc hB1.out _) (Go.Deep.blk_alloc_new _ _)).mono ?_; rintro e w2 ⟨rfl, rfl⟩))
    go_ret
    exact ⟨rfl, below_alloc hB1.out _⟩
  obtain ⟨hfew, hwr⟩ := may_few hfm
  obtain ⟨hfew1, hwr1⟩ := few_lone hfew hwr
  have hG := FewG.start hfew hwr
  have hone : Hid (∀ (W : World) (g : Nat), Below w.heap.size w W → W.heap[g]? = some (.cells #[.slice A1 n1 c1] 22 (0, 0)) → Calls Tryz.prog 9 #[.slice A0 n0 c0, .slice (some ⟨g, 0, none⟩) 1 1] W fun e w' => ∃ A n c vs, e = .returned (.tuple #[.slice A n c, .int .i64 1, .int .i64 0]) ∧ (n ≤ c ∧ c ≤ maxLen ∧ n ≤ 10000 ∧ Pcs w' w'.heap.size A n vs (normal [tPc one])) ∧ Below w.heap.size w w') := Lib.hid (fun W g hb hg => by
    have hR : RowsT W W.heap.size (some ⟨g, 0, none⟩) 1 [(A1, n1, c1)] [one] := rowsT_of hg rfl rfl rfl fun k r ss a b => by
      match k, a, b with
      | 0, a, b => simp at a b; subst a; subst b; exact h1.up hb
      | k + 1, a, b => simp at a
    refine (H.oct_ok A0 n0 c0 base _ 1 1 _ [one] W (Nat.le_refl _) (by decide) hfew1 (h0.up hb) hR).mono ?_
    rintro e w' ⟨er, k, A, n, c, vs, ps, rfl, q1, q2, q3, q4, q5⟩
    obtain ⟨rfl, rfl, rfl⟩ := octs_lone hwr1 q4
    exact ⟨A, n, c, vs, rfl, ⟨q1, q2, by have h8 := q3.len; have h9 := text_one one; omega, q3⟩, hb.trans (q5.mono hb.size)⟩)
  have htwo : Hid (∀ (W : World) (g : Nat), Below w.heap.size w W → W.heap[g]? = some (.cells #[.slice A1 n1 c1, .slice A2 n2 c2] 22 (0, 0)) → Calls Tryz.prog 9 #[.slice A0 n0 c0, .slice (some ⟨g, 0, none⟩) 2 2] W fun e w' => ∃ (k : Int) (A : Option Addr) (n c : Nat) (vs : List PcV) (ps : List Pc), e = .returned (.tuple #[.slice A n c, .int .i64 k, .int .i64 0]) ∧ (n ≤ c ∧ c ≤ maxLen ∧ Pcs w' w'.heap.size A n vs ps) ∧ OctsTo base [one, two] 0 k ps ∧ Below W.heap.size W w' ∧ Below w.heap.size w w') := Lib.hid (fun W g hb hg => by
    refine (H.oct_ok A0 n0 c0 base _ 2 2 _ [one, two] W (Nat.le_refl _) (by decide) hfew (h0.up hb) (two_rows (r1 := (A1, n1, c1)) (r2 := (A2, n2, c2)) hb hg h1 h2)).mono ?_
    rintro e w' ⟨er, k, A, n, c, vs, ps, rfl, q1, q2, q3, q4, q5⟩
    obtain ⟨rfl, -⟩ := octs_few hfew hwr q4
    exact ⟨k, A, n, c, vs, ps, rfl, ⟨q1, q2, q3⟩, q4, q5, hb.trans (q5.mono hb.size)⟩)
  have hmrg : Hid (∀ (W : World) (g : Nat), Below w.heap.size w W → W.heap[g]? = some (.cells #[.slice A1 n1 c1, .slice A2 n2 c2] 22 (0, 0)) → Calls Tryz.prog 13 #[.slice A0 n0 c0, .slice (some ⟨g, 0, none⟩) 2 2, .agg #[.int .i64 0, .bool false]] W fun e w' => TwoOut W w' e base one two) := Lib.hid (fun W g hb hg => lTwo_call H hG h0 h1 h2 hb hg)
  have hpair : Hid (∀ (k : Int) (ps qs : List Pc), OctsTo base [one, two] 0 k qs → MergesTo base [one, two] 0 false 0 ps → qs = ps ∧ (k = 2 ↔ cleanB ps = true) ∧ (k = 1 ↔ cleanB ps = false)) := Lib.hid (fun k ps qs a b => (octs_pair hfew hwr a b).2)
  have hl1 : one.length ≤ 16 := ((fewM_small hfew).2.2.2 one (by simp)).1
  have hlone := Lib.hid (clean_text one)
  have hCh : Hid (∀ (A : Option Addr) (n c : Nat) (vs : List PcV) (W : World), (n ≤ c ∧ c ≤ maxLen ∧ n ≤ 10000) → Pcs W W.heap.size A n vs (normal [tPc one]) → Calls Tryz.prog 16 #[.slice A n c, .int .i64 0] W fun e w' => TxsOut W w' e one) := Lib.hid (fun A n c vs W h hP => by
    have := H.choose_ok A n c vs (normal [tPc one]) 0 W h.1 h.2.1 h.2.2 (by unfold inR64; omega) (by rw [choose_text]; omega) hP
    rw [choose_text] at this
    exact this)
  have hSm : Hid (∀ (A : Option Addr) (n c : Nat) (W : World), Below w.heap.size w W → TxR W W.heap.size (A, n, c) one → Calls Tryz.prog 15 #[.slice A n c, .slice A1 n1 c1] W fun e w' => e = .returned (.bool true) ∧ ∃ q, w' = W.drewN q) := Lib.hid (fun A n c W hb hT => by
    have h9 := h1.up hb
    have := Same_any A A1 n n1 c c1 _ _ one one W (Nat.le_trans hT.1 hT.2.1) (Nat.le_trans h9.1 h9.2.1) hT.2.2 h9.2.2
    rw [show decide (one = one) = true from decide_eq_true rfl] at this
    exact this)
  have hPs : Hid (∀ (A A' : Option Addr) (n n' c c' : Nat) (vs vs' : List PcV) (ps : List Pc) (W : World), n ≤ maxLen → n' ≤ maxLen → Pcs W W.heap.size A n vs ps → Pcs W W.heap.size A' n' vs' ps → Calls Tryz.prog 11 #[.slice A n c, .slice A' n' c'] W fun e w' => e = .returned (.bool true) ∧ ∃ q, w' = W.drewN q) := Lib.hid (fun A A' n n' c c' vs vs' ps W a b h h' => by
    have := pSame_any A A' n n' c c' _ _ vs vs' ps ps W a b h h'
    rw [show decide (ps = ps) = true from decide_eq_true rfl] at this
    exact this)
  have tok1 := trivial
  have tok2 := trivial
  have tok3 := trivial
  clear h0 h1 h2 hfm hfew hwr hfew1 hwr1 hG hl1
  go_enter Tryz.func4, Tryz.ntmps4
  go_upto_region 7 with (first
    | (go_at_call 7; refine haw.out.mono ?_; rintro e w1 ⟨rfl, hb1⟩; have hB1 := Lib.hid hb1; clear hb1)
    | (go_at_call 12; refine (hF.out _ _ (below_alloc hB1.out _) (Go.Deep.blk_alloc_new _ _)).mono ?_; rintro e w2 ⟨rfl, hw2⟩; have hB2 : Hid (Below w.heap.size w w2) := Lib.hid (by rw [← hw2]; exact below_alloc hB1.out _); clear hw2)
    | (go_at_call 9; have _t := tok1; refine (hone.out _ _ (below_alloc hB2.out _) (Go.Deep.blk_alloc_new _ _)).mono ?_; rintro e w3 ⟨A3, n3, c3, vs3, rfl, q1, q2⟩; have hq3 := Lib.hid q1; have hB3 := Lib.hid q2; clear tok1 q1 q2)
    | (go_at_call 9; refine (htwo.out _ _ (below_alloc hB3.out _) (Go.Deep.blk_alloc_new _ _)).mono ?_; rintro e w4 ⟨k, A4, n4, c4, vs4, ps4, rfl, q1, q2, q3, q4⟩; have hq4 := Lib.hid q1; have hO4 := Lib.hid q2; have hP3 := Lib.hid ((hq3.out.2.2.2.up (below_alloc (Below.refl _ _) _)).up q3); have hB4 := Lib.hid q4; clear q1 q2 q3 q4)
    | (go_at_call 13; refine (hmrg.out _ _ (below_alloc hB4.out _) (Go.Deep.blk_alloc_new _ _)).mono ?_; rintro e w5 ⟨A5, n5, c5, vs5, ps5, rfl, q1, q2, q3⟩; have hq5 := Lib.hid q1; have hM5 := Lib.hid q2; have hP3b := Lib.hid ((hP3.out.up (below_alloc (Below.refl _ _) _)).up q3); have hP4 := Lib.hid ((hq4.out.2.2.up (below_alloc (Below.refl _ _) _)).up q3); have hB5 := Lib.hid ((below_alloc hB4.out _).trans (q3.mono (below_alloc hB4.out _).size)); clear q1 q2 q3))
  obtain ⟨hps, hk2, hk1⟩ := hpair.out _ _ _ hO4.out hM5.out
  subst hps
  have hCl : Hid (∀ (W : World), Below w5.heap.size w5 W → Calls Tryz.prog 14 #[.slice A5 n5 c5] W fun e w' => e = .returned (.bool (cleanB ps4)) ∧ Below W.heap.size W w') := Lib.hid (fun W hW => H.clean_ok A5 n5 c5 vs5 ps4 W hq5.out.1 hq5.out.2.1 hq5.out.2.2.1 (hq5.out.2.2.2.2.up hW))
  have hCo : Hid (∀ (W : World), Below w5.heap.size w5 W → Calls Tryz.prog 14 #[.slice A3 n3 c3] W fun e w' => e = .returned (.bool true) ∧ Below W.heap.size W w') := Lib.hid (fun W hW => by
    have := H.clean_ok A3 n3 c3 vs3 (normal [tPc one]) W hq3.out.1 hq3.out.2.1 hq3.out.2.2.1 (hP3b.out.up hW)
    rw [hlone.out] at this
    exact this)
  obtain ⟨cl, hcl⟩ : ∃ cl, cleanB ps4 = cl := ⟨_, rfl⟩
  rw [hcl] at hCl hk2 hk1
  have hk : k = if cl = true then 2 else 1 := by cases cl <;> simp_all
  clear hk2 hk1 hcl
  cases cl
  all_goals
    simp only [Bool.false_eq_true, if_true, if_false] at hk
    subst hk
    go_wp2_with (first
      | (go_at_call 14; have _t := tok2; refine (hCl.out _ (Below.refl _ _)).mono ?_; rintro e w6 ⟨rfl, hb6⟩; have hB6 := Lib.hid hb6; clear hb6 tok2)
      | (go_at_call 16; refine (hCh.out _ _ _ _ _ ⟨hq3.out.1, hq3.out.2.1, hq3.out.2.2.1⟩ (hP3b.out.up hB6.out)).mono ?_; rintro e w7 ⟨A7, n7, c7, rfl, r1, r2⟩; have hT7 := Lib.hid r1; have hB7 := Lib.hid (hB6.out.trans (r2.mono hB6.out.size)); clear r1 r2)
      | (go_at_call 15; refine (hSm.out _ _ _ _ (hB5.out.trans (hB7.out.mono hB5.out.size)) hT7.out).mono ?_; rintro e w8 ⟨rfl, z8, rfl⟩)
      | (go_at_call 14; refine (hCo.out _ (below_drewN hB7.out z8)).mono ?_; rintro e w9 ⟨rfl, hb9⟩; have hB9 := Lib.hid ((below_drewN hB7.out z8).trans (hb9.mono (below_drewN hB7.out z8).size)); clear hb9)
      | (go_at_call 11; refine (hPs.out _ _ _ _ _ _ _ _ _ _ (Nat.le_trans hq4.out.1 hq4.out.2.1) (Nat.le_trans hq5.out.1 hq5.out.2.1) (hP4.out.up hB9.out) (hq5.out.2.2.2.2.up hB9.out)).mono ?_; rintro e w10 ⟨rfl, z10, rfl⟩))
    go_ret
    exact ⟨rfl, below_drewN (hB5.out.trans (hB9.out.mono hB5.out.size)) z10⟩
end
end Go.Proofs.YtoephlkfejcadaaGreat
/- Proved here: a slice of slices of texts that came in takes no more than the form's reach. -/
namespace Go.Proofs.YtoephlkfejcadaaGreat
open Go.RowKit
set_option linter.unusedVariables false

theorem argTs_size {H : Type} {enc : TypeId × Value → H} {P : Program} {W : World} {base : Nat} {held : Bool} {t e : TypeId} {fuel : Nat} {A : Option Addr} {n c : Nat} {x : DataW H × List MemPlace}
    (ht : P.underlying t = some (.slice e)) (ce : P.cellsOf e = 1) (hb : P.bytesOf e = 24) (h : DataW.trod enc P W base (fun _ => true) held fuel t [.slice A n c] = some x)
    {ts : List TypeId} {ds : List (DataW H)} (hsz : (DataW.weightsEach P ts ds).all (· ≤ reachBytes) = true) {j : Nat} (hj : ts[j]? = some t) (hd : ds[j]? = some x.1) : n * 24 ≤ 140737488351232 := by
  rcases Go.Deep.open_slice1 ht ce h with ⟨hcs, _⟩ | ⟨a, len, cap, m, m', V, D, Pl, hcs, _, hl, hm, hmm, rfl, hx⟩
  · simp at hcs
    obtain ⟨rfl, rfl, rfl⟩ := hcs
    omega
  · simp at hcs
    obtain ⟨rfl, rfl, rfl⟩ := hcs
    have h2 := sized_slice hsz hj hd ht
    rw [hb] at h2
    simp at h2
    unfold reachBytes at h2
    omega
end Go.Proofs.YtoephlkfejcadaaGreat

/- Proved here: texts joined: LcsMeas, LcsCon, Once. -/
import Derived.Test.YticgjbckfpkpjaaGreatBt01
import Derived.Test.YticgjbckfpkpjaaGreatBt05
import Derived.Test.YticgjbckfpkpjaaGreatBt31
import Derived.Deep.RegionWith
import Derived.Deep.CutRange
import Derived.Deep.DeepCutAuto
import Derived.Outline
import Derived.Test.YticgjbckfpkpjaaGreatChecked
import Derived.Tactics
import Derived.Tactics2
import Derived.Defers
import Derived.Laws.Pointers
import Derived.Laws.LoneSync
import Derived.Laws.NewBlocks
import Derived.RegionTactic
import Derived.RegionCalls
import Derived.ChangeAlike
/- Proved here: the contract of package lcs' measure: how many are paired, and what is skipped. -/
namespace Go.Proofs.YticgjbckfpkpjaaGreat
open Go.RowKit
set_option linter.unusedVariables false

theorem infoBools : (Tryz.prog.info? 163).map (fun i => (i.zero, i.size, i.bytes)) = some (some (.slice none 0 0), 1, 24) := by kernel_rfl

/-- Which of both rows a place's row is. -/
def par (i R0 R1 : Nat) : Nat := if i % 2 = 0 then R0 else R1
theorem par_ne {i R0 R1 : Nat} (h : R0 ≠ R1) : par i R0 R1 ≠ par (i + 1) R0 R1 := by
  unfold par
  rcases Nat.mod_two_eq_zero_or_one i with h0 | h0
  · rw [if_pos h0, if_neg (by omega)]; exact h
  · rw [if_neg (by omega), if_pos (by omega)]; exact fun e => h e.symm
theorem par_two (i R0 R1 : Nat) : par (i + 2) R0 R1 = par i R0 R1 := by unfold par; rw [Nat.add_mod_right]
theorem par_or (i R0 R1 : Nat) : par i R0 R1 = R0 ∨ par i R0 R1 = R1 := by unfold par; split <;> simp

/-- The reckoning, as far as it has come: from row I on. -/
structure MeasIn (w wr : World) (D R0 R1 T S n n' I : Nat) (a b : List Int) : Prop where
  r0 : w.heap.size ≤ R0 ∧ R0 < D
  r1 : w.heap.size ≤ R1 ∧ R1 < D
  t : w.heap.size ≤ T ∧ T < D
  s : w.heap.size ≤ S ∧ S < D
  apart : R0 ≠ R1 ∧ R0 ≠ T ∧ R1 ≠ T ∧ R0 ≠ S ∧ R1 ≠ S ∧ T ≠ S
  size : D ≤ wr.heap.size
  arr : wr.heap[T]? = some (.cells #[.slice (some ⟨R0, 0, none⟩) (n' + 1) (n' + 1), .slice (some ⟨R1, 0, none⟩) (n' + 1) (n' + 1)] 162 (0, 0))
  row : wr.rowIs (par I R0 R1) 3 (n' + 1) (fun t => .int .i64 (lcsAt a b I t))
  other : ∃ g : Nat → Int, wr.rowIs (par (I + 1) R0 R1) 3 (n' + 1) (fun t => .int .i64 (g t)) ∧ g n' = 0
  skips : ∃ f, wr.rowIs S 163 n f ∧ ∀ k, I ≤ k → k < n → ∃ g, f k = .slice (some ⟨g, 0, none⟩) n' n' ∧ D ≤ g ∧ wr.rowIs g 4 n' (fun t => .bool (skipAt a b k t))
  below : Below w.heap.size w wr

section
variable {w wr w1 : World} {D R0 R1 T S n n' I r : Nat} {a b : List Int}
theorem MeasIn.drew (h : MeasIn w wr D R0 R1 T S n n' I a b) : MeasIn w wr.drew D R0 R1 T S n n' I a b :=
  ⟨h.r0, h.r1, h.t, h.s, h.apart, h.size, h.arr, h.row, h.other, h.skips, ⟨h.below.os, h.below.tape, h.below.output, h.below.size, h.below.block⟩⟩
theorem MeasIn.par_lt (h : MeasIn w wr D R0 R1 T S n n' I a b) (k : Nat) : w.heap.size ≤ par k R0 R1 ∧ par k R0 R1 < D ∧ par k R0 R1 ≠ T ∧ par k R0 R1 ≠ S := by
  have h0 := h.r0
  have h1 := h.r1
  obtain ⟨h2, h3, h4, h5, h6, h7⟩ := h.apart
  rcases par_or k R0 R1 with e | e <;> rw [e]
  · exact ⟨h0.1, h0.2, h3, h5⟩
  · exact ⟨h1.1, h1.2, h4, h6⟩
theorem MeasIn.step (hlb : b.length = n') (h : MeasIn w wr D R0 R1 T S n n' (r + 1) a b) (hr : r < n)
    (h1 : w1.rowIs (par r R0 R1) 3 (n' + 1) (fun t => .int .i64 (lcsAt a b r t))) (h2 : w1.rowIs wr.heap.size 4 n' (fun t => .bool (skipAt a b r t))) (h3 : But (fun k => k = par r R0 R1) wr w1) :
    MeasIn w (w1.setCell ⟨S, r, none⟩ (.slice (some ⟨wr.heap.size, 0, none⟩) n' n')) D R0 R1 T S n n' r a b := by
  obtain ⟨p1, p2, p3, p4⟩ := h.par_lt r
  obtain ⟨q1, q2, q3, q4⟩ := h.par_lt (r + 1)
  obtain ⟨a1, a2, a3, a4, a5, a6⟩ := h.apart
  have hne := par_ne (i := r) a1
  have hD := h.size
  have hs := h.s
  have ht := h.t
  obtain ⟨f, hf, hk⟩ := h.skips
  have hb1 : w1.heap[S]? = wr.heap[S]? := h3.block S (by omega) (fun e => p4 e.symm)
  have hsz : (w1.setCell ⟨S, r, none⟩ (.slice (some ⟨wr.heap.size, 0, none⟩) n' n')).heap.size = w1.heap.size := by simp [World.setCell]
  refine ⟨h.r0, h.r1, h.t, h.s, h.apart, by rw [hsz]; have := h3.size; omega, ?_, h1.setOther (a := ⟨S, r, none⟩) p4 _, ⟨fun t => lcsAt a b (r + 1) t, ?_, ?_⟩, ⟨_, (hf.of_block hb1).set r _, fun k hrk hkn => ?_⟩, ?_⟩
  · rw [Below.heap_setCell _ _ _ _ (fun e : T = S => a6 e), h3.block T (by omega) (fun e => p3 e.symm)]; exact h.arr
  · exact (h.row.of_block (h3.block _ (by omega) (fun e => hne e.symm))).setOther (a := ⟨S, r, none⟩) q4 _
  · show (lcsAt a b (r + 1) n' : Int) = 0
    rw [lcsAt_end_right (by omega)]; rfl
  · by_cases e : k = r
    · subst e
      exact ⟨wr.heap.size, by simp, hD, h2.setOther (a := ⟨S, k, none⟩) (by show wr.heap.size ≠ S; omega) _⟩
    · obtain ⟨g, hg1, hg2, hg3⟩ := hk k (by omega) hkn
      have hg4 := hg3.lt
      exact ⟨g, by simp [e, hg1], hg2, (hg3.of_block (h3.block g hg4 (by omega))).setOther (a := ⟨S, r, none⟩) (by show g ≠ S; omega) _⟩
  · have hb := h.below
    have hbb : Below w.heap.size w w1 := ⟨h3.os.trans hb.os, h3.tape.trans hb.tape, h3.output.trans hb.output, Nat.le_trans hb.size h3.size, fun k hk => (h3.block k (by have := hb.size; omega) (by omega)).trans (hb.block k hk)⟩
    exact hbb.setCell (by show w.heap.size ≤ S; omega) _
theorem MeasIn.done (h : MeasIn w wr D R0 R1 T S n n' 0 a b) : Skips wr (some ⟨S, 0, none⟩) n n' a b := by
  intro i j hi hj
  obtain ⟨f, hf, hk⟩ := h.skips
  obtain ⟨g, hg1, hg2, hg3⟩ := hk i (Nat.zero_le _) hi
  exact ⟨S, 0, g, 0, n', n', rfl, hf.lt, hg3.lt, Nat.le_refl _, by rw [Nat.zero_add, hf.cell hi, hg1], by rw [Nat.zero_add, hg3.cell hj]⟩
end

/-- Both rows, and the array that holds them, are laid. -/
structure Rows0 (w wx : World) (R0 R1 T n' : Nat) : Prop where
  size : wx.heap.size = w.heap.size + 3
  lies : w.heap.size ≤ R0 ∧ R0 < w.heap.size + 3 ∧ w.heap.size ≤ R1 ∧ R1 < w.heap.size + 3 ∧ w.heap.size ≤ T ∧ T < w.heap.size + 3 ∧ R0 ≠ R1 ∧ R0 ≠ T ∧ R1 ≠ T
  row0 : wx.heap[R0]? = some (.cells (madeCells #[.int .i64 0] (n' + 1)) 3 (0, 0))
  row1 : wx.heap[R1]? = some (.cells (madeCells #[.int .i64 0] (n' + 1)) 3 (0, 0))
  arr : wx.heap[T]? = some (.cells #[.slice (some ⟨R0, 0, none⟩) (n' + 1) (n' + 1), .slice (some ⟨R1, 0, none⟩) (n' + 1) (n' + 1)] 162 (0, 0))
  below : Below w.heap.size w wx
theorem World.size_alloc (w : World) (o : Obj) : (w.alloc o).heap.size = w.heap.size + 1 := by simp
theorem three (w : World) (o1 o2 o3 : Obj) : (((w.alloc o1).alloc o2).alloc o3).drew.heap.size = w.heap.size + 3 ∧ (((w.alloc o1).alloc o2).alloc o3).drew.heap[w.heap.size]? = some o1 ∧ (((w.alloc o1).alloc o2).alloc o3).drew.heap[w.heap.size + 1]? = some o2 ∧ (((w.alloc o1).alloc o2).alloc o3).drew.heap[w.heap.size + 1 + 1]? = some o3 ∧ Below w.heap.size w (((w.alloc o1).alloc o2).alloc o3).drew := by
  have hb := (((Below.refl w.heap.size w).alloc (Nat.le_refl _) o1).alloc (by simp) o2).alloc (by simp; omega) o3
  refine ⟨by simp, ?_, ?_, ?_, ⟨hb.os, hb.tape, hb.output, hb.size, hb.block⟩⟩
  · show (((w.alloc o1).alloc o2).alloc o3).heap[w.heap.size]? = some o1
    rw [Below.heap_alloc _ _ _ (by simp; omega), Below.heap_alloc _ _ _ (by simp)]; exact Go.Deep.blk_alloc_new _ _
  · show (((w.alloc o1).alloc o2).alloc o3).heap[w.heap.size + 1]? = some o2
    rw [Below.heap_alloc _ _ _ (by simp)]; have := Go.Deep.blk_alloc_new (w.alloc o1) o2; rw [World.size_alloc] at this; exact this
  · show (((w.alloc o1).alloc o2).alloc o3).heap[w.heap.size + 1 + 1]? = some o3
    have := Go.Deep.blk_alloc_new ((w.alloc o1).alloc o2) o3; rw [World.size_alloc, World.size_alloc] at this; exact this
theorem rows0_a (w : World) (n' : Nat) : Rows0 w (((w.alloc (.cells (madeCells #[.int .i64 0] (n' + 1)) 3)).alloc (.cells (madeCells #[.int .i64 0] (n' + 1)) 3)).alloc (.cells #[.slice (some ⟨w.heap.size, 0, none⟩) (n' + 1) (n' + 1), .slice (some ⟨w.heap.size + 1, 0, none⟩) (n' + 1) (n' + 1)] 162)).drew (w.heap.size) (w.heap.size + 1) (w.heap.size + 1 + 1) n' := by
  have h := three w (.cells (madeCells #[.int .i64 0] (n' + 1)) 3) (.cells (madeCells #[.int .i64 0] (n' + 1)) 3) (.cells #[.slice (some ⟨w.heap.size, 0, none⟩) (n' + 1) (n' + 1), .slice (some ⟨w.heap.size + 1, 0, none⟩) (n' + 1) (n' + 1)] 162)
  exact ⟨h.1, by omega, h.2.1, h.2.2.1, h.2.2.2.1, h.2.2.2.2⟩
theorem rows0_b (w : World) (n' : Nat) : Rows0 w (((w.alloc (.cells (madeCells #[.int .i64 0] (n' + 1)) 3)).alloc (.cells #[.slice (some ⟨w.heap.size, 0, none⟩) (n' + 1) (n' + 1), .slice (some ⟨w.heap.size + 1 + 1, 0, none⟩) (n' + 1) (n' + 1)] 162)).alloc (.cells (madeCells #[.int .i64 0] (n' + 1)) 3)).drew (w.heap.size) (w.heap.size + 1 + 1) (w.heap.size + 1) n' := by
  have h := three w (.cells (madeCells #[.int .i64 0] (n' + 1)) 3) (.cells #[.slice (some ⟨w.heap.size, 0, none⟩) (n' + 1) (n' + 1), .slice (some ⟨w.heap.size + 1 + 1, 0, none⟩) (n' + 1) (n' + 1)] 162) (.cells (madeCells #[.int .i64 0] (n' + 1)) 3)
  exact ⟨h.1, by omega, h.2.1, h.2.2.2.1, h.2.2.1, h.2.2.2.2⟩
theorem rows0_c (w : World) (n' : Nat) : Rows0 w (((w.alloc (.cells (madeCells #[.int .i64 0] (n' + 1)) 3)).alloc (.cells (madeCells #[.int .i64 0] (n' + 1)) 3)).alloc (.cells #[.slice (some ⟨w.heap.size + 1, 0, none⟩) (n' + 1) (n' + 1), .slice (some ⟨w.heap.size, 0, none⟩) (n' + 1) (n' + 1)] 162)).drew (w.heap.size + 1) (w.heap.size) (w.heap.size + 1 + 1) n' := by
  have h := three w (.cells (madeCells #[.int .i64 0] (n' + 1)) 3) (.cells (madeCells #[.int .i64 0] (n' + 1)) 3) (.cells #[.slice (some ⟨w.heap.size + 1, 0, none⟩) (n' + 1) (n' + 1), .slice (some ⟨w.heap.size, 0, none⟩) (n' + 1) (n' + 1)] 162)
  exact ⟨h.1, by omega, h.2.2.1, h.2.1, h.2.2.2.1, h.2.2.2.2⟩
theorem rows0_d (w : World) (n' : Nat) : Rows0 w (((w.alloc (.cells #[.slice (some ⟨w.heap.size + 1, 0, none⟩) (n' + 1) (n' + 1), .slice (some ⟨w.heap.size + 1 + 1, 0, none⟩) (n' + 1) (n' + 1)] 162)).alloc (.cells (madeCells #[.int .i64 0] (n' + 1)) 3)).alloc (.cells (madeCells #[.int .i64 0] (n' + 1)) 3)).drew (w.heap.size + 1) (w.heap.size + 1 + 1) (w.heap.size) n' := by
  have h := three w (.cells #[.slice (some ⟨w.heap.size + 1, 0, none⟩) (n' + 1) (n' + 1), .slice (some ⟨w.heap.size + 1 + 1, 0, none⟩) (n' + 1) (n' + 1)] 162) (.cells (madeCells #[.int .i64 0] (n' + 1)) 3) (.cells (madeCells #[.int .i64 0] (n' + 1)) 3)
  exact ⟨h.1, by omega, h.2.2.1, h.2.2.2.1, h.2.1, h.2.2.2.2⟩
theorem rows0_e (w : World) (n' : Nat) : Rows0 w (((w.alloc (.cells (madeCells #[.int .i64 0] (n' + 1)) 3)).alloc (.cells #[.slice (some ⟨w.heap.size + 1 + 1, 0, none⟩) (n' + 1) (n' + 1), .slice (some ⟨w.heap.size, 0, none⟩) (n' + 1) (n' + 1)] 162)).alloc (.cells (madeCells #[.int .i64 0] (n' + 1)) 3)).drew (w.heap.size + 1 + 1) (w.heap.size) (w.heap.size + 1) n' := by
  have h := three w (.cells (madeCells #[.int .i64 0] (n' + 1)) 3) (.cells #[.slice (some ⟨w.heap.size + 1 + 1, 0, none⟩) (n' + 1) (n' + 1), .slice (some ⟨w.heap.size, 0, none⟩) (n' + 1) (n' + 1)] 162) (.cells (madeCells #[.int .i64 0] (n' + 1)) 3)
  exact ⟨h.1, by omega, h.2.2.2.1, h.2.1, h.2.2.1, h.2.2.2.2⟩
theorem rows0_f (w : World) (n' : Nat) : Rows0 w (((w.alloc (.cells #[.slice (some ⟨w.heap.size + 1 + 1, 0, none⟩) (n' + 1) (n' + 1), .slice (some ⟨w.heap.size + 1, 0, none⟩) (n' + 1) (n' + 1)] 162)).alloc (.cells (madeCells #[.int .i64 0] (n' + 1)) 3)).alloc (.cells (madeCells #[.int .i64 0] (n' + 1)) 3)).drew (w.heap.size + 1 + 1) (w.heap.size + 1) (w.heap.size) n' := by
  have h := three w (.cells #[.slice (some ⟨w.heap.size + 1 + 1, 0, none⟩) (n' + 1) (n' + 1), .slice (some ⟨w.heap.size + 1, 0, none⟩) (n' + 1) (n' + 1)] 162) (.cells (madeCells #[.int .i64 0] (n' + 1)) 3) (.cells (madeCells #[.int .i64 0] (n' + 1)) 3)
  exact ⟨h.1, by omega, h.2.2.2.1, h.2.2.1, h.2.1, h.2.2.2.2⟩
theorem row_made {w : World} {R n : Nat} {t : TypeId} {z : Value} (h : w.heap[R]? = some (.cells (madeCells #[z] n) t (0, 0))) : w.rowIs R t n (fun _ => z) :=
  ⟨_, h, size_madeCells _ _, fun i hi => by simp [madeCells, hi, Nat.mod_one]⟩
theorem Rows0.start {w wx : World} {R0 R1 T n n' : Nat} {a b : List Int} (h : Rows0 w wx R0 R1 T n') (hla : a.length = n) :
    MeasIn w (wx.alloc (.cells (madeCells #[.slice none 0 0] n) 163)) (w.heap.size + 4) R0 R1 T wx.heap.size n n' n a b := by
  obtain ⟨l1, l2, l3, l4, l5, l6, l7, l8, l9⟩ := h.lies
  have hs := h.size
  have hsz : (wx.alloc (.cells (madeCells #[.slice none 0 0] n) 163)).heap.size = w.heap.size + 4 := by simp [hs]
  have h0 := (row_made h.row0).alloc (.cells (madeCells #[.slice none 0 0] n) 163)
  have h1 := (row_made h.row1).alloc (.cells (madeCells #[.slice none 0 0] n) 163)
  have hp : ∀ k, (wx.alloc (.cells (madeCells #[.slice none 0 0] n) 163)).rowIs (par k R0 R1) 3 (n' + 1) (fun _ => .int .i64 0) := fun k => by
    rcases par_or k R0 R1 with e | e <;> rw [e]
    · exact h0
    · exact h1
  refine ⟨⟨l1, by omega⟩, ⟨l3, by omega⟩, ⟨l5, by omega⟩, ⟨by omega, by omega⟩, ⟨l7, l8, l9, by omega, by omega, by omega⟩, by omega, ?_, (hp n).congr fun t _ => ?_, ⟨fun _ => 0, hp (n + 1), rfl⟩, ⟨_, World.rowIs_made wx (.slice none 0 0) n 163, fun k h1 h2 => by omega⟩, h.below.alloc (by omega) _⟩
  · rw [Below.heap_alloc _ _ _ (by omega)]; exact h.arr
  · rw [lcsAt_end_left (by omega)]; rfl

/-- What measure leaves. -/
def MeasOut (w w' : World) (e : Ending) (n n' : Nat) (a b : List Int) : Prop :=
  ∃ S, e = .returned (.tuple #[.int .i64 (lcsL a b), .slice (some ⟨S, 0, none⟩) n n]) ∧ Skips w' (some ⟨S, 0, none⟩) n n' a b ∧ Below w.heap.size w w'

set_option maxRecDepth 100000 in
set_option maxHeartbeats 2000000 in
theorem meas_any (A A' : Option Addr) (n n' c c' B B' : Nat) (a b : List Int) (w : World) (hn : n ≤ 2000) (hn' : n' ≤ 2000) (hA : Nums w B A n a) (hA' : Nums w B' A' n' b) (hB : B ≤ w.heap.size) (hB' : B' ≤ w.heap.size) :
    Calls Tryz.prog 93 #[.slice A n c, .slice A' n' c'] w fun e w' => MeasOut w w' e n n' a b := by
  have hl := hA.len
  have hl' := hA'.len
  have hmk1 : ∀ w : World, (Instr.makeSlice 69 (.int .i64 ((n' : Int) + 1)) (.int .i64 ((n' : Int) + 1))).run Tryz.prog w = .ok (.slice (some ⟨w.heap.size, 0, none⟩) (n' + 1) (n' + 1)) (w.alloc (.cells (madeCells #[.int .i64 0] (n' + 1)) 3)) := fun w => by
    have := run_make_row' (P := Tryz.prog) 69 3 (.int .i64 0) 8 Tryz.underlying69 infoInt rfl .i64 .i64 (n' + 1) (by omega) (by omega) w
    push_cast at this
    exact this
  have hmk2 := run_make_row' (P := Tryz.prog) 147 163 (.slice none 0 0) 24 Tryz.underlying147 infoBools rfl .i64 .i64 n (by omega) (by omega)
  have e1 : IntKind.i64.wrap ((n' : Int) + 1) = (n' : Int) + 1 := IntWalk.i64_in _ (by omega)
  go_enter Tryz.func93, Tryz.ntmps93
  go_upto_region 1 with fail
  go_cut [6] (fun s6 wx => ∃ R0 R1 T, s6 = .pointer (some ⟨T, 0, none⟩) ∧ Rows0 w wx R0 R1 T n')
  case first =>
    go_region
    all_goals (go_wp2_with fail; go_meet; first | exact ⟨_, _, _, rfl, rows0_a w n'⟩ | exact ⟨_, _, _, rfl, rows0_b w n'⟩ | exact ⟨_, _, _, rfl, rows0_c w n'⟩ | exact ⟨_, _, _, rfl, rows0_d w n'⟩ | exact ⟨_, _, _, rfl, rows0_e w n'⟩ | exact ⟨_, _, _, rfl, rows0_f w n'⟩)
  case rest =>
  obtain ⟨R0, R1, T, rfl, hR0⟩ := hcut
  have hst := hR0.start (n := n) (a := a) (b := b) hl
  have hst' := Lib.hid hst
  have hsz := hR0.size
  have hts := hst.t
  clear hst hR0 hmk1 e1
  go_wp2
  rw [hsz] at hst'
  go_loopw [8] (fun si wr => ∃ I : Nat, I ≤ n ∧ si = .int .i64 ((I : Int) - 1) ∧ Hid (MeasIn w wr (w.heap.size + 4) R0 R1 T (w.heap.size + 3) n n' I a b)) (fun si _ => (intOf si + 1).toNat)
  case atStart => exact ⟨n, Nat.le_refl _, rfl, hst'⟩
  case round =>
    obtain ⟨I, hI, rfl, hM⟩ := hrel
    obtain ⟨wo, rfl⟩ : ∃ wo : World, wo = wr := ⟨_, rfl⟩
    clear hst'
    rcases I with _ | r
    · have hc0 : wo.cell? ⟨T, 0, none⟩ = some (.slice (some ⟨R0, 0, none⟩) (n' + 1) (n' + 1)) := by rw [cells_of hM.out.arr]; rfl
      have hc1 : wo.cell? ⟨R0, 0, none⟩ = some (.int .i64 (lcsL a b)) := hM.out.row.cell (i := 0) (by omega)
      have i1 : (0 : Int) < (n' : Int) + 1 := by omega
      have hd := Lib.hid hM.out.done
      have hb := Lib.hid hM.out.below
      go_wp2
      go_ret2
      exact ⟨_, rfl, hd.out, hb.out⟩
    · have hr : r < n := by omega
      have hir : (((r + 1 : Nat) : Int) - 1) = (r : Int) := by omega
      rw [hir]
      clear hir
      obtain ⟨ba, oa, x, rfl, hba, hx, hxa⟩ := hA.at_ (k := r) hr
      have hBe := hM.out.below
      have cx : wo.cell? ⟨ba, oa + r, none⟩ = some (.int .i64 x) := (hBe.cell (p := ⟨ba, oa + r, none⟩) (by show ba < _; omega)).trans hxa
      obtain ⟨P, hP⟩ : ∃ P, P = par r R0 R1 := ⟨_, rfl⟩
      obtain ⟨Q, hQ⟩ : ∃ Q, Q = par (r + 1) R0 R1 := ⟨_, rfl⟩
      have hrow := hM.out.row
      obtain ⟨g, hoth, hg⟩ := hM.out.other
      rw [par_two] at hoth
      obtain ⟨p1, p2, p3, p4⟩ := hM.out.par_lt r
      have hne := par_ne (i := r) hM.out.apart.1
      have hstep := fun w1 => hM.out.step (w1 := w1) hl' hr
      rw [← hQ] at hrow hne
      rw [← hP] at hoth p1 p2 p3 p4 hne hstep
      have hB2 := Lib.hid (fun wz (hz : wz.heap = wo.heap) => (show wz.rowIs P 3 (n' + 1) (fun t => .int .i64 (g t)) ∧ wz.rowIs Q 3 (n' + 1) (fun t => .int .i64 (lcsAt a b (r + 1) t)) ∧ Nums wz w.heap.size A' n' b from
        ⟨hoth.of_block (by rw [hz]), hrow.of_block (by rw [hz]), Reads.keep ((hA'.more hB').below hBe) fun p _ => by simp [World.cell?, hz]⟩))
      obtain ⟨p, hp⟩ : ∃ p, p = r % 2 := ⟨_, rfl⟩
      obtain ⟨q, hq⟩ : ∃ q, q = (r + 1) % 2 := ⟨_, rfl⟩
      have ct1 : wo.cell? ⟨T, p, none⟩ = some (.slice (some ⟨P, 0, none⟩) (n' + 1) (n' + 1)) := by
        rw [cells_of hM.out.arr, hp, hP]; unfold par
        rcases Nat.mod_two_eq_zero_or_one r with h0 | h0 <;> simp [h0]
      have ct2 : wo.cell? ⟨T, q, none⟩ = some (.slice (some ⟨Q, 0, none⟩) (n' + 1) (n' + 1)) := by
        rw [cells_of hM.out.arr, hq, hQ]; unfold par
        rcases Nat.mod_two_eq_zero_or_one (r + 1) with h0 | h0 <;> simp [h0]
      have m1 : (r : Int).tmod 2 = (p : Int) := by rw [Int.tmod_eq_emod_of_nonneg (by omega), hp]; omega
      have m2 : ((r : Int) + 1).tmod 2 = (q : Int) := by rw [Int.tmod_eq_emod_of_nonneg (by omega), hq]; omega
      have e2 : IntKind.i64.wrap ((r : Int) + 1) = (r : Int) + 1 := IntWalk.i64_in _ (by omega)
      have j1 : (0 : Int) ≤ (p : Int) := by omega
      have j2 : (p : Int) < 2 := by omega
      have j3 : (0 : Int) ≤ (q : Int) := by omega
      have j4 : (q : Int) < 2 := by omega
      have j5 : (0 : Int) ≤ (r : Int) := by omega
      have j6 : (r : Int) < (n : Int) := by omega
      obtain ⟨f, hf, _⟩ := hM.out.skips
      have fs := hf.frozen r
      obtain ⟨u0, cu0⟩ : ∃ u, wo.cell? ⟨w.heap.size + 3, r, none⟩ = some u := ⟨_, hf.cell hr⟩
      have hkeep := Lib.hid (fun wz w1 (hz : wz.heap = wo.heap) (h3 : But (fun k => k = P) wz w1) => (show w1.cell? ⟨w.heap.size + 3, r, none⟩ = some u0 ∧ w1.frozen? ⟨w.heap.size + 3, r, none⟩ = false from by
        have hb : w1.heap[w.heap.size + 3]? = wo.heap[w.heap.size + 3]? := by rw [← hz]; exact h3.block _ (by rw [hz]; exact hf.lt) (fun e => p4 e.symm)
        exact ⟨(World.cell?_of_block (w := wo) hb).trans cu0, by unfold World.frozen? at fs ⊢; rw [hb]; exact fs⟩))
      have hB3 := hB2.out wo.drew rfl
      have hcall := row_any A' n' c' w.heap.size P Q (n' + 1) (n' + 1) r x a b g wo.drew hn' (by omega) hx hB3.2.2 p1 (fun e => hne e) hB3.1 hg hB3.2.1
      have hcall' : Calls Tryz.prog 109 #[.int .i64 x, .slice A' n' c', .slice (some ⟨P, 0, none⟩) (n' + 1) (n' + 1), .slice (some ⟨Q, 0, none⟩) (n' + 1) (n' + 1)] wo.drew fun e w1 =>
          e = .returned (.slice (some ⟨wo.heap.size, 0, none⟩) n' n') ∧ (w1.cell? ⟨w.heap.size + 3, r, none⟩ = some u0 ∧ w1.frozen? ⟨w.heap.size + 3, r, none⟩ = false) ∧
            Hid (MeasIn w (w1.setCell ⟨w.heap.size + 3, r, none⟩ (.slice (some ⟨wo.heap.size, 0, none⟩) n' n')) (w.heap.size + 4) R0 R1 T (w.heap.size + 3) n n' r a b) :=
        hcall.mono fun e w1 h => ⟨h.1, hkeep.out wo.drew w1 rfl h.2.2.2, Lib.hid (hstep w1 h.2.1 h.2.2.1 ⟨h.2.2.2.os, h.2.2.2.tape, h.2.2.2.output, h.2.2.2.size, h.2.2.2.block⟩)⟩
      have hc := Lib.hid hcall'
      clear hcall hcall' hstep p1 p2 p3 p4 hne hg hoth hrow hf hp hq hP hQ hxa hBe hB3
      go_wp2
      go_region_with (go_at_call 109; refine hc.out.mono ?_; rintro e w1 ⟨rfl, ⟨cs1, fs1⟩, hfin⟩)
      all_goals (go_wp2; go_roundw)
      all_goals first
        | exact ⟨r, by omega, rfl, hfin⟩
        | exact ⟨r, by omega, rfl, Lib.hid hfin.out.drew⟩
        | simp [intOf]
end Go.Proofs.YticgjbckfpkpjaaGreat
/- What the statements of layer 3 ask of package lcs, one by one: words alone. -/
namespace Go.Proofs.YticgjbckfpkpjaaGreat
open Go.RowKit
set_option linter.unusedVariables false

section
variable (Pr : World → Nat → (Nat → Prop) → List Int → List Int → Prop)
/-- Behind a call that touches blocks of F alone, block T is the pair of a and b. -/
def PrAfter (w w' : World) (T : Nat) (F : Nat → Prop) (a b : List Int) : Prop := ∃ F', Pr w' T F' a b ∧ But F w w' ∧ ∀ k, F' k → F k ∨ w.heap.size ≤ k
/-- What New tells of two lists that may be. -/
def NewOut (w w' : World) (e : Ending) (a b : List Int) : Prop := ∃ T F, e = .returned (.tuple #[.pointer (some ⟨T, 0, none⟩), .int .i64 0]) ∧ Pr w' T F a b ∧ (∀ k, F k → w.heap.size ≤ k) ∧ Below w.heap.size w w'
/-- What Match tells. -/
def MatchOut (w w' : World) (e : Ending) (T : Nat) (F : Nat → Prop) (a b : List Int) : Prop :=
  ∃ A n c F', e = .returned (.slice A n c) ∧ n = a.length ∧ n ≤ c ∧ c ≤ maxLen ∧ Nums w' w'.heap.size A n (mt a b 0) ∧ (∀ q o, A = some ⟨q, o, none⟩ → ¬ F' q) ∧ Pr w' T F' a b ∧ But F w w' ∧ ∀ k, F' k → F k ∨ w.heap.size ≤ k

end
end Go.Proofs.YticgjbckfpkpjaaGreat
/- Proved here: contracts of sync.Once's Do in a run of one goroutine, whatever function is handed to it (by that function's own contract): done already; the first time. -/
namespace Go.Proofs.YticgjbckfpkpjaaGreat
open Go.RowKit
set_option linter.unusedVariables false
set_option maxRecDepth 100000

theorem once_disable (w : World) : (callFunc 130 #[]).run Tryz.prog w = .ok (.value (.tuple #[])) w := run_call_mark0 Tryz.func130 (by kernel_rfl) (by kernel_rfl) (by kernel_rfl) .disable (by kernel_rfl) w
theorem once_enable (w : World) : (callFunc 132 #[]).run Tryz.prog w = .ok (.value (.tuple #[])) w := run_call_mark0 Tryz.func132 (by kernel_rfl) (by kernel_rfl) (by kernel_rfl) .enable (by kernel_rfl) w
theorem once_acquire (a : Addr) (w : World) : (callFunc 133 #[.pointer (some a)]).run Tryz.prog w = .ok (.value (.tuple #[])) w := run_call_marked Tryz.func133 (by kernel_rfl) (by kernel_rfl) (by kernel_rfl) .acquire (by kernel_rfl) a w
theorem once_release (a : Addr) (w : World) : (callFunc 135 #[.pointer (some a)]).run Tryz.prog w = .ok (.value (.tuple #[])) w := run_call_marked Tryz.func135 (by kernel_rfl) (by kernel_rfl) (by kernel_rfl) .releaseMerge (by kernel_rfl) a w

theorem store_deferred (a : Addr) (x : Value) (u : FrameMode) (w : World) (hc : w.cell? a = some x) (hz : w.frozen? a = false) :
    CallsD Tryz.prog 108 #[.pointer (some a), .bool true] u w fun e u' w' => u' = u ∧ (e = .returned (.tuple #[]) ∧ w' = w.drew.setCell a (.int .u32 1)) := by
  have hc' : w.drew.cell? a = some x := by go_simp
  have hz' : w.drew.frozen? a = false := by go_simp
  have hst := run_call_store (P := Tryz.prog) Tryz.func120 (by kernel_rfl) (by kernel_rfl) (by kernel_rfl) (by kernel_rfl) (k := .u32) (y := 1) hc' hz'
  go_enter_d Tryz.func108, Tryz.ntmps108
  go_wp2
  go_region_calls
  all_goals (go_end0; exact ⟨rfl, rfl⟩)

theorem unlock_deferred (a : Addr) (u : FrameMode) (w : World) (hc : w.cell? a = some (.int .i32 1)) (hz : w.frozen? a = false) :
    CallsD Tryz.prog 107 #[.pointer (some a)] u w fun e u' w' => u' = u ∧ (e = .returned (.tuple #[]) ∧ w' = w.setCell a (.int .i32 0)) := by
  have hd := once_disable
  have he := once_enable
  have hr := once_release
  have hadd := run_call_add (P := Tryz.prog) Tryz.func136 (by kernel_rfl) (by kernel_rfl) (by kernel_rfl) .i32 (by kernel_rfl) (y := -1) (s := 0) hc hz (by simp [go_sem]; rfl)
  have hcv := run_convert_to_unsafe (P := Tryz.prog) (src := 179) (dst := 183) Tryz.underlying179 Tryz.underlying183 (by kernel_rfl) hc
  go_enter_d Tryz.func107, Tryz.ntmps107
  go_wp2
  go_end0
  go_wp2
  go_end0
  exact ⟨rfl, rfl⟩

theorem lock_free (a : Addr) (w : World) (hc : w.cell? a = some (.int .i32 0)) (hz : w.frozen? a = false) :
    Calls Tryz.prog 106 #[.pointer (some a)] w fun e w' => e = .returned (.tuple #[]) ∧ w' = w.setCell a (.int .i32 1) := by
  have hd := once_disable
  have he := once_enable
  have ha := once_acquire
  have hcas := run_call_cas_hit (P := Tryz.prog) Tryz.func131 (by kernel_rfl) (by kernel_rfl) (by kernel_rfl) .i32 (by kernel_rfl) (y := 1) hc hz
  have hc' : (w.setCell a (.int .i32 1)).cell? a = some (.int .i32 1) := World.cell?_setCell_same w a _ hc
  have hcv := run_convert_to_unsafe (P := Tryz.prog) (src := 179) (dst := 183) Tryz.underlying179 Tryz.underlying183 (by kernel_rfl) hc'
  go_enter Tryz.func106, Tryz.ntmps106
  go_wp2
  first | go_end0 | (simp only [Exit.inBlock, Exit.then]; refine bodyPost_ret (results_none rfl _ _ _) rfl ?_) | refine bodyPost_ret (results_none rfl _ _ _) rfl ?_
  go_wp2
  go_end0
  exact ⟨rfl, rfl⟩

/-- Behind Do, the first time: the function has left a world of which Post holds; then 'done' was stored, and the lock let go. -/
def OnceEnd (b off : Nat) (Post : World → Prop) (e : Ending) (w' : World) : Prop :=
  e = .returned (.tuple #[]) ∧ ∃ w2, Post w2 ∧ w' = (w2.drew.setCell ⟨b, off, none⟩ (.int .u32 1)).setCell ⟨b, off + 1, none⟩ (.int .i32 0)

set_option maxRecDepth 100000 in
set_option maxHeartbeats 1600000 in
theorem slow_of (b off : Nat) (g : FuncId) (x : Value) (w : World) (Post : World → Prop)
    (h0 : w.cell? ⟨b, off, none⟩ = some (.int .u32 0)) (h1 : w.cell? ⟨b, off + 1, none⟩ = some (.int .i32 0)) (f0 : w.frozen? ⟨b, off, none⟩ = false) (f1 : w.frozen? ⟨b, off + 1, none⟩ = false)
    (hg : ∀ w : World, (callFunc g #[x]).run Tryz.prog w = .ok (.enter g #[x]) w)
    (hf : Calls Tryz.prog g #[x] (w.setCell ⟨b, off + 1, none⟩ (.int .i32 1)) fun e w' => e = .returned (.tuple #[]) ∧ Post w')
    (hp : ∀ w', Post w' → w'.cell? ⟨b, off, none⟩ = some (.int .u32 0) ∧ w'.cell? ⟨b, off + 1, none⟩ = some (.int .i32 1) ∧ w'.frozen? ⟨b, off, none⟩ = false ∧ w'.frozen? ⟨b, off + 1, none⟩ = false) :
    Calls Tryz.prog 92 #[.pointer (some ⟨b, off, none⟩), .func (.func g) #[x] #[]] w fun e w' => OnceEnd b off Post e w' := by
  have hl := run_call_load (P := Tryz.prog) Tryz.func105 (by kernel_rfl) (by kernel_rfl) (by kernel_rfl) .u32 (by kernel_rfl) (w := w.setCell ⟨b, off + 1, none⟩ (.int .i32 1)) (a := ⟨b, off, none⟩) (x := 0) ((World.cell?_setCell_other _ ⟨b, off + 1, none⟩ ⟨b, off, none⟩ _ (by simp)).trans h0)
  have hnot : ∀ (x : Bool) (w : World), (Op.unary .not (.bool x)).run Tryz.prog w = .ok (.bool (!x)) w := fun _ _ => rfl
  have hp' := Lib.hid hp
  have hf' := Lib.hid hf
  clear hp hf
  go_enter_defers Tryz.func92, Tryz.ntmps92
  go_wp2_with (first
    | (go_at_call 106; refine (lock_free ⟨b, off + 1, none⟩ _ (by go_simp) (by go_simp)).mono ?_; rintro e w' ⟨rfl, rfl⟩)
    | (go_at_call 91; go_in))
  refine hf'.out.mono ?_
  rintro e w2 ⟨rfl, hP⟩
  obtain ⟨q0, q1, z0, z1⟩ := hp'.out w2 hP
  have hP' := Lib.hid hP
  clear hP
  go_wp2
  refine leaves_cons (f := 108) (args := #[.pointer (some ⟨b, off, none⟩), .bool true]) (by simp) (by simp [go_sem]) ?_
  refine (store_deferred ⟨b, off, none⟩ (.int .u32 0) .returning _ q0 z0).mono ?_
  rintro e u' w'' ⟨rfl, rfl, rfl⟩
  refine leaves_cons (f := 107) (args := #[.pointer (some ⟨b, off + 1, none⟩)]) (by simp [settle]) (by simp [go_sem]) ?_
  refine (unlock_deferred ⟨b, off + 1, none⟩ _ _ ?_ ?_).mono ?_
  · exact (World.cell?_setCell_other _ ⟨b, off, none⟩ ⟨b, off + 1, none⟩ _ (by simp)).trans q1
  · exact (World.frozen?_setCell _ _ _ _).trans z1
  rintro e u' w'' ⟨rfl, rfl, rfl⟩
  have hend : OnceEnd b off Post (.returned (.tuple #[])) ((w2.drew.setCell ⟨b, off, none⟩ (.int .u32 1)).setCell ⟨b, off + 1, none⟩ (.int .i32 0)) := ⟨rfl, w2, hP'.out, rfl⟩
  simpa [Go.Leaves, settle, results, Tryz.results92] using hend

set_option maxRecDepth 100000 in
set_option maxHeartbeats 1600000 in
/-- Do, the first time, the lock free: whatever function 'g' with the one bound value x (a method value) is handed in. -/
theorem do_first (b off : Nat) (g : FuncId) (x : Value) (w : World) (Post : World → Prop)
    (h0 : w.cell? ⟨b, off, none⟩ = some (.int .u32 0)) (h1 : w.cell? ⟨b, off + 1, none⟩ = some (.int .i32 0)) (f0 : w.frozen? ⟨b, off, none⟩ = false) (f1 : w.frozen? ⟨b, off + 1, none⟩ = false)
    (hg : ∀ w : World, (callFunc g #[x]).run Tryz.prog w = .ok (.enter g #[x]) w)
    (hf : Calls Tryz.prog g #[x] (w.setCell ⟨b, off + 1, none⟩ (.int .i32 1)) fun e w' => e = .returned (.tuple #[]) ∧ Post w')
    (hp : ∀ w', Post w' → w'.cell? ⟨b, off, none⟩ = some (.int .u32 0) ∧ w'.cell? ⟨b, off + 1, none⟩ = some (.int .i32 1) ∧ w'.frozen? ⟨b, off, none⟩ = false ∧ w'.frozen? ⟨b, off + 1, none⟩ = false) :
    Calls Tryz.prog 57 #[.pointer (some ⟨b, off, none⟩), .func (.func g) #[x] #[]] w fun e w' => OnceEnd b off Post e w' := by
  have hs := Lib.hid (slow_of b off g x w Post h0 h1 f0 f1 hg hf hp)
  have hl := run_call_load (P := Tryz.prog) Tryz.func105 (by kernel_rfl) (by kernel_rfl) (by kernel_rfl) .u32 (by kernel_rfl) h0
  have hnot : ∀ (x : Bool) (w : World), (Op.unary .not (.bool x)).run Tryz.prog w = .ok (.bool (!x)) w := fun _ _ => rfl
  clear hf hp hg
  go_enter Tryz.func57, Tryz.ntmps57
  go_wp2_with (first
    | (go_at_call 92; refine hs.out.mono ?_; rintro e w' ⟨rfl, w2, hP, hw⟩; have hend : OnceEnd b off Post (.returned (.tuple #[])) w' := ⟨rfl, w2, hP, hw⟩; have hend' := Lib.hid hend; clear hend hP hw)
    | (go_at_call 91; go_in))
  go_end0
  exact hend'.out

set_option maxRecDepth 100000 in
set_option maxHeartbeats 1600000 in
theorem slow_ofC (b off : Nat) (g : FuncId) (x : Value) (w : World) (Post : World → Prop)
    (h0 : w.cell? ⟨b, off, none⟩ = some (.int .u32 0)) (h1 : w.cell? ⟨b, off + 1, none⟩ = some (.int .i32 0)) (f0 : w.frozen? ⟨b, off, none⟩ = false) (f1 : w.frozen? ⟨b, off + 1, none⟩ = false)
    (hg : ∀ w : World, (callFunc g #[x]).run Tryz.prog w = .ok (.enter g #[x]) w)
    (hf : Calls Tryz.prog g #[x] (w.setCell ⟨b, off + 1, none⟩ (.int .i32 1)) fun e w' => e = .returned (.tuple #[]) ∧ Post w')
    (hp : ∀ w', Post w' → w'.cell? ⟨b, off, none⟩ = some (.int .u32 0) ∧ w'.cell? ⟨b, off + 1, none⟩ = some (.int .i32 1) ∧ w'.frozen? ⟨b, off, none⟩ = false ∧ w'.frozen? ⟨b, off + 1, none⟩ = false) :
    Calls Tryz.prog 92 #[.pointer (some ⟨b, off, none⟩), .func (.func g) #[] #[x]] w fun e w' => OnceEnd b off Post e w' := by
  have hl := run_call_load (P := Tryz.prog) Tryz.func105 (by kernel_rfl) (by kernel_rfl) (by kernel_rfl) .u32 (by kernel_rfl) (w := w.setCell ⟨b, off + 1, none⟩ (.int .i32 1)) (a := ⟨b, off, none⟩) (x := 0) ((World.cell?_setCell_other _ ⟨b, off + 1, none⟩ ⟨b, off, none⟩ _ (by simp)).trans h0)
  have hnot : ∀ (x : Bool) (w : World), (Op.unary .not (.bool x)).run Tryz.prog w = .ok (.bool (!x)) w := fun _ _ => rfl
  have hp' := Lib.hid hp
  have hf' := Lib.hid hf
  clear hp hf
  go_enter_defers Tryz.func92, Tryz.ntmps92
  go_wp2_with (first
    | (go_at_call 106; refine (lock_free ⟨b, off + 1, none⟩ _ (by go_simp) (by go_simp)).mono ?_; rintro e w' ⟨rfl, rfl⟩)
    | (go_at_call 91; go_in))
  refine hf'.out.mono ?_
  rintro e w2 ⟨rfl, hP⟩
  obtain ⟨q0, q1, z0, z1⟩ := hp'.out w2 hP
  have hP' := Lib.hid hP
  clear hP
  go_wp2
  refine leaves_cons (f := 108) (args := #[.pointer (some ⟨b, off, none⟩), .bool true]) (by simp) (by simp [go_sem]) ?_
  refine (store_deferred ⟨b, off, none⟩ (.int .u32 0) .returning _ q0 z0).mono ?_
  rintro e u' w'' ⟨rfl, rfl, rfl⟩
  refine leaves_cons (f := 107) (args := #[.pointer (some ⟨b, off + 1, none⟩)]) (by simp [settle]) (by simp [go_sem]) ?_
  refine (unlock_deferred ⟨b, off + 1, none⟩ _ _ ?_ ?_).mono ?_
  · exact (World.cell?_setCell_other _ ⟨b, off, none⟩ ⟨b, off + 1, none⟩ _ (by simp)).trans q1
  · exact (World.frozen?_setCell _ _ _ _).trans z1
  rintro e u' w'' ⟨rfl, rfl, rfl⟩
  have hend : OnceEnd b off Post (.returned (.tuple #[])) ((w2.drew.setCell ⟨b, off, none⟩ (.int .u32 1)).setCell ⟨b, off + 1, none⟩ (.int .i32 0)) := ⟨rfl, w2, hP'.out, rfl⟩
  simpa [Go.Leaves, settle, results, Tryz.results92] using hend

set_option maxRecDepth 100000 in
set_option maxHeartbeats 1600000 in
/-- Do, the first time, the lock free: whatever function 'g' with the one bound value x (a closure that has captured x) is handed in. -/
theorem do_firstC (b off : Nat) (g : FuncId) (x : Value) (w : World) (Post : World → Prop)
    (h0 : w.cell? ⟨b, off, none⟩ = some (.int .u32 0)) (h1 : w.cell? ⟨b, off + 1, none⟩ = some (.int .i32 0)) (f0 : w.frozen? ⟨b, off, none⟩ = false) (f1 : w.frozen? ⟨b, off + 1, none⟩ = false)
    (hg : ∀ w : World, (callFunc g #[x]).run Tryz.prog w = .ok (.enter g #[x]) w)
    (hf : Calls Tryz.prog g #[x] (w.setCell ⟨b, off + 1, none⟩ (.int .i32 1)) fun e w' => e = .returned (.tuple #[]) ∧ Post w')
    (hp : ∀ w', Post w' → w'.cell? ⟨b, off, none⟩ = some (.int .u32 0) ∧ w'.cell? ⟨b, off + 1, none⟩ = some (.int .i32 1) ∧ w'.frozen? ⟨b, off, none⟩ = false ∧ w'.frozen? ⟨b, off + 1, none⟩ = false) :
    Calls Tryz.prog 57 #[.pointer (some ⟨b, off, none⟩), .func (.func g) #[] #[x]] w fun e w' => OnceEnd b off Post e w' := by
  have hs := Lib.hid (slow_ofC b off g x w Post h0 h1 f0 f1 hg hf hp)
  have hl := run_call_load (P := Tryz.prog) Tryz.func105 (by kernel_rfl) (by kernel_rfl) (by kernel_rfl) .u32 (by kernel_rfl) h0
  have hnot : ∀ (x : Bool) (w : World), (Op.unary .not (.bool x)).run Tryz.prog w = .ok (.bool (!x)) w := fun _ _ => rfl
  clear hf hp hg
  go_enter Tryz.func57, Tryz.ntmps57
  go_wp2_with (first
    | (go_at_call 92; refine hs.out.mono ?_; rintro e w' ⟨rfl, w2, hP, hw⟩; have hend : OnceEnd b off Post (.returned (.tuple #[])) w' := ⟨rfl, w2, hP, hw⟩; have hend' := Lib.hid hend; clear hend hP hw)
    | (go_at_call 91; go_in))
  go_end0
  exact hend'.out

set_option maxHeartbeats 400000 in
/-- Do, done already: nothing is called. -/
theorem do_done (a : Addr) (d : Int) (hd : ¬ d = 0) (fv : Value) (w : World) (h0 : w.cell? a = some (.int .u32 d)) :
    Calls Tryz.prog 57 #[.pointer (some a), fv] w fun e w' => e = .returned (.tuple #[]) ∧ w' = w := by
  have hl := run_call_load (P := Tryz.prog) Tryz.func105 (by kernel_rfl) (by kernel_rfl) (by kernel_rfl) .u32 (by kernel_rfl) h0
  have hnot : ∀ (x : Bool) (w : World), (Op.unary .not (.bool x)).run Tryz.prog w = .ok (.bool (!x)) w := fun _ _ => rfl
  have hd' : (d != 0) = true := by simp [hd]
  go_enter Tryz.func57, Tryz.ntmps57
  go_wp2
  go_end0
  exact ⟨rfl, rfl⟩
end Go.Proofs.YticgjbckfpkpjaaGreat

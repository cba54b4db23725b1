/- Proved here: texts joined: LcsMeas. -/
import Derived.Test.YtoopdgohdeddoaaGreatDoorBs31
import Derived.Deep.RegionWith
import Derived.Deep.CutRange
import Derived.Deep.DeepCutAuto
import Derived.Outline
/- Proved here: the contract of package lcs' measure: how many are paired, and what is skipped. -/
namespace Go.Proofs.YtoopdgohdeddoaaGreatDoor
open Go.RowKit
set_option linter.unusedVariables false

theorem infoBools : (Tryz.prog.info? 157).map (fun i => (i.zero, i.size, i.bytes)) = some (some (.slice none 0 0), 1, 24) := by kernel_rfl

/-- Which of both rows a place's row is. -/
def par (i R0 R1 : Nat) : Nat := if i % 2 = 0 then R0 else R1
theorem par_ne {i R0 R1 : Nat} (h : R0 ≠ R1) : par i R0 R1 ≠ par (i + 1) R0 R1 := by
  unfold par
  rcases Nat.mod_two_eq_zero_or_one i with h0 | h0
  · rw [if_pos h0, if_neg (by omega)]; exact h
  · rw [if_neg (by omega), if_pos (by omega)]; exact fun e => h e.symm
theorem par_two (i R0 R1 : Nat) : par (i + 2) R0 R1 = par i R0 R1 := by unfold par; rw [Nat.add_mod_right]
theorem par_or (i R0 R1 : Nat) : par i R0 R1 = R0 ∨ par i R0 R1 = R1 := by unfold par; split <;> simp

/-- The reckoning, as far as it has come: from row I on. -/
structure MeasIn (w wr : World) (D R0 R1 T S n n' I : Nat) (a b : List Int) : Prop where
  r0 : w.heap.size ≤ R0 ∧ R0 < D
  r1 : w.heap.size ≤ R1 ∧ R1 < D
  t : w.heap.size ≤ T ∧ T < D
  s : w.heap.size ≤ S ∧ S < D
  apart : R0 ≠ R1 ∧ R0 ≠ T ∧ R1 ≠ T ∧ R0 ≠ S ∧ R1 ≠ S ∧ T ≠ S
  size : D ≤ wr.heap.size
  arr : wr.heap[T]? = some (.cells #[.slice (some ⟨R0, 0, none⟩) (n' + 1) (n' + 1), .slice (some ⟨R1, 0, none⟩) (n' + 1) (n' + 1)] 156 (0, 0))
  row : wr.rowIs (par I R0 R1) 3 (n' + 1) (fun t => .int .i64 (lcsAt a b I t))
  other : ∃ g : Nat → Int, wr.rowIs (par (I + 1) R0 R1) 3 (n' + 1) (fun t => .int .i64 (g t)) ∧ g n' = 0
  skips : ∃ f, wr.rowIs S 157 n f ∧ ∀ k, I ≤ k → k < n → ∃ g, f k = .slice (some ⟨g, 0, none⟩) n' n' ∧ D ≤ g ∧ wr.rowIs g 4 n' (fun t => .bool (skipAt a b k t))
  below : Below w.heap.size w wr

section
variable {w wr w1 : World} {D R0 R1 T S n n' I r : Nat} {a b : List Int}
theorem MeasIn.drew (h : MeasIn w wr D R0 R1 T S n n' I a b) : MeasIn w wr.drew D R0 R1 T S n n' I a b :=
  ⟨h.r0, h.r1, h.t, h.s, h.apart, h.size, h.arr, h.row, h.other, h.skips, ⟨h.below.os, h.below.tape, h.below.output, h.below.size, h.below.block⟩⟩
theorem MeasIn.par_lt (h : MeasIn w wr D R0 R1 T S n n' I a b) (k : Nat) : w.heap.size ≤ par k R0 R1 ∧ par k R0 R1 < D ∧ par k R0 R1 ≠ T ∧ par k R0 R1 ≠ S := by
  have h0 := h.r0
  have h1 := h.r1
  obtain ⟨h2, h3, h4, h5, h6, h7⟩ := h.apart
  rcases par_or k R0 R1 with e | e <;> rw [e]
  · exact ⟨h0.1, h0.2, h3, h5⟩
  · exact ⟨h1.1, h1.2, h4, h6⟩
theorem MeasIn.step (hlb : b.length = n') (h : MeasIn w wr D R0 R1 T S n n' (r + 1) a b) (hr : r < n)
    (h1 : w1.rowIs (par r R0 R1) 3 (n' + 1) (fun t => .int .i64 (lcsAt a b r t))) (h2 : w1.rowIs wr.heap.size 4 n' (fun t => .bool (skipAt a b r t))) (h3 : But (fun k => k = par r R0 R1) wr w1) :
    MeasIn w (w1.setCell ⟨S, r, none⟩ (.slice (some ⟨wr.heap.size, 0, none⟩) n' n')) D R0 R1 T S n n' r a b := by
  obtain ⟨p1, p2, p3, p4⟩ := h.par_lt r
  obtain ⟨q1, q2, q3, q4⟩ := h.par_lt (r + 1)
  obtain ⟨a1, a2, a3, a4, a5, a6⟩ := h.apart
  have hne := par_ne (i := r) a1
  have hD := h.size
  have hs := h.s
  have ht := h.t
  obtain ⟨f, hf, hk⟩ := h.skips
  have hb1 : w1.heap[S]? = wr.heap[S]? := h3.block S (by omega) (fun e => p4 e.symm)
  have hsz : (w1.setCell ⟨S, r, none⟩ (.slice (some ⟨wr.heap.size, 0, none⟩) n' n')).heap.size = w1.heap.size := by simp [World.setCell]
  refine ⟨h.r0, h.r1, h.t, h.s, h.apart, by rw [hsz]; have := h3.size; omega, ?_, h1.setOther (a := ⟨S, r, none⟩) p4 _, ⟨fun t => lcsAt a b (r + 1) t, ?_, ?_⟩, ⟨_, (hf.of_block hb1).set r _, fun k hrk hkn => ?_⟩, ?_⟩
  · rw [Below.heap_setCell _ _ _ _ (fun e : T = S => a6 e), h3.block T (by omega) (fun e => p3 e.symm)]; exact h.arr
  · exact (h.row.of_block (h3.block _ (by omega) (fun e => hne e.symm))).setOther (a := ⟨S, r, none⟩) q4 _
  · show (lcsAt a b (r + 1) n' : Int) = 0
    rw [lcsAt_end_right (by omega)]; rfl
  · by_cases e : k = r
    · subst e
      exact ⟨wr.heap.size, by simp, hD, h2.setOther (a := ⟨S, k, none⟩) (by show wr.heap.size ≠ S; omega) _⟩
    · obtain ⟨g, hg1, hg2, hg3⟩ := hk k (by omega) hkn
      have hg4 := hg3.lt
      exact ⟨g, by simp [e, hg1], hg2, (hg3.of_block (h3.block g hg4 (by omega))).setOther (a := ⟨S, r, none⟩) (by show g ≠ S; omega) _⟩
  · have hb := h.below
    have hbb : Below w.heap.size w w1 := ⟨h3.os.trans hb.os, h3.tape.trans hb.tape, h3.output.trans hb.output, Nat.le_trans hb.size h3.size, fun k hk => (h3.block k (by have := hb.size; omega) (by omega)).trans (hb.block k hk)⟩
    exact hbb.setCell (by show w.heap.size ≤ S; omega) _
theorem MeasIn.done (h : MeasIn w wr D R0 R1 T S n n' 0 a b) : Skips wr (some ⟨S, 0, none⟩) n n' a b := by
  intro i j hi hj
  obtain ⟨f, hf, hk⟩ := h.skips
  obtain ⟨g, hg1, hg2, hg3⟩ := hk i (Nat.zero_le _) hi
  exact ⟨S, 0, g, 0, n', n', rfl, hf.lt, hg3.lt, Nat.le_refl _, by rw [Nat.zero_add, hf.cell hi, hg1], by rw [Nat.zero_add, hg3.cell hj]⟩
end

/-- Both rows, and the array that holds them, are laid. -/
structure Rows0 (w wx : World) (R0 R1 T n' : Nat) : Prop where
  size : wx.heap.size = w.heap.size + 3
  lies : w.heap.size ≤ R0 ∧ R0 < w.heap.size + 3 ∧ w.heap.size ≤ R1 ∧ R1 < w.heap.size + 3 ∧ w.heap.size ≤ T ∧ T < w.heap.size + 3 ∧ R0 ≠ R1 ∧ R0 ≠ T ∧ R1 ≠ T
  row0 : wx.heap[R0]? = some (.cells (madeCells #[.int .i64 0] (n' + 1)) 3 (0, 0))
  row1 : wx.heap[R1]? = some (.cells (madeCells #[.int .i64 0] (n' + 1)) 3 (0, 0))
  arr : wx.heap[T]? = some (.cells #[.slice (some ⟨R0, 0, none⟩) (n' + 1) (n' + 1), .slice (some ⟨R1, 0, none⟩) (n' + 1) (n' + 1)] 156 (0, 0))
  below : Below w.heap.size w wx
theorem World.size_alloc (w : World) (o : Obj) : (w.alloc o).heap.size = w.heap.size + 1 := by simp
theorem three (w : World) (o1 o2 o3 : Obj) : (((w.alloc o1).alloc o2).alloc o3).drew.heap.size = w.heap.size + 3 ∧ (((w.alloc o1).alloc o2).alloc o3).drew.heap[w.heap.size]? = some o1 ∧ (((w.alloc o1).alloc o2).alloc o3).drew.heap[w.heap.size + 1]? = some o2 ∧ (((w.alloc o1).alloc o2).alloc o3).drew.heap[w.heap.size + 1 + 1]? = some o3 ∧ Below w.heap.size w (((w.alloc o1).alloc o2).alloc o3).drew := by
  have hb := (((Below.refl w.heap.size w).alloc (Nat.le_refl _) o1).alloc (by simp) o2).alloc (by simp; omega) o3
  refine ⟨by simp, ?_, ?_, ?_, ⟨hb.os, hb.tape, hb.output, hb.size, hb.block⟩⟩
  · show (((w.alloc o1).alloc o2).alloc o3).heap[w.heap.size]? = some o1
    rw [Below.heap_alloc _ _ _ (by simp; omega), Below.heap_alloc _ _ _ (by simp)]; exact Go.Deep.blk_alloc_new _ _
  · show (((w.alloc o1).alloc o2).alloc o3).heap[w.heap.size + 1]? = some o2
    rw [Below.heap_alloc _ _ _ (by simp)]; have := Go.Deep.blk_alloc_new (w.alloc o1) o2; rw [World.size_alloc] at this; exact this
  · show (((w.alloc o1).alloc o2).alloc o3).heap[w.heap.size + 1 + 1]? = some o3
    have := Go.Deep.blk_alloc_new ((w.alloc o1).alloc o2) o3; rw [World.size_alloc, World.size_alloc] at this; exact this
theorem rows0_a (w : World) (n' : Nat) : Rows0 w (((w.alloc (.cells (madeCells #[.int .i64 0] (n' + 1)) 3)).alloc (.cells (madeCells #[.int .i64 0] (n' + 1)) 3)).alloc (.cells #[.slice (some ⟨w.heap.size, 0, none⟩) (n' + 1) (n' + 1), .slice (some ⟨w.heap.size + 1, 0, none⟩) (n' + 1) (n' + 1)] 156)).drew (w.heap.size) (w.heap.size + 1) (w.heap.size + 1 + 1) n' := by
  have h := three w (.cells (madeCells #[.int .i64 0] (n' + 1)) 3) (.cells (madeCells #[.int .i64 0] (n' + 1)) 3) (.cells #[.slice (some ⟨w.heap.size, 0, none⟩) (n' + 1) (n' + 1), .slice (some ⟨w.heap.size + 1, 0, none⟩) (n' + 1) (n' + 1)] 156)
  exact ⟨h.1, by omega, h.2.1, h.2.2.1, h.2.2.2.1, h.2.2.2.2⟩
theorem rows0_b (w : World) (n' : Nat) : Rows0 w (((w.alloc (.cells (madeCells #[.int .i64 0] (n' + 1)) 3)).alloc (.cells #[.slice (some ⟨w.heap.size, 0, none⟩) (n' + 1) (n' + 1), .slice (some ⟨w.heap.size + 1 + 1, 0, none⟩) (n' + 1) (n' + 1)] 156)).alloc (.cells (madeCells #[.int .i64 0] (n' + 1)) 3)).drew (w.heap.size) (w.heap.size + 1 + 1) (w.heap.size + 1) n' := by
  have h := three w (.cells (madeCells #[.int .i64 0] (n' + 1)) 3) (.cells #[.slice (some ⟨w.heap.size, 0, none⟩) (n' + 1) (n' + 1), .slice (some ⟨w.heap.size + 1 + 1, 0, none⟩) (n' + 1) (n' + 1)] 156) (.cells (madeCells #[.int .i64 0] (n' + 1)) 3)
  exact ⟨h.1, by omega, h.2.1, h.2.2.2.1, h.2.2.1, h.2.2.2.2⟩
theorem rows0_c (w : World) (n' : Nat) : Rows0 w (((w.alloc (.cells (madeCells #[.int .i64 0] (n' + 1)) 3)).alloc (.cells (madeCells #[.int .i64 0] (n' + 1)) 3)).alloc (.cells #[.slice (some ⟨w.heap.size + 1, 0, none⟩) (n' + 1) (n' + 1), .slice (some ⟨w.heap.size, 0, none⟩) (n' + 1) (n' + 1)] 156)).drew (w.heap.size + 1) (w.heap.size) (w.heap.size + 1 + 1) n' := by
  have h := three w (.cells (madeCells #[.int .i64 0] (n' + 1)) 3) (.cells (madeCells #[.int .i64 0] (n' + 1)) 3) (.cells #[.slice (some ⟨w.heap.size + 1, 0, none⟩) (n' + 1) (n' + 1), .slice (some ⟨w.heap.size, 0, none⟩) (n' + 1) (n' + 1)] 156)
  exact ⟨h.1, by omega, h.2.2.1, h.2.1, h.2.2.2.1, h.2.2.2.2⟩
theorem rows0_d (w : World) (n' : Nat) : Rows0 w (((w.alloc (.cells #[.slice (some ⟨w.heap.size + 1, 0, none⟩) (n' + 1) (n' + 1), .slice (some ⟨w.heap.size + 1 + 1, 0, none⟩) (n' + 1) (n' + 1)] 156)).alloc (.cells (madeCells #[.int .i64 0] (n' + 1)) 3)).alloc (.cells (madeCells #[.int .i64 0] (n' + 1)) 3)).drew (w.heap.size + 1) (w.heap.size + 1 + 1) (w.heap.size) n' := by
  have h := three w (.cells #[.slice (some ⟨w.heap.size + 1, 0, none⟩) (n' + 1) (n' + 1), .slice (some ⟨w.heap.size + 1 + 1, 0, none⟩) (n' + 1) (n' + 1)] 156) (.cells (madeCells #[.int .i64 0] (n' + 1)) 3) (.cells (madeCells #[.int .i64 0] (n' + 1)) 3)
  exact ⟨h.1, by omega, h.2.2.1, h.2.2.2.1, h.2.1, h.2.2.2.2⟩
theorem rows0_e (w : World) (n' : Nat) : Rows0 w (((w.alloc (.cells (madeCells #[.int .i64 0] (n' + 1)) 3)).alloc (.cells #[.slice (some ⟨w.heap.size + 1 + 1, 0, none⟩) (n' + 1) (n' + 1), .slice (some ⟨w.heap.size, 0, none⟩) (n' + 1) (n' + 1)] 156)).alloc (.cells (madeCells #[.int .i64 0] (n' + 1)) 3)).drew (w.heap.size + 1 + 1) (w.heap.size) (w.heap.size + 1) n' := by
  have h := three w (.cells (madeCells #[.int .i64 0] (n' + 1)) 3) (.cells #[.slice (some ⟨w.heap.size + 1 + 1, 0, none⟩) (n' + 1) (n' + 1), .slice (some ⟨w.heap.size, 0, none⟩) (n' + 1) (n' + 1)] 156) (.cells (madeCells #[.int .i64 0] (n' + 1)) 3)
  exact ⟨h.1, by omega, h.2.2.2.1, h.2.1, h.2.2.1, h.2.2.2.2⟩
theorem rows0_f (w : World) (n' : Nat) : Rows0 w (((w.alloc (.cells #[.slice (some ⟨w.heap.size + 1 + 1, 0, none⟩) (n' + 1) (n' + 1), .slice (some ⟨w.heap.size + 1, 0, none⟩) (n' + 1) (n' + 1)] 156)).alloc (.cells (madeCells #[.int .i64 0] (n' + 1)) 3)).alloc (.cells (madeCells #[.int .i64 0] (n' + 1)) 3)).drew (w.heap.size + 1 + 1) (w.heap.size + 1) (w.heap.size) n' := by
  have h := three w (.cells #[.slice (some ⟨w.heap.size + 1 + 1, 0, none⟩) (n' + 1) (n' + 1), .slice (some ⟨w.heap.size + 1, 0, none⟩) (n' + 1) (n' + 1)] 156) (.cells (madeCells #[.int .i64 0] (n' + 1)) 3) (.cells (madeCells #[.int .i64 0] (n' + 1)) 3)
  exact ⟨h.1, by omega, h.2.2.2.1, h.2.2.1, h.2.1, h.2.2.2.2⟩
theorem row_made {w : World} {R n : Nat} {t : TypeId} {z : Value} (h : w.heap[R]? = some (.cells (madeCells #[z] n) t (0, 0))) : w.rowIs R t n (fun _ => z) :=
  ⟨_, h, size_madeCells _ _, fun i hi => by simp [madeCells, hi, Nat.mod_one]⟩
theorem Rows0.start {w wx : World} {R0 R1 T n n' : Nat} {a b : List Int} (h : Rows0 w wx R0 R1 T n') (hla : a.length = n) :
    MeasIn w (wx.alloc (.cells (madeCells #[.slice none 0 0] n) 157)) (w.heap.size + 4) R0 R1 T wx.heap.size n n' n a b := by
  obtain ⟨l1, l2, l3, l4, l5, l6, l7, l8, l9⟩ := h.lies
  have hs := h.size
  have hsz : (wx.alloc (.cells (madeCells #[.slice none 0 0] n) 157)).heap.size = w.heap.size + 4 := by simp [hs]
  have h0 := (row_made h.row0).alloc (.cells (madeCells #[.slice none 0 0] n) 157)
  have h1 := (row_made h.row1).alloc (.cells (madeCells #[.slice none 0 0] n) 157)
  have hp : ∀ k, (wx.alloc (.cells (madeCells #[.slice none 0 0] n) 157)).rowIs (par k R0 R1) 3 (n' + 1) (fun _ => .int .i64 0) := fun k => by
    rcases par_or k R0 R1 with e | e <;> rw [e]
    · exact h0
    · exact h1
  refine ⟨⟨l1, by omega⟩, ⟨l3, by omega⟩, ⟨l5, by omega⟩, ⟨by omega, by omega⟩, ⟨l7, l8, l9, by omega, by omega, by omega⟩, by omega, ?_, (hp n).congr fun t _ => ?_, ⟨fun _ => 0, hp (n + 1), rfl⟩, ⟨_, World.rowIs_made wx (.slice none 0 0) n 157, fun k h1 h2 => by omega⟩, h.below.alloc (by omega) _⟩
  · rw [Below.heap_alloc _ _ _ (by omega)]; exact h.arr
  · rw [lcsAt_end_left (by omega)]; rfl

/-- What measure leaves. -/
def MeasOut (w w' : World) (e : Ending) (n n' : Nat) (a b : List Int) : Prop :=
  ∃ S, e = .returned (.tuple #[.int .i64 (lcsL a b), .slice (some ⟨S, 0, none⟩) n n]) ∧ Skips w' (some ⟨S, 0, none⟩) n n' a b ∧ Below w.heap.size w w'

set_option maxRecDepth 100000 in
set_option maxHeartbeats 2000000 in
theorem meas_any (A A' : Option Addr) (n n' c c' B B' : Nat) (a b : List Int) (w : World) (hn : n ≤ 2000) (hn' : n' ≤ 2000) (hA : Nums w B A n a) (hA' : Nums w B' A' n' b) (hB : B ≤ w.heap.size) (hB' : B' ≤ w.heap.size) :
    Calls Tryz.prog 98 #[.slice A n c, .slice A' n' c'] w fun e w' => MeasOut w w' e n n' a b := by
  have hl := hA.len
  have hl' := hA'.len
  have hmk1 : ∀ w : World, (Instr.makeSlice 75 (.int .i64 ((n' : Int) + 1)) (.int .i64 ((n' : Int) + 1))).run Tryz.prog w = .ok (.slice (some ⟨w.heap.size, 0, none⟩) (n' + 1) (n' + 1)) (w.alloc (.cells (madeCells #[.int .i64 0] (n' + 1)) 3)) := fun w => by
    have := run_make_row' (P := Tryz.prog) 75 3 (.int .i64 0) 8 Tryz.underlying75 infoInt rfl .i64 .i64 (n' + 1) (by omega) (by omega) w
    push_cast at this
    exact this
  have hmk2 := run_make_row' (P := Tryz.prog) 142 157 (.slice none 0 0) 24 Tryz.underlying142 infoBools rfl .i64 .i64 n (by omega) (by omega)
  have e1 : IntKind.i64.wrap ((n' : Int) + 1) = (n' : Int) + 1 := IntWalk.i64_in _ (by omega)
  go_enter Tryz.func98, Tryz.ntmps98
  go_upto_region 1 with fail
  go_cut [6] (fun s6 wx => ∃ R0 R1 T, s6 = .pointer (some ⟨T, 0, none⟩) ∧ Rows0 w wx R0 R1 T n')
  case first =>
    go_region
    all_goals (go_wp2_with fail; go_meet; first | exact ⟨_, _, _, rfl, rows0_a w n'⟩ | exact ⟨_, _, _, rfl, rows0_b w n'⟩ | exact ⟨_, _, _, rfl, rows0_c w n'⟩ | exact ⟨_, _, _, rfl, rows0_d w n'⟩ | exact ⟨_, _, _, rfl, rows0_e w n'⟩ | exact ⟨_, _, _, rfl, rows0_f w n'⟩)
  case rest =>
  obtain ⟨R0, R1, T, rfl, hR0⟩ := hcut
  have hst := hR0.start (n := n) (a := a) (b := b) hl
  have hst' := Lib.hid hst
  have hsz := hR0.size
  have hts := hst.t
  clear hst hR0 hmk1 e1
  go_wp2
  rw [hsz] at hst'
  go_loopw [8] (fun si wr => ∃ I : Nat, I ≤ n ∧ si = .int .i64 ((I : Int) - 1) ∧ Hid (MeasIn w wr (w.heap.size + 4) R0 R1 T (w.heap.size + 3) n n' I a b)) (fun si _ => (intOf si + 1).toNat)
  case atStart => exact ⟨n, Nat.le_refl _, rfl, hst'⟩
  case round =>
    obtain ⟨I, hI, rfl, hM⟩ := hrel
    obtain ⟨wo, rfl⟩ : ∃ wo : World, wo = wr := ⟨_, rfl⟩
    clear hst'
    rcases I with _ | r
    · have hc0 : wo.cell? ⟨T, 0, none⟩ = some (.slice (some ⟨R0, 0, none⟩) (n' + 1) (n' + 1)) := by rw [cells_of hM.out.arr]; rfl
      have hc1 : wo.cell? ⟨R0, 0, none⟩ = some (.int .i64 (lcsL a b)) := hM.out.row.cell (i := 0) (by omega)
      have i1 : (0 : Int) < (n' : Int) + 1 := by omega
      have hd := Lib.hid hM.out.done
      have hb := Lib.hid hM.out.below
      go_wp2
      go_ret2
      exact ⟨_, rfl, hd.out, hb.out⟩
    · have hr : r < n := by omega
      have hir : (((r + 1 : Nat) : Int) - 1) = (r : Int) := by omega
      rw [hir]
      clear hir
      obtain ⟨ba, oa, x, rfl, hba, hx, hxa⟩ := hA.at_ (k := r) hr
      have hBe := hM.out.below
      have cx : wo.cell? ⟨ba, oa + r, none⟩ = some (.int .i64 x) := (hBe.cell (p := ⟨ba, oa + r, none⟩) (by show ba < _; omega)).trans hxa
      obtain ⟨P, hP⟩ : ∃ P, P = par r R0 R1 := ⟨_, rfl⟩
      obtain ⟨Q, hQ⟩ : ∃ Q, Q = par (r + 1) R0 R1 := ⟨_, rfl⟩
      have hrow := hM.out.row
      obtain ⟨g, hoth, hg⟩ := hM.out.other
      rw [par_two] at hoth
      obtain ⟨p1, p2, p3, p4⟩ := hM.out.par_lt r
      have hne := par_ne (i := r) hM.out.apart.1
      have hstep := fun w1 => hM.out.step (w1 := w1) hl' hr
      rw [← hQ] at hrow hne
      rw [← hP] at hoth p1 p2 p3 p4 hne hstep
      have hB2 := Lib.hid (fun wz (hz : wz.heap = wo.heap) => (show wz.rowIs P 3 (n' + 1) (fun t => .int .i64 (g t)) ∧ wz.rowIs Q 3 (n' + 1) (fun t => .int .i64 (lcsAt a b (r + 1) t)) ∧ Nums wz w.heap.size A' n' b from
        ⟨hoth.of_block (by rw [hz]), hrow.of_block (by rw [hz]), Reads.keep ((hA'.more hB').below hBe) fun p _ => by simp [World.cell?, hz]⟩))
      obtain ⟨p, hp⟩ : ∃ p, p = r % 2 := ⟨_, rfl⟩
      obtain ⟨q, hq⟩ : ∃ q, q = (r + 1) % 2 := ⟨_, rfl⟩
      have ct1 : wo.cell? ⟨T, p, none⟩ = some (.slice (some ⟨P, 0, none⟩) (n' + 1) (n' + 1)) := by
        rw [cells_of hM.out.arr, hp, hP]; unfold par
        rcases Nat.mod_two_eq_zero_or_one r with h0 | h0 <;> simp [h0]
      have ct2 : wo.cell? ⟨T, q, none⟩ = some (.slice (some ⟨Q, 0, none⟩) (n' + 1) (n' + 1)) := by
        rw [cells_of hM.out.arr, hq, hQ]; unfold par
        rcases Nat.mod_two_eq_zero_or_one (r + 1) with h0 | h0 <;> simp [h0]
      have m1 : (r : Int).tmod 2 = (p : Int) := by rw [Int.tmod_eq_emod_of_nonneg (by omega), hp]; omega
      have m2 : ((r : Int) + 1).tmod 2 = (q : Int) := by rw [Int.tmod_eq_emod_of_nonneg (by omega), hq]; omega
      have e2 : IntKind.i64.wrap ((r : Int) + 1) = (r : Int) + 1 := IntWalk.i64_in _ (by omega)
      have j1 : (0 : Int) ≤ (p : Int) := by omega
      have j2 : (p : Int) < 2 := by omega
      have j3 : (0 : Int) ≤ (q : Int) := by omega
      have j4 : (q : Int) < 2 := by omega
      have j5 : (0 : Int) ≤ (r : Int) := by omega
      have j6 : (r : Int) < (n : Int) := by omega
      obtain ⟨f, hf, _⟩ := hM.out.skips
      have fs := hf.frozen r
      obtain ⟨u0, cu0⟩ : ∃ u, wo.cell? ⟨w.heap.size + 3, r, none⟩ = some u := ⟨_, hf.cell hr⟩
      have hkeep := Lib.hid (fun wz w1 (hz : wz.heap = wo.heap) (h3 : But (fun k => k = P) wz w1) => (show w1.cell? ⟨w.heap.size + 3, r, none⟩ = some u0 ∧ w1.frozen? ⟨w.heap.size + 3, r, none⟩ = false from by
        have hb : w1.heap[w.heap.size + 3]? = wo.heap[w.heap.size + 3]? := by rw [← hz]; exact h3.block _ (by rw [hz]; exact hf.lt) (fun e => p4 e.symm)
        exact ⟨(World.cell?_of_block (w := wo) hb).trans cu0, by unfold World.frozen? at fs ⊢; rw [hb]; exact fs⟩))
      have hB3 := hB2.out wo.drew rfl
      have hcall := row_any A' n' c' w.heap.size P Q (n' + 1) (n' + 1) r x a b g wo.drew hn' (by omega) hx hB3.2.2 p1 (fun e => hne e) hB3.1 hg hB3.2.1
      have hcall' : Calls Tryz.prog 114 #[.int .i64 x, .slice A' n' c', .slice (some ⟨P, 0, none⟩) (n' + 1) (n' + 1), .slice (some ⟨Q, 0, none⟩) (n' + 1) (n' + 1)] wo.drew fun e w1 =>
          e = .returned (.slice (some ⟨wo.heap.size, 0, none⟩) n' n') ∧ (w1.cell? ⟨w.heap.size + 3, r, none⟩ = some u0 ∧ w1.frozen? ⟨w.heap.size + 3, r, none⟩ = false) ∧
            Hid (MeasIn w (w1.setCell ⟨w.heap.size + 3, r, none⟩ (.slice (some ⟨wo.heap.size, 0, none⟩) n' n')) (w.heap.size + 4) R0 R1 T (w.heap.size + 3) n n' r a b) :=
        hcall.mono fun e w1 h => ⟨h.1, hkeep.out wo.drew w1 rfl h.2.2.2, Lib.hid (hstep w1 h.2.1 h.2.2.1 ⟨h.2.2.2.os, h.2.2.2.tape, h.2.2.2.output, h.2.2.2.size, h.2.2.2.block⟩)⟩
      have hc := Lib.hid hcall'
      clear hcall hcall' hstep p1 p2 p3 p4 hne hg hoth hrow hf hp hq hP hQ hxa hBe hB3
      go_wp2
      go_region_with (go_at_call 114; refine hc.out.mono ?_; rintro e w1 ⟨rfl, ⟨cs1, fs1⟩, hfin⟩)
      all_goals (go_wp2; go_roundw)
      all_goals first
        | exact ⟨r, by omega, rfl, hfin⟩
        | exact ⟨r, by omega, rfl, Lib.hid hfin.out.drew⟩
        | simp [intOf]
end Go.Proofs.YtoopdgohdeddoaaGreatDoor

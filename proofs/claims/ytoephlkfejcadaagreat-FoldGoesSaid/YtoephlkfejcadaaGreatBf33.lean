/- Proved here: texts joined: LcsWalk, LcsMeas. -/
import Derived.Test.YtoephlkfejcadaaGreatBf32
import Derived.Lib.SliceRun
import Derived.Deep.RegionWith
import Derived.Deep.CutRange
import Derived.Deep.DeepCutAuto
import Derived.Outline
/- Proved here: the contract of package lcs' walk (the match, out of what is skipped) and of slices.Clone of numbers. -/
namespace Go.Proofs.YtoephlkfejcadaaGreat
open Go.RowKit
set_option linter.unusedVariables false

theorem mtAt_rest {a b : List Int} {i j : Nat} (h : b.length ≤ j) : mtAt a b i j = List.replicate (a.length - i) (-1) := by
  obtain ⟨m, hm⟩ : ∃ m, m = a.length - i := ⟨_, rfl⟩
  induction m generalizing i with
  | zero => rw [mtAt_end (by omega), ← hm]; rfl
  | succ m ih => rw [mtAt_out (by omega) h, ih (i := i + 1) (by omega), ← hm, show a.length - (i + 1) = m by omega]; rfl

/-- What is skipped at each place of both lists: slices of slices of Booleans. -/
def Skips (w : World) (S : Option Addr) (n n' : Nat) (a b : List Int) : Prop :=
  ∀ i j, i < n → j < n' → ∃ g o g' o' m c, S = some ⟨g, o, none⟩ ∧ g < w.heap.size ∧ g' < w.heap.size ∧ n' ≤ m ∧ w.cell? ⟨g, o + i, none⟩ = some (.slice (some ⟨g', o', none⟩) m c) ∧ w.cell? ⟨g', o' + j, none⟩ = some (.bool (skipAt a b i j))
theorem Skips.below {w w' : World} {S : Option Addr} {n n' : Nat} {a b : List Int} (h : Skips w S n n' a b) (hb : Below w.heap.size w w') : Skips w' S n n' a b := by
  intro i j hi hj
  obtain ⟨g, o, g', o', m, c, h1, h2, h3, h4, h5, h6⟩ := h i j hi hj
  exact ⟨g, o, g', o', m, c, h1, Nat.lt_of_lt_of_le h2 hb.size, Nat.lt_of_lt_of_le h3 hb.size, h4, (hb.cell h2).trans h5, (hb.cell h3).trans h6⟩

/-- The match, as far as it has come: for a's places ahead of i. -/
structure WalkIn (w wr : World) (n : Nat) (a b : List Int) (i j : Nat) (done : List Int) : Prop where
  row : wr.rowIs w.heap.size 3 n (fun t => .int .i64 (done[t]?.getD (-1)))
  len : done.length = i
  mt : mtAt a b 0 0 = done ++ mtAt a b i j
  below : Below w.heap.size w wr

section
variable {w wr : World} {n i j : Nat} {a b done : List Int}
theorem WalkIn.drew (h : WalkIn w wr n a b i j done) : WalkIn w wr.drew n a b i j done := ⟨h.row, h.len, h.mt, ⟨h.below.os, h.below.tape, h.below.output, h.below.size, h.below.block⟩⟩
theorem WalkIn.drewN (h : WalkIn w wr n a b i j done) (k : Nat) : WalkIn w (wr.drewN k) n a b i j done := ⟨h.row.of_block rfl, h.len, h.mt, below_drewN h.below k⟩
theorem WalkIn.pair (h : WalkIn w wr n a b i j done) {x : Int} (hx : a[i]? = some x) (hy : b[j]? = some x) : WalkIn w (wr.setCell ⟨w.heap.size, i, none⟩ (.int .i64 j)) n a b (i + 1) (j + 1) (done ++ [(j : Int)]) := by
  have hl := h.len
  refine ⟨(h.row.set i _).congr fun t _ => ?_, by simp [hl], by rw [h.mt, mtAt_pair hx hy]; simp, h.below.setCell (Nat.le_refl _) _⟩
  by_cases e : t = i
  · subst e; subst hl; simp
  · rw [if_neg e]
    rcases Nat.lt_or_ge t i with h1 | h1
    · rw [List.getElem?_append_left (by omega)]
    · rw [List.getElem?_eq_none (l := done) (by omega), List.getElem?_eq_none (by simp; omega)]
theorem WalkIn.pass (h : WalkIn w wr n a b i j done) {x y : Int} (hx : a[i]? = some x) (hy : b[j]? = some y) (hne : x ≠ y) (hs : skipAt a b i j = true) : WalkIn w wr n a b (i + 1) j (done ++ [-1]) := by
  have hl := h.len
  refine ⟨h.row.congr fun t _ => ?_, by simp [hl], by rw [h.mt, mtAt_pass hx hy hne (by unfold skipAt at hs; simp at hs; omega)]; simp, h.below⟩
  rcases Nat.lt_or_ge t i with h1 | h1
  · rw [List.getElem?_append_left (by omega)]
  · rw [List.getElem?_eq_none (l := done) (by omega), List.getElem?_append_right (by omega)]
    rcases Nat.eq_or_lt_of_le h1 with h2 | h2
    · rw [hl, ← h2]; simp
    · rw [List.getElem?_eq_none (by simp; omega)]
theorem WalkIn.skip (h : WalkIn w wr n a b i j done) {x y : Int} (hx : a[i]? = some x) (hy : b[j]? = some y) (hne : x ≠ y) (hs : skipAt a b i j = false) : WalkIn w wr n a b i (j + 1) done :=
  ⟨h.row, h.len, by rw [h.mt, mtAt_skip hx hy hne (by unfold skipAt at hs; simp at hs; omega)], h.below⟩
theorem WalkIn.stop (h : WalkIn w wr n a b i j done) (hla : a.length = n) (hout : n ≤ i ∨ b.length ≤ j) : wr.rowIs w.heap.size 3 n (fun t => .int .i64 ((mtAt a b 0 0)[t]?.getD (-1))) := by
  have hl := h.len
  refine h.row.congr fun t _ => ?_
  rw [h.mt]
  rcases Nat.lt_or_ge t i with h1 | h1
  · rw [List.getElem?_append_left (by omega)]
  · rw [List.getElem?_eq_none (l := done) (by omega), List.getElem?_append_right (by omega)]
    rcases hout with h2 | h2
    · rw [mtAt_end (by omega)]; simp
    · rw [mtAt_rest h2, List.getElem?_replicate]
      split <;> rfl
end

theorem nums_of_row {w : World} {g n : Nat} {xs : List Int} (hn : xs.length = n) (h : w.rowIs g 3 n (fun t => .int .i64 (xs[t]?.getD (-1)))) : Nums w w.heap.size (some ⟨g, 0, none⟩) n xs :=
  reads_of_row h _ (by simpa using hn) fun i u hu => by
    rw [List.getElem?_map] at hu
    cases hx : xs[i]? with
    | none => rw [hx] at hu; cases hu
    | some x => rw [hx] at hu; simpa using hu

set_option maxRecDepth 100000 in
set_option maxHeartbeats 2000000 in
theorem walk_any (A A' S : Option Addr) (n n' c c' cS B B' : Nat) (a b : List Int) (w : World) (hn : n ≤ 2000) (hn' : n' ≤ 2000) (hA : Nums w B A n a) (hA' : Nums w B' A' n' b) (hB : B ≤ w.heap.size) (hB' : B' ≤ w.heap.size) (hS : Skips w S n n' a b) :
    Calls Tryz.prog 98 #[.slice A n c, .slice A' n' c', .slice S n cS] w fun e w' => e = .returned (.slice (some ⟨w.heap.size, 0, none⟩) n n) ∧ Nums w' w'.heap.size (some ⟨w.heap.size, 0, none⟩) n (mt a b 0) ∧ Below w.heap.size w w' := by
  have hl := hA.len
  have hl' := hA'.len
  have hmk := run_make_row' (P := Tryz.prog) 76 3 (.int .i64 0) 8 Tryz.underlying76 infoInt rfl .i64 .i64 n (by omega) (by omega)
  have h0 : (w.alloc (.cells (madeCells #[.int .i64 0] n) 3)).rowIs w.heap.size 3 n (fun t => .int .i64 (if t < 0 then -1 else 0)) := (World.rowIs_made w (.int .i64 0) n 3).congr fun t _ => by simp
  have hb0 : Below w.heap.size w (w.alloc (.cells (madeCells #[.int .i64 0] n) 3)) := (Below.refl _ _).alloc (Nat.le_refl _) _
  have h0' := Lib.hid (And.intro h0 hb0)
  clear h0 hb0
  go_enter Tryz.func98, Tryz.ntmps98
  go_wp2
  go_loopw [8, 16] (fun _ sk wr => ∃ k : Nat, k ≤ n ∧ sk = .int .i64 k ∧ Hid (wr.rowIs w.heap.size 3 n (fun t => .int .i64 (if t < k then -1 else 0)) ∧ Below w.heap.size w wr)) (fun _ sk _ => n - (intOf sk).toNat)
  case atStart => exact ⟨0, Nat.zero_le _, rfl, h0'⟩
  case round =>
    obtain ⟨k, hk, rfl, hR⟩ := hrel
    obtain ⟨wo, rfl⟩ : ∃ wo : World, wo = wr := ⟨_, rfl⟩
    clear h0' hmk
    by_cases hlt : k < n
    · have hki : ((k : Int) < (n : Int)) := by omega
      have hk0 : (0 : Int) ≤ (k : Int) := by omega
      have f0 := hR.out.1.frozen k
      obtain ⟨u0, cu0⟩ : ∃ u, wo.cell? ⟨w.heap.size, k, none⟩ = some u := ⟨_, hR.out.1.cell hlt⟩
      have hst : Hid ((wo.setCell ⟨w.heap.size, k, none⟩ (.int .i64 (-1))).rowIs w.heap.size 3 n (fun t => .int .i64 (if t < k + 1 then -1 else 0)) ∧ Below w.heap.size w (wo.setCell ⟨w.heap.size, k, none⟩ (.int .i64 (-1)))) := Lib.hid ⟨(hR.out.1.set k _).congr fun t _ => by
        by_cases e : t = k
        · subst e; simp
        · rw [if_neg e]
          by_cases h1 : t < k
          · rw [if_pos h1, if_pos (by omega)]
          · rw [if_neg h1, if_neg (by omega)], hR.out.2.setCell (Nat.le_refl _) _⟩
      go_wp2
      go_roundw
      case rel => exact ⟨k + 1, by omega, by go_num, hst⟩
      case measure => simp [intOf]; omega
    · obtain rfl : k = n := by omega
      have h1 : WalkIn w wo k a b 0 0 [] := ⟨hR.out.1.congr fun t ht => by simp [ht], rfl, rfl, hR.out.2⟩
      have h1' := Lib.hid h1
      clear h1 hR
      go_wp2
      go_loopw [9, 10, 35, 53] (fun si sj _ _ wr => ∃ (i j : Nat) (done : List Int), i ≤ k ∧ j ≤ n' ∧ si = .int .i64 i ∧ sj = .int .i64 j ∧ Hid (WalkIn w wr k a b i j done)) (fun si sj _ _ _ => (k - (intOf si).toNat) + (n' - (intOf sj).toNat))
      case atStart => exact ⟨0, 0, [], Nat.zero_le _, Nat.zero_le _, rfl, rfl, h1'⟩
      case round =>
        obtain ⟨i, j, done, hi, hj, rfl, rfl, hW⟩ := hrel
        obtain ⟨wp, rfl⟩ : ∃ wp : World, wp = wr := ⟨_, rfl⟩
        clear h1'
        by_cases hin : i < k
        · by_cases hjn : j < n'
          · obtain ⟨ba, oa, x, rfl, hba, hx, hxa⟩ := hA.at_ (k := i) hin
            obtain ⟨bb, ob, y, rfl, hbb, hy, hyb⟩ := hA'.at_ (k := j) hjn
            obtain ⟨g, o, g', o', m, cm, rfl, hg, hg', hm, hs1, hs2⟩ := hS i j hin hjn
            have hBe := hW.out.below
            have cx : wp.cell? ⟨ba, oa + i, none⟩ = some (.int .i64 x) := (hBe.cell (p := ⟨ba, oa + i, none⟩) (by show ba < _; omega)).trans hxa
            have cy : wp.cell? ⟨bb, ob + j, none⟩ = some (.int .i64 y) := (hBe.cell (p := ⟨bb, ob + j, none⟩) (by show bb < _; omega)).trans hyb
            have cs1 := (hBe.cell (p := ⟨g, o + i, none⟩) (by show g < _; omega)).trans hs1
            have cs2 := (hBe.cell (p := ⟨g', o' + j, none⟩) (by show g' < _; omega)).trans hs2
            have f0 := hW.out.row.frozen i
            obtain ⟨u0, cu0⟩ : ∃ u, wp.cell? ⟨w.heap.size, i, none⟩ = some u := ⟨_, hW.out.row.cell hin⟩
            have i1 : (0 : Int) ≤ (i : Int) := by omega
            have i2 : (i : Int) < (k : Int) := by omega
            have i3 : (0 : Int) ≤ (j : Int) := by omega
            have i4 : (j : Int) < (n' : Int) := by omega
            have i5 : (j : Int) < (m : Int) := by omega
            clear hxa hyb hs1 hs2 hBe
            by_cases hxy : x = y
            · have hb : (x == y) = true := by simpa using hxy
              have hst := Lib.hid (hW.out.pair hx (hxy ▸ hy))
              clear hxy
              go_wp2
              go_quiet (fail)
              obtain ⟨z1, rfl⟩ : ∃ z1, z1 = nq := ⟨_, rfl⟩
              go_wp2
              go_roundw
              case rel => exact ⟨i + 1, j + 1, _, by omega, by omega, by go_num, by go_num, Lib.hid (hst.out.drewN z1)⟩
              case measure => simp [intOf]; omega
            · have hb : (x == y) = false := by simpa using hxy
              have hp := Lib.hid (hW.out.pass hx hy hxy)
              have hsk := Lib.hid (hW.out.skip hx hy hxy)
              obtain ⟨s, hs⟩ : ∃ s, s = skipAt a b i j := ⟨_, rfl⟩
              rw [← hs] at cs2
              have hs' := Lib.hid hs
              clear hxy hs
              go_wp2
              go_quiet (fail)
              obtain ⟨z1, rfl⟩ : ∃ z1, z1 = nq := ⟨_, rfl⟩
              cases s
              · go_wp2
                go_roundw
                case rel => exact ⟨i, j + 1, _, by omega, by omega, rfl, by go_num, Lib.hid ((hsk.out hs'.out.symm).drewN z1)⟩
                case measure => simp [intOf]; omega
              · go_wp2
                go_roundw
                case rel => exact ⟨i + 1, j, _, by omega, by omega, by go_num, rfl, Lib.hid ((hp.out hs'.out.symm).drewN z1)⟩
                case measure => simp [intOf]; omega
          · have hst := hW.out.stop hl (.inr (by omega))
            have hr : Nums wp wp.heap.size (some ⟨w.heap.size, 0, none⟩) k (mt a b 0) := nums_of_row (by rw [mt_len]; exact hl) hst
            have hr' := Lib.hid hr
            have hjf : decide ((j : Int) < (n' : Int)) = false := by simp; omega
            have hb := hW.out.below
            clear hst hr
            go_wp2
            go_ret
            exact ⟨rfl, hr'.out, hb⟩
        · have hst := hW.out.stop hl (.inl (by omega))
          have hr : Nums wp wp.heap.size (some ⟨w.heap.size, 0, none⟩) k (mt a b 0) := nums_of_row (by rw [mt_len]; exact hl) hst
          have hr' := Lib.hid hr
          have hif : decide ((i : Int) < (k : Int)) = false := by simp; omega
          have hb := hW.out.below
          clear hst hr
          go_wp2
          go_ret
          exact ⟨rfl, hr'.out, hb⟩

/-- What Clone leaves: a row of the call's own. -/
def CloneOut (w w' : World) (e : Ending) (n : Nat) (a : List Int) : Prop := ∃ v, e = .returned v ∧ w'.ownsRow w.heap.size 3 1 v n (a.map fun x => .int .i64 x) ∧ Below w.heap.size w w'

set_option maxHeartbeats 400000 in
theorem clone_any (A : Option Addr) (n c B : Nat) (a : List Int) (w : World) (hn : n ≤ 2000) (hB : B ≤ w.heap.size) (hA : Nums w B A n a) :
    Calls Tryz.prog 66 #[.slice A n c] w fun e w' => CloneOut w w' e n a := by
  have hl := hA.len
  obtain ⟨i0, hi, hz0, hz1, hz2⟩ := info_parts infoInt
  have hw0 : (w.alloc (.cells #[] 3)).ownsRow w.heap.size 3 1 (.slice (some ⟨w.heap.size, 0, none⟩) 0 0) 0 [] := own_empty w w.heap.size _ (Nat.le_refl _)
  have hB0 : Below w.heap.size w (w.alloc (.cells #[] 3)) := (Below.refl _ _).alloc (Nat.le_refl _) _
  have hm : Hid (0 + n ≤ maxLen ∧ (0 + n) * 8 ≤ 140737488355328) := Lib.hid ⟨by unfold maxLen; omega, by omega⟩
  cases A with
  | none =>
    have h0 : n = 0 := by
      rcases Nat.eq_zero_or_pos n with h0 | h0
      · exact h0
      · obtain ⟨_, _, h, _⟩ := hA.2 h0
        cases h
    subst h0
    obtain rfl : a = [] := List.eq_nil_of_length_eq_zero hl
    have hq : ∀ W : World, (binOp .eql 76 (.slice none 0 c) (.slice none 0 0)).run Tryz.prog W = .ok (.bool true) W := fun W => Lib.run_eql_slice_nil W _ _ _ _ _ _ _ Tryz.underlying76
    go_enter Tryz.func66, Tryz.ntmps66
    go_wp2
    go_ret
    exact ⟨_, rfl, World.ownsRow_nil _ _ _ _, Below.refl _ _⟩
  | some p =>
    have hA0 := Lib.hid ((hA.more hB).below hB0)
    clear hA
    have hq : ∀ W : World, (binOp .eql 76 (.slice (some p) n c) (.slice none 0 0)).run Tryz.prog W = .ok (.bool false) W := fun W => Lib.run_eql_slice_nil W _ _ _ _ _ _ _ Tryz.underlying76
    go_enter Tryz.func66, Tryz.ntmps66
    go_wp2_with (at_builtin; refine wpList_append_reads _ rfl _ _ 76 rfl w.heap.size 3 i0 (.int .i64 0) 8 Tryz.underlying76 hi hz0 hz1 hz2 rfl _ 0 [] rfl hw0 w.heap.size (some p) n c _ rfl hA0.out (nums_one _) hm.out.1 hm.out.2 hB0.size ?_; intro v1 w1 hown1 hg1; have hB1 : Below w.heap.size w w1 := hB0.grown hg1 hB0.size (fun j e => (hw0.lt j e).1); rw [Nat.zero_add, List.nil_append] at hown1)
    go_ret
    exact ⟨_, rfl, hown1, hB1⟩
end Go.Proofs.YtoephlkfejcadaaGreat
/- Proved here: the contract of package lcs' measure: how many are paired, and what is skipped. -/
namespace Go.Proofs.YtoephlkfejcadaaGreat
open Go.RowKit
set_option linter.unusedVariables false

theorem infoBools : (Tryz.prog.info? 168).map (fun i => (i.zero, i.size, i.bytes)) = some (some (.slice none 0 0), 1, 24) := by kernel_rfl

/-- Which of both rows a place's row is. -/
def par (i R0 R1 : Nat) : Nat := if i % 2 = 0 then R0 else R1
theorem par_ne {i R0 R1 : Nat} (h : R0 ≠ R1) : par i R0 R1 ≠ par (i + 1) R0 R1 := by
  unfold par
  rcases Nat.mod_two_eq_zero_or_one i with h0 | h0
  · rw [if_pos h0, if_neg (by omega)]; exact h
  · rw [if_neg (by omega), if_pos (by omega)]; exact fun e => h e.symm
theorem par_two (i R0 R1 : Nat) : par (i + 2) R0 R1 = par i R0 R1 := by unfold par; rw [Nat.add_mod_right]
theorem par_or (i R0 R1 : Nat) : par i R0 R1 = R0 ∨ par i R0 R1 = R1 := by unfold par; split <;> simp

/-- The reckoning, as far as it has come: from row I on. -/
structure MeasIn (w wr : World) (D R0 R1 T S n n' I : Nat) (a b : List Int) : Prop where
  r0 : w.heap.size ≤ R0 ∧ R0 < D
  r1 : w.heap.size ≤ R1 ∧ R1 < D
  t : w.heap.size ≤ T ∧ T < D
  s : w.heap.size ≤ S ∧ S < D
  apart : R0 ≠ R1 ∧ R0 ≠ T ∧ R1 ≠ T ∧ R0 ≠ S ∧ R1 ≠ S ∧ T ≠ S
  size : D ≤ wr.heap.size
  arr : wr.heap[T]? = some (.cells #[.slice (some ⟨R0, 0, none⟩) (n' + 1) (n' + 1), .slice (some ⟨R1, 0, none⟩) (n' + 1) (n' + 1)] 167 (0, 0))
  row : wr.rowIs (par I R0 R1) 3 (n' + 1) (fun t => .int .i64 (lcsAt a b I t))
  other : ∃ g : Nat → Int, wr.rowIs (par (I + 1) R0 R1) 3 (n' + 1) (fun t => .int .i64 (g t)) ∧ g n' = 0
  skips : ∃ f, wr.rowIs S 168 n f ∧ ∀ k, I ≤ k → k < n → ∃ g, f k = .slice (some ⟨g, 0, none⟩) n' n' ∧ D ≤ g ∧ wr.rowIs g 4 n' (fun t => .bool (skipAt a b k t))
  below : Below w.heap.size w wr

section
variable {w wr w1 : World} {D R0 R1 T S n n' I r : Nat} {a b : List Int}
theorem MeasIn.drew (h : MeasIn w wr D R0 R1 T S n n' I a b) : MeasIn w wr.drew D R0 R1 T S n n' I a b :=
  ⟨h.r0, h.r1, h.t, h.s, h.apart, h.size, h.arr, h.row, h.other, h.skips, ⟨h.below.os, h.below.tape, h.below.output, h.below.size, h.below.block⟩⟩
theorem MeasIn.par_lt (h : MeasIn w wr D R0 R1 T S n n' I a b) (k : Nat) : w.heap.size ≤ par k R0 R1 ∧ par k R0 R1 < D ∧ par k R0 R1 ≠ T ∧ par k R0 R1 ≠ S := by
  have h0 := h.r0
  have h1 := h.r1
  obtain ⟨h2, h3, h4, h5, h6, h7⟩ := h.apart
  rcases par_or k R0 R1 with e | e <;> rw [e]
  · exact ⟨h0.1, h0.2, h3, h5⟩
  · exact ⟨h1.1, h1.2, h4, h6⟩
theorem MeasIn.step (hlb : b.length = n') (h : MeasIn w wr D R0 R1 T S n n' (r + 1) a b) (hr : r < n)
    (h1 : w1.rowIs (par r R0 R1) 3 (n' + 1) (fun t => .int .i64 (lcsAt a b r t))) (h2 : w1.rowIs wr.heap.size 4 n' (fun t => .bool (skipAt a b r t))) (h3 : But (fun k => k = par r R0 R1) wr w1) :
    MeasIn w (w1.setCell ⟨S, r, none⟩ (.slice (some ⟨wr.heap.size, 0, none⟩) n' n')) D R0 R1 T S n n' r a b := by
  obtain ⟨p1, p2, p3, p4⟩ := h.par_lt r
  obtain ⟨q1, q2, q3, q4⟩ := h.par_lt (r + 1)
  obtain ⟨a1, a2, a3, a4, a5, a6⟩ := h.apart
  have hne := par_ne (i := r) a1
  have hD := h.size
  have hs := h.s
  have ht := h.t
  obtain ⟨f, hf, hk⟩ := h.skips
  have hb1 : w1.heap[S]? = wr.heap[S]? := h3.block S (by omega) (fun e => p4 e.symm)
  have hsz : (w1.setCell ⟨S, r, none⟩ (.slice (some ⟨wr.heap.size, 0, none⟩) n' n')).heap.size = w1.heap.size := by simp [World.setCell]
  refine ⟨h.r0, h.r1, h.t, h.s, h.apart, by rw [hsz]; have := h3.size; omega, ?_, h1.setOther (a := ⟨S, r, none⟩) p4 _, ⟨fun t => lcsAt a b (r + 1) t, ?_, ?_⟩, ⟨_, (hf.of_block hb1).set r _, fun k hrk hkn => ?_⟩, ?_⟩
  · rw [Below.heap_setCell _ _ _ _ (fun e : T = S => a6 e), h3.block T (by omega) (fun e => p3 e.symm)]; exact h.arr
  · exact (h.row.of_block (h3.block _ (by omega) (fun e => hne e.symm))).setOther (a := ⟨S, r, none⟩) q4 _
  · show (lcsAt a b (r + 1) n' : Int) = 0
    rw [lcsAt_end_right (by omega)]; rfl
  · by_cases e : k = r
    · subst e
      exact ⟨wr.heap.size, by simp, hD, h2.setOther (a := ⟨S, k, none⟩) (by show wr.heap.size ≠ S; omega) _⟩
    · obtain ⟨g, hg1, hg2, hg3⟩ := hk k (by omega) hkn
      have hg4 := hg3.lt
      exact ⟨g, by simp [e, hg1], hg2, (hg3.of_block (h3.block g hg4 (by omega))).setOther (a := ⟨S, r, none⟩) (by show g ≠ S; omega) _⟩
  · have hb := h.below
    have hbb : Below w.heap.size w w1 := ⟨h3.os.trans hb.os, h3.tape.trans hb.tape, h3.output.trans hb.output, Nat.le_trans hb.size h3.size, fun k hk => (h3.block k (by have := hb.size; omega) (by omega)).trans (hb.block k hk)⟩
    exact hbb.setCell (by show w.heap.size ≤ S; omega) _
theorem MeasIn.done (h : MeasIn w wr D R0 R1 T S n n' 0 a b) : Skips wr (some ⟨S, 0, none⟩) n n' a b := by
  intro i j hi hj
  obtain ⟨f, hf, hk⟩ := h.skips
  obtain ⟨g, hg1, hg2, hg3⟩ := hk i (Nat.zero_le _) hi
  exact ⟨S, 0, g, 0, n', n', rfl, hf.lt, hg3.lt, Nat.le_refl _, by rw [Nat.zero_add, hf.cell hi, hg1], by rw [Nat.zero_add, hg3.cell hj]⟩
end

/-- Both rows, and the array that holds them, are laid. -/
structure Rows0 (w wx : World) (R0 R1 T n' : Nat) : Prop where
  size : wx.heap.size = w.heap.size + 3
  lies : w.heap.size ≤ R0 ∧ R0 < w.heap.size + 3 ∧ w.heap.size ≤ R1 ∧ R1 < w.heap.size + 3 ∧ w.heap.size ≤ T ∧ T < w.heap.size + 3 ∧ R0 ≠ R1 ∧ R0 ≠ T ∧ R1 ≠ T
  row0 : wx.heap[R0]? = some (.cells (madeCells #[.int .i64 0] (n' + 1)) 3 (0, 0))
  row1 : wx.heap[R1]? = some (.cells (madeCells #[.int .i64 0] (n' + 1)) 3 (0, 0))
  arr : wx.heap[T]? = some (.cells #[.slice (some ⟨R0, 0, none⟩) (n' + 1) (n' + 1), .slice (some ⟨R1, 0, none⟩) (n' + 1) (n' + 1)] 167 (0, 0))
  below : Below w.heap.size w wx
theorem World.size_alloc (w : World) (o : Obj) : (w.alloc o).heap.size = w.heap.size + 1 := by simp
theorem three (w : World) (o1 o2 o3 : Obj) : (((w.alloc o1).alloc o2).alloc o3).drew.heap.size = w.heap.size + 3 ∧ (((w.alloc o1).alloc o2).alloc o3).drew.heap[w.heap.size]? = some o1 ∧ (((w.alloc o1).alloc o2).alloc o3).drew.heap[w.heap.size + 1]? = some o2 ∧ (((w.alloc o1).alloc o2).alloc o3).drew.heap[w.heap.size + 1 + 1]? = some o3 ∧ Below w.heap.size w (((w.alloc o1).alloc o2).alloc o3).drew := by
  have hb := (((Below.refl w.heap.size w).alloc (Nat.le_refl _) o1).alloc (by simp) o2).alloc (by simp; omega) o3
  refine ⟨by simp, ?_, ?_, ?_, ⟨hb.os, hb.tape, hb.output, hb.size, hb.block⟩⟩
  · show (((w.alloc o1).alloc o2).alloc o3).heap[w.heap.size]? = some o1
    rw [Below.heap_alloc _ _ _ (by simp; omega), Below.heap_alloc _ _ _ (by simp)]; exact Go.Deep.blk_alloc_new _ _
  · show (((w.alloc o1).alloc o2).alloc o3).heap[w.heap.size + 1]? = some o2
    rw [Below.heap_alloc _ _ _ (by simp)]; have := Go.Deep.blk_alloc_new (w.alloc o1) o2; rw [World.size_alloc] at this; exact this
  · show (((w.alloc o1).alloc o2).alloc o3).heap[w.heap.size + 1 + 1]? = some o3
    have := Go.Deep.blk_alloc_new ((w.alloc o1).alloc o2) o3; rw [World.size_alloc, World.size_alloc] at this; exact this
theorem rows0_a (w : World) (n' : Nat) : Rows0 w (((w.alloc (.cells (madeCells #[.int .i64 0] (n' + 1)) 3)).alloc (.cells (madeCells #[.int .i64 0] (n' + 1)) 3)).alloc (.cells #[.slice (some ⟨w.heap.size, 0, none⟩) (n' + 1) (n' + 1), .slice (some ⟨w.heap.size + 1, 0, none⟩) (n' + 1) (n' + 1)] 167)).drew (w.heap.size) (w.heap.size + 1) (w.heap.size + 1 + 1) n' := by
  have h := three w (.cells (madeCells #[.int .i64 0] (n' + 1)) 3) (.cells (madeCells #[.int .i64 0] (n' + 1)) 3) (.cells #[.slice (some ⟨w.heap.size, 0, none⟩) (n' + 1) (n' + 1), .slice (some ⟨w.heap.size + 1, 0, none⟩) (n' + 1) (n' + 1)] 167)
  exact ⟨h.1, by omega, h.2.1, h.2.2.1, h.2.2.2.1, h.2.2.2.2⟩
theorem rows0_b (w : World) (n' : Nat) : Rows0 w (((w.alloc (.cells (madeCells #[.int .i64 0] (n' + 1)) 3)).alloc (.cells #[.slice (some ⟨w.heap.size, 0, none⟩) (n' + 1) (n' + 1), .slice (some ⟨w.heap.size + 1 + 1, 0, none⟩) (n' + 1) (n' + 1)] 167)).alloc (.cells (madeCells #[.int .i64 0] (n' + 1)) 3)).drew (w.heap.size) (w.heap.size + 1 + 1) (w.heap.size + 1) n' := by
  have h := three w (.cells (madeCells #[.int .i64 0] (n' + 1)) 3) (.cells #[.slice (some ⟨w.heap.size, 0, none⟩) (n' + 1) (n' + 1), .slice (some ⟨w.heap.size + 1 + 1, 0, none⟩) (n' + 1) (n' + 1)] 167) (.cells (madeCells #[.int .i64 0] (n' + 1)) 3)
  exact ⟨h.1, by omega, h.2.1, h.2.2.2.1, h.2.2.1, h.2.2.2.2⟩
theorem rows0_c (w : World) (n' : Nat) : Rows0 w (((w.alloc (.cells (madeCells #[.int .i64 0] (n' + 1)) 3)).alloc (.cells (madeCells #[.int .i64 0] (n' + 1)) 3)).alloc (.cells #[.slice (some ⟨w.heap.size + 1, 0, none⟩) (n' + 1) (n' + 1), .slice (some ⟨w.heap.size, 0, none⟩) (n' + 1) (n' + 1)] 167)).drew (w.heap.size + 1) (w.heap.size) (w.heap.size + 1 + 1) n' := by
  have h := three w (.cells (madeCells #[.int .i64 0] (n' + 1)) 3) (.cells (madeCells #[.int .i64 0] (n' + 1)) 3) (.cells #[.slice (some ⟨w.heap.size + 1, 0, none⟩) (n' + 1) (n' + 1), .slice (some ⟨w.heap.size, 0, none⟩) (n' + 1) (n' + 1)] 167)
  exact ⟨h.1, by omega, h.2.2.1, h.2.1, h.2.2.2.1, h.2.2.2.2⟩
theorem rows0_d (w : World) (n' : Nat) : Rows0 w (((w.alloc (.cells #[.slice (some ⟨w.heap.size + 1, 0, none⟩) (n' + 1) (n' + 1), .slice (some ⟨w.heap.size + 1 + 1, 0, none⟩) (n' + 1) (n' + 1)] 167)).alloc (.cells (madeCells #[.int .i64 0] (n' + 1)) 3)).alloc (.cells (madeCells #[.int .i64 0] (n' + 1)) 3)).drew (w.heap.size + 1) (w.heap.size + 1 + 1) (w.heap.size) n' := by
  have h := three w (.cells #[.slice (some ⟨w.heap.size + 1, 0, none⟩) (n' + 1) (n' + 1), .slice (some ⟨w.heap.size + 1 + 1, 0, none⟩) (n' + 1) (n' + 1)] 167) (.cells (madeCells #[.int .i64 0] (n' + 1)) 3) (.cells (madeCells #[.int .i64 0] (n' + 1)) 3)
  exact ⟨h.1, by omega, h.2.2.1, h.2.2.2.1, h.2.1, h.2.2.2.2⟩
theorem rows0_e (w : World) (n' : Nat) : Rows0 w (((w.alloc (.cells (madeCells #[.int .i64 0] (n' + 1)) 3)).alloc (.cells #[.slice (some ⟨w.heap.size + 1 + 1, 0, none⟩) (n' + 1) (n' + 1), .slice (some ⟨w.heap.size, 0, none⟩) (n' + 1) (n' + 1)] 167)).alloc (.cells (madeCells #[.int .i64 0] (n' + 1)) 3)).drew (w.heap.size + 1 + 1) (w.heap.size) (w.heap.size + 1) n' := by
  have h := three w (.cells (madeCells #[.int .i64 0] (n' + 1)) 3) (.cells #[.slice (some ⟨w.heap.size + 1 + 1, 0, none⟩) (n' + 1) (n' + 1), .slice (some ⟨w.heap.size, 0, none⟩) (n' + 1) (n' + 1)] 167) (.cells (madeCells #[.int .i64 0] (n' + 1)) 3)
  exact ⟨h.1, by omega, h.2.2.2.1, h.2.1, h.2.2.1, h.2.2.2.2⟩
theorem rows0_f (w : World) (n' : Nat) : Rows0 w (((w.alloc (.cells #[.slice (some ⟨w.heap.size + 1 + 1, 0, none⟩) (n' + 1) (n' + 1), .slice (some ⟨w.heap.size + 1, 0, none⟩) (n' + 1) (n' + 1)] 167)).alloc (.cells (madeCells #[.int .i64 0] (n' + 1)) 3)).alloc (.cells (madeCells #[.int .i64 0] (n' + 1)) 3)).drew (w.heap.size + 1 + 1) (w.heap.size + 1) (w.heap.size) n' := by
  have h := three w (.cells #[.slice (some ⟨w.heap.size + 1 + 1, 0, none⟩) (n' + 1) (n' + 1), .slice (some ⟨w.heap.size + 1, 0, none⟩) (n' + 1) (n' + 1)] 167) (.cells (madeCells #[.int .i64 0] (n' + 1)) 3) (.cells (madeCells #[.int .i64 0] (n' + 1)) 3)
  exact ⟨h.1, by omega, h.2.2.2.1, h.2.2.1, h.2.1, h.2.2.2.2⟩
theorem row_made {w : World} {R n : Nat} {t : TypeId} {z : Value} (h : w.heap[R]? = some (.cells (madeCells #[z] n) t (0, 0))) : w.rowIs R t n (fun _ => z) :=
  ⟨_, h, size_madeCells _ _, fun i hi => by simp [madeCells, hi, Nat.mod_one]⟩
theorem Rows0.start {w wx : World} {R0 R1 T n n' : Nat} {a b : List Int} (h : Rows0 w wx R0 R1 T n') (hla : a.length = n) :
    MeasIn w (wx.alloc (.cells (madeCells #[.slice none 0 0] n) 168)) (w.heap.size + 4) R0 R1 T wx.heap.size n n' n a b := by
  obtain ⟨l1, l2, l3, l4, l5, l6, l7, l8, l9⟩ := h.lies
  have hs := h.size
  have hsz : (wx.alloc (.cells (madeCells #[.slice none 0 0] n) 168)).heap.size = w.heap.size + 4 := by simp [hs]
  have h0 := (row_made h.row0).alloc (.cells (madeCells #[.slice none 0 0] n) 168)
  have h1 := (row_made h.row1).alloc (.cells (madeCells #[.slice none 0 0] n) 168)
  have hp : ∀ k, (wx.alloc (.cells (madeCells #[.slice none 0 0] n) 168)).rowIs (par k R0 R1) 3 (n' + 1) (fun _ => .int .i64 0) := fun k => by
    rcases par_or k R0 R1 with e | e <;> rw [e]
    · exact h0
    · exact h1
  refine ⟨⟨l1, by omega⟩, ⟨l3, by omega⟩, ⟨l5, by omega⟩, ⟨by omega, by omega⟩, ⟨l7, l8, l9, by omega, by omega, by omega⟩, by omega, ?_, (hp n).congr fun t _ => ?_, ⟨fun _ => 0, hp (n + 1), rfl⟩, ⟨_, World.rowIs_made wx (.slice none 0 0) n 168, fun k h1 h2 => by omega⟩, h.below.alloc (by omega) _⟩
  · rw [Below.heap_alloc _ _ _ (by omega)]; exact h.arr
  · rw [lcsAt_end_left (by omega)]; rfl

/-- What measure leaves. -/
def MeasOut (w w' : World) (e : Ending) (n n' : Nat) (a b : List Int) : Prop :=
  ∃ S, e = .returned (.tuple #[.int .i64 (lcsL a b), .slice (some ⟨S, 0, none⟩) n n]) ∧ Skips w' (some ⟨S, 0, none⟩) n n' a b ∧ Below w.heap.size w w'

set_option maxRecDepth 100000 in
set_option maxHeartbeats 2000000 in
theorem meas_any (A A' : Option Addr) (n n' c c' B B' : Nat) (a b : List Int) (w : World) (hn : n ≤ 2000) (hn' : n' ≤ 2000) (hA : Nums w B A n a) (hA' : Nums w B' A' n' b) (hB : B ≤ w.heap.size) (hB' : B' ≤ w.heap.size) :
    Calls Tryz.prog 97 #[.slice A n c, .slice A' n' c'] w fun e w' => MeasOut w w' e n n' a b := by
  have hl := hA.len
  have hl' := hA'.len
  have hmk1 : ∀ w : World, (Instr.makeSlice 76 (.int .i64 ((n' : Int) + 1)) (.int .i64 ((n' : Int) + 1))).run Tryz.prog w = .ok (.slice (some ⟨w.heap.size, 0, none⟩) (n' + 1) (n' + 1)) (w.alloc (.cells (madeCells #[.int .i64 0] (n' + 1)) 3)) := fun w => by
    have := run_make_row' (P := Tryz.prog) 76 3 (.int .i64 0) 8 Tryz.underlying76 infoInt rfl .i64 .i64 (n' + 1) (by omega) (by omega) w
    push_cast at this
    exact this
  have hmk2 := run_make_row' (P := Tryz.prog) 155 168 (.slice none 0 0) 24 Tryz.underlying155 infoBools rfl .i64 .i64 n (by omega) (by omega)
  have e1 : IntKind.i64.wrap ((n' : Int) + 1) = (n' : Int) + 1 := IntWalk.i64_in _ (by omega)
  go_enter Tryz.func97, Tryz.ntmps97
  go_upto_region 1 with fail
  go_cut [6] (fun s6 wx => ∃ R0 R1 T, s6 = .pointer (some ⟨T, 0, none⟩) ∧ Rows0 w wx R0 R1 T n')
  case first =>
    go_region
    all_goals (go_wp2_with fail; go_meet; first | exact ⟨_, _, _, rfl, rows0_a w n'⟩ | exact ⟨_, _, _, rfl, rows0_b w n'⟩ | exact ⟨_, _, _, rfl, rows0_c w n'⟩ | exact ⟨_, _, _, rfl, rows0_d w n'⟩ | exact ⟨_, _, _, rfl, rows0_e w n'⟩ | exact ⟨_, _, _, rfl, rows0_f w n'⟩)
  case rest =>
  obtain ⟨R0, R1, T, rfl, hR0⟩ := hcut
  have hst := hR0.start (n := n) (a := a) (b := b) hl
  have hst' := Lib.hid hst
  have hsz := hR0.size
  have hts := hst.t
  clear hst hR0 hmk1 e1
  go_wp2
  rw [hsz] at hst'
  go_loopw [8] (fun si wr => ∃ I : Nat, I ≤ n ∧ si = .int .i64 ((I : Int) - 1) ∧ Hid (MeasIn w wr (w.heap.size + 4) R0 R1 T (w.heap.size + 3) n n' I a b)) (fun si _ => (intOf si + 1).toNat)
  case atStart => exact ⟨n, Nat.le_refl _, rfl, hst'⟩
  case round =>
    obtain ⟨I, hI, rfl, hM⟩ := hrel
    obtain ⟨wo, rfl⟩ : ∃ wo : World, wo = wr := ⟨_, rfl⟩
    clear hst'
    rcases I with _ | r
    · have hc0 : wo.cell? ⟨T, 0, none⟩ = some (.slice (some ⟨R0, 0, none⟩) (n' + 1) (n' + 1)) := by rw [cells_of hM.out.arr]; rfl
      have hc1 : wo.cell? ⟨R0, 0, none⟩ = some (.int .i64 (lcsL a b)) := hM.out.row.cell (i := 0) (by omega)
      have i1 : (0 : Int) < (n' : Int) + 1 := by omega
      have hd := Lib.hid hM.out.done
      have hb := Lib.hid hM.out.below
      go_wp2
      go_ret2
      exact ⟨_, rfl, hd.out, hb.out⟩
    · have hr : r < n := by omega
      have hir : (((r + 1 : Nat) : Int) - 1) = (r : Int) := by omega
      rw [hir]
      clear hir
      obtain ⟨ba, oa, x, rfl, hba, hx, hxa⟩ := hA.at_ (k := r) hr
      have hBe := hM.out.below
      have cx : wo.cell? ⟨ba, oa + r, none⟩ = some (.int .i64 x) := (hBe.cell (p := ⟨ba, oa + r, none⟩) (by show ba < _; omega)).trans hxa
      obtain ⟨P, hP⟩ : ∃ P, P = par r R0 R1 := ⟨_, rfl⟩
      obtain ⟨Q, hQ⟩ : ∃ Q, Q = par (r + 1) R0 R1 := ⟨_, rfl⟩
      have hrow := hM.out.row
      obtain ⟨g, hoth, hg⟩ := hM.out.other
      rw [par_two] at hoth
      obtain ⟨p1, p2, p3, p4⟩ := hM.out.par_lt r
      have hne := par_ne (i := r) hM.out.apart.1
      have hstep := fun w1 => hM.out.step (w1 := w1) hl' hr
      rw [← hQ] at hrow hne
      rw [← hP] at hoth p1 p2 p3 p4 hne hstep
      have hB2 := Lib.hid (fun wz (hz : wz.heap = wo.heap) => (show wz.rowIs P 3 (n' + 1) (fun t => .int .i64 (g t)) ∧ wz.rowIs Q 3 (n' + 1) (fun t => .int .i64 (lcsAt a b (r + 1) t)) ∧ Nums wz w.heap.size A' n' b from
        ⟨hoth.of_block (by rw [hz]), hrow.of_block (by rw [hz]), Reads.keep ((hA'.more hB').below hBe) fun p _ => by simp [World.cell?, hz]⟩))
      obtain ⟨p, hp⟩ : ∃ p, p = r % 2 := ⟨_, rfl⟩
      obtain ⟨q, hq⟩ : ∃ q, q = (r + 1) % 2 := ⟨_, rfl⟩
      have ct1 : wo.cell? ⟨T, p, none⟩ = some (.slice (some ⟨P, 0, none⟩) (n' + 1) (n' + 1)) := by
        rw [cells_of hM.out.arr, hp, hP]; unfold par
        rcases Nat.mod_two_eq_zero_or_one r with h0 | h0 <;> simp [h0]
      have ct2 : wo.cell? ⟨T, q, none⟩ = some (.slice (some ⟨Q, 0, none⟩) (n' + 1) (n' + 1)) := by
        rw [cells_of hM.out.arr, hq, hQ]; unfold par
        rcases Nat.mod_two_eq_zero_or_one (r + 1) with h0 | h0 <;> simp [h0]
      have m1 : (r : Int).tmod 2 = (p : Int) := by rw [Int.tmod_eq_emod_of_nonneg (by omega), hp]; omega
      have m2 : ((r : Int) + 1).tmod 2 = (q : Int) := by rw [Int.tmod_eq_emod_of_nonneg (by omega), hq]; omega
      have e2 : IntKind.i64.wrap ((r : Int) + 1) = (r : Int) + 1 := IntWalk.i64_in _ (by omega)
      have j1 : (0 : Int) ≤ (p : Int) := by omega
      have j2 : (p : Int) < 2 := by omega
      have j3 : (0 : Int) ≤ (q : Int) := by omega
      have j4 : (q : Int) < 2 := by omega
      have j5 : (0 : Int) ≤ (r : Int) := by omega
      have j6 : (r : Int) < (n : Int) := by omega
      obtain ⟨f, hf, _⟩ := hM.out.skips
      have fs := hf.frozen r
      obtain ⟨u0, cu0⟩ : ∃ u, wo.cell? ⟨w.heap.size + 3, r, none⟩ = some u := ⟨_, hf.cell hr⟩
      have hkeep := Lib.hid (fun wz w1 (hz : wz.heap = wo.heap) (h3 : But (fun k => k = P) wz w1) => (show w1.cell? ⟨w.heap.size + 3, r, none⟩ = some u0 ∧ w1.frozen? ⟨w.heap.size + 3, r, none⟩ = false from by
        have hb : w1.heap[w.heap.size + 3]? = wo.heap[w.heap.size + 3]? := by rw [← hz]; exact h3.block _ (by rw [hz]; exact hf.lt) (fun e => p4 e.symm)
        exact ⟨(World.cell?_of_block (w := wo) hb).trans cu0, by unfold World.frozen? at fs ⊢; rw [hb]; exact fs⟩))
      have hB3 := hB2.out wo.drew rfl
      have hcall := row_any A' n' c' w.heap.size P Q (n' + 1) (n' + 1) r x a b g wo.drew hn' (by omega) hx hB3.2.2 p1 (fun e => hne e) hB3.1 hg hB3.2.1
      have hcall' : Calls Tryz.prog 116 #[.int .i64 x, .slice A' n' c', .slice (some ⟨P, 0, none⟩) (n' + 1) (n' + 1), .slice (some ⟨Q, 0, none⟩) (n' + 1) (n' + 1)] wo.drew fun e w1 =>
          e = .returned (.slice (some ⟨wo.heap.size, 0, none⟩) n' n') ∧ (w1.cell? ⟨w.heap.size + 3, r, none⟩ = some u0 ∧ w1.frozen? ⟨w.heap.size + 3, r, none⟩ = false) ∧
            Hid (MeasIn w (w1.setCell ⟨w.heap.size + 3, r, none⟩ (.slice (some ⟨wo.heap.size, 0, none⟩) n' n')) (w.heap.size + 4) R0 R1 T (w.heap.size + 3) n n' r a b) :=
        hcall.mono fun e w1 h => ⟨h.1, hkeep.out wo.drew w1 rfl h.2.2.2, Lib.hid (hstep w1 h.2.1 h.2.2.1 ⟨h.2.2.2.os, h.2.2.2.tape, h.2.2.2.output, h.2.2.2.size, h.2.2.2.block⟩)⟩
      have hc := Lib.hid hcall'
      clear hcall hcall' hstep p1 p2 p3 p4 hne hg hoth hrow hf hp hq hP hQ hxa hBe hB3
      go_wp2
      go_region_with (go_at_call 116; refine hc.out.mono ?_; rintro e w1 ⟨rfl, ⟨cs1, fs1⟩, hfin⟩)
      all_goals (go_wp2; go_roundw)
      all_goals first
        | exact ⟨r, by omega, rfl, hfin⟩
        | exact ⟨r, by omega, rfl, Lib.hid hfin.out.drew⟩
        | simp [intOf]
end Go.Proofs.YtoephlkfejcadaaGreat

/- Proved here: texts joined: LcsWalk. -/
import Derived.Test.YtoopdgohdeddoaaGreatDoorBs30
import Derived.Lib.SliceRun
/- Proved here: the contract of package lcs' walk (the match, out of what is skipped) and of slices.Clone of numbers. -/
namespace Go.Proofs.YtoopdgohdeddoaaGreatDoor
open Go.RowKit
set_option linter.unusedVariables false

theorem mtAt_rest {a b : List Int} {i j : Nat} (h : b.length ≤ j) : mtAt a b i j = List.replicate (a.length - i) (-1) := by
  obtain ⟨m, hm⟩ : ∃ m, m = a.length - i := ⟨_, rfl⟩
  induction m generalizing i with
  | zero => rw [mtAt_end (by omega), ← hm]; rfl
  | succ m ih => rw [mtAt_out (by omega) h, ih (i := i + 1) (by omega), ← hm, show a.length - (i + 1) = m by omega]; rfl

/-- What is skipped at each place of both lists: slices of slices of Booleans. -/
def Skips (w : World) (S : Option Addr) (n n' : Nat) (a b : List Int) : Prop :=
  ∀ i j, i < n → j < n' → ∃ g o g' o' m c, S = some ⟨g, o, none⟩ ∧ g < w.heap.size ∧ g' < w.heap.size ∧ n' ≤ m ∧ w.cell? ⟨g, o + i, none⟩ = some (.slice (some ⟨g', o', none⟩) m c) ∧ w.cell? ⟨g', o' + j, none⟩ = some (.bool (skipAt a b i j))
theorem Skips.below {w w' : World} {S : Option Addr} {n n' : Nat} {a b : List Int} (h : Skips w S n n' a b) (hb : Below w.heap.size w w') : Skips w' S n n' a b := by
  intro i j hi hj
  obtain ⟨g, o, g', o', m, c, h1, h2, h3, h4, h5, h6⟩ := h i j hi hj
  exact ⟨g, o, g', o', m, c, h1, Nat.lt_of_lt_of_le h2 hb.size, Nat.lt_of_lt_of_le h3 hb.size, h4, (hb.cell h2).trans h5, (hb.cell h3).trans h6⟩

/-- The match, as far as it has come: for a's places ahead of i. -/
structure WalkIn (w wr : World) (n : Nat) (a b : List Int) (i j : Nat) (done : List Int) : Prop where
  row : wr.rowIs w.heap.size 3 n (fun t => .int .i64 (done[t]?.getD (-1)))
  len : done.length = i
  mt : mtAt a b 0 0 = done ++ mtAt a b i j
  below : Below w.heap.size w wr

section
variable {w wr : World} {n i j : Nat} {a b done : List Int}
theorem WalkIn.drew (h : WalkIn w wr n a b i j done) : WalkIn w wr.drew n a b i j done := ⟨h.row, h.len, h.mt, ⟨h.below.os, h.below.tape, h.below.output, h.below.size, h.below.block⟩⟩
theorem WalkIn.drewN (h : WalkIn w wr n a b i j done) (k : Nat) : WalkIn w (wr.drewN k) n a b i j done := ⟨h.row.of_block rfl, h.len, h.mt, below_drewN h.below k⟩
theorem WalkIn.pair (h : WalkIn w wr n a b i j done) {x : Int} (hx : a[i]? = some x) (hy : b[j]? = some x) : WalkIn w (wr.setCell ⟨w.heap.size, i, none⟩ (.int .i64 j)) n a b (i + 1) (j + 1) (done ++ [(j : Int)]) := by
  have hl := h.len
  refine ⟨(h.row.set i _).congr fun t _ => ?_, by simp [hl], by rw [h.mt, mtAt_pair hx hy]; simp, h.below.setCell (Nat.le_refl _) _⟩
  by_cases e : t = i
  · subst e; subst hl; simp
  · rw [if_neg e]
    rcases Nat.lt_or_ge t i with h1 | h1
    · rw [List.getElem?_append_left (by omega)]
    · rw [List.getElem?_eq_none (l := done) (by omega), List.getElem?_eq_none (by simp; omega)]
theorem WalkIn.pass (h : WalkIn w wr n a b i j done) {x y : Int} (hx : a[i]? = some x) (hy : b[j]? = some y) (hne : x ≠ y) (hs : skipAt a b i j = true) : WalkIn w wr n a b (i + 1) j (done ++ [-1]) := by
  have hl := h.len
  refine ⟨h.row.congr fun t _ => ?_, by simp [hl], by rw [h.mt, mtAt_pass hx hy hne (by unfold skipAt at hs; simp at hs; omega)]; simp, h.below⟩
  rcases Nat.lt_or_ge t i with h1 | h1
  · rw [List.getElem?_append_left (by omega)]
  · rw [List.getElem?_eq_none (l := done) (by omega), List.getElem?_append_right (by omega)]
    rcases Nat.eq_or_lt_of_le h1 with h2 | h2
    · rw [hl, ← h2]; simp
    · rw [List.getElem?_eq_none (by simp; omega)]
theorem WalkIn.skip (h : WalkIn w wr n a b i j done) {x y : Int} (hx : a[i]? = some x) (hy : b[j]? = some y) (hne : x ≠ y) (hs : skipAt a b i j = false) : WalkIn w wr n a b i (j + 1) done :=
  ⟨h.row, h.len, by rw [h.mt, mtAt_skip hx hy hne (by unfold skipAt at hs; simp at hs; omega)], h.below⟩
theorem WalkIn.stop (h : WalkIn w wr n a b i j done) (hla : a.length = n) (hout : n ≤ i ∨ b.length ≤ j) : wr.rowIs w.heap.size 3 n (fun t => .int .i64 ((mtAt a b 0 0)[t]?.getD (-1))) := by
  have hl := h.len
  refine h.row.congr fun t _ => ?_
  rw [h.mt]
  rcases Nat.lt_or_ge t i with h1 | h1
  · rw [List.getElem?_append_left (by omega)]
  · rw [List.getElem?_eq_none (l := done) (by omega), List.getElem?_append_right (by omega)]
    rcases hout with h2 | h2
    · rw [mtAt_end (by omega)]; simp
    · rw [mtAt_rest h2, List.getElem?_replicate]
      split <;> rfl
end

theorem nums_of_row {w : World} {g n : Nat} {xs : List Int} (hn : xs.length = n) (h : w.rowIs g 3 n (fun t => .int .i64 (xs[t]?.getD (-1)))) : Nums w w.heap.size (some ⟨g, 0, none⟩) n xs :=
  reads_of_row h _ (by simpa using hn) fun i u hu => by
    rw [List.getElem?_map] at hu
    cases hx : xs[i]? with
    | none => rw [hx] at hu; cases hu
    | some x => rw [hx] at hu; simpa using hu

set_option maxRecDepth 100000 in
set_option maxHeartbeats 2000000 in
theorem walk_any (A A' S : Option Addr) (n n' c c' cS B B' : Nat) (a b : List Int) (w : World) (hn : n ≤ 2000) (hn' : n' ≤ 2000) (hA : Nums w B A n a) (hA' : Nums w B' A' n' b) (hB : B ≤ w.heap.size) (hB' : B' ≤ w.heap.size) (hS : Skips w S n n' a b) :
    Calls Tryz.prog 99 #[.slice A n c, .slice A' n' c', .slice S n cS] w fun e w' => e = .returned (.slice (some ⟨w.heap.size, 0, none⟩) n n) ∧ Nums w' w'.heap.size (some ⟨w.heap.size, 0, none⟩) n (mt a b 0) ∧ Below w.heap.size w w' := by
  have hl := hA.len
  have hl' := hA'.len
  have hmk := run_make_row' (P := Tryz.prog) 75 3 (.int .i64 0) 8 Tryz.underlying75 infoInt rfl .i64 .i64 n (by omega) (by omega)
  have h0 : (w.alloc (.cells (madeCells #[.int .i64 0] n) 3)).rowIs w.heap.size 3 n (fun t => .int .i64 (if t < 0 then -1 else 0)) := (World.rowIs_made w (.int .i64 0) n 3).congr fun t _ => by simp
  have hb0 : Below w.heap.size w (w.alloc (.cells (madeCells #[.int .i64 0] n) 3)) := (Below.refl _ _).alloc (Nat.le_refl _) _
  have h0' := Lib.hid (And.intro h0 hb0)
  clear h0 hb0
  go_enter Tryz.func99, Tryz.ntmps99
  go_wp2
  go_loopw [8, 16] (fun _ sk wr => ∃ k : Nat, k ≤ n ∧ sk = .int .i64 k ∧ Hid (wr.rowIs w.heap.size 3 n (fun t => .int .i64 (if t < k then -1 else 0)) ∧ Below w.heap.size w wr)) (fun _ sk _ => n - (intOf sk).toNat)
  case atStart => exact ⟨0, Nat.zero_le _, rfl, h0'⟩
  case round =>
    obtain ⟨k, hk, rfl, hR⟩ := hrel
    obtain ⟨wo, rfl⟩ : ∃ wo : World, wo = wr := ⟨_, rfl⟩
    clear h0' hmk
    by_cases hlt : k < n
    · have hki : ((k : Int) < (n : Int)) := by omega
      have hk0 : (0 : Int) ≤ (k : Int) := by omega
      have f0 := hR.out.1.frozen k
      obtain ⟨u0, cu0⟩ : ∃ u, wo.cell? ⟨w.heap.size, k, none⟩ = some u := ⟨_, hR.out.1.cell hlt⟩
      have hst : Hid ((wo.setCell ⟨w.heap.size, k, none⟩ (.int .i64 (-1))).rowIs w.heap.size 3 n (fun t => .int .i64 (if t < k + 1 then -1 else 0)) ∧ Below w.heap.size w (wo.setCell ⟨w.heap.size, k, none⟩ (.int .i64 (-1)))) := Lib.hid ⟨(hR.out.1.set k _).congr fun t _ => by
        by_cases e : t = k
        · subst e; simp
        · rw [if_neg e]
          by_cases h1 : t < k
          · rw [if_pos h1, if_pos (by omega)]
          · rw [if_neg h1, if_neg (by omega)], hR.out.2.setCell (Nat.le_refl _) _⟩
      go_wp2
      go_roundw
      case rel => exact ⟨k + 1, by omega, by go_num, hst⟩
      case measure => simp [intOf]; omega
    · obtain rfl : k = n := by omega
      have h1 : WalkIn w wo k a b 0 0 [] := ⟨hR.out.1.congr fun t ht => by simp [ht], rfl, rfl, hR.out.2⟩
      have h1' := Lib.hid h1
      clear h1 hR
      go_wp2
      go_loopw [9, 10, 35, 53] (fun si sj _ _ wr => ∃ (i j : Nat) (done : List Int), i ≤ k ∧ j ≤ n' ∧ si = .int .i64 i ∧ sj = .int .i64 j ∧ Hid (WalkIn w wr k a b i j done)) (fun si sj _ _ _ => (k - (intOf si).toNat) + (n' - (intOf sj).toNat))
      case atStart => exact ⟨0, 0, [], Nat.zero_le _, Nat.zero_le _, rfl, rfl, h1'⟩
      case round =>
        obtain ⟨i, j, done, hi, hj, rfl, rfl, hW⟩ := hrel
        obtain ⟨wp, rfl⟩ : ∃ wp : World, wp = wr := ⟨_, rfl⟩
        clear h1'
        by_cases hin : i < k
        · by_cases hjn : j < n'
          · obtain ⟨ba, oa, x, rfl, hba, hx, hxa⟩ := hA.at_ (k := i) hin
            obtain ⟨bb, ob, y, rfl, hbb, hy, hyb⟩ := hA'.at_ (k := j) hjn
            obtain ⟨g, o, g', o', m, cm, rfl, hg, hg', hm, hs1, hs2⟩ := hS i j hin hjn
            have hBe := hW.out.below
            have cx : wp.cell? ⟨ba, oa + i, none⟩ = some (.int .i64 x) := (hBe.cell (p := ⟨ba, oa + i, none⟩) (by show ba < _; omega)).trans hxa
            have cy : wp.cell? ⟨bb, ob + j, none⟩ = some (.int .i64 y) := (hBe.cell (p := ⟨bb, ob + j, none⟩) (by show bb < _; omega)).trans hyb
            have cs1 := (hBe.cell (p := ⟨g, o + i, none⟩) (by show g < _; omega)).trans hs1
            have cs2 := (hBe.cell (p := ⟨g', o' + j, none⟩) (by show g' < _; omega)).trans hs2
            have f0 := hW.out.row.frozen i
            obtain ⟨u0, cu0⟩ : ∃ u, wp.cell? ⟨w.heap.size, i, none⟩ = some u := ⟨_, hW.out.row.cell hin⟩
            have i1 : (0 : Int) ≤ (i : Int) := by omega
            have i2 : (i : Int) < (k : Int) := by omega
            have i3 : (0 : Int) ≤ (j : Int) := by omega
            have i4 : (j : Int) < (n' : Int) := by omega
            have i5 : (j : Int) < (m : Int) := by omega
            clear hxa hyb hs1 hs2 hBe
            by_cases hxy : x = y
            · have hb : (x == y) = true := by simpa using hxy
              have hst := Lib.hid (hW.out.pair hx (hxy ▸ hy))
              clear hxy
              go_wp2
              go_quiet (fail)
              obtain ⟨z1, rfl⟩ : ∃ z1, z1 = nq := ⟨_, rfl⟩
              go_wp2
              go_roundw
              case rel => exact ⟨i + 1, j + 1, _, by omega, by omega, by go_num, by go_num, Lib.hid (hst.out.drewN z1)⟩
              case measure => simp [intOf]; omega
            · have hb : (x == y) = false := by simpa using hxy
              have hp := Lib.hid (hW.out.pass hx hy hxy)
              have hsk := Lib.hid (hW.out.skip hx hy hxy)
              obtain ⟨s, hs⟩ : ∃ s, s = skipAt a b i j := ⟨_, rfl⟩
              rw [← hs] at cs2
              have hs' := Lib.hid hs
              clear hxy hs
              go_wp2
              go_quiet (fail)
              obtain ⟨z1, rfl⟩ : ∃ z1, z1 = nq := ⟨_, rfl⟩
              cases s
              · go_wp2
                go_roundw
                case rel => exact ⟨i, j + 1, _, by omega, by omega, rfl, by go_num, Lib.hid ((hsk.out hs'.out.symm).drewN z1)⟩
                case measure => simp [intOf]; omega
              · go_wp2
                go_roundw
                case rel => exact ⟨i + 1, j, _, by omega, by omega, by go_num, rfl, Lib.hid ((hp.out hs'.out.symm).drewN z1)⟩
                case measure => simp [intOf]; omega
          · have hst := hW.out.stop hl (.inr (by omega))
            have hr : Nums wp wp.heap.size (some ⟨w.heap.size, 0, none⟩) k (mt a b 0) := nums_of_row (by rw [mt_len]; exact hl) hst
            have hr' := Lib.hid hr
            have hjf : decide ((j : Int) < (n' : Int)) = false := by simp; omega
            have hb := hW.out.below
            clear hst hr
            go_wp2
            go_ret
            exact ⟨rfl, hr'.out, hb⟩
        · have hst := hW.out.stop hl (.inl (by omega))
          have hr : Nums wp wp.heap.size (some ⟨w.heap.size, 0, none⟩) k (mt a b 0) := nums_of_row (by rw [mt_len]; exact hl) hst
          have hr' := Lib.hid hr
          have hif : decide ((i : Int) < (k : Int)) = false := by simp; omega
          have hb := hW.out.below
          clear hst hr
          go_wp2
          go_ret
          exact ⟨rfl, hr'.out, hb⟩

/-- What Clone leaves: a row of the call's own. -/
def CloneOut (w w' : World) (e : Ending) (n : Nat) (a : List Int) : Prop := ∃ v, e = .returned v ∧ w'.ownsRow w.heap.size 3 1 v n (a.map fun x => .int .i64 x) ∧ Below w.heap.size w w'

set_option maxHeartbeats 400000 in
theorem clone_any (A : Option Addr) (n c B : Nat) (a : List Int) (w : World) (hn : n ≤ 2000) (hB : B ≤ w.heap.size) (hA : Nums w B A n a) :
    Calls Tryz.prog 64 #[.slice A n c] w fun e w' => CloneOut w w' e n a := by
  have hl := hA.len
  obtain ⟨i0, hi, hz0, hz1, hz2⟩ := info_parts infoInt
  have hw0 : (w.alloc (.cells #[] 3)).ownsRow w.heap.size 3 1 (.slice (some ⟨w.heap.size, 0, none⟩) 0 0) 0 [] := own_empty w w.heap.size _ (Nat.le_refl _)
  have hB0 : Below w.heap.size w (w.alloc (.cells #[] 3)) := (Below.refl _ _).alloc (Nat.le_refl _) _
  have hm : Hid (0 + n ≤ maxLen ∧ (0 + n) * 8 ≤ 140737488355328) := Lib.hid ⟨by unfold maxLen; omega, by omega⟩
  cases A with
  | none =>
    have h0 : n = 0 := by
      rcases Nat.eq_zero_or_pos n with h0 | h0
      · exact h0
      · obtain ⟨_, _, h, _⟩ := hA.2 h0
        cases h
    subst h0
    obtain rfl : a = [] := List.eq_nil_of_length_eq_zero hl
    have hq : ∀ W : World, (binOp .eql 75 (.slice none 0 c) (.slice none 0 0)).run Tryz.prog W = .ok (.bool true) W := fun W => Lib.run_eql_slice_nil W _ _ _ _ _ _ _ Tryz.underlying75
    go_enter Tryz.func64, Tryz.ntmps64
    go_wp2
    go_ret
    exact ⟨_, rfl, World.ownsRow_nil _ _ _ _, Below.refl _ _⟩
  | some p =>
    have hA0 := Lib.hid ((hA.more hB).below hB0)
    clear hA
    have hq : ∀ W : World, (binOp .eql 75 (.slice (some p) n c) (.slice none 0 0)).run Tryz.prog W = .ok (.bool false) W := fun W => Lib.run_eql_slice_nil W _ _ _ _ _ _ _ Tryz.underlying75
    go_enter Tryz.func64, Tryz.ntmps64
    go_wp2_with (at_builtin; refine wpList_append_reads _ rfl _ _ 75 rfl w.heap.size 3 i0 (.int .i64 0) 8 Tryz.underlying75 hi hz0 hz1 hz2 rfl _ 0 [] rfl hw0 w.heap.size (some p) n c _ rfl hA0.out (nums_one _) hm.out.1 hm.out.2 hB0.size ?_; intro v1 w1 hown1 hg1; have hB1 : Below w.heap.size w w1 := hB0.grown hg1 hB0.size (fun j e => (hw0.lt j e).1); rw [Nat.zero_add, List.nil_append] at hown1)
    go_ret
    exact ⟨_, rfl, hown1, hB1⟩
end Go.Proofs.YtoopdgohdeddoaaGreatDoor

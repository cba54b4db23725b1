/- Proved here: texts joined: Cks, CkInfo, LcsRef. -/
import Derived.Test.YticgjbckfpkpjaaGreatBu01
import Derived.Test.YticgjbckfpkpjaaGreatBu02
import Derived.Test.YticgjbckfpkpjaaGreatBu05
import Derived.Test.YticgjbckfpkpjaaGreatBu17
import Derived.Test.YticgjbckfpkpjaaGreatChecked
import Derived.WalkLawsBesides
import Derived.BigFrame
import Derived.Deep.QuietTactic
import Derived.BigQuiet
import Derived.Outline
/- Proved here, without conditions on the program: rows of slices of numbers of the call's own. -/
namespace Go.Proofs.YticgjbckfpkpjaaGreat
open Go.RowKit
set_option linter.unusedVariables false

/-- Numbers of the call's own. -/
def OwnNums (w w' : World) (e : Ending) (xs : List Int) : Prop := ∃ v, e = .returned v ∧ w'.ownsRow w.heap.size 3 1 v xs.length (xs.map fun x => .int .i64 x) ∧ Below w.heap.size w w'

/-- Rows of numbers of the call's own, none of which lies in the blocks of Z. -/
structure RowsIn (w wr : World) (v : Value) (Z : Nat → Prop) (rows : List (Option Addr × Nat × Nat)) (xss : List (List Int)) : Prop where
  own : wr.ownsRow w.heap.size 69 1 v rows.length (rows.map fun r => .slice r.1 r.2.1 r.2.2)
  len : rows.length = xss.length
  row : ∀ (k : Nat) (r : Option Addr × Nat × Nat) (xs : List Int), rows[k]? = some r → xss[k]? = some xs → r.2.1 ≤ r.2.2 ∧ r.2.2 ≤ maxLen ∧ Nums wr wr.heap.size r.1 r.2.1 xs ∧ (0 < r.2.1 → ∀ q o, r.1 = some ⟨q, o, none⟩ → v.ownBlock ≠ some q ∧ ¬ Z q)

section
variable {w wr w1 w2 : World} {v v' : Value} {Z : Nat → Prop} {rows : List (Option Addr × Nat × Nat)} {xss : List (List Int)}
/-- Kept, where neither the row's own block nor the rows' turn. -/
theorem RowsIn.kept (h : RowsIn w wr v Z rows xss) (hs : wr.heap.size ≤ w1.heap.size) (hk : ∀ k, k < wr.heap.size → ¬ Z k → w1.heap[k]? = wr.heap[k]?) (hZ : ∀ k, v.ownBlock = some k → ¬ Z k) : RowsIn w w1 v Z rows xss := by
  refine ⟨ownsRow_kept h.own fun k e => hk k (h.own.lt k e).2 (hZ k e), h.len, fun k r xs h1 h2 => ?_⟩
  obtain ⟨e1, e2, e3, e4⟩ := h.row k r xs h1 h2
  refine ⟨e1, e2, ⟨e3.1, fun hn => ?_⟩, e4⟩
  obtain ⟨b, o, ha, hb, hc⟩ := e3.2 hn
  exact ⟨b, o, ha, by omega, fun j u hu => (World.cell?_of_block (w := wr) (hk b hb (e4 hn b o ha).2)).trans (hc j u hu)⟩
theorem RowsIn.put {r : Option Addr × Nat × Nat} {xs : List Int} {o : Obj} (h : RowsIn w w1 v Z rows xss) (hr1 : r.2.1 ≤ r.2.2) (hr2 : r.2.2 ≤ maxLen) (hr3 : Nums w1 w1.heap.size r.1 r.2.1 xs) (hr4 : 0 < r.2.1 → ∀ q o, r.1 = some ⟨q, o, none⟩ → v.ownBlock ≠ some q ∧ ¬ Z q)
    (hown : w2.ownsRow w.heap.size 69 1 v' (rows.length + 1) ((rows.map fun r => .slice r.1 r.2.1 r.2.2) ++ [.slice r.1 r.2.1 r.2.2])) (hg : (w1.alloc o).grownBy w2 v.ownBlock) (hloc : v'.ownBlock = v.ownBlock ∨ v'.ownBlock = some (w1.alloc o).heap.size) : RowsIn w w2 v' Z (rows ++ [r]) (xss ++ [xs]) := by
  have hs : w1.heap.size + 1 ≤ w2.heap.size := by have := hg.size; simpa using this
  have keepN : ∀ (r : Option Addr × Nat × Nat) (xs : List Int), Nums w1 w1.heap.size r.1 r.2.1 xs → (0 < r.2.1 → ∀ q o, r.1 = some ⟨q, o, none⟩ → v.ownBlock ≠ some q ∧ ¬ Z q) → Nums w2 w2.heap.size r.1 r.2.1 xs ∧ (0 < r.2.1 → ∀ q o, r.1 = some ⟨q, o, none⟩ → v'.ownBlock ≠ some q ∧ ¬ Z q) := by
    intro r xs h3 h4
    refine ⟨⟨h3.1, fun hn => ?_⟩, fun hn q o' e => ?_⟩
    · obtain ⟨b, o', ha, hb, hc⟩ := h3.2 hn
      have hne := (h4 hn b o' ha).1
      refine ⟨b, o', ha, by omega, fun j u hu => ?_⟩
      rw [World.cell?_of_block (w := w1.alloc o) (hg.block b (by simp; omega) (fun e => hne e.symm)), World.cell?_of_block (w := w1) (Below.heap_alloc w1 o b hb)]
      exact hc j u hu
    · obtain ⟨h5, h6⟩ := h4 hn q o' e
      obtain ⟨b, o2, ha, hb, _⟩ := h3.2 hn
      rw [e] at ha
      injection ha with ha
      injection ha with ha1 ha2
      refine ⟨?_, h6⟩
      rcases hloc with h | h
      · rw [h]; exact h5
      · rw [h]
        intro h7
        injection h7 with h7
        simp at h7
        omega
  refine ⟨by simpa using hown, by simp [h.len], fun k r' xs' h1 h2 => ?_⟩
  have hl := h.len
  rcases Nat.lt_or_ge k rows.length with hk | hk
  · rw [List.getElem?_append_left hk] at h1
    rw [List.getElem?_append_left (by omega)] at h2
    obtain ⟨e1, e2, e3, e4⟩ := h.row k r' xs' h1 h2
    obtain ⟨f1, f2⟩ := keepN r' xs' e3 e4
    exact ⟨e1, e2, f1, f2⟩
  · rw [List.getElem?_append_right hk] at h1
    rw [List.getElem?_append_right (by omega)] at h2
    have hk0 : k = rows.length := by
      have := (List.getElem?_eq_some_iff.1 h1).1
      simp at this
      omega
    subst hk0
    simp at h1
    simp [hl] at h2
    subst h1
    subst h2
    obtain ⟨f1, f2⟩ := keepN r xs hr3 hr4
    exact ⟨hr1, hr2, f1, f2⟩
theorem RowsIn.reads (h : RowsIn w wr v Z rows xss) : ∃ A c, v = .slice A rows.length c ∧ rows.length ≤ c ∧ c ≤ maxLen ∧ RowsN wr wr.heap.size A rows.length rows xss := by
  obtain ⟨A, c, e, h1, h2, h3⟩ := own_slice h.own
  exact ⟨A, c, e, h1, h2, h3, h.len, fun k r xs a b => (h.row k r xs a b).2.2.1⟩
end
end Go.Proofs.YticgjbckfpkpjaaGreat
/- Proved here: what the model tells of numbers, and of slices of numbers, as elements. -/
namespace Go.Proofs.YticgjbckfpkpjaaGreat
open Go.RowKit
set_option linter.unusedVariables false

theorem infoIntA : (Tryz.prog.info? 3).map (fun i => (i.zero, i.size, i.bytes)) = some (some (.int .i64 0), 1, 8) := by kernel_rfl
theorem infoRowA : (Tryz.prog.info? 69).map (fun i => (i.zero, i.size, i.bytes)) = some (some (.slice none 0 0), 1, 24) := by kernel_rfl
end Go.Proofs.YticgjbckfpkpjaaGreat
/- Proved here: contracts of the document's own answers of layer 3. -/
namespace Go.Proofs.YticgjbckfpkpjaaGreat
open Go.RowKit
set_option linter.unusedVariables false

theorem infoInt : (Tryz.prog.info? 3).map (fun i => (i.zero, i.size, i.bytes)) = some (some (.int .i64 0), 1, 8) := by kernel_rfl

/-- What place t of the reckoning holds, where all rows from I on are done, and in the row ahead of it all places from J on. -/
def restAt (a b : List Int) (w I J t : Nat) : Nat := if I ≤ t / w ∨ (t / w + 1 = I ∧ J ≤ t % w) then lcsAt a b (t / w) (t % w) else 0

theorem div_at {w p q : Nat} (hq : q < w) : (p * w + q) / w = p ∧ (p * w + q) % w = q := by
  have hw : 0 < w := by omega
  rw [Nat.mul_comm]
  refine ⟨?_, ?_⟩
  · rw [Nat.mul_add_div hw, Nat.div_eq_of_lt hq]; omega
  · rw [Nat.mul_add_mod, Nat.mod_eq_of_lt hq]
theorem restAt_row {a b : List Int} {w I J p q : Nat} (hq : q < w) : restAt a b w I J (p * w + q) = if I ≤ p ∨ (p + 1 = I ∧ J ≤ q) then lcsAt a b p q else 0 := by
  unfold restAt
  rw [(div_at hq).1, (div_at hq).2]
/-- A place's row and column. -/
theorem place_of {w t n : Nat} (h : t < (n + 1) * w) : ∃ p q, p ≤ n ∧ q < w ∧ t = p * w + q := by
  have hw : 0 < w := by
    rcases Nat.eq_zero_or_pos w with h0 | h0
    · rw [h0] at h; omega
    · exact h0
  refine ⟨t / w, t % w, ?_, Nat.mod_lt _ hw, by rw [Nat.mul_comm]; exact (Nat.div_add_mod t w).symm⟩
  have := (Nat.div_lt_iff_lt_mul hw).2 h
  omega
theorem place_inj {w p q p' q' : Nat} (hq : q < w) (hq' : q' < w) (h : p * w + q = p' * w + q') : p = p' ∧ q = q' := by
  have h1 := div_at (p := p) hq
  have h2 := div_at (p := p') hq'
  rw [h] at h1
  exact ⟨h1.1.symm.trans h2.1, h1.2.symm.trans h2.2⟩

/-- The reckoning, as far as it has come. -/
def RestIn (w wr : World) (n n' : Nat) (a b : List Int) (I J : Nat) : Prop :=
  wr.rowIs w.heap.size 3 ((n + 1) * (n' + 1)) (fun t => .int .i64 (restAt a b (n' + 1) I J t)) ∧ Below w.heap.size w wr

section
variable {w wr : World} {n n' r q : Nat} {a b : List Int}
theorem rest_start (hl : a.length = n) (hw : wr = w.alloc (.cells (madeCells #[.int .i64 0] ((n + 1) * (n' + 1))) 3)) : RestIn w wr n n' a b n (n' + 1) := by
  subst hw
  refine ⟨(World.rowIs_made w (.int .i64 0) _ _).congr fun t ht => ?_, (Below.refl _ _).alloc (Nat.le_refl _) _⟩
  obtain ⟨p, q, hp, hq, rfl⟩ := place_of ht
  rw [restAt_row hq]
  split
  · rename_i h
    rw [lcsAt_end_left (by omega)]; rfl
  · rfl
theorem rest_turn (h : RestIn w wr n n' a b (r + 1) 0) : RestIn w wr n n' a b r (n' + 1) := by
  refine ⟨h.1.congr fun t ht => ?_, h.2⟩
  obtain ⟨p, q, hp, hq, rfl⟩ := place_of ht
  rw [restAt_row hq, restAt_row hq]
  congr 2
  by_cases h1 : r ≤ p
  · rw [if_pos (by omega), if_pos (by omega)]
  · rw [if_neg (by omega), if_neg (by omega)]
theorem rest_first (hl' : b.length = n') (h : RestIn w wr n n' a b (r + 1) (n' + 1)) : RestIn w wr n n' a b (r + 1) n' := by
  refine ⟨h.1.congr fun t ht => ?_, h.2⟩
  obtain ⟨p, q, hp, hq, rfl⟩ := place_of ht
  rw [restAt_row hq, restAt_row hq]
  congr 2
  by_cases h1 : r + 1 ≤ p ∨ (p + 1 = r + 1 ∧ n' + 1 ≤ q)
  · rw [if_pos h1, if_pos (by omega)]
  · rw [if_neg h1]
    split
    · rw [lcsAt_end_right (by omega)]
    · rfl
theorem RestIn.drewN {I J : Nat} (h : RestIn w wr n n' a b I J) (k : Nat) : RestIn w (wr.drewN k) n n' a b I J := ⟨h.1.of_block rfl, ⟨h.2.os, h.2.tape, h.2.output, h.2.size, h.2.block⟩⟩
theorem rest_step (hr : r < n) (hq : q < n') (h : RestIn w wr n n' a b (r + 1) (q + 1)) : RestIn w (wr.setCell ⟨w.heap.size, r * (n' + 1) + q, none⟩ (.int .i64 (lcsAt a b r q))) n n' a b (r + 1) q := by
  refine ⟨(h.1.set _ _).congr fun t ht => ?_, h.2.setCell (Nat.le_refl _) _⟩
  obtain ⟨p', q', hp', hq', rfl⟩ := place_of ht
  rw [restAt_row hq', restAt_row hq']
  by_cases e : p' * (n' + 1) + q' = r * (n' + 1) + q
  · obtain ⟨rfl, rfl⟩ := place_inj hq' (by omega) e
    rw [if_pos rfl, if_pos (by omega)]
  · rw [if_neg e]
    congr 2
    by_cases h1 : r + 1 ≤ p' ∨ (p' + 1 = r + 1 ∧ q + 1 ≤ q')
    · rw [if_pos h1, if_pos (by omega)]
    · rw [if_neg h1, if_neg (fun h2 => h1 (by
        rcases h2 with h2 | ⟨h2, h3⟩
        · exact .inl h2
        · refine .inr ⟨h2, ?_⟩
          rcases Nat.lt_or_ge q q' with h4 | h4
          · exact h4
          · exfalso
            apply e
            have : q' = q := by omega
            have : p' = r := by omega
            subst this; subst q'
            rfl))]
theorem rest_cell {I J p q : Nat} (hp : p ≤ n) (hq : q < n' + 1) (hd : I ≤ p ∨ (p + 1 = I ∧ J ≤ q)) (h : RestIn w wr n n' a b I J) : wr.cell? ⟨w.heap.size, p * (n' + 1) + q, none⟩ = some (.int .i64 (lcsAt a b p q)) := by
  have hlt : p * (n' + 1) + q < (n + 1) * (n' + 1) := by
    have := Nat.mul_le_mul_right (n' + 1) (show p + 1 ≤ n + 1 by omega)
    rw [Nat.add_mul, Nat.one_mul] at this
    omega
  rw [h.1.cell hlt]
  rw [restAt_row hq, if_pos hd]
end

set_option maxRecDepth 100000 in
set_option maxHeartbeats 1000000 in
theorem rest_any (A A' : Option Addr) (n n' c c' B B' : Nat) (a b : List Int) (w : World) (hn : n ≤ 1000) (hn' : n' ≤ 1000) (hA : Nums w B A n a) (hA' : Nums w B' A' n' b) (hB : B ≤ w.heap.size) (hB' : B' ≤ w.heap.size) :
    Calls Tryz.prog 97 #[.slice A n c, .slice A' n' c'] w fun e w' => e = .returned (.slice (some ⟨w.heap.size, 0, none⟩) ((n + 1) * (n' + 1)) ((n + 1) * (n' + 1))) ∧ w'.rowIs w.heap.size 3 ((n + 1) * (n' + 1)) (fun t => .int .i64 (lcsAt a b (t / (n' + 1)) (t % (n' + 1)))) ∧ Below w.heap.size w w' := by
  have hl := hA.len
  have hl' := hA'.len
  obtain ⟨M, hM⟩ : ∃ M, M = (n + 1) * (n' + 1) := ⟨_, rfl⟩
  have hMb : M ≤ 1002001 := by
    rw [hM]
    exact Nat.le_trans (Nat.mul_le_mul (show n + 1 ≤ 1001 by omega) (show n' + 1 ≤ 1001 by omega)) (by decide)
  have hMi : ((n : Int) + 1) * ((n' : Int) + 1) = (M : Int) := by rw [hM]; push_cast; rfl
  have hMh := Lib.hid hM
  rw [← hM]
  clear hM
  have hmk := run_make_row' (P := Tryz.prog) 69 3 (.int .i64 0) 8 Tryz.underlying69 infoInt rfl .i64 .i64 M (by omega) (by omega)
  go_enter Tryz.func97, Tryz.ntmps97
  go_wp2
  have h0 : RestIn w (w.alloc (.cells (madeCells #[.int .i64 0] M) 3)) n n' a b n (n' + 1) := rest_start hl (by rw [hMh.out])
  go_loopw [7] (fun i wr => ∃ I : Nat, I ≤ n ∧ i = .int .i64 ((I : Int) - 1) ∧ RestIn w wr n n' a b I (n' + 1)) (fun i _ => (intOf i + 1).toNat)
  case atStart => exact ⟨n, Nat.le_refl _, rfl, h0⟩
  case round =>
    obtain ⟨I, hI, rfl, hR⟩ := hrel
    obtain ⟨wo, rfl⟩ : ∃ wo : World, wo = wr := ⟨_, rfl⟩
    clear h0
    rcases I with _ | r
    · go_wp2
      go_ret
      refine ⟨rfl, ?_, hR.2⟩
      have := hR.1.congr (g := fun t => .int .i64 (lcsAt a b (t / (n' + 1)) (t % (n' + 1)))) (fun t ht => by
        obtain ⟨p, q, hp, hq, rfl⟩ := place_of ht
        rw [restAt_row hq, (div_at hq).1, (div_at hq).2, if_pos (by omega)])
      rw [hMh.out]
      exact this
    · have hr : r < n := by omega
      have hir : (((r + 1 : Nat) : Int) - 1) = (r : Int) := by omega
      rw [hir]
      clear hir
      have hR2 := rest_first hl' hR
      obtain ⟨P, hP⟩ : ∃ P, P = (r + 1) * (n' + 1) := ⟨_, rfl⟩
      obtain ⟨Q, hQ⟩ : ∃ Q, Q = r * (n' + 1) := ⟨_, rfl⟩
      have hPQ : P = Q + (n' + 1) := by rw [hP, hQ, Nat.add_mul, Nat.one_mul]
      have hPM : P + (n' + 1) ≤ M := by
        rw [hP, hMh.out, ← Nat.succ_mul]
        exact Nat.mul_le_mul_right _ (by omega)
      have m1 : ((r : Int) + 1) * ((n' : Int) + 1) = (P : Int) := by rw [hP]; push_cast; rfl
      have m2 : (r : Int) * ((n' : Int) + 1) = (Q : Int) := by rw [hQ]; push_cast; rfl
      have hPh := Lib.hid hP
      have hQh := Lib.hid hQ
      have hPQh := Lib.hid hPQ
      have hQM : Q + n' < M := by omega
      clear hP hQ hPQ hR
      go_wp2
      go_loopw [8] (fun j wr => ∃ J : Nat, J ≤ n' ∧ j = .int .i64 ((J : Int) - 1) ∧ RestIn w wr n n' a b (r + 1) J) (fun j _ => (intOf j + 1).toNat)
      case atStart => exact ⟨n', Nat.le_refl _, rfl, hR2⟩
      case round =>
        obtain ⟨J, hJ, rfl, hR⟩ := hrel
        obtain ⟨wp, rfl⟩ : ∃ wp : World, wp = wr := ⟨_, rfl⟩
        clear hR2
        rcases J with _ | q
        · have hR3 := rest_turn hR
          go_wp2
          go_roundw
          case rel => exact ⟨r, by omega, by go_num, hR3⟩
          case measure => simp [intOf]
        · have hq : q < n' := by omega
          have hiq : (((q + 1 : Nat) : Int) - 1) = (q : Int) := by omega
          rw [hiq]
          clear hiq
          have hBe := hR.2
          obtain ⟨ba, oa, x, rfl, hba, hx, hxa⟩ := hA.at_ (k := r) hr
          obtain ⟨bb, ob, y, rfl, hbb, hy, hyb⟩ := hA'.at_ (k := q) hq
          have cx : ∀ k, (wp.drewN k).cell? ⟨ba, oa + r, none⟩ = some (.int .i64 x) := fun k => (hBe.cell (p := ⟨ba, oa + r, none⟩) (by show ba < _; omega)).trans hxa
          have cy : ∀ k, (wp.drewN k).cell? ⟨bb, ob + q, none⟩ = some (.int .i64 y) := fun k => (hBe.cell (p := ⟨bb, ob + q, none⟩) (by show bb < _; omega)).trans hyb
          have c1 : wp.cell? ⟨w.heap.size, P + q, none⟩ = some (.int .i64 (lcsAt a b (r + 1) q)) := by rw [hPh.out]; exact rest_cell (by omega) (by omega) (.inl (by omega)) hR
          have c2 : wp.cell? ⟨w.heap.size, Q + (q + 1), none⟩ = some (.int .i64 (lcsAt a b r (q + 1))) := by rw [hQh.out]; exact rest_cell (by omega) (by omega) (.inr ⟨rfl, by omega⟩) hR
          have c3 : wp.cell? ⟨w.heap.size, P + q + 1, none⟩ = some (.int .i64 (lcsAt a b (r + 1) (q + 1))) := by rw [hPh.out, Nat.add_assoc]; exact rest_cell (by omega) (by omega) (.inl (by omega)) hR
          obtain ⟨u0, c0⟩ : ∃ u0, wp.cell? ⟨w.heap.size, Q + q, none⟩ = some u0 := ⟨_, hR.1.cell (by rw [← hMh.out]; omega)⟩
          have f0 : wp.frozen? ⟨w.heap.size, Q + q, none⟩ = false := hR.1.frozen _
          have l1 := lcsAt_le_left a b (r + 1) q
          have l2 := lcsAt_le_left a b r (q + 1)
          have l3 := lcsAt_le_left a b (r + 1) (q + 1)
          have hrow := lcsAt_row hx hy
          obtain ⟨v1, hv1⟩ : ∃ v, v = lcsAt a b (r + 1) q := ⟨_, rfl⟩
          obtain ⟨v2, hv2⟩ : ∃ v, v = lcsAt a b r (q + 1) := ⟨_, rfl⟩
          obtain ⟨v3, hv3⟩ : ∃ v, v = lcsAt a b (r + 1) (q + 1) := ⟨_, rfl⟩
          rw [← hv1] at c1 l1 hrow
          rw [← hv2] at c2 l2 hrow
          rw [← hv3] at c3 l3 hrow
          have hrow' := Lib.hid hrow
          clear hv1 hv2 hv3 hrow hxa hyb
          go_wp2
          obtain ⟨t0, ht0⟩ : ∃ t0, t0 = Q + q := ⟨_, rfl⟩
          obtain ⟨t1, ht1⟩ : ∃ t1, t1 = P + q := ⟨_, rfl⟩
          obtain ⟨t2, ht2⟩ : ∃ t2, t2 = Q + (q + 1) := ⟨_, rfl⟩
          rw [← ht1] at c1
          rw [← ht2] at c2
          have e1 : IntKind.i64.wrap ((r : Int) + 1) = (r : Int) + 1 := IntWalk.i64_in _ (by omega)
          have e2 : IntKind.i64.wrap (((r : Int) + 1) * ((n' : Int) + 1)) = (P : Int) := by rw [m1]; exact IntWalk.i64_in _ (by omega)
          have e3 : IntKind.i64.wrap ((P : Int) + (q : Int)) = (t1 : Int) := by rw [ht1]; push_cast; exact IntWalk.i64_in _ (by omega)
          have e4 : IntKind.i64.wrap ((r : Int) * ((n' : Int) + 1)) = (Q : Int) := by rw [m2]; exact IntWalk.i64_in _ (by omega)
          have e5 : IntKind.i64.wrap ((Q : Int) + (q : Int)) = (t0 : Int) := by rw [ht0]; push_cast; exact IntWalk.i64_in _ (by omega)
          have e6 : IntKind.i64.wrap ((t0 : Int) + 1) = (t2 : Int) := by rw [ht0, ht2]; push_cast; rw [IntWalk.i64_in _ (by omega)]; omega
          have i1 : (0 : Int) ≤ (t1 : Int) := by omega
          have i2 : (t1 : Int) < (M : Int) := by omega
          have i3 : (0 : Int) ≤ (t2 : Int) := by omega
          have i4 : (t2 : Int) < (M : Int) := by omega
          have ht0' := Lib.hid ht0
          have hst := rest_step (w := w) (wr := wp) hr hq hR
          obtain ⟨V, hV⟩ : ∃ V, V = max v1 v2 := ⟨_, rfl⟩
          obtain ⟨L, hL⟩ : ∃ L, L = lcsAt a b r q := ⟨_, rfl⟩
          have hVi : (if v1 < v2 then (v2 : Int) else (v1 : Int)) = (V : Int) := by rw [hV]; split <;> omega
          have hVb : V ≤ 1000 := by omega
          have hLq : Hid (L = if x = y then max V (v3 + 1) else V) := Lib.hid (by rw [hL, hrow'.out, hV])
          have hLh := Lib.hid hL
          have hj1 : (0 : Int) ≤ (r : Int) := by omega
          have hj2 : (r : Int) < (n : Int) := by omega
          have hj3 : (0 : Int) ≤ (q : Int) := by omega
          have hj4 : (q : Int) < (n' : Int) := by omega
          clear ht0 ht1 ht2 hV hL hst
          go_quiet (fail)
          clear e1 e2 e3 e4 e5 e6 hVi
          obtain ⟨z1, rfl⟩ : ∃ z1, z1 = nq := ⟨_, rfl⟩
          by_cases hxy : x = y
          · have hb : (x == y) = true := by simpa using hxy
            have hL2 := hLq.out
            rw [if_pos hxy] at hL2
            have hL2' := Lib.hid hL2
            have hVi2 : (if (V : Int) < (v3 : Int) + 1 then (v3 : Int) + 1 else (V : Int)) = (L : Int) := by rw [hL2]; split <;> omega
            clear hL2 hxy
            go_wp2
            go_quiet (fail)
            go_wp2
            go_roundw
            case rel => exact ⟨q, by omega, by go_num, by have := rest_step hr hq (hR.drewN (z1 + nq)); rw [← hLh.out, ← hQh.out] at this; exact this⟩
            case measure => simp [intOf]
          · have hb : (x == y) = false := by simpa using hxy
            have hL2 := hLq.out
            rw [if_neg hxy] at hL2
            have hL2' := Lib.hid hL2
            clear hL2 hxy
            go_wp2
            go_quiet (fail)
            go_wp2
            go_roundw
            case rel => exact ⟨q, by omega, by go_num, by have := rest_step hr hq (hR.drewN (z1 + nq)); rw [← hLh.out, hL2'.out, ← hQh.out] at this; exact this⟩
            case measure => simp [intOf]
end Go.Proofs.YticgjbckfpkpjaaGreat

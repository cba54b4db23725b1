/- Proved here: texts joined: LcsRef, AlignMatch, AlignMats. -/
import Derived.Test.YtoopdgohdeddoaaGreatDoorBs01
import Derived.Test.YtoopdgohdeddoaaGreatDoorBs08
import Derived.Test.YtoopdgohdeddoaaGreatDoorBs20
import Derived.Test.YtoopdgohdeddoaaGreatDoorChecked
import Derived.WalkLawsBesides
import Derived.BigFrame
import Derived.Deep.QuietTactic
import Derived.BigQuiet
import Derived.Outline
/- Proved here: contracts of the document's own answers of layer 3. -/
namespace Go.Proofs.YtoopdgohdeddoaaGreatDoor
open Go.RowKit
set_option linter.unusedVariables false

theorem infoInt : (Tryz.prog.info? 3).map (fun i => (i.zero, i.size, i.bytes)) = some (some (.int .i64 0), 1, 8) := by kernel_rfl

/-- What place t of the reckoning holds, where all rows from I on are done, and in the row ahead of it all places from J on. -/
def restAt (a b : List Int) (w I J t : Nat) : Nat := if I ≤ t / w ∨ (t / w + 1 = I ∧ J ≤ t % w) then lcsAt a b (t / w) (t % w) else 0

theorem div_at {w p q : Nat} (hq : q < w) : (p * w + q) / w = p ∧ (p * w + q) % w = q := by
  have hw : 0 < w := by omega
  rw [Nat.mul_comm]
  refine ⟨?_, ?_⟩
  · rw [Nat.mul_add_div hw, Nat.div_eq_of_lt hq]; omega
  · rw [Nat.mul_add_mod, Nat.mod_eq_of_lt hq]
theorem restAt_row {a b : List Int} {w I J p q : Nat} (hq : q < w) : restAt a b w I J (p * w + q) = if I ≤ p ∨ (p + 1 = I ∧ J ≤ q) then lcsAt a b p q else 0 := by
  unfold restAt
  rw [(div_at hq).1, (div_at hq).2]
/-- A place's row and column. -/
theorem place_of {w t n : Nat} (h : t < (n + 1) * w) : ∃ p q, p ≤ n ∧ q < w ∧ t = p * w + q := by
  have hw : 0 < w := by
    rcases Nat.eq_zero_or_pos w with h0 | h0
    · rw [h0] at h; omega
    · exact h0
  refine ⟨t / w, t % w, ?_, Nat.mod_lt _ hw, by rw [Nat.mul_comm]; exact (Nat.div_add_mod t w).symm⟩
  have := (Nat.div_lt_iff_lt_mul hw).2 h
  omega
theorem place_inj {w p q p' q' : Nat} (hq : q < w) (hq' : q' < w) (h : p * w + q = p' * w + q') : p = p' ∧ q = q' := by
  have h1 := div_at (p := p) hq
  have h2 := div_at (p := p') hq'
  rw [h] at h1
  exact ⟨h1.1.symm.trans h2.1, h1.2.symm.trans h2.2⟩

/-- The reckoning, as far as it has come. -/
def RestIn (w wr : World) (n n' : Nat) (a b : List Int) (I J : Nat) : Prop :=
  wr.rowIs w.heap.size 3 ((n + 1) * (n' + 1)) (fun t => .int .i64 (restAt a b (n' + 1) I J t)) ∧ Below w.heap.size w wr

section
variable {w wr : World} {n n' r q : Nat} {a b : List Int}
theorem rest_start (hl : a.length = n) (hw : wr = w.alloc (.cells (madeCells #[.int .i64 0] ((n + 1) * (n' + 1))) 3)) : RestIn w wr n n' a b n (n' + 1) := by
  subst hw
  refine ⟨(World.rowIs_made w (.int .i64 0) _ _).congr fun t ht => ?_, (Below.refl _ _).alloc (Nat.le_refl _) _⟩
  obtain ⟨p, q, hp, hq, rfl⟩ := place_of ht
  rw [restAt_row hq]
  split
  · rename_i h
    rw [lcsAt_end_left (by omega)]; rfl
  · rfl
theorem rest_turn (h : RestIn w wr n n' a b (r + 1) 0) : RestIn w wr n n' a b r (n' + 1) := by
  refine ⟨h.1.congr fun t ht => ?_, h.2⟩
  obtain ⟨p, q, hp, hq, rfl⟩ := place_of ht
  rw [restAt_row hq, restAt_row hq]
  congr 2
  by_cases h1 : r ≤ p
  · rw [if_pos (by omega), if_pos (by omega)]
  · rw [if_neg (by omega), if_neg (by omega)]
theorem rest_first (hl' : b.length = n') (h : RestIn w wr n n' a b (r + 1) (n' + 1)) : RestIn w wr n n' a b (r + 1) n' := by
  refine ⟨h.1.congr fun t ht => ?_, h.2⟩
  obtain ⟨p, q, hp, hq, rfl⟩ := place_of ht
  rw [restAt_row hq, restAt_row hq]
  congr 2
  by_cases h1 : r + 1 ≤ p ∨ (p + 1 = r + 1 ∧ n' + 1 ≤ q)
  · rw [if_pos h1, if_pos (by omega)]
  · rw [if_neg h1]
    split
    · rw [lcsAt_end_right (by omega)]
    · rfl
theorem RestIn.drewN {I J : Nat} (h : RestIn w wr n n' a b I J) (k : Nat) : RestIn w (wr.drewN k) n n' a b I J := ⟨h.1.of_block rfl, ⟨h.2.os, h.2.tape, h.2.output, h.2.size, h.2.block⟩⟩
theorem rest_step (hr : r < n) (hq : q < n') (h : RestIn w wr n n' a b (r + 1) (q + 1)) : RestIn w (wr.setCell ⟨w.heap.size, r * (n' + 1) + q, none⟩ (.int .i64 (lcsAt a b r q))) n n' a b (r + 1) q := by
  refine ⟨(h.1.set _ _).congr fun t ht => ?_, h.2.setCell (Nat.le_refl _) _⟩
  obtain ⟨p', q', hp', hq', rfl⟩ := place_of ht
  rw [restAt_row hq', restAt_row hq']
  by_cases e : p' * (n' + 1) + q' = r * (n' + 1) + q
  · obtain ⟨rfl, rfl⟩ := place_inj hq' (by omega) e
    rw [if_pos rfl, if_pos (by omega)]
  · rw [if_neg e]
    congr 2
    by_cases h1 : r + 1 ≤ p' ∨ (p' + 1 = r + 1 ∧ q + 1 ≤ q')
    · rw [if_pos h1, if_pos (by omega)]
    · rw [if_neg h1, if_neg (fun h2 => h1 (by
        rcases h2 with h2 | ⟨h2, h3⟩
        · exact .inl h2
        · refine .inr ⟨h2, ?_⟩
          rcases Nat.lt_or_ge q q' with h4 | h4
          · exact h4
          · exfalso
            apply e
            have : q' = q := by omega
            have : p' = r := by omega
            subst this; subst q'
            rfl))]
theorem rest_cell {I J p q : Nat} (hp : p ≤ n) (hq : q < n' + 1) (hd : I ≤ p ∨ (p + 1 = I ∧ J ≤ q)) (h : RestIn w wr n n' a b I J) : wr.cell? ⟨w.heap.size, p * (n' + 1) + q, none⟩ = some (.int .i64 (lcsAt a b p q)) := by
  have hlt : p * (n' + 1) + q < (n + 1) * (n' + 1) := by
    have := Nat.mul_le_mul_right (n' + 1) (show p + 1 ≤ n + 1 by omega)
    rw [Nat.add_mul, Nat.one_mul] at this
    omega
  rw [h.1.cell hlt]
  rw [restAt_row hq, if_pos hd]
end

set_option maxRecDepth 100000 in
set_option maxHeartbeats 1000000 in
theorem rest_any (A A' : Option Addr) (n n' c c' B B' : Nat) (a b : List Int) (w : World) (hn : n ≤ 1000) (hn' : n' ≤ 1000) (hA : Nums w B A n a) (hA' : Nums w B' A' n' b) (hB : B ≤ w.heap.size) (hB' : B' ≤ w.heap.size) :
    Calls Tryz.prog 105 #[.slice A n c, .slice A' n' c'] w fun e w' => e = .returned (.slice (some ⟨w.heap.size, 0, none⟩) ((n + 1) * (n' + 1)) ((n + 1) * (n' + 1))) ∧ w'.rowIs w.heap.size 3 ((n + 1) * (n' + 1)) (fun t => .int .i64 (lcsAt a b (t / (n' + 1)) (t % (n' + 1)))) ∧ Below w.heap.size w w' := by
  have hl := hA.len
  have hl' := hA'.len
  obtain ⟨M, hM⟩ : ∃ M, M = (n + 1) * (n' + 1) := ⟨_, rfl⟩
  have hMb : M ≤ 1002001 := by
    rw [hM]
    exact Nat.le_trans (Nat.mul_le_mul (show n + 1 ≤ 1001 by omega) (show n' + 1 ≤ 1001 by omega)) (by decide)
  have hMi : ((n : Int) + 1) * ((n' : Int) + 1) = (M : Int) := by rw [hM]; push_cast; rfl
  have hMh := Lib.hid hM
  rw [← hM]
  clear hM
  have hmk := run_make_row' (P := Tryz.prog) 75 3 (.int .i64 0) 8 Tryz.underlying75 infoInt rfl .i64 .i64 M (by omega) (by omega)
  go_enter Tryz.func105, Tryz.ntmps105
  go_wp2
  have h0 : RestIn w (w.alloc (.cells (madeCells #[.int .i64 0] M) 3)) n n' a b n (n' + 1) := rest_start hl (by rw [hMh.out])
  go_loopw [7] (fun i wr => ∃ I : Nat, I ≤ n ∧ i = .int .i64 ((I : Int) - 1) ∧ RestIn w wr n n' a b I (n' + 1)) (fun i _ => (intOf i + 1).toNat)
  case atStart => exact ⟨n, Nat.le_refl _, rfl, h0⟩
  case round =>
    obtain ⟨I, hI, rfl, hR⟩ := hrel
    obtain ⟨wo, rfl⟩ : ∃ wo : World, wo = wr := ⟨_, rfl⟩
    clear h0
    rcases I with _ | r
    · go_wp2
      go_ret
      refine ⟨rfl, ?_, hR.2⟩
      have := hR.1.congr (g := fun t => .int .i64 (lcsAt a b (t / (n' + 1)) (t % (n' + 1)))) (fun t ht => by
        obtain ⟨p, q, hp, hq, rfl⟩ := place_of ht
        rw [restAt_row hq, (div_at hq).1, (div_at hq).2, if_pos (by omega)])
      rw [hMh.out]
      exact this
    · have hr : r < n := by omega
      have hir : (((r + 1 : Nat) : Int) - 1) = (r : Int) := by omega
      rw [hir]
      clear hir
      have hR2 := rest_first hl' hR
      obtain ⟨P, hP⟩ : ∃ P, P = (r + 1) * (n' + 1) := ⟨_, rfl⟩
      obtain ⟨Q, hQ⟩ : ∃ Q, Q = r * (n' + 1) := ⟨_, rfl⟩
      have hPQ : P = Q + (n' + 1) := by rw [hP, hQ, Nat.add_mul, Nat.one_mul]
      have hPM : P + (n' + 1) ≤ M := by
        rw [hP, hMh.out, ← Nat.succ_mul]
        exact Nat.mul_le_mul_right _ (by omega)
      have m1 : ((r : Int) + 1) * ((n' : Int) + 1) = (P : Int) := by rw [hP]; push_cast; rfl
      have m2 : (r : Int) * ((n' : Int) + 1) = (Q : Int) := by rw [hQ]; push_cast; rfl
      have hPh := Lib.hid hP
      have hQh := Lib.hid hQ
      have hPQh := Lib.hid hPQ
      have hQM : Q + n' < M := by omega
      clear hP hQ hPQ hR
      go_wp2
      go_loopw [8] (fun j wr => ∃ J : Nat, J ≤ n' ∧ j = .int .i64 ((J : Int) - 1) ∧ RestIn w wr n n' a b (r + 1) J) (fun j _ => (intOf j + 1).toNat)
      case atStart => exact ⟨n', Nat.le_refl _, rfl, hR2⟩
      case round =>
        obtain ⟨J, hJ, rfl, hR⟩ := hrel
        obtain ⟨wp, rfl⟩ : ∃ wp : World, wp = wr := ⟨_, rfl⟩
        clear hR2
        rcases J with _ | q
        · have hR3 := rest_turn hR
          go_wp2
          go_roundw
          case rel => exact ⟨r, by omega, by go_num, hR3⟩
          case measure => simp [intOf]
        · have hq : q < n' := by omega
          have hiq : (((q + 1 : Nat) : Int) - 1) = (q : Int) := by omega
          rw [hiq]
          clear hiq
          have hBe := hR.2
          obtain ⟨ba, oa, x, rfl, hba, hx, hxa⟩ := hA.at_ (k := r) hr
          obtain ⟨bb, ob, y, rfl, hbb, hy, hyb⟩ := hA'.at_ (k := q) hq
          have cx : ∀ k, (wp.drewN k).cell? ⟨ba, oa + r, none⟩ = some (.int .i64 x) := fun k => (hBe.cell (p := ⟨ba, oa + r, none⟩) (by show ba < _; omega)).trans hxa
          have cy : ∀ k, (wp.drewN k).cell? ⟨bb, ob + q, none⟩ = some (.int .i64 y) := fun k => (hBe.cell (p := ⟨bb, ob + q, none⟩) (by show bb < _; omega)).trans hyb
          have c1 : wp.cell? ⟨w.heap.size, P + q, none⟩ = some (.int .i64 (lcsAt a b (r + 1) q)) := by rw [hPh.out]; exact rest_cell (by omega) (by omega) (.inl (by omega)) hR
          have c2 : wp.cell? ⟨w.heap.size, Q + (q + 1), none⟩ = some (.int .i64 (lcsAt a b r (q + 1))) := by rw [hQh.out]; exact rest_cell (by omega) (by omega) (.inr ⟨rfl, by omega⟩) hR
          have c3 : wp.cell? ⟨w.heap.size, P + q + 1, none⟩ = some (.int .i64 (lcsAt a b (r + 1) (q + 1))) := by rw [hPh.out, Nat.add_assoc]; exact rest_cell (by omega) (by omega) (.inl (by omega)) hR
          obtain ⟨u0, c0⟩ : ∃ u0, wp.cell? ⟨w.heap.size, Q + q, none⟩ = some u0 := ⟨_, hR.1.cell (by rw [← hMh.out]; omega)⟩
          have f0 : wp.frozen? ⟨w.heap.size, Q + q, none⟩ = false := hR.1.frozen _
          have l1 := lcsAt_le_left a b (r + 1) q
          have l2 := lcsAt_le_left a b r (q + 1)
          have l3 := lcsAt_le_left a b (r + 1) (q + 1)
          have hrow := lcsAt_row hx hy
          obtain ⟨v1, hv1⟩ : ∃ v, v = lcsAt a b (r + 1) q := ⟨_, rfl⟩
          obtain ⟨v2, hv2⟩ : ∃ v, v = lcsAt a b r (q + 1) := ⟨_, rfl⟩
          obtain ⟨v3, hv3⟩ : ∃ v, v = lcsAt a b (r + 1) (q + 1) := ⟨_, rfl⟩
          rw [← hv1] at c1 l1 hrow
          rw [← hv2] at c2 l2 hrow
          rw [← hv3] at c3 l3 hrow
          have hrow' := Lib.hid hrow
          clear hv1 hv2 hv3 hrow hxa hyb
          go_wp2
          obtain ⟨t0, ht0⟩ : ∃ t0, t0 = Q + q := ⟨_, rfl⟩
          obtain ⟨t1, ht1⟩ : ∃ t1, t1 = P + q := ⟨_, rfl⟩
          obtain ⟨t2, ht2⟩ : ∃ t2, t2 = Q + (q + 1) := ⟨_, rfl⟩
          rw [← ht1] at c1
          rw [← ht2] at c2
          have e1 : IntKind.i64.wrap ((r : Int) + 1) = (r : Int) + 1 := IntWalk.i64_in _ (by omega)
          have e2 : IntKind.i64.wrap (((r : Int) + 1) * ((n' : Int) + 1)) = (P : Int) := by rw [m1]; exact IntWalk.i64_in _ (by omega)
          have e3 : IntKind.i64.wrap ((P : Int) + (q : Int)) = (t1 : Int) := by rw [ht1]; push_cast; exact IntWalk.i64_in _ (by omega)
          have e4 : IntKind.i64.wrap ((r : Int) * ((n' : Int) + 1)) = (Q : Int) := by rw [m2]; exact IntWalk.i64_in _ (by omega)
          have e5 : IntKind.i64.wrap ((Q : Int) + (q : Int)) = (t0 : Int) := by rw [ht0]; push_cast; exact IntWalk.i64_in _ (by omega)
          have e6 : IntKind.i64.wrap ((t0 : Int) + 1) = (t2 : Int) := by rw [ht0, ht2]; push_cast; rw [IntWalk.i64_in _ (by omega)]; omega
          have i1 : (0 : Int) ≤ (t1 : Int) := by omega
          have i2 : (t1 : Int) < (M : Int) := by omega
          have i3 : (0 : Int) ≤ (t2 : Int) := by omega
          have i4 : (t2 : Int) < (M : Int) := by omega
          have ht0' := Lib.hid ht0
          have hst := rest_step (w := w) (wr := wp) hr hq hR
          obtain ⟨V, hV⟩ : ∃ V, V = max v1 v2 := ⟨_, rfl⟩
          obtain ⟨L, hL⟩ : ∃ L, L = lcsAt a b r q := ⟨_, rfl⟩
          have hVi : (if v1 < v2 then (v2 : Int) else (v1 : Int)) = (V : Int) := by rw [hV]; split <;> omega
          have hVb : V ≤ 1000 := by omega
          have hLq : Hid (L = if x = y then max V (v3 + 1) else V) := Lib.hid (by rw [hL, hrow'.out, hV])
          have hLh := Lib.hid hL
          have hj1 : (0 : Int) ≤ (r : Int) := by omega
          have hj2 : (r : Int) < (n : Int) := by omega
          have hj3 : (0 : Int) ≤ (q : Int) := by omega
          have hj4 : (q : Int) < (n' : Int) := by omega
          clear ht0 ht1 ht2 hV hL hst
          go_quiet (fail)
          clear e1 e2 e3 e4 e5 e6 hVi
          obtain ⟨z1, rfl⟩ : ∃ z1, z1 = nq := ⟨_, rfl⟩
          by_cases hxy : x = y
          · have hb : (x == y) = true := by simpa using hxy
            have hL2 := hLq.out
            rw [if_pos hxy] at hL2
            have hL2' := Lib.hid hL2
            have hVi2 : (if (V : Int) < (v3 : Int) + 1 then (v3 : Int) + 1 else (V : Int)) = (L : Int) := by rw [hL2]; split <;> omega
            clear hL2 hxy
            go_wp2
            go_quiet (fail)
            go_wp2
            go_roundw
            case rel => exact ⟨q, by omega, by go_num, by have := rest_step hr hq (hR.drewN (z1 + nq)); rw [← hLh.out, ← hQh.out] at this; exact this⟩
            case measure => simp [intOf]
          · have hb : (x == y) = false := by simpa using hxy
            have hL2 := hLq.out
            rw [if_neg hxy] at hL2
            have hL2' := Lib.hid hL2
            clear hL2 hxy
            go_wp2
            go_quiet (fail)
            go_wp2
            go_roundw
            case rel => exact ⟨q, by omega, by go_num, by have := rest_step hr hq (hR.drewN (z1 + nq)); rw [← hLh.out, hL2'.out, ← hQh.out] at this; exact this⟩
            case measure => simp [intOf]
end Go.Proofs.YtoopdgohdeddoaaGreatDoor
/- Proved here: contracts of the document's own answers of layers 3 and 5: Match (of numbers of the call's own), Matches. -/
namespace Go.Proofs.YtoopdgohdeddoaaGreatDoor
open Go.RowKit
set_option linter.unusedVariables false

theorem own_base {w : World} {b1 b2 n : Nat} {e : TypeId} {size : Nat} {v : Value} {xs : List Value} (h : w.ownsRow b1 e size v n xs) (hb : b2 ≤ b1) : w.ownsRow b2 e size v n xs := by
  refine ⟨h.1, ?_⟩
  rcases h.2 with h | ⟨g, cap, cur, e1, h2, r⟩
  · exact .inl h
  · exact .inr ⟨g, cap, cur, e1, Nat.le_trans hb h2, r⟩

theorem match_step {w1 wr w2 : World} {v : Value} {a b done : List Int} {i j j' : Nat} {u : Int} {o : Obj} (h : mtAt a b 0 0 = done ++ mtAt a b i j) (hu : mtAt a b i j = u :: mtAt a b (i + 1) j') (hB : Below w1.heap.size w1 wr) (hl : ∀ k, v.ownBlock = some k → w1.heap.size ≤ k ∧ k < wr.heap.size)
    (hg : (wr.alloc o).grownBy w2 v.ownBlock) : mtAt a b 0 0 = (done ++ [u]) ++ mtAt a b (i + 1) j' ∧ Below w1.heap.size w1 w2 :=
  ⟨by rw [h, hu]; simp, (hB.alloc hB.size o).grown hg (by have := hB.size; simp; omega) (fun k e => (hl k e).1)⟩

set_option maxRecDepth 100000 in
set_option maxHeartbeats 2000000 in
theorem rMatch_any (A A' : Option Addr) (n n' c c' B B' : Nat) (a b : List Int) (w : World) (hn : n ≤ 1000) (hn' : n' ≤ 1000) (hA : Nums w B A n a) (hA' : Nums w B' A' n' b) (hB : B ≤ w.heap.size) (hB' : B' ≤ w.heap.size) :
    Calls Tryz.prog 84 #[.slice A n c, .slice A' n' c'] w fun e w' => OwnNums w w' e (mt a b 0) := by
  have hl := hA.len
  have hl' := hA'.len
  obtain ⟨M, hM⟩ : ∃ M, M = (n + 1) * (n' + 1) := ⟨_, rfl⟩
  have hMb : M ≤ 1002001 := by
    rw [hM]
    exact Nat.le_trans (Nat.mul_le_mul (show n + 1 ≤ 1001 by omega) (show n' + 1 ≤ 1001 by omega)) (by decide)
  have hR := rest_any A A' n n' c c' B B' a b w hn hn' hA hA' hB hB'
  rw [← hM] at hR
  have hR' := Lib.hid hR
  have hMh := Lib.hid hM
  clear hM hR
  obtain ⟨i0, hi, hz0, hz1, hz2⟩ := info_parts infoInt
  have hgo : mt a b 0 = mtAt a b 0 0 := rfl
  rw [hgo]
  clear hgo
  go_enter Tryz.func84, Tryz.ntmps84
  go_wp2_with (go_at_call 105; refine hR'.out.mono ?_; rintro e w1 ⟨rfl, hrow, hB1⟩; have hw1 := hrow.lt)
  have hrowh := Lib.hid hrow
  clear hrow
  go_loopw [7, 8, 9] (fun sv sj si wr => ∃ (i j : Nat) (v : Value) (done : List Int), i ≤ n ∧ j ≤ n' ∧ si = .int .i64 i ∧ sj = .int .i64 j ∧ v = sv ∧ done.length = i ∧ Hid (mtAt a b 0 0 = done ++ mtAt a b i j) ∧ wr.ownsRow w1.heap.size 3 1 v i (done.map fun x => .int .i64 x) ∧ Below w1.heap.size w1 wr) (fun _ _ i _ => n - (intOf i).toNat)
  case atStart => exact ⟨0, 0, _, [], Nat.zero_le _, Nat.zero_le _, rfl, rfl, rfl, rfl, Lib.hid rfl, World.ownsRow_nil _ _ _ _, Below.refl _ _⟩
  case round =>
    obtain ⟨i, j0, v, done, hi', hj0, rfl, rfl, rfl, hdl, hmt, hown, hBr⟩ := hrel
    have hdl' := Lib.hid hdl
    clear hdl
    obtain ⟨wo, rfl⟩ : ∃ wo : World, wo = wr := ⟨_, rfl⟩
    by_cases hlt : i < n
    · obtain ⟨P, hP⟩ : ∃ P, P = (i + 1) * (n' + 1) := ⟨_, rfl⟩
      obtain ⟨Q, hQ⟩ : ∃ Q, Q = i * (n' + 1) := ⟨_, rfl⟩
      have hPQ : P = Q + (n' + 1) := by rw [hP, hQ, Nat.add_mul, Nat.one_mul]
      have hPM : P + (n' + 1) ≤ M := by
        rw [hP, hMh.out, ← Nat.succ_mul]
        exact Nat.mul_le_mul_right _ (by omega)
      have hQM : Q + n' < M := by omega
      have m1 : ((i : Int) + 1) * ((n' : Int) + 1) = (P : Int) := by rw [hP]; push_cast; rfl
      have m2 : (i : Int) * ((n' : Int) + 1) = (Q : Int) := by rw [hQ]; push_cast; rfl
      have hPh := Lib.hid hP
      have hQh := Lib.hid hQ
      have hPQh := Lib.hid hPQ
      clear hP hQ hPQ
      go_wp2
      go_loopw [8] (fun sj wr => ∃ (j q : Nat), j ≤ n' ∧ sj = .int .i64 j ∧ wr = wo.drewN q ∧ Hid (mtAt a b i j0 = mtAt a b i j)) (fun sj _ => n' - (intOf sj).toNat)
      case atStart => exact ⟨j0, 0, hj0, rfl, rfl, Lib.hid rfl⟩
      case round =>
        obtain ⟨j, q, hj, rfl, hwr, hmj⟩ := hrel
        have hwr' := Lib.hid hwr
        clear hwr
        have hBw : Below w1.heap.size w1 wr := by rw [hwr'.out]; exact below_drewN hBr q
        have hsw : wr.heap.size = wo.heap.size := by rw [hwr'.out]; rfl
        have hBe : Below w.heap.size w wr := hB1.trans (hBw.mono hB1.size)
        have hownr : wr.ownsRow w1.heap.size 3 1 v i (done.map fun x => .int .i64 x) := ownsRow_kept hown fun k e => by rw [hwr'.out]; rfl
        have hrw : wr.rowIs w.heap.size 3 M (fun t => .int .i64 (lcsAt a b (t / (n' + 1)) (t % (n' + 1)))) := hrowh.out.of_block (hBw.block _ hw1)
        have hrwh := Lib.hid hrw
        have hmax : Hid (i + 1 ≤ maxLen ∧ (i + 1) * 8 ≤ 140737488355328) := Lib.hid ⟨by unfold maxLen; omega, by omega⟩
        have hso : w1.heap.size ≤ wr.heap.size := hBw.size
        have hll := Lib.hid hownr.lt
        have hswh := Lib.hid hsw
        clear hrw hsw
        obtain ⟨ba, oa, x, rfl, hba, hx, hxa⟩ := hA.at_ (k := i) hlt
        have cx : wr.cell? ⟨ba, oa + i, none⟩ = some (.int .i64 x) := (hBe.cell (p := ⟨ba, oa + i, none⟩) (by show ba < _; omega)).trans hxa
        clear hxa
        by_cases hjn : j < n'
        · obtain ⟨bb, ob, y, rfl, hbb, hy, hyb⟩ := hA'.at_ (k := j) hjn
          have cy : wr.cell? ⟨bb, ob + j, none⟩ = some (.int .i64 y) := (hBe.cell (p := ⟨bb, ob + j, none⟩) (by show bb < _; omega)).trans hyb
          clear hyb
          have hj1 : (0 : Int) ≤ (i : Int) := by omega
          have hj2 : (i : Int) < (n : Int) := by omega
          have hj3 : (0 : Int) ≤ (j : Int) := by omega
          have hj4 : (j : Int) < (n' : Int) := by omega
          by_cases hxy : x = y
          · have hb1 : (x != y) = false := by simpa using hxy
            have hb2 : (x == y) = true := by simpa using hxy
            have hu := mtAt_pair hx (hxy ▸ hy)
            rw [← hmj.out] at hu
            have huh := Lib.hid hu
            clear hxy hu
            go_wp2
            go_quiet (fail)
            obtain ⟨z1, rfl⟩ : ∃ z1, z1 = nq := ⟨_, rfl⟩
            go_wp2
            go_quiet (fail)
            obtain ⟨z2, rfl⟩ : ∃ z2, z2 = nq := ⟨_, rfl⟩
            have hownz : (wr.drewN (z1 + z2)).ownsRow w1.heap.size 3 1 v i (done.map fun x => .int .i64 x) := hownr
            go_wp2_with (at_builtin; refine wpList_append_own_at _ rfl _ _ 75 rfl w1.heap.size 3 i0 (.int .i64 0) 1 8 Tryz.underlying75 hi hz0 hz1 hz2 rfl (by decide) v i _ rfl (hownz.alloc _) ⟨wr.heap.size, 0, none⟩ 1 1 [.int .i64 (j : Int)] rfl rfl (cell_one_new _ _ _) (by simp [Value.oneCell']) hmax.out.1 hmax.out.2 (by simp; omega) ?_; intro v' w2 hown2 hg2 hnil2 hloc2; clear hnil2)
            go_roundw
            case rel =>
              obtain ⟨h1, h2⟩ := match_step (w1 := w1) hmt.out huh.out (below_drewN hBw (z1 + z2)) hll.out hg2
              exact ⟨i + 1, j + 1, v', done ++ [(j : Int)], by omega, by omega, by go_num, by go_num, rfl, by simp [hdl'.out], Lib.hid h1, by simpa using hown2, h2⟩
            case measure => simp [intOf]; omega
          · have hb1 : (x != y) = true := by simpa using hxy
            have hb2 : (x == y) = false := by simpa using hxy
            obtain ⟨t1, ht1⟩ : ∃ t1, t1 = P + j := ⟨_, rfl⟩
            obtain ⟨t0, ht0⟩ : ∃ t0, t0 = Q + j := ⟨_, rfl⟩
            obtain ⟨t2, ht2⟩ : ∃ t2, t2 = Q + (j + 1) := ⟨_, rfl⟩
            have c1 : wr.cell? ⟨w.heap.size, t1, none⟩ = some (.int .i64 (lcsAt a b (i + 1) j)) := by
              rw [hrwh.out.cell (show t1 < M by omega), ht1, hPh.out, (div_at (by omega : j < n' + 1)).1, (div_at (by omega : j < n' + 1)).2]
            have c2 : wr.cell? ⟨w.heap.size, t2, none⟩ = some (.int .i64 (lcsAt a b i (j + 1))) := by
              rw [hrwh.out.cell (show t2 < M by omega), ht2, hQh.out, (div_at (by omega : j + 1 < n' + 1)).1, (div_at (by omega : j + 1 < n' + 1)).2]
            have hsk := fun h => mtAt_skip hx hy hxy (i := i) (j := j) h
            have hps := fun h => mtAt_pass hx hy hxy (i := i) (j := j) h
            have l1 := lcsAt_le_left a b (i + 1) j
            have l2 := lcsAt_le_left a b i (j + 1)
            obtain ⟨v1, hv1⟩ : ∃ v, v = lcsAt a b (i + 1) j := ⟨_, rfl⟩
            obtain ⟨v2, hv2⟩ : ∃ v, v = lcsAt a b i (j + 1) := ⟨_, rfl⟩
            rw [← hv1] at c1 l1 hsk hps
            rw [← hv2] at c2 l2 hsk hps
            have hsk' := Lib.hid hsk
            have hps' := Lib.hid hps
            have e1 : IntKind.i64.wrap ((i : Int) + 1) = (i : Int) + 1 := IntWalk.i64_in _ (by omega)
            have e2 : IntKind.i64.wrap (((i : Int) + 1) * ((n' : Int) + 1)) = (P : Int) := by rw [m1]; exact IntWalk.i64_in _ (by omega)
            have e3 : IntKind.i64.wrap ((P : Int) + (j : Int)) = (t1 : Int) := by rw [ht1]; push_cast; exact IntWalk.i64_in _ (by omega)
            have e4 : IntKind.i64.wrap ((i : Int) * ((n' : Int) + 1)) = (Q : Int) := by rw [m2]; exact IntWalk.i64_in _ (by omega)
            have e5 : IntKind.i64.wrap ((Q : Int) + (j : Int)) = (t0 : Int) := by rw [ht0]; push_cast; exact IntWalk.i64_in _ (by omega)
            have e6 : IntKind.i64.wrap ((t0 : Int) + 1) = (t2 : Int) := by rw [ht0, ht2]; push_cast; rw [IntWalk.i64_in _ (by omega)]; omega
            have i1 : (0 : Int) ≤ (t1 : Int) := by omega
            have i2 : (t1 : Int) < (M : Int) := by omega
            have i3 : (0 : Int) ≤ (t2 : Int) := by omega
            have i4 : (t2 : Int) < (M : Int) := by omega
            clear ht0 ht1 ht2 hv1 hv2 hsk hps hxy
            by_cases hv : v1 < v2
            · have hsk2 := Lib.hid (hsk'.out hv)
              have hvi : ((v1 : Int) < (v2 : Int)) := by omega
              go_wp2
              go_quiet (fail)
              clear e1 e2 e3 e4 e5 e6
              obtain ⟨z1, rfl⟩ : ∃ z1, z1 = nq := ⟨_, rfl⟩
              go_wp2
              go_roundw
              case rel => exact ⟨j + 1, q + z1, by omega, by go_num, by rw [hwr'.out, World.drewN_drewN], Lib.hid (by rw [hmj.out, hsk2.out])⟩
              case measure => simp [intOf]; omega
            · have hu := hps'.out hv
              rw [← hmj.out] at hu
              have huh := Lib.hid hu
              have hvi : ¬ ((v1 : Int) < (v2 : Int)) := by omega
              clear hu
              go_wp2
              go_quiet (fail)
              clear e1 e2 e3 e4 e5 e6
              obtain ⟨z1, rfl⟩ : ∃ z1, z1 = nq := ⟨_, rfl⟩
              go_wp2
              go_quiet (fail)
              obtain ⟨z2, rfl⟩ : ∃ z2, z2 = nq := ⟨_, rfl⟩
              have hownz : (wr.drewN (z1 + z2)).ownsRow w1.heap.size 3 1 v i (done.map fun x => .int .i64 x) := hownr
              go_wp2_with (at_builtin; refine wpList_append_own_at _ rfl _ _ 75 rfl w1.heap.size 3 i0 (.int .i64 0) 1 8 Tryz.underlying75 hi hz0 hz1 hz2 rfl (by decide) v i _ rfl (hownz.alloc _) ⟨wr.heap.size, 0, none⟩ 1 1 [.int .i64 (-1)] rfl rfl (cell_one_new _ _ _) (by simp [Value.oneCell']) hmax.out.1 hmax.out.2 (by simp; omega) ?_; intro v' w2 hown2 hg2 hnil2 hloc2; clear hnil2)
              go_roundw
              case rel =>
                obtain ⟨h1, h2⟩ := match_step (w1 := w1) hmt.out huh.out (below_drewN hBw (z1 + z2)) hll.out hg2
                exact ⟨i + 1, j, v', done ++ [(-1)], by omega, by omega, by go_num, rfl, rfl, by simp [hdl'.out], Lib.hid h1, by simpa using hown2, h2⟩
              case measure => simp [intOf]; omega
        · obtain rfl : j = n' := by omega
          have hjf : decide (j < j) = false := by simp
          have hu := mtAt_out (a := a) (b := b) (i := i) (j := j) (by omega) (by omega)
          rw [← hmj.out] at hu
          have huh := Lib.hid hu
          clear hu
          go_wp2
          go_quiet (fail)
          obtain ⟨z1, rfl⟩ : ∃ z1, z1 = nq := ⟨_, rfl⟩
          go_wp2
          go_quiet (fail)
          obtain ⟨z2, rfl⟩ : ∃ z2, z2 = nq := ⟨_, rfl⟩
          have hownz : (wr.drewN (z1 + z2)).ownsRow w1.heap.size 3 1 v i (done.map fun x => .int .i64 x) := hownr
          go_wp2_with (at_builtin; refine wpList_append_own_at _ rfl _ _ 75 rfl w1.heap.size 3 i0 (.int .i64 0) 1 8 Tryz.underlying75 hi hz0 hz1 hz2 rfl (by decide) v i _ rfl (hownz.alloc _) ⟨wr.heap.size, 0, none⟩ 1 1 [.int .i64 (-1)] rfl rfl (cell_one_new _ _ _) (by simp [Value.oneCell']) hmax.out.1 hmax.out.2 (by simp; omega) ?_; intro v' w2 hown2 hg2 hnil2 hloc2; clear hnil2)
          go_roundw
          case rel =>
            obtain ⟨h1, h2⟩ := match_step (w1 := w1) hmt.out huh.out (below_drewN hBw (z1 + z2)) hll.out hg2
            exact ⟨i + 1, j, v', done ++ [(-1)], by omega, by omega, by go_num, rfl, rfl, by simp [hdl'.out], Lib.hid h1, by simpa using hown2, h2⟩
          case measure => simp [intOf]; omega
    · obtain rfl : i = n := by omega
      go_wp2
      go_ret
      have hd : done = mtAt a b 0 0 := by
        have := hmt.out
        rw [mtAt_end (a := a) (b := b) (i := i) (j := j0) (by omega), List.append_nil] at this
        exact this.symm
      subst hd
      refine ⟨v, rfl, ?_, hB1.trans (hBr.mono hB1.size)⟩
      have h4 := own_base hown hB1.size
      rw [show (mtAt a b 0 0).length = i from hdl'.out]
      exact h4

/-- The sizes of sides, and the base's match with each. -/
def sizesOf (sides : List (List Int)) : List Int := sides.map fun s => (s.length : Int)
def msOf (base : List Int) (sides : List (List Int)) : List (List Int) := sides.map fun s => mt base s 0

/-- What Matches tells, as far as it has come. -/
structure MatIn (w wr : World) (v1 v2 : Value) (rows : List (Option Addr × Nat × Nat)) (sizes : List Int) (ms : List (List Int)) : Prop where
  own1 : wr.ownsRow w.heap.size 3 1 v1 sizes.length (sizes.map fun x => .int .i64 x)
  rows2 : RowsIn w wr v2 (fun k => v1.ownBlock = some k) rows ms
  below : Below w.heap.size w wr
theorem MatIn.apart {w wr : World} {v1 v2 : Value} {rows : List (Option Addr × Nat × Nat)} {sizes : List Int} {ms : List (List Int)} (h : MatIn w wr v1 v2 rows sizes ms) : v1.ownBlock = none ∨ v1.ownBlock ≠ v2.ownBlock := own_apart h.own1 h.rows2.own (by decide)
end Go.Proofs.YtoopdgohdeddoaaGreatDoor
/- Proved here: the contract of the document's own Matches of layer 5. -/
namespace Go.Proofs.YtoopdgohdeddoaaGreatDoor
open Go.RowKit
set_option linter.unusedVariables false

section
variable {w wo w1 w2 w3 : World} {v1 v2 v1' v2' : Value} {rows : List (Option Addr × Nat × Nat)} {sizes : List Int} {ms : List (List Int)}
theorem MatIn.low (h : MatIn w wo v1 v2 rows sizes ms) (hb : Below wo.heap.size wo w1) : MatIn w w1 v1 v2 rows sizes ms :=
  ⟨ownsRow_kept h.own1 fun k e => hb.block k (h.own1.lt k e).2, h.rows2.kept hb.size (fun k hk _ => hb.block k hk) (fun k e1 e2 => (h.apart.elim (fun h => by rw [h] at e2; cases e2) (fun h => h (e2.trans e1.symm)))), h.below.trans (hb.mono h.below.size)⟩
theorem MatIn.size {z : Int} {o : Obj} (h : MatIn w wo v1 v2 rows sizes ms) (hown : w1.ownsRow w.heap.size 3 1 v1' (sizes.length + 1) ((sizes.map fun x => .int .i64 x) ++ [.int .i64 z])) (hg : (wo.alloc o).grownBy w1 v1.ownBlock) (hloc : v1'.ownBlock = v1.ownBlock ∨ v1'.ownBlock = some (wo.alloc o).heap.size) : MatIn w w1 v1' v2 rows (sizes ++ [z]) ms := by
  have hs : wo.heap.size + 1 ≤ w1.heap.size := by have := hg.size; simpa using this
  have hk : ∀ k, k < wo.heap.size → ¬ v1.ownBlock = some k → w1.heap[k]? = wo.heap[k]? := fun k h1 h2 => (hg.block k (by simp; omega) (fun e => h2 e.symm)).trans (Below.heap_alloc wo o k h1)
  have h2 := h.rows2.kept (by omega) hk (fun k e1 e2 => (h.apart.elim (fun h => by rw [h] at e2; cases e2) (fun h => h (e2.trans e1.symm))))
  refine ⟨by simpa using hown, ⟨h2.own, h2.len, fun k r xs a b => ?_⟩, (h.below.alloc h.below.size o).grown hg (by have := h.below.size; simp; omega) (fun j e => (h.own1.lt j e).1)⟩
  obtain ⟨e1, e2, e3, e4⟩ := h2.row k r xs a b
  obtain ⟨_, _, e5, e6⟩ := h.rows2.row k r xs a b
  refine ⟨e1, e2, e3, fun hn q o' e => ⟨(e4 hn q o' e).1, fun e7 => ?_⟩⟩
  obtain ⟨g, o2, ha, hb, _⟩ := e5.2 hn
  rw [e] at ha
  injection ha with ha
  injection ha with ha1 ha2
  rcases hloc with hl | hl
  · rw [hl] at e7
    exact (e6 hn q o' e).2 e7
  · rw [hl] at e7
    injection e7 with e7
    simp at e7
    omega
theorem MatIn.put {xs : List Int} {A : Option Addr} {n c : Nat} {o : Obj} (h : MatIn w w1 v1 v2 rows sizes ms) (hb : Below w1.heap.size w1 w2) (hu : w2.ownsRow w1.heap.size 3 1 (.slice A n c) n (xs.map fun x => .int .i64 x)) (hnc : n ≤ c) (hcm : c ≤ maxLen) (hN : Nums w2 w2.heap.size A n xs)
    (hown : w3.ownsRow w.heap.size 75 1 v2' (rows.length + 1) ((rows.map fun r => .slice r.1 r.2.1 r.2.2) ++ [.slice A n c])) (hg : (w2.alloc o).grownBy w3 v2.ownBlock) (hloc : v2'.ownBlock = v2.ownBlock ∨ v2'.ownBlock = some (w2.alloc o).heap.size) : MatIn w w3 v1 v2' (rows ++ [(A, n, c)]) sizes (ms ++ [xs]) := by
  have h2 := h.low hb
  have hs : w2.heap.size + 1 ≤ w3.heap.size := by have := hg.size; simpa using this
  have hnew : ∀ q o, A = some ⟨q, o, none⟩ → v2.ownBlock ≠ some q ∧ ¬ v1.ownBlock = some q := by
    intro q o e
    subst e
    have h3 := (hu.lt q rfl).1
    refine ⟨fun e => ?_, fun e => ?_⟩
    · have := (h.rows2.own.lt q e).2; omega
    · have := (h.own1.lt q e).2; omega
  refine ⟨ownsRow_kept h2.own1 fun k e => ?_, h2.rows2.put (r := (A, n, c)) hnc hcm hN (fun _ => hnew) hown hg hloc, ?_⟩
  · have hk := (h2.own1.lt k e).2
    rw [hg.block k (by simp; omega) (fun e2 => (h2.apart.elim (fun h => by rw [h] at e; cases e) (fun h => h (e.trans e2)))), Below.heap_alloc w2 o k hk]
  · exact (h2.below.alloc h2.below.size o).grown hg (by have := h2.below.size; simp; omega) (fun j e => (h2.rows2.own.lt j e).1)
end

/-- What Matches tells. -/
def MatsOut (w w' : World) (e : Ending) (sizes : List Int) (ms : List (List Int)) : Prop := ∃ v1 v2 rows, e = .returned (.tuple #[v1, v2]) ∧ MatIn w w' v1 v2 rows sizes ms

set_option maxHeartbeats 2000000 in
theorem Matches_any (A : Option Addr) (n c : Nat) (base : List Int) (A' : Option Addr) (n' c' : Nat) (rows : List (Option Addr × Nat × Nat)) (sides : List (List Int)) (w : World) (hn : n ≤ 1000) (hn' : n' ≤ 1000) (hs : ∀ s ∈ sides, s.length ≤ 1000) (hA : Nums w w.heap.size A n base) (hA' : RowsN w w.heap.size A' n' rows sides) :
    Calls Tryz.prog 49 #[.slice A n c, .slice A' n' c'] w fun e w' => MatsOut w w' e (sizesOf sides) (msOf base sides) := by
  have hlen := hA'.len
  obtain ⟨i0, hi, hz0, hz1, hz2⟩ := info_parts infoIntA
  obtain ⟨i1, hj, hy0, hy1, hy2⟩ := info_parts infoRowA
  have hM := Lib.hid (fun (A1 : Option Addr) (n1 c1 : Nat) (s : List Int) (w' : World) (h1 : n1 ≤ 1000) (hb : Below w.heap.size w w') (h : Nums w' w'.heap.size A1 n1 s) => rMatch_any A A1 n n1 c c1 w'.heap.size w'.heap.size base s w' hn h1 (hA.up hb) h (Nat.le_refl _) (Nat.le_refl _))
  have hsh := Lib.hid hs
  clear hs hA
  go_enter Tryz.func49, Tryz.ntmps49
  go_wp2
  go_loopw [6, 7, 8] (fun s1 s2 si wr => ∃ (k : Nat) (v1 v2 : Value) (rs : List (Option Addr × Nat × Nat)), k ≤ n' ∧ si = .int .i64 k ∧ v1 = s1 ∧ v2 = s2 ∧ Hid (rs.length = k ∧ MatIn w wr v1 v2 rs (sizesOf (sides.take k)) (msOf base (sides.take k)))) (fun _ _ si _ => n' - (intOf si).toNat)
  case atStart => exact ⟨0, _, _, [], Nat.zero_le _, rfl, rfl, rfl, Lib.hid ⟨rfl, World.ownsRow_nil _ _ _ _, ⟨World.ownsRow_nil _ _ _ _, rfl, fun k r xs h => by simp at h⟩, Below.refl _ _⟩⟩
  case round =>
    obtain ⟨k, v1, v2, rs, hk, rfl, rfl, rfl, hR⟩ := hrel
    obtain ⟨wo, rfl⟩ : ∃ wo : World, wo = wr := ⟨_, rfl⟩
    by_cases hlt : k < n'
    · have hBe := hR.out.2.below
      obtain ⟨b, o, A1, n1, c1, s, rfl, hb, hs, hc0, hN⟩ := hA'.at_ (k := k) hlt
      have hc := (hBe.cell (p := ⟨b, o + k, none⟩) hb).trans hc0
      have hnl := hN.len
      have hsl : n1 ≤ 1000 := by have := hsh.out s (List.mem_of_getElem? hs); omega
      have hki : (k : Int) < (n' : Int) := by omega
      have hso := hBe.size
      have hown1 := hR.out.2.own1
      have hkl : Hid ((sizesOf (sides.take k)).length = k) := Lib.hid (by unfold sizesOf; rw [List.length_map, List.length_take]; omega)
      rw [hkl.out] at hown1
      have ht1 : Hid (sizesOf (sides.take (k + 1)) = sizesOf (sides.take k) ++ [(n1 : Int)]) := Lib.hid (by unfold sizesOf; rw [take_at hs, List.map_append, ← hnl]; rfl)
      have ht2 : Hid (msOf base (sides.take (k + 1)) = msOf base (sides.take k) ++ [mt base s 0]) := Lib.hid (by unfold msOf; rw [take_at hs, List.map_append]; rfl)
      have hmax : Hid (k + 1 ≤ maxLen ∧ (k + 1) * 8 ≤ 140737488355328 ∧ (k + 1) * 24 ≤ 140737488355328) := Lib.hid ⟨by unfold maxLen; omega, by omega, by omega⟩
      have hNh := Lib.hid hN
      have hch := Lib.hid hc0
      have hbh := Lib.hid hb
      clear hN hs hnl hBe hc0 hb
      have tok1 := trivial
      go_wp2_with (first
        | (at_builtin; have _t := tok1; refine wpList_append_own_at _ rfl _ _ 75 rfl w.heap.size 3 i0 (.int .i64 0) 1 8 Tryz.underlying75 hi hz0 hz1 hz2 rfl (by decide) v1 k _ rfl (hown1.alloc _) ⟨wo.heap.size, 0, none⟩ 1 1 [.int .i64 (n1 : Int)] rfl rfl (cell_one_new _ _ _) (by simp [Value.oneCell']) hmax.out.1 hmax.out.2.1 (by simp; omega) ?_; intro v1' w1 hown2 hg2 hnil2 hloc2; clear hnil2 tok1; have hm1 := Lib.hid (hR.out.2.size (by rw [hkl.out]; exact hown2) hg2 hloc2); have hcc := (hm1.out.below.cell (p := ⟨b, o + k, none⟩) hbh.out).trans hch.out; have hcall := Lib.hid (hM.out A1 n1 c1 s w1 hsl hm1.out.below (hNh.out.up hm1.out.below)); clear hown2 hg2 hloc2 hc)
        | (go_at_call 84; refine hcall.out.mono ?_; rintro e w2 ⟨u, rfl, hu, hb2⟩; obtain ⟨Au, cu, rfl, q1, q2, q3⟩ := nums_of_own hu; have hrl := hR.out.1; have hown3 := (hm1.out.low hb2).rows2.own; rw [hrl] at hown3; have hso2 := (hm1.out.low hb2).below.size; have huh := Lib.hid (And.intro hu hb2); clear hu hb2 hrl)
        | (at_builtin; refine wpList_append_own_at _ rfl _ _ 73 rfl w.heap.size 75 i1 (.slice none 0 0) 1 24 Tryz.underlying73 hj hy0 hy1 hy2 rfl (by decide) v2 k _ rfl (hown3.alloc _) ⟨w2.heap.size, 0, none⟩ 1 1 [.slice Au (mt base s 0).length cu] rfl rfl (cell_one_new _ _ _) (by simp [Value.oneCell']) hmax.out.1 hmax.out.2.2 (by simp; omega) ?_; intro v2' w3 hown4 hg4 hnil4 hloc4; clear hnil4))
      have hfin := hm1.out.put huh.out.2 huh.out.1 q1 q2 q3 (by rw [hR.out.1]; exact hown4) hg4 hloc4
      go_roundw
      case rel => exact ⟨k + 1, v1', v2', rs ++ [(Au, (mt base s 0).length, cu)], by omega, by go_num, rfl, rfl, Lib.hid ⟨by simp [hR.out.1], by rw [ht1.out, ht2.out]; exact hfin⟩⟩
      case measure => simp [intOf] <;> omega
    · obtain rfl : k = n' := by omega
      go_wp2
      go_ret2
      refine ⟨_, _, rs, rfl, ?_⟩
      have := hR.out.2
      rwa [List.take_of_length_le (by omega)] at this
end Go.Proofs.YtoopdgohdeddoaaGreatDoor

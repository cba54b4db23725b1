/- Proved here: texts joined: ScrTake, MgCat, ScrCat, ScrMrk, ContFns. -/
import Derived.Test.YtoopdgohdeddoaaGreatDoorBs01
import Derived.Test.YtoopdgohdeddoaaGreatDoorBs04
import Derived.Test.YtoopdgohdeddoaaGreatDoorBs10
import Derived.Test.YtoopdgohdeddoaaGreatDoorBs27
import Derived.Deep.RegionHeld3
import Derived.RangeFuncBox
import Derived.Lib.AppendZeros
/- Proved here: the contract of the landed script's putTake. -/
namespace Go.Proofs.YtoopdgohdeddoaaGreatDoor
open Go.RowKit
set_option linter.unusedVariables false
set_option maxRecDepth 100000

theorem HandIn.one {wr : World} {r : Slc} {T : Txs} {g : Nat} (hg : wr.heap[g]? = some (.cells #[slcV r] 22 (0, 0))) (h : TxR wr wr.heap.size r T) (h1 : T.length ≤ 60) (h2 : ∀ s ∈ T, s.length ≤ 1000) : HandIn wr (some ⟨g, 0, none⟩) 1 T :=
  ⟨⟨[r], [T], rowsT_of hg rfl rfl rfl fun k r' ss a b => by
    match k, a, b with
    | 0, a, b => simp at a b; subst a; subst b; exact h
    | k + 1, a, b => simp at a, by simp⟩, by decide, h1, h2⟩

set_option maxHeartbeats 4000000 in
theorem scTake_any (w0 : World) (Bl : Nat) (f t : Nat) (A : Option Addr) (n c : Nat) (Y : Txs) (v : Value) (xs : Txs) (wr : World) (hS : Pn w0 Bl wr v xs) (hft : f ≤ t) (ht : t + Y.length < 99) (hY : TxR wr wr.heap.size (A, n, c) Y) (hY1 : Y.length ≤ 60) (hY2 : ∀ s ∈ Y, s.length ≤ 1000) (hx : xs.length ≤ 100000000) :
    Calls Tryz.prog 45 #[putFn Bl, .agg #[.int .i64 (f : Int), .int .i64 (t : Int)], .slice A n c] wr fun e w' => e = .returned (.tuple #[]) ∧ PnPut w0 Bl wr w' v (xs ++ takeD f t Y) := by
  have hl : Y.length = n := hY.2.2.len
  obtain ⟨W0, hW0⟩ : ∃ W0, W0 = wr.alloc (.cells #[.int .i64 (f : Int), .int .i64 (t : Int)] 48) := ⟨_, rfl⟩
  have hB0 : Below wr.heap.size wr W0 := by rw [hW0]; exact below_alloc (Below.refl _ _) _
  have k0 : W0.heap[wr.heap.size]? = some (.cells #[.int .i64 (f : Int), .int .i64 (t : Int)] 48 (0, 0)) := by rw [hW0]; exact one_a wr _
  have hlt : wr.heap.size < W0.heap.size := (Array.getElem?_eq_some_iff.1 k0).1
  have hat : Hid (∀ W, Below W0.heap.size W0 W → W.cell? ⟨wr.heap.size, 0, none⟩ = some (.int .i64 (f : Int)) ∧ W.cell? ⟨wr.heap.size, 1, none⟩ = some (.int .i64 (t : Int))) := Lib.hid (fun W hW => by
    have e := (hW.block _ hlt).trans k0
    exact ⟨(cells_of e 0).trans rfl, (cells_of e 1).trans rfl⟩)
  obtain ⟨x0, x1⟩ := hat.out W0 (Below.refl _ _)
  have hNum := Lib.hid (fun (W : World) (hW : Below W0.heap.size W0 W) => (scNum_any f t W (by omega) (by omega)).mono fun e w' (h : e = .returned (.string (str (linesD (f + 1) t))) ∧ Below W.heap.size W w') => (⟨h.1, h.2, hW.trans (h.2.mono hW.size)⟩ : e = .returned (.string (str (linesD (f + 1) t))) ∧ Below W.heap.size W w' ∧ Below W0.heap.size W0 w'))
  have hlz : (str (linesD (f + 1) t)).size ≤ 10 := by
    rw [str_size]
    have h1 := fig_small (f + 1) (by omega)
    have h2 := fig_small t (by omega)
    unfold linesD
    split
    · omega
    · rw [List.length_append, List.length_cons]; omega
  have hSu : Hid (∀ W, Below W0.heap.size W0 W → Pn w0 Bl W v xs) := Lib.hid (fun W hW => hS.up (hB0.trans (hW.mono hB0.size)))
  have hfin : Hid (∀ (W w' : World) (zs : Txs), Below W0.heap.size W0 W → PnPut w0 Bl W w' v zs → PnPut w0 Bl wr w' v zs) := Lib.hid (fun W w' zs hW h => h.ahead (hB0.trans (hW.mono hB0.size)))
  have hHand : Hid (∀ (W : World) (g : Nat) , Below W0.heap.size W0 W → W.heap[g]? = some (.cells #[.slice A n c] 22 (0, 0)) → HandIn W (some ⟨g, 0, none⟩) 1 Y) := Lib.hid (fun W g hW hg => HandIn.one (r := (A, n, c)) hg (hY.up (hB0.trans (hW.mono hB0.size))) hY1 hY2)
  have hnx : n < 100 := by omega
  have hW0h := Lib.hid hW0
  have hxh := Lib.hid hx
  have hrefl := Lib.hid (Below.refl W0.heap.size W0)
  by_cases hn : n = 0
  · obtain rfl : Y = [] := List.eq_nil_of_length_eq_zero (by omega)
    subst hn
    have hres : Hid (takeD f t [] = [linesD (f + 1) t ++ [100, 10]]) := Lib.hid (by unfold takeD; rw [if_pos rfl])
    obtain ⟨S, hSS⟩ : ∃ S, str (linesD (f + 1) t) = S := ⟨_, rfl⟩
    obtain ⟨ls, hls⟩ : ∃ ls, linesD (f + 1) t ++ [100, 10] = ls := ⟨_, rfl⟩
    have hSf : Hid (S ++ ⟨#[100]⟩ ++ ⟨#[10]⟩ = str ls) := Lib.hid (by rw [← hSS, ← hls]; apply ByteArray.ext; simp [str])
    obtain ⟨TD, hTD⟩ : ∃ TD, takeD f t [] = TD := ⟨_, rfl⟩
    rw [hSS] at hNum hlz
    rw [hls, hTD] at hres
    rw [hTD]
    have s1 : ¬ 9223372036854775807 < S.size + 1 := by omega
    have s2 : ¬ 9223372036854775807 < S.size + 1 + 1 := by omega
    clear hS hY hY1 hY2 hl hW0 hB0 k0 hlt hSS hls hTD hx hft ht hHand hlz hnx
    unfold putFn
    go_enter Tryz.func45, Tryz.ntmps45
    go_upto_region 2 with fail
    rw [← hW0h.out]
    go_wp2_with (first
      | (go_at_call 80; refine (hNum.out _ hrefl.out).mono ?_; rintro e w1 ⟨rfl, -, hb1⟩; have hB1 := Lib.hid hb1; clear hb1)
      | (go_at_call 21; refine (pnPut_any w0 Bl _ 1 1 _ v xs [ls] _ ((hSu.out _ hB1.out).up (below_alloc (Below.refl _ _) _)) (strs_one_lit w1 _ _ hSf.out) (by have := hxh.out; omega)).mono ?_; rintro e w2 ⟨rfl, q2⟩; have hQ2 := Lib.hid (hfin.out w1 w2 _ hB1.out (q2.ahead (below_alloc (Below.refl _ _) _))); clear q2))
    go_end0
    exact ⟨rfl, by rw [hres.out]; exact hQ2.out⟩
  · have hYn : Y ≠ [] := by rintro rfl; simp at hl; omega
    have hne : ((n : Int) == 0) = false := by rw [beq_eq_false_iff_ne]; omega
    by_cases he : f = t
    · subst he
      have hres : Hid (takeD f f Y = (figD f ++ [97, 10]) :: overD Y (f + 1)) := Lib.hid (by unfold takeD; rw [if_neg hYn, if_pos (Nat.le_refl _)])
      have hBh : Hid (∀ (W : World) (g : Nat), Below W0.heap.size W0 W → W.heap[g]? = some (.cells #[.slice A n c] 22 (0, 0)) → Calls Tryz.prog 81 #[putFn Bl, .int .i64 (f : Int), .slice (some ⟨g, 0, none⟩) 1 1] W fun e w' => e = .returned (.tuple #[]) ∧ PnPut w0 Bl wr w' v (xs ++ takeD f f Y)) := Lib.hid (fun W g hW hg => by
        rw [hres.out]
        exact (scBeh_any w0 Bl f _ 1 1 Y v xs W (hSu.out W hW) (hHand.out W g hW hg) (by omega) hxh.out).mono fun e w' h => ⟨h.1, hfin.out _ _ _ hW h.2⟩)
      obtain ⟨TD, hTD⟩ : ∃ TD, takeD f f Y = TD := ⟨_, rfl⟩
      rw [hTD] at hBh ⊢
      unfold putFn at hBh ⊢
      have hee : ((f : Int) == (f : Int)) = true := by simp
      clear hS hY hY1 hY2 hl hW0 hB0 k0 hlt hTD hx hft ht hHand hlz hnx hn hYn hres hfin
      go_enter Tryz.func45, Tryz.ntmps45
      go_upto_region 2 with fail
      rw [← hW0h.out]
      go_wp2_with (go_at_call 81; refine (hBh.out _ _ (below_alloc hrefl.out _) (one_a _ _)).mono ?_; rintro e w2 ⟨rfl, q2⟩; have hQ2 := Lib.hid q2; clear q2)
      go_end0
      exact ⟨rfl, hQ2.out⟩
    · have hne2 : ((f : Int) == (t : Int)) = false := by rw [beq_eq_false_iff_ne]; omega
      have hres : Hid (takeD f t Y = (linesD (f + 1) t ++ [99, 10]) :: overD Y (f + 1)) := Lib.hid (by unfold takeD; rw [if_neg hYn, if_neg (by omega)])
      have hlz2 : (linesD (f + 1) t ++ [99]).length ≤ 100 := by rw [str_size] at hlz; rw [List.length_append]; simp; omega
      have hHd : Hid (∀ (W : World) (g : Nat), Below W0.heap.size W0 W → W.heap[g]? = some (.cells #[.slice A n c] 22 (0, 0)) → Calls Tryz.prog 82 #[putFn Bl, .string (str (linesD (f + 1) t ++ [99])), .int .i64 (f : Int), .slice (some ⟨g, 0, none⟩) 1 1] W fun e w' => e = .returned (.tuple #[]) ∧ PnPut w0 Bl wr w' v (xs ++ takeD f t Y) ∧ w'.cell? ⟨wr.heap.size, 0, none⟩ = some (.int .i64 (f : Int)) ∧ w'.cell? ⟨wr.heap.size, 1, none⟩ = some (.int .i64 (t : Int))) := Lib.hid (fun W g hW hg => by
        rw [hres.out]
        have := scHand_any w0 Bl (linesD (f + 1) t ++ [99]) f _ 1 1 Y v xs W (hSu.out W hW) (hHand.out W g hW hg) (by omega) hlz2 hxh.out
        rw [show (linesD (f + 1) t ++ [99]) ++ [10] = linesD (f + 1) t ++ [99, 10] from by simp] at this
        refine this.mono fun e w' h => ?_
        have e4 := PnPut.keeps (hSu.out W hW) h.2 ((hW.block _ hlt).trans k0) (by decide) (by decide)
        exact ⟨h.1, hfin.out _ _ _ hW h.2, (cells_of e4 0).trans rfl, (cells_of e4 1).trans rfl⟩)
      obtain ⟨TD, hTD⟩ : ∃ TD, takeD f t Y = TD := ⟨_, rfl⟩
      obtain ⟨S, hSS⟩ : ∃ S, str (linesD (f + 1) t) = S := ⟨_, rfl⟩
      have hSf : str (linesD (f + 1) t ++ [99]) = S ++ ⟨#[99]⟩ := by rw [← hSS]; apply ByteArray.ext; simp [str]
      rw [hTD, hSf] at hHd
      rw [hTD]
      rw [hSS] at hNum hlz
      unfold putFn at hHd ⊢
      have s1 : ¬ 9223372036854775807 < S.size + 1 := by omega
      clear hS hY hY1 hY2 hl hW0 hB0 k0 hlt hTD hx hft ht hHand hlz hnx hn hYn hres hfin hSS hSf he hlz2
      go_enter Tryz.func45, Tryz.ntmps45
      go_upto_region 2 with fail
      rw [← hW0h.out]
      have hr0 : Below W0.heap.size W0 W0 := hrefl.out
      go_upto_region 1 with fail
      go_region_held3 (fun wx : World => wx.cell? ⟨wr.heap.size, 0, none⟩ = some (.int .i64 (f : Int)) ∧ wx.cell? ⟨wr.heap.size, 1, none⟩ = some (.int .i64 (t : Int)))
        ((first | exact ⟨q3, q4⟩ | (refine hat.out _ ?_; repeat (first | assumption | refine below_drew ?_ | refine below_alloc ?_ _))))
        ((first
          | (go_at_call 80; refine (hNum.out _ ?_).mono ?_; (repeat (first | assumption | refine below_drew ?_ | refine below_alloc ?_ _)); rintro e w1 ⟨rfl, hc1, hb1⟩)
          | (go_at_call 82; refine (hHd.out _ _ ?_ ?_).mono ?_; (repeat (first | assumption | refine below_drew ?_ | refine below_alloc ?_ _)); (first | exact one_a _ _ | exact (hc1.block _ (by simp)).trans (one_a _ _)); rintro e w2 ⟨rfl, q2, q3, q4⟩)))
      all_goals
        go_wp2
        go_end0
        exact ⟨rfl, q2⟩
end Go.Proofs.YtoopdgohdeddoaaGreatDoor
/- Proved here: the contract of slices.Concat (and Grow) of two slices of slices of texts, the first of one. -/
namespace Go.Proofs.YtoopdgohdeddoaaGreatDoor
open Go.RowKit
set_option linter.unusedVariables false
set_option maxRecDepth 100000

/-- Room for some slices of texts: a row of the call's own, without one. -/
def GrowOut (w w' : World) (e : Ending) : Prop := ∃ v, e = .returned v ∧ w'.ownsRow w.heap.size 22 1 v 0 [] ∧ Below w.heap.size w w'

set_option maxHeartbeats 1000000 in
theorem grow_any (n : Nat) (w : World) (h1 : 1 ≤ n) (hn : n ≤ 1000) :
    Calls Tryz.prog 56 #[.slice none 0 0, .int .i64 n] w fun e w' => GrowOut w w' e := by
  obtain ⟨i0, hi, hz⟩ := Option.map_eq_some_iff.1 infoTxs
  simp only [Prod.mk.injEq] at hz
  obtain ⟨hz0, hz1, hz2⟩ := hz
  have hap := Lib.run_append_nil_zeros (P := Tryz.prog) w 40 3 40 22 i0 (.slice none 0 0) .i64 .i64 Tryz.underlying40 Tryz.underlying3 hi hz0 n (by omega) (by rw [hz1]; decide) (by omega) (by rw [hz2]; omega)
  have hge := grownCap_ge w n 0 22
  have hle := grownCap_le_maxLen w n 0 22 (by unfold maxLen; omega)
  obtain ⟨C, hC⟩ : ∃ C, grownCap w n 0 22 = C := ⟨_, rfl⟩
  rw [hC] at hap hge hle
  obtain ⟨cs, hcs⟩ : ∃ cs, Builtin.zeroCells (Value.slice none 0 0).cells n ++ Builtin.zeroCells (Value.slice none 0 0).cells (C - n) = cs := ⟨_, rfl⟩
  have hsz : cs.size = C * 1 := by rw [← hcs]; simp [size_zeroCells, Value.cells]; omega
  rw [hcs] at hap
  have hw2 : (w.drew.alloc (.cells cs 22)).ownsRow w.heap.size 22 1 (.slice (some ⟨w.heap.size, 0, none⟩) 0 C) 0 [] :=
    ⟨rfl, .inr ⟨w.heap.size, C, cs, rfl, Nat.le_refl _, heap_alloc_new w.drew _, Nat.zero_le _, hle, hsz, by simp⟩⟩
  have hB : Below w.heap.size w (w.drew.alloc (.cells cs 22)) := (Below.refl _ _).drew.alloc (Nat.le_refl _) _
  have hfin := Lib.hid (And.intro hw2 hB)
  have hs0 : ∀ W : World, (Instr.slice 40 (.slice none 0 0) none (some (.int .i64 0)) none).run Tryz.prog W = .ok (.slice none 0 0) W := fun W => by
    rw [run_slice_h (P := Tryz.prog) W 40 none 0 0 Tryz.underlying40 .i64 0 (by omega) (by omega)]
    go_simp
  obtain ⟨G, hG⟩ : ∃ G, w.heap.size = G := ⟨_, rfl⟩
  have hs1 : ∀ W : World, (Instr.slice 40 (.slice (some ⟨G, 0, none⟩) n C) none (some (.int .i64 0)) none).run Tryz.prog W = .ok (.slice (some ⟨G, 0, none⟩) 0 C) W := fun W => by
    rw [run_slice_h (P := Tryz.prog) W 40 (some ⟨G, 0, none⟩) n C Tryz.underlying40 .i64 0 (by omega) (by omega)]
    go_simp
  rw [hG] at hap
  have hGh := Lib.hid hG
  have hn0 : (0 : Int) < (n : Int) := by omega
  have haph := Lib.hid hap
  clear hC hcs hsz hw2 hB hge hle hap hG
  go_enter Tryz.func56, Tryz.ntmps56
  go_wp2_with (at_builtin; refine Lib.wpList_append_run _ rfl _ _ _ _ rfl _ _ rfl rfl _ _ haph.out ?_)
  go_ret
  exact ⟨_, rfl, by rw [← hGh.out]; exact hfin.out.1, hfin.out.2⟩

/-- Slices of texts one behind the other. -/
def CatOut (w w' : World) (e : Ending) (rs : List Slc) : Prop := ∃ A n c, e = .returned (.slice A n c) ∧ n = rs.length ∧ n ≤ c ∧ c ≤ maxLen ∧ Reads w' w'.heap.size A n (rs.map slcV) ∧ Below w.heap.size w w'

set_option maxHeartbeats 2000000 in
theorem concat_any (Ao : Option Addr) (co : Nat) (A1 : Option Addr) (A2 : Option Addr) (n c : Nat) (r0 : Slc) (rows : List Slc) (w : World) (h1 : 1 ≤ n) (hn : n ≤ 100) (hO : Reads w w.heap.size Ao 2 [.slice A1 1 1, .slice A2 n c]) (hA1 : Reads w w.heap.size A1 1 ([r0].map slcV)) (hA2 : Reads w w.heap.size A2 n (rows.map slcV)) :
    Calls Tryz.prog 34 #[.slice Ao 2 co] w fun e w' => CatOut w w' e (r0 :: rows) := by
  obtain ⟨i0, hi, hz⟩ := Option.map_eq_some_iff.1 infoTxs
  simp only [Prod.mk.injEq] at hz
  obtain ⟨hz0, hz1, hz2⟩ := hz
  have hrl : rows.length = n := by have := hA2.1; simpa using this
  obtain ⟨bo, oo, rfl, hbo, hco⟩ := hO.2 (by omega)
  have hc0 := hco 0 (.slice A1 1 1) rfl
  have hc1 := hco 1 (.slice A2 n c) rfl
  rw [Nat.add_zero] at hc0
  obtain ⟨N, hN⟩ : ∃ N, n + 1 = N := ⟨_, rfl⟩
  have hG := Lib.hid (fun W => grow_any N W (by omega) (by omega))
  have hA1h := Lib.hid hA1
  have hA2h := Lib.hid hA2
  have hrlh := Lib.hid hrl
  have hm : Hid (0 + 1 ≤ maxLen ∧ (0 + 1) * 24 ≤ 140737488355328 ∧ 1 + n ≤ maxLen ∧ (1 + n) * 24 ≤ 140737488355328) := Lib.hid ⟨by unfold maxLen; omega, by omega, by unfold maxLen; omega, by omega⟩
  have hsum : (1 : Int) + (n : Int) = (N : Int) := by omega
  have hNh := Lib.hid hN
  have hd0 := Lib.hid hc0
  have hd1 := Lib.hid hc1
  clear hO hA1 hA2 hco hrl hN
  go_enter Tryz.func34, Tryz.ntmps34
  go_wp2
  go_loop [3, 11] (fun s i => (i = .int .i64 0 ∧ s = .int .i64 0) ∨ (i = .int .i64 1 ∧ s = .int .i64 1) ∨ (i = .int .i64 2 ∧ s = .int .i64 N)) (fun _ i => 2 - (intOf i).toNat)
  case atStart => exact .inl ⟨rfl, rfl⟩
  case round =>
    obtain ⟨rfl, rfl⟩ | ⟨rfl, rfl⟩ | ⟨rfl, rfl⟩ := hrel
    · go_wp2
      go_round
      case rel => exact .inr (.inl ⟨rfl, rfl⟩)
      case measure => simp [intOf]
    · go_wp2
      go_round
      case rel => exact .inr (.inr ⟨rfl, rfl⟩)
      case measure => simp [intOf]
    · go_wp2_with (go_at_call 56; refine (hG.out _).mono ?_; rintro e w1 ⟨v, rfl, hown, hb1⟩)
      clear hc0 hc1
      go_wp2
      go_loopw [6, 27] (fun sv i wr => ∃ v, v = sv ∧ Below w.heap.size w wr ∧ ((i = .int .i64 0 ∧ wr.ownsRow w.heap.size 22 1 v 0 []) ∨ (i = .int .i64 1 ∧ wr.ownsRow w.heap.size 22 1 v 1 ([r0].map slcV)) ∨ (i = .int .i64 2 ∧ wr.ownsRow w.heap.size 22 1 v N ((r0 :: rows).map slcV)))) (fun _ i _ => 2 - (intOf i).toNat)
      case atStart => exact ⟨v, rfl, hb1, .inl ⟨rfl, hown⟩⟩
      case round =>
        clear hown hb1
        obtain ⟨v, rfl, hbw, ⟨rfl, hown⟩ | ⟨rfl, hown⟩ | ⟨rfl, hown⟩⟩ := hrel
        · obtain ⟨wo, rfl⟩ : ∃ wo : World, wo = wr := ⟨_, rfl⟩
          have hcc0 := (hbw.cell (p := ⟨bo, oo, none⟩) hbo).trans hd0.out
          have hsz := hbw.size
          go_wp2_with (at_builtin; refine wpList_append_reads _ rfl _ _ 40 rfl w.heap.size 22 i0 (.slice none 0 0) 24 Tryz.underlying40 hi hz0 hz1 hz2 rfl v 0 [] rfl hown w.heap.size A1 1 1 _ rfl (hA1h.out.below hbw) (slcV_one _) hm.out.1 hm.out.2.1 hsz ?_; intro v2 w2 hown2 hg2)
          go_roundw
          case rel => exact ⟨v2, rfl, hbw.grown hg2 hsz (fun j e => (hown.lt j e).1), .inr (.inl ⟨rfl, by simpa using hown2⟩)⟩
          case measure => simp [intOf]
        · obtain ⟨wo, rfl⟩ : ∃ wo : World, wo = wr := ⟨_, rfl⟩
          have hcc1 := (hbw.cell (p := ⟨bo, oo + 1, none⟩) hbo).trans hd1.out
          have hsz := hbw.size
          go_wp2_with (at_builtin; refine wpList_append_reads _ rfl _ _ 40 rfl w.heap.size 22 i0 (.slice none 0 0) 24 Tryz.underlying40 hi hz0 hz1 hz2 rfl v 1 _ rfl hown w.heap.size A2 n c _ rfl (hA2h.out.below hbw) (slcV_one _) hm.out.2.2.1 hm.out.2.2.2 hsz ?_; intro v2 w2 hown2 hg2)
          go_roundw
          case rel => exact ⟨v2, rfl, hbw.grown hg2 hsz (fun j e => (hown.lt j e).1), .inr (.inr ⟨rfl, by rw [← hNh.out, Nat.add_comm n 1]; simpa using hown2⟩)⟩
          case measure => simp [intOf]
        · go_wp2
          go_ret
          obtain ⟨A, k, rfl, k1, k2, k3⟩ := own_slice hown
          exact ⟨A, N, k, rfl, by rw [List.length_cons, hrlh.out, hNh.out], k1, k2, k3, hbw⟩
end Go.Proofs.YtoopdgohdeddoaaGreatDoor
/- Proved here: the contract of slices.Concat over two slices of lists of texts. -/
namespace Go.Proofs.YtoopdgohdeddoaaGreatDoor
open Go.RowKit
set_option linter.unusedVariables false
set_option maxRecDepth 100000

set_option maxHeartbeats 2000000 in
theorem concat2_any (Ao : Option Addr) (co : Nat) (A1 : Option Addr) (n1 c1 : Nat) (A2 : Option Addr) (n c : Nat) (rows1 rows : List Slc) (w : World) (h1 : 1 ≤ n) (hn : n ≤ 100) (hn1 : n1 ≤ 100) (hO : Reads w w.heap.size Ao 2 [.slice A1 n1 c1, .slice A2 n c]) (hA1 : Reads w w.heap.size A1 n1 (rows1.map slcV)) (hA2 : Reads w w.heap.size A2 n (rows.map slcV)) :
    Calls Tryz.prog 34 #[.slice Ao 2 co] w fun e w' => CatOut w w' e (rows1 ++ rows) := by
  obtain ⟨i0, hi, hz⟩ := Option.map_eq_some_iff.1 infoTxs
  simp only [Prod.mk.injEq] at hz
  obtain ⟨hz0, hz1, hz2⟩ := hz
  have hrl : rows.length = n := by have := hA2.1; simpa using this
  have hrl1 : rows1.length = n1 := by have := hA1.1; simpa using this
  obtain ⟨bo, oo, rfl, hbo, hco⟩ := hO.2 (by omega)
  have hc0 := hco 0 (.slice A1 n1 c1) rfl
  have hc1 := hco 1 (.slice A2 n c) rfl
  rw [Nat.add_zero] at hc0
  obtain ⟨N, hN⟩ : ∃ N, n1 + n = N := ⟨_, rfl⟩
  have hG := Lib.hid (fun W => grow_any N W (by omega) (by omega))
  have hA1h := Lib.hid hA1
  have hA2h := Lib.hid hA2
  have hrlh := Lib.hid hrl
  have hrlh1 := Lib.hid hrl1
  have hm : Hid (0 + n1 ≤ maxLen ∧ (0 + n1) * 24 ≤ 140737488355328 ∧ n1 + n ≤ maxLen ∧ (n1 + n) * 24 ≤ 140737488355328) := Lib.hid ⟨by unfold maxLen; omega, by omega, by unfold maxLen; omega, by omega⟩
  have hsum : (n1 : Int) + (n : Int) = (N : Int) := by omega
  have hNh := Lib.hid hN
  have hd0 := Lib.hid hc0
  have hd1 := Lib.hid hc1
  clear hO hA1 hA2 hco hrl hN hrl1
  go_enter Tryz.func34, Tryz.ntmps34
  go_wp2
  go_loop [3, 11] (fun s i => (i = .int .i64 0 ∧ s = .int .i64 0) ∨ (i = .int .i64 1 ∧ s = .int .i64 n1) ∨ (i = .int .i64 2 ∧ s = .int .i64 N)) (fun _ i => 2 - (intOf i).toNat)
  case atStart => exact .inl ⟨rfl, rfl⟩
  case round =>
    obtain ⟨rfl, rfl⟩ | ⟨rfl, rfl⟩ | ⟨rfl, rfl⟩ := hrel
    · go_wp2
      go_round
      case rel => exact .inr (.inl ⟨rfl, rfl⟩)
      case measure => simp [intOf]
    · go_wp2
      go_round
      case rel => exact .inr (.inr ⟨rfl, rfl⟩)
      case measure => simp [intOf]
    · go_wp2_with (go_at_call 56; refine (hG.out _).mono ?_; rintro e w1 ⟨v, rfl, hown, hb1⟩)
      clear hc0 hc1
      go_wp2
      go_loopw [6, 27] (fun sv i wr => ∃ v, v = sv ∧ Below w.heap.size w wr ∧ ((i = .int .i64 0 ∧ wr.ownsRow w.heap.size 22 1 v 0 []) ∨ (i = .int .i64 1 ∧ wr.ownsRow w.heap.size 22 1 v n1 (rows1.map slcV)) ∨ (i = .int .i64 2 ∧ wr.ownsRow w.heap.size 22 1 v N ((rows1 ++ rows).map slcV)))) (fun _ i _ => 2 - (intOf i).toNat)
      case atStart => exact ⟨v, rfl, hb1, .inl ⟨rfl, hown⟩⟩
      case round =>
        clear hown hb1
        obtain ⟨v, rfl, hbw, ⟨rfl, hown⟩ | ⟨rfl, hown⟩ | ⟨rfl, hown⟩⟩ := hrel
        · obtain ⟨wo, rfl⟩ : ∃ wo : World, wo = wr := ⟨_, rfl⟩
          have hcc0 := (hbw.cell (p := ⟨bo, oo, none⟩) hbo).trans hd0.out
          have hsz := hbw.size
          go_wp2_with (at_builtin; refine wpList_append_reads _ rfl _ _ 40 rfl w.heap.size 22 i0 (.slice none 0 0) 24 Tryz.underlying40 hi hz0 hz1 hz2 rfl v 0 [] rfl hown w.heap.size A1 n1 c1 _ rfl (hA1h.out.below hbw) (slcV_one _) hm.out.1 hm.out.2.1 hsz ?_; intro v2 w2 hown2 hg2)
          go_roundw
          case rel => exact ⟨v2, rfl, hbw.grown hg2 hsz (fun j e => (hown.lt j e).1), .inr (.inl ⟨rfl, by rw [Nat.zero_add] at hown2; simpa using hown2⟩)⟩
          case measure => simp [intOf]
        · obtain ⟨wo, rfl⟩ : ∃ wo : World, wo = wr := ⟨_, rfl⟩
          have hcc1 := (hbw.cell (p := ⟨bo, oo + 1, none⟩) hbo).trans hd1.out
          have hsz := hbw.size
          go_wp2_with (at_builtin; refine wpList_append_reads _ rfl _ _ 40 rfl w.heap.size 22 i0 (.slice none 0 0) 24 Tryz.underlying40 hi hz0 hz1 hz2 rfl v n1 _ rfl hown w.heap.size A2 n c _ rfl (hA2h.out.below hbw) (slcV_one _) hm.out.2.2.1 hm.out.2.2.2 hsz ?_; intro v2 w2 hown2 hg2)
          go_roundw
          case rel => exact ⟨v2, rfl, hbw.grown hg2 hsz (fun j e => (hown.lt j e).1), .inr (.inr ⟨rfl, by rw [← hNh.out, List.map_append]; exact hown2⟩)⟩
          case measure => simp [intOf]
        · go_wp2
          go_ret
          obtain ⟨A, k, rfl, k1, k2, k3⟩ := own_slice hown
          exact ⟨A, N, k, rfl, by rw [List.length_append, hrlh.out, hrlh1.out, hNh.out], k1, k2, k3, hbw⟩
end Go.Proofs.YtoopdgohdeddoaaGreatDoor
/- Proved here: the contract of the landed script's putMarks. -/
namespace Go.Proofs.YtoopdgohdeddoaaGreatDoor
open Go.RowKit
set_option linter.unusedVariables false
set_option maxRecDepth 100000

def eqS : Tx := [61, 61, 61, 61, 61, 61, 61, 10]
def yoS : Tx := [62, 62, 62, 62, 62, 62, 62, 32, 89, 79, 85, 82, 83, 10]
def miS : Tx := [60, 60, 60, 60, 60, 60, 60, 32, 77, 73, 78, 69, 10]
theorem over_mine (k : Nat) : overD [miS] k = [miS, endD] := rfl

set_option maxHeartbeats 4000000 in
theorem scMarks_any (w0 : World) (Bl : Nat) (f t : Nat) (A : Option Addr) (n c : Nat) (Y : Txs) (Ab : Option Addr) (nb cb : Nat) (rowsb : List Slc) (listsb : List Txs) (T : Txs) (v : Value) (xs : Txs) (wr : World) (hS : Pn w0 Bl wr v xs) (hft : f ≤ t) (ht : t + T.length < 99) (hY : TxR wr wr.heap.size (A, n, c) Y) (hB : RowsT wr wr.heap.size Ab nb rowsb listsb) (hnb : nb ≤ 5) (hT : listsb.flatten ++ eqS :: (Y ++ [yoS]) = T) (hT1 : T.length ≤ 60) (hT2 : ∀ s ∈ T, s.length ≤ 1000) (hx : xs.length ≤ 10000000) :
    Calls Tryz.prog 46 #[putFn Bl, .agg #[.int .i64 (f : Int), .int .i64 (t : Int)], .slice A n c, .slice Ab nb cb] wr fun e w' => e = .returned (.tuple #[]) ∧ PnPut w0 Bl wr w' v (xs ++ (figD t ++ [97, 10]) :: (overD T (t + 1) ++ [figD f ++ [97, 10], miS, endD])) := by
  obtain ⟨W0, hW0⟩ : ∃ W0, W0 = wr.alloc (.cells #[.int .i64 (f : Int), .int .i64 (t : Int)] 48) := ⟨_, rfl⟩
  have hB0 : Below wr.heap.size wr W0 := by rw [hW0]; exact below_alloc (Below.refl _ _) _
  have k0 : W0.heap[wr.heap.size]? = some (.cells #[.int .i64 (f : Int), .int .i64 (t : Int)] 48 (0, 0)) := by rw [hW0]; exact one_a wr _
  have hlt : wr.heap.size < W0.heap.size := (Array.getElem?_eq_some_iff.1 k0).1
  obtain ⟨G, hG⟩ : ∃ G, wr.heap.size = G := ⟨_, rfl⟩
  have hsz0 : W0.heap.size = G + 1 := by rw [hW0, push_size, hG]
  obtain ⟨W1, hW1⟩ : ∃ W1, W1 = (((W0.alloc (.cells #[.string ⟨#[61, 61, 61, 61, 61, 61, 61, 10]⟩] 9)).alloc (.cells #[.string ⟨#[62, 62, 62, 62, 62, 62, 62, 32, 89, 79, 85, 82, 83, 10]⟩] 9)).alloc (.cells #[.slice (some ⟨G + 1, 0, none⟩) 1 1, .slice A n c, .slice (some ⟨G + 1 + 1, 0, none⟩) 1 1] 22)).alloc (.cells #[.slice Ab nb cb, .slice (some ⟨G + 1 + 1 + 1, 0, none⟩) 3 3] 40) := ⟨_, rfl⟩
  have a1 : W1.heap[G + 1]? = some (.cells #[.string ⟨#[61, 61, 61, 61, 61, 61, 61, 10]⟩] 9 (0, 0)) := by rw [hW1]; simp only [push_at, push_size, hsz0]; repeat (first | rw [if_pos trivial] | rw [if_pos (by omega)] | rw [if_neg (by omega)])
  have a2 : W1.heap[G + 1 + 1]? = some (.cells #[.string ⟨#[62, 62, 62, 62, 62, 62, 62, 32, 89, 79, 85, 82, 83, 10]⟩] 9 (0, 0)) := by rw [hW1]; simp only [push_at, push_size, hsz0]; repeat (first | rw [if_pos trivial] | rw [if_pos (by omega)] | rw [if_neg (by omega)])
  have a3 : W1.heap[G + 1 + 1 + 1]? = some (.cells #[.slice (some ⟨G + 1, 0, none⟩) 1 1, .slice A n c, .slice (some ⟨G + 1 + 1, 0, none⟩) 1 1] 22 (0, 0)) := by rw [hW1]; simp only [push_at, push_size, hsz0]; repeat (first | rw [if_pos trivial] | rw [if_pos (by omega)] | rw [if_neg (by omega)])
  have a4 : W1.heap[G + 1 + 1 + 1 + 1]? = some (.cells #[.slice Ab nb cb, .slice (some ⟨G + 1 + 1 + 1, 0, none⟩) 3 3] 40 (0, 0)) := by rw [hW1]; simp only [push_at, push_size, hsz0]; repeat (first | rw [if_pos trivial] | rw [if_pos (by omega)] | rw [if_neg (by omega)])
  have hB1 : Below W0.heap.size W0 W1 := by rw [hW1]; exact below_alloc (below_alloc (below_alloc (below_alloc (Below.refl _ _) _) _) _) _
  have hB01 : Below wr.heap.size wr W1 := hB0.trans (hB1.mono hB0.size)
  have hR3 : RowsT W1 W1.heap.size (some ⟨G + 1 + 1 + 1, 0, none⟩) 3 [(some ⟨G + 1, 0, none⟩, 1, 1), (A, n, c), (some ⟨G + 1 + 1, 0, none⟩, 1, 1)] [[eqS], Y, [yoS]] := rowsT_of a3 rfl rfl rfl fun k r ss h1 h2 => by
    match k, h1, h2 with
    | 0, h1, h2 => simp at h1 h2; subst h1; subst h2; exact txr_of a1 rfl rfl (by decide)
    | 1, h1, h2 => simp at h1 h2; subst h1; subst h2; exact hY.up hB01
    | 2, h1, h2 => simp at h1 h2; subst h1; subst h2; exact txr_of a2 rfl rfl (by decide)
    | k + 3, h1, h2 => simp at h1
  have hO : Reads W1 W1.heap.size (some ⟨G + 1 + 1 + 1 + 1, 0, none⟩) 2 [.slice Ab nb cb, .slice (some ⟨G + 1 + 1 + 1, 0, none⟩) 3 3] := ⟨rfl, fun _ => ⟨_, 0, rfl, (Array.getElem?_eq_some_iff.1 a4).1, fun j u hu => by
    rw [Nat.zero_add, cells_of a4]
    simpa using hu⟩⟩
  have hBu := hB.up hB01
  have hCat := Lib.hid (concat2_any _ 2 Ab nb cb (some ⟨G + 1 + 1 + 1, 0, none⟩) 3 3 rowsb [(some ⟨G + 1, 0, none⟩, 1, 1), (A, n, c), (some ⟨G + 1 + 1, 0, none⟩, 1, 1)] W1 (by decide) (by decide) (by omega) hO hBu.1 hR3.1)
  have hrl := hB.rlen
  have hT3 : 2 ≤ T.length := by rw [← hT, List.length_append, List.length_cons, List.length_append, List.length_singleton]; omega
  have hHand : Hid (∀ (A5 : Option Addr) (n5 : Nat) (W : World), n5 = (rowsb ++ [(some ⟨G + 1, 0, none⟩, 1, 1), (A, n, c), (some ⟨G + 1 + 1, 0, none⟩, 1, 1)]).length → Below W1.heap.size W1 W → Reads W W.heap.size A5 n5 ((rowsb ++ [(some ⟨G + 1, 0, none⟩, 1, 1), (A, n, c), (some ⟨G + 1 + 1, 0, none⟩, 1, 1)]).map slcV) → HandIn W A5 n5 T) := Lib.hid (fun A5 n5 W hn5 hW hr => by
    refine ⟨⟨_, listsb ++ [[eqS], Y, [yoS]], ⟨hr, by simp [hB.2.1], fun k r ss h1 h2 => ?_⟩, ?_⟩, by rw [hn5]; simp; omega, hT1, hT2⟩
    · rcases Nat.lt_or_ge k rowsb.length with hk | hk
      · rw [List.getElem?_append_left hk] at h1
        rw [List.getElem?_append_left (by rw [← hB.2.1]; exact hk)] at h2
        exact (hBu.2.2 k r ss h1 h2).up hW
      · rw [List.getElem?_append_right hk] at h1
        rw [List.getElem?_append_right (by rw [← hB.2.1]; exact hk), ← hB.2.1] at h2
        exact (hR3.2.2 _ r ss h1 h2).up hW
    · rw [← hT, List.flatten_append]
      simp)
  have hB1h : Hid (∀ W, Below W1.heap.size W1 W → Below wr.heap.size wr W ∧ W.heap[wr.heap.size]? = some (.cells #[.int .i64 (f : Int), .int .i64 (t : Int)] 48 (0, 0))) := Lib.hid (fun W hW => ⟨hB01.trans (hW.mono hB01.size), (hW.block _ (Nat.lt_of_lt_of_le hlt hB1.size)).trans ((hB1.block _ hlt).trans k0)⟩)
  have hxh := Lib.hid hx
  have hShid := Lib.hid hS
  have hb1 : Hid (∀ (A5 : Option Addr) (n5 c5 : Nat) (W : World), HandIn W A5 n5 T → Below W1.heap.size W1 W → Calls Tryz.prog 81 #[putFn Bl, .int .i64 (t : Int), .slice A5 n5 c5] W fun e w' => e = .returned (.tuple #[]) ∧ PnPut w0 Bl wr w' v (xs ++ (figD t ++ [97, 10]) :: overD T (t + 1)) ∧ w'.heap[wr.heap.size]? = some (.cells #[.int .i64 (f : Int), .int .i64 (t : Int)] 48 (0, 0))) := Lib.hid (fun A5 n5 c5 W hH hW =>
    (scBeh_any w0 Bl t A5 n5 c5 T v xs W (hShid.out.up (hB1h.out W hW).1) hH ht (by have := hxh.out; omega)).mono fun e w' h => ⟨h.1, h.2.ahead (hB1h.out W hW).1, PnPut.keeps (hShid.out.up (hB1h.out W hW).1) h.2 (hB1h.out W hW).2 (by decide) (by decide)⟩)
  obtain ⟨ys, hys⟩ : ∃ ys, xs ++ (figD t ++ [97, 10]) :: overD T (t + 1) = ys := ⟨_, rfl⟩
  have hol : Hid (ys.length ≤ 100000000) := Lib.hid (by
    rw [← hys, List.length_append, List.length_cons]
    have : (overD T (t + 1)).length ≤ T.length + 2 := by
      unfold overD
      rw [List.length_append, block_len]
      split
      · rw [List.length_singleton]; omega
      · simp
    omega)
  have hres : Hid (xs ++ (figD t ++ [97, 10]) :: (overD T (t + 1) ++ [figD f ++ [97, 10], miS, endD]) = ys ++ (figD f ++ [97, 10]) :: overD [miS] (f + 1)) := Lib.hid (by rw [← hys, over_mine]; simp)
  rw [hys] at hb1
  have hb2 : Hid (∀ (W : World) (vv : Value), Pn w0 Bl W vv ys → Calls Tryz.prog 81 #[putFn Bl, .int .i64 (f : Int), .slice (some ⟨W.heap.size + 1, 0, none⟩) 1 1] ((W.alloc (.cells #[.string ⟨#[60, 60, 60, 60, 60, 60, 60, 32, 77, 73, 78, 69, 10]⟩] 9)).alloc (.cells #[.slice (some ⟨W.heap.size, 0, none⟩) 1 1] 22)) fun e w' => e = .returned (.tuple #[]) ∧ PnPut w0 Bl W w' vv (ys ++ (figD f ++ [97, 10]) :: overD [miS] (f + 1))) := Lib.hid (fun W vv hW => by
    have hbb := below_alloc (below_alloc (Below.refl W.heap.size W) (.cells #[.string ⟨#[60, 60, 60, 60, 60, 60, 60, 32, 77, 73, 78, 69, 10]⟩] 9)) (.cells #[.slice (some ⟨W.heap.size, 0, none⟩) 1 1] 22)
    have htwo := two_a W (.cells #[.string ⟨#[60, 60, 60, 60, 60, 60, 60, 32, 77, 73, 78, 69, 10]⟩] 9) (.cells #[.slice (some ⟨W.heap.size, 0, none⟩) 1 1] 22)
    refine (scBeh_any w0 Bl f _ 1 1 [miS] vv ys _ (hW.up hbb) (HandIn.one (r := (some ⟨W.heap.size, 0, none⟩, 1, 1)) htwo.2 (txr_of htwo.1 rfl rfl (by decide)) (by decide) (by decide)) (by simp; omega) hol.out).mono fun e w' h => ⟨h.1, h.2.ahead hbb⟩)
  obtain ⟨Z, hZ⟩ : ∃ Z, xs ++ (figD t ++ [97, 10]) :: (overD T (t + 1) ++ [figD f ++ [97, 10], miS, endD]) = Z := ⟨_, rfl⟩
  rw [hZ] at hres
  rw [← hres.out] at hb2
  rw [hZ]
  have hW0h := Lib.hid hW0
  have hW1h := Lib.hid hW1
  have hGh := Lib.hid hG
  have hrefl := Lib.hid (Below.refl W1.heap.size W1)
  have x1 : W0.cell? ⟨wr.heap.size, 1, none⟩ = some (.int .i64 (t : Int)) := (cells_of k0 1).trans rfl
  have hat : Hid (∀ W : World, W.heap[wr.heap.size]? = some (.cells #[.int .i64 (f : Int), .int .i64 (t : Int)] 48 (0, 0)) → W.cell? ⟨G, 0, none⟩ = some (.int .i64 (f : Int)) ∧ W.cell? ⟨G, 1, none⟩ = some (.int .i64 (t : Int))) := Lib.hid (fun W h => by rw [hG] at h; exact ⟨(cells_of h 0).trans rfl, (cells_of h 1).trans rfl⟩)
  have hsz0h := Lib.hid hsz0
  have tok1 := trivial
  unfold putFn at hb1 hb2 ⊢
  clear hS hft ht hY hB hnb hT hT3 hT1 hT2 hx hW0 hB0 k0 hlt hG hsz0 hW1 a1 a2 a3 a4 hB1 hB01 hR3 hO hBu hrl hys hZ hres x1
  go_enter Tryz.func46, Tryz.ntmps46
  go_upto_region 1 with fail
  rw [← hW0h.out, hGh.out]
  have hsz0 := hsz0h.out
  go_wp2_with (first
    | (go_at_call 34; rw [← hW1h.out]; refine hCat.out.mono ?_; rintro e w2 ⟨A5, n5, c5, rfl, q1, -, -, q2, q3⟩; have hHh := Lib.hid (hHand.out A5 n5 w2 q1 q3 q2); have hB2 := Lib.hid q3; obtain ⟨y0, y1⟩ := hat.out w2 (hB1h.out w2 q3).2; clear q1 q2 q3 hsz0)
    | (go_at_call 81; have _t := tok1; refine (hb1.out _ _ _ _ hHh.out hB2.out).mono ?_; rintro e w3 ⟨rfl, q1, q2⟩; obtain ⟨z0, z1⟩ := hat.out w3 q2; obtain ⟨v3, hS3, hbt3, hlc3⟩ := q1; have hS3h := Lib.hid hS3; have hst := Lib.hid (fun (w4 : World) (zs : Txs) (h : PnPut w0 Bl w3 w4 v3 zs) => PnPut.step hbt3 hlc3 h); have tok2 := trivial; clear tok1 q2 hS3 hbt3 hlc3 y0 y1)
    | (go_at_call 81; have _t := tok2; refine (hb2.out w3 v3 hS3h.out).mono ?_; rintro e w5 ⟨rfl, q5⟩; have hQ5 := Lib.hid (hst.out _ _ q5); clear q5 tok2))
  go_end0
  exact ⟨rfl, hQ5.out⟩
end Go.Proofs.YtoopdgohdeddoaaGreatDoor
/- Proved here: contracts of small functions of the landed package content: isSpan, cut. -/
namespace Go.Proofs.YtoopdgohdeddoaaGreatDoor
open Go.RowKit
set_option linter.unusedVariables false

set_option maxHeartbeats 800000 in
theorem isSpan_any (a b : Int) (n : Nat) (w : World) (hn : n ≤ maxLen) :
    Calls Tryz.prog 77 #[.agg #[.int .i64 a, .int .i64 b], .int .i64 n] w fun e w' => e = .returned (.bool (inB (a, b) n)) ∧ Below w.heap.size w w' := by
  have hb : Below w.heap.size w (w.alloc (.cells #[.int .i64 a, .int .i64 b] 48)) := (Below.refl _ _).alloc (Nat.le_refl _) _
  have hbh := Lib.hid hb
  obtain ⟨r, hr⟩ : ∃ r, inB (a, b) n = r := ⟨_, rfl⟩
  have hrh := Lib.hid hr
  rw [hr]
  clear hb hr
  unfold maxLen at hn
  by_cases h1 : 0 ≤ a
  · by_cases h2 : a ≤ b
    · by_cases h3 : b ≤ n
      · have hrt : r = true := by rw [← hrh.out]; unfold inB; simp [h1, h2, h3]
        subst hrt
        have d1 : decide (0 ≤ a) = true := by simpa using h1
        have d2 : decide (a ≤ b) = true := by simpa using h2
        have d3 : decide (b ≤ (n : Int)) = true := by simpa using h3
        go_enter Tryz.func77, Tryz.ntmps77
        go_wp2
        go_ret
        exact ⟨rfl, hbh.out⟩
      · have hrt : r = false := by rw [← hrh.out]; unfold inB; simp [h3]
        subst hrt
        have d1 : decide (0 ≤ a) = true := by simpa using h1
        have d2 : decide (a ≤ b) = true := by simpa using h2
        have d3 : decide (b ≤ (n : Int)) = false := by simpa using h3
        go_enter Tryz.func77, Tryz.ntmps77
        go_wp2
        go_ret
        exact ⟨rfl, hbh.out⟩
    · have hrt : r = false := by rw [← hrh.out]; unfold inB; simp [h2]
      subst hrt
      have d1 : decide (0 ≤ a) = true := by simpa using h1
      have d2 : decide (a ≤ b) = false := by simpa using h2
      go_enter Tryz.func77, Tryz.ntmps77
      go_wp2
      go_ret
      exact ⟨rfl, hbh.out⟩
  · have hrt : r = false := by rw [← hrh.out]; unfold inB; simp [h1]
    subst hrt
    have d1 : decide (0 ≤ a) = false := by simpa using h1
    go_enter Tryz.func77, Tryz.ntmps77
    go_wp2
    go_ret
    exact ⟨rfl, hbh.out⟩

set_option maxRecDepth 100000 in
/-- A part of texts, cut by three indices. -/
theorem slice3_txs {w : World} {B n c : Nat} {A : Option Addr} {ss : Txs} {f t : Int} (h : TxR w B (A, n, c) ss) (h0 : 0 ≤ f) (h1 : f ≤ t) (h2 : t ≤ n) :
    ∃ A' m, (∀ W : World, (Instr.slice 22 (.slice A n c) (some (.int .i64 f)) (some (.int .i64 t)) (some (.int .i64 t))).run Tryz.prog W = .ok (.slice A' m m) W) ∧ TxR w B (A', m, m) (cutL ss f t) := by
  obtain ⟨e1, e2, e3⟩ := h
  dsimp only at e1 e2 e3
  have hl := e3.len
  have hm : t.toNat - f.toNat = (t - f).toNat := by omega
  refine ⟨(if t.toNat = f.toNat then A else A.map (·.add f.toNat)), t.toNat - f.toNat, fun W => ?_, Nat.le_refl _, ?_, ?_⟩
  · rw [run_slice_lhm (P := Tryz.prog) W 22 A n c Tryz.underlying22 .i64 .i64 .i64 f t t h0 h1 (Int.le_refl _) (by omega)]
    go_simp
  · show t.toNat - f.toNat ≤ maxLen
    omega
  · show Reads _ _ _ (t.toNat - f.toNat) _
    refine ⟨by rw [List.length_map, cutL_len h0 h1 (by omega)]; omega, fun hn => ?_⟩
    obtain ⟨b, o, rfl, hb, hc⟩ := e3.2 (by omega)
    rw [if_neg (by omega)]
    refine ⟨b, o + f.toNat, ?_, hb, fun j u hu => ?_⟩
    · simp only [Option.map_some]
      unfold Addr.add
      split
      · rename_i h
        rw [h]; rfl
      · rfl
    · rw [Nat.add_assoc]
      refine hc _ u ?_
      have hj := (List.getElem?_eq_some_iff.1 hu).1
      rw [List.length_map, cutL_len h0 h1 (by omega)] at hj
      rw [← hu, List.getElem?_map, List.getElem?_map]
      unfold cutL
      rw [List.getElem?_take, if_pos hj, List.getElem?_drop]

set_option maxHeartbeats 800000 in
theorem cut_any (A : Option Addr) (n c B : Nat) (ss : Txs) (f t : Int) (w : World) (hA : TxR w B (A, n, c) ss) (h0 : 0 ≤ f) (h1 : f ≤ t) (h2 : t ≤ n) :
    Calls Tryz.prog 78 #[.slice A n c, .agg #[.int .i64 f, .int .i64 t]] w fun e w' => ∃ A' m, e = .returned (.slice A' m m) ∧ TxR w B (A', m, m) (cutL ss f t) ∧ Below w.heap.size w w' := by
  have hb : Below w.heap.size w (w.alloc (.cells #[.int .i64 f, .int .i64 t] 48)) := (Below.refl _ _).alloc (Nat.le_refl _) _
  obtain ⟨A', m, hs, hT⟩ := slice3_txs hA h0 h1 h2
  have hbh := Lib.hid hb
  have hTh := Lib.hid hT
  have h1h := Lib.hid h1
  have h2h := Lib.hid h2
  clear hb hT hA h1 h2 h0
  go_enter Tryz.func78, Tryz.ntmps78
  go_wp2
  go_ret
  exact ⟨A', m, rfl, hTh.out, hbh.out⟩

end Go.Proofs.YtoopdgohdeddoaaGreatDoor

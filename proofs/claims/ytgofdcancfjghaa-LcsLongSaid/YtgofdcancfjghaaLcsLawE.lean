/- Proved here, out of the contracts of package lcs: the walk of LcsLong. -/
import Derived.Test.YtgofdcancfjghaaLcsAwake
namespace Go.Proofs.Ytgofdcancfjghaa
open Go.RowKit
set_option linter.unusedVariables false

section
variable {Pr : World → Nat → (Nat → Prop) → List Int → List Int → Prop} (H : LcsOk Pr)
include H

set_option maxRecDepth 100000 in
set_option maxHeartbeats 2000000 in
theorem LcsLong_walk (z : Nat) (A : Option Addr) (n c : Nat) (a : List Int) (w : World) (hz : z ≤ 255) (hA : ArgNums w A n c a) :
    Calls Try.prog 9 #[.int .u8 z, .slice A n c] w fun e w' => e = .returned (.bool true) ∧ Below w.heap.size w w' := by
  have hcm := hA.2.1
  have hnc := hA.1
  unfold maxLen at hcm
  by_cases g1 : 40 < n
  · go_enter Try.func9, Try.ntmps9
    go_wp2_with fail
    refine (awake_any H _).mono ?_
    rintro e w1 ⟨rfl, hB1⟩
    go_wp2
    go_ret
    exact ⟨rfl, hB1⟩
  obtain ⟨N, hN⟩ : ∃ N, N = 2001 + z := ⟨_, rfl⟩
  have hNi : (2001 : Int) + (z : Int) = (N : Int) := by rw [hN]; push_cast; rfl
  have hNb : 2001 ≤ N ∧ N ≤ 2256 := by omega
  have hNc : (2000 : Int) ≤ (N : Int) := by omega
  have hmk := run_make_row' (P := Try.prog) 22 3 (.int .i64 0) 8 Try.underlying22 infoInt rfl .i64 .i64 N (by omega) (by omega)
  obtain ⟨zs, hzs⟩ : ∃ zs : List Int, zs = List.replicate 2000 0 := ⟨_, rfl⟩
  have hzh := Lib.hid hzs
  have hNh := Lib.hid hN
  have hMt := Lib.hid H.match_any
  have hLn : Hid (∀ (T : Nat) (F : Nat → Prop) (W : World), Pr W T F zs [] → Calls Try.prog 15 #[.pointer (some ⟨T, 0, none⟩)] W fun e w' => e = .returned (.int .i64 0) ∧ PrAfter Pr W w' T F zs []) := Lib.hid (fun T F W h => (H.len_any T F _ _ W h).mono fun e w' ⟨h1, h2⟩ => ⟨by rw [h1, lcs_nil_right]; rfl, h2⟩)
  have hlong := Lib.hid H.new_long
  have hok := Lib.hid H.new_ok
  have hn0 := Lib.hid H.len_nil
  have hm0 := Lib.hid H.match_nil
  have tok1 := trivial
  clear hzs hN
  go_enter Try.func9, Try.ntmps9
  go_wp2_with fail
  refine (awake_any H _).mono ?_
  rintro e w1 ⟨rfl, hB1⟩
  have hB2 : Below w.heap.size w (w1.alloc (.cells (madeCells #[.int .i64 0] N) 3)) := hB1.alloc hB1.size _
  have hrow : (w1.alloc (.cells (madeCells #[.int .i64 0] N) 3)).rowIs w1.heap.size 3 N (fun _ => .int .i64 0) := World.rowIs_made w1 (.int .i64 0) N _
  have hrowh := Lib.hid hrow
  have hB2h := Lib.hid hB2
  clear hrow hB2
  go_wp2_with (first
    | (go_at_call 11; have _t := tok1; refine (hlong.out (some ⟨w1.heap.size, 0, none⟩) A N n N c _ (by unfold maxLen; omega) (by unfold maxLen; omega) (.inl (by omega))).mono ?_; rintro e w3 ⟨rfl, hB3⟩; clear tok1; have tok2 := trivial)
    | (go_at_call 11; have _t := tok2; refine (hlong.out A (some ⟨w1.heap.size, 0, none⟩) n N c N _ (by unfold maxLen; omega) (by unfold maxLen; omega) (.inr (by omega))).mono ?_; rintro e w4 ⟨rfl, hB4⟩; clear tok2))
  have hB24 : Below (w1.heap.size + 1) (w1.alloc (.cells (madeCells #[.int .i64 0] N) 3)) w4 := (hB3.mono (by simp)).trans (hB4.mono (by have := hB3.size; simp at this; exact this))
  have hrow4 : w4.rowIs w1.heap.size 3 N (fun _ => .int .i64 0) := hrowh.out.of_block (hB24.block _ (by omega))
  have hnum : Nums w4 w4.heap.size (some ⟨w1.heap.size, 0, none⟩) 2000 zs := by
    refine ⟨by rw [hzh.out]; simp, fun _ => ⟨w1.heap.size, 0, rfl, hrow4.lt, fun j u hu => ?_⟩⟩
    have hj : j < 2000 := by have := (List.getElem?_eq_some_iff.1 hu).1; rw [hzh.out] at this; simpa using this
    rw [Nat.zero_add, hrow4.cell (show j < N by omega)]
    rw [hzh.out, List.getElem?_map, List.getElem?_replicate, if_pos hj] at hu
    exact hu
  have hnil : Nums w4 w4.heap.size none 0 [] := ⟨rfl, fun h => by omega⟩
  have hBw4 : Below w.heap.size w w4 := hB2h.out.trans (hB24.mono (by have := hB1.size; omega))
  have hok4 := Lib.hid (hok.out (some ⟨w1.heap.size, 0, none⟩) none 2000 0 N 0 zs [] w4 (by omega) (by omega) (by omega) (by omega) (by unfold maxLen; omega) (by unfold maxLen; omega) hnum hnil)
  have hzl : Hid (zs.length = 2000) := Lib.hid (by rw [hzh.out]; simp)
  clear hnum hnil hrow4 hB3 hB4 hB24
  refine hok4.out.mono ?_
  rintro e w5 ⟨T, F, rfl, hP, hF, hB5⟩
  have hF' : Hid (∀ k, F k → w.heap.size ≤ k) := Lib.hid (fun k hk => by have := hF k hk; have := hBw4.size; omega)
  have hBw5 : Below w.heap.size w w5 := hBw4.trans (hB5.mono hBw4.size)
  clear hF hB5 hBw4
  go_wp2_with (first
    | (go_at_call 15; first
      | ((with_reducible refine (hLn.out T F _ hP).mono ?_); rintro e w6 ⟨rfl, F6, hP6, hb6, hF6⟩; have hBw6 : Below w.heap.size w w6 := hBw5.trans (hb6.below hBw5.size hF'.out); have hF6' : Hid (∀ k, F6 k → w.heap.size ≤ k) := Lib.hid (fun k hk => by rcases hF6 k hk with h | h; exact hF'.out k h; (have := hBw5.size; omega)); clear hP hb6 hF6)
      | ((with_reducible refine (hn0.out _).mono ?_); rintro e w' ⟨rfl, rfl⟩))
    | (go_at_call 13; first
      | ((with_reducible refine (hMt.out T F6 _ _ _ hP6).mono ?_); rintro e w7 ⟨Am, nm, cm, F7, rfl, hnm, hx1, hx2, hx3, hx4, hP7, hb7, hF7⟩; have hBw7 : Below w.heap.size w w7 := hBw6.trans (hb7.below hBw6.size hF6'.out); obtain rfl : 2000 = nm := (hnm.trans hzl.out).symm; clear hP6 hb7 hF7 hx3 hx4 hnm hx1)
      | ((with_reducible refine (hm0.out _).mono ?_); rintro e w' ⟨A9, c9, rfl, rfl⟩)))
  go_ret
  exact ⟨rfl, hBw7⟩
end
end Go.Proofs.Ytgofdcancfjghaa

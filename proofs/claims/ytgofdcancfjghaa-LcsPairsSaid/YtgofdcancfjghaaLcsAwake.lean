/- Proved here, out of the contracts of package lcs: awake returns true; and what the statements of layer 3 share. -/
import Derived.Test.YtgofdcancfjghaaLcsOk
namespace Go.Proofs.Ytgofdcancfjghaa
open Go.RowKit
set_option linter.unusedVariables false

theorem ex_lcs : lcsL [1, 2, 3] [2, 3, 1] = 2 := by simp [lcsL]
theorem ex_mt : mt [1, 2, 3] [2, 3, 1] 0 = [-1, 0, 1] := by simp [mt, lcsL]

/-- A slice of numbers that came in. -/
def ArgNums (w : World) (A : Option Addr) (n c : Nat) (xs : List Int) : Prop := n ≤ c ∧ c ≤ maxLen ∧ Nums w w.heap.size A n xs
theorem ArgNums.up {w w' : World} {A : Option Addr} {n c : Nat} {xs : List Int} (h : ArgNums w A n c xs) (hB : Below w.heap.size w w') : Nums w' w'.heap.size A n xs := (h.2.2.below hB).more hB.size

section
variable {Pr : World → Nat → (Nat → Prop) → List Int → List Int → Prop} (H : LcsOk Pr)
include H

set_option maxHeartbeats 1000000 in
theorem awake_any (w : World) :
    Calls Try.prog 10 #[] w fun e w' => e = .returned (.bool true) ∧ Below w.heap.size w w' := by
  have h1 : Nums _ _ _ 3 [1, 2, 3] := Nums.new (w := w) [1, 2, 3] 3 3 #[.int .i64 1, .int .i64 2, .int .i64 3] rfl rfl
  have h2 : Nums _ _ _ 3 [2, 3, 1] := Nums.new (w := w.alloc (.cells #[.int .i64 1, .int .i64 2, .int .i64 3] 3)) [2, 3, 1] 3 3 #[.int .i64 2, .int .i64 3, .int .i64 1] rfl rfl
  have hs : (w.alloc (.cells #[.int .i64 1, .int .i64 2, .int .i64 3] 3)).heap.size = w.heap.size + 1 := by simp
  rw [hs] at h2
  have h1' : Nums ((w.alloc (.cells #[.int .i64 1, .int .i64 2, .int .i64 3] 3)).alloc (.cells #[.int .i64 2, .int .i64 3, .int .i64 1] 3)) ((w.alloc (.cells #[.int .i64 1, .int .i64 2, .int .i64 3] 3)).alloc (.cells #[.int .i64 2, .int .i64 3, .int .i64 1] 3)).heap.size (some ⟨w.heap.size, 0, none⟩) 3 [1, 2, 3] :=
    (h1.below ((Below.refl _ _).alloc (Nat.le_refl _) _)).more (by simp)
  have hB0 : Below w.heap.size w ((w.alloc (.cells #[.int .i64 1, .int .i64 2, .int .i64 3] 3)).alloc (.cells #[.int .i64 2, .int .i64 3, .int .i64 1] 3)) := ((Below.refl _ _).alloc (Nat.le_refl _) _).alloc (by simp) _
  have hN := Lib.hid (H.new_ok _ _ 3 3 3 3 _ _ _ (by omega) (by omega) (Nat.le_refl _) (Nat.le_refl _) (by decide) (by decide) h1' h2)
  have hMt := Lib.hid H.match_any
  have hLn := Lib.hid H.len_any
  have hB0' := Lib.hid hB0
  clear hs h1 h2 h1' hB0
  go_enter Try.func10, Try.ntmps10
  go_wp2_with (first
    | (go_at_call 11; refine hN.out.mono ?_; rintro e w1 ⟨T, F, rfl, hP, hF, hB⟩))
  refine (hMt.out T F _ _ _ hP).mono ?_
  rintro e w2 ⟨A, n, c, F', rfl, rfl, hnc, hcm, hm, hAF, hP2, hb2, hF2⟩
  have hB1 : Below w.heap.size w w1 := hB0'.out.trans (hB.mono hB0'.out.size)
  have hsz := hB0'.out.size
  have hsB := hB.size
  have hB2 : Below w.heap.size w w2 := hB1.trans (hb2.below hB1.size (fun k hk => by have := hF k hk; omega))
  rw [ex_mt] at hm
  obtain ⟨q, o, x0, rfl, hq, hx0, hc0⟩ := hm.at_ (k := 0) (by decide)
  obtain ⟨q1, o1, x1, e1, _, hx1, hc1⟩ := hm.at_ (k := 1) (by decide)
  injection e1 with e1; injection e1 with e1 e2; subst e1; subst e2
  obtain ⟨q2, o2, x2, e1, _, hx2, hc2⟩ := hm.at_ (k := 2) (by decide)
  injection e1 with e1; injection e1 with e1 e2; subst e1; subst e2
  injection hx0 with hx0; subst hx0
  injection hx1 with hx1; subst hx1
  injection hx2 with hx2; subst hx2
  have hkeep : ∀ w3, But F' w2 w3 → ∀ j, w3.cell? ⟨q, j, none⟩ = w2.cell? ⟨q, j, none⟩ := fun w3 hb j => World.cell?_of_block (w := w2) (hb.block q hq (hAF q o rfl))
  have hL := Lib.hid (hLn.out T F' _ _ _ hP2)
  have hkeep' := Lib.hid hkeep
  have hB2' := Lib.hid hB2
  have hb2' := Lib.hid hb2
  have hF2' := Lib.hid hF2
  have hF' := Lib.hid hF
  clear hm hAF hb2 hkeep hB2 hP hP2 hF2 hF hB hB1
  rw [Nat.add_zero] at hc0
  rw [ex_lcs] at hL
  go_wp2_with (first
    | (go_at_call 15; refine hL.out.mono ?_; rintro e w3 ⟨rfl, F3, hP3, hb3, hF3⟩; have d0 := (hkeep'.out w3 hb3 _).trans hc0; have d1 := (hkeep'.out w3 hb3 _).trans hc1; have d2 := (hkeep'.out w3 hb3 _).trans hc2; have hb3' := Lib.hid hb3; clear hP3 hb3 hF3))
  go_ret
  exact ⟨rfl, hB2'.out.trans (hb3'.out.below hB2'.out.size (fun k hk => by
    rcases hF2'.out k hk with h | h
    · have := hF'.out k h; omega
    · omega))⟩
end
end Go.Proofs.Ytgofdcancfjghaa

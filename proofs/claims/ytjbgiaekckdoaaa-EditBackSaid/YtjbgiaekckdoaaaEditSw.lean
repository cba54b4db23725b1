/- Proved here: the contract of package edit's Swap. -/
import Derived.Test.YtjbgiaekckdoaaaEditFns
import Derived.Test.YtjbgiaekckdoaaaEditOk
namespace Go.Proofs.Ytjbgiaekckdoaaa
open Go.RowKit
set_option linter.unusedVariables false

theorem set4 {A B : List Value} {p : Nat} (hp : A.length = p) (b0 b1 b2 b3 v0 v1 v2 v3 : Value) :
    ((((A ++ (b0 :: b1 :: b2 :: b3 :: B)).toArray.setIfInBounds p v0).setIfInBounds (p + 1) v1).setIfInBounds (p + 2) v2).setIfInBounds (p + 3) v3 = (A ++ (v0 :: v1 :: v2 :: v3 :: B)).toArray := by
  subst hp
  simp

/-- A row of changes of which those of l are written. -/
def rowS (l : List Ch) (r : Nat) : List Value := chCs l ++ List.replicate (r * 4) (.int .i64 0)
theorem rowS_made (n : Nat) : madeCells #[.int .i64 0, .int .i64 0, .int .i64 0, .int .i64 0] (n * 4) = (rowS [] n).toArray := by
  apply Array.ext
  · simp [rowS, chCs, size_madeCells]
  · intro i h1 h2
    have h3 : i % 4 < 4 := Nat.mod_lt _ (by omega)
    have h4 : i % 4 = 0 ∨ i % 4 = 1 ∨ i % 4 = 2 ∨ i % 4 = 3 := by omega
    rcases h4 with h | h | h | h <;> simp [madeCells, rowS, chCs, h]
theorem rowS_next (l : List Ch) (r : Nat) (c : Ch) : ((((rowS l (r + 1)).toArray.setIfInBounds (l.length * 4) (.int .i64 c.1.1)).setIfInBounds (l.length * 4 + 1) (.int .i64 c.1.2)).setIfInBounds (l.length * 4 + 2) (.int .i64 c.2.1)).setIfInBounds (l.length * 4 + 3) (.int .i64 c.2.2) = (rowS (l ++ [c]) r).toArray := by
  have h : rowS l (r + 1) = chCs l ++ (.int .i64 0 :: .int .i64 0 :: .int .i64 0 :: .int .i64 0 :: List.replicate (r * 4) (.int .i64 0)) := by
    unfold rowS
    rw [show (r + 1) * 4 = r * 4 + 1 + 1 + 1 + 1 by omega]
    simp only [List.replicate_succ]
  rw [h, set4 (chCs_len l)]
  unfold rowS
  rw [chCs_snoc, List.append_assoc]
  rfl
theorem rowS_size (l : List Ch) (r : Nat) : (rowS l r).toArray.size = l.length * 4 + r * 4 := by simp [rowS, chCs_len]

theorem chs_of_row {w : World} {b n : Nat} {t : TypeId} {l : List Ch} (h : w.heap[b]? = some (.cells (rowS l 0).toArray t (0, 0))) (hl : l.length = n) : Chs w w.heap.size (some ⟨b, 0, none⟩) n l := by
  refine ⟨hl, fun _ => ⟨b, 0, rfl, (Array.getElem?_eq_some_iff.1 h).1, fun j c hj => ?_⟩⟩
  have key : ∀ r, r < 4 → ∀ u, (chC c)[r]? = some u → w.cell? ⟨b, 0 + j * 4 + r, none⟩ = some u := fun r hr u hu => by
    rw [Nat.zero_add, cells_of h]
    have := (chCs_at l j r c hj hr).trans hu
    simpa [rowS] using this
  exact ⟨key 0 (by omega) _ rfl, key 1 (by omega) _ rfl, key 2 (by omega) _ rfl, key 3 (by omega) _ rfl⟩

set_option maxRecDepth 100000 in
set_option maxHeartbeats 2000000 in
theorem swap_any (A : Option Addr) (n c : Nat) (l : List Ch) (w : World) (hnc : n ≤ c) (hcm : c ≤ maxLen) (hn : n ≤ 5000) (hA : Chs w w.heap.size A n l) :
    Calls Try.prog 17 #[.slice A n c] w fun e w' => SwOut w w' e (l.map swapC) := by
  have hl := hA.len
  unfold maxLen at hcm
  have hmk : ∀ w : World, (Instr.makeSlice 24 (.int .i64 (n : Int)) (.int .i64 (n : Int))).run Try.prog w = .ok (.slice (some ⟨w.heap.size, 0, none⟩) n n) (w.alloc (.cells (rowS [] n).toArray 43)) := fun w => by
    obtain ⟨i0, hi, hz0, hz1, hz2⟩ := info_parts (show (Try.prog.info? 43).map (fun i => (i.zero, i.size, i.bytes)) = some (some (.agg #[.int .i64 0, .int .i64 0, .int .i64 0, .int .i64 0]), 4, 32) by kernel_rfl)
    have h := run_make (P := Try.prog) w 24 43 i0 _ Try.underlying24 hi hz0 .i64 .i64 n n (by omega) (Int.le_refl _) (by rw [hz2]; omega) (by omega)
    rw [hz1, Int.toNat_natCast] at h
    rw [h, ← rowS_made]
    rfl
  go_enter Try.func17, Try.ntmps17
  go_wp2
  have hB0 : Below w.heap.size w (w.alloc (.cells (rowS [] n).toArray 43)) := (Below.refl _ _).alloc (Nat.le_refl _) _
  have hr0 := World.alloc_heap_new w (.cells (rowS [] n).toArray 43)
  clear hmk
  go_loopw [4, 5, 11] (fun _ _ s11 wr => ∃ k : Nat, k ≤ n ∧ s11 = .int .i64 k ∧ Hid (wr.heap[w.heap.size]? = some (.cells (rowS ((l.take k).map swapC) (n - k)).toArray 43 (0, 0))) ∧ Below w.heap.size w wr)
    (fun _ _ s11 _ => n - (intOf s11).toNat)
  case atStart => exact ⟨0, Nat.zero_le _, rfl, Lib.hid hr0, hB0⟩
  case round =>
    obtain ⟨k, hk, rfl, hrow, hB⟩ := hrel
    obtain ⟨wo, rfl⟩ : ∃ wo : World, wo = wr := ⟨_, rfl⟩
    by_cases hlt : k < n
    · obtain ⟨b, o, d, rfl, hb, hd, x0, x1, x2, x3⟩ := (hA.up hB).at_ hlt
      have hg := (Array.getElem?_eq_some_iff.1 hrow.out).1
      have hlen : ((l.take k).map swapC).length = k := by rw [List.length_map, List.length_take]; omega
      have hsz := rowS_size ((l.take k).map swapC) (n - k)
      rw [hlen] at hsz
      have hat : ∀ j, j < 4 → ∃ v, wo.cell? ⟨w.heap.size, k * 4 + j, none⟩ = some v := fun j hj => by
        rw [cells_of hrow.out, Array.getElem?_eq_getElem (by omega)]
        exact ⟨_, rfl⟩
      obtain ⟨v0, z0⟩ := hat 0 (by omega)
      obtain ⟨v1, z1⟩ := hat 1 (by omega)
      obtain ⟨v2, z2⟩ := hat 2 (by omega)
      obtain ⟨v3, z3⟩ := hat 3 (by omega)
      rw [Nat.add_zero] at z0
      have f0 := unfrozen_of hrow.out (k * 4)
      have f1 := unfrozen_of hrow.out (k * 4 + 1)
      have f2 := unfrozen_of hrow.out (k * 4 + 2)
      have f3 := unfrozen_of hrow.out (k * 4 + 3)
      have hlenh := Lib.hid hlen
      have htk := Lib.hid (take_at hd)
      clear hat hsz hlen
      go_wp2
      go_roundw
      case rel =>
        obtain ⟨r, hr⟩ : ∃ r, n - k = r + 1 := ⟨n - k - 1, by omega⟩
        have h := hrow.out
        rw [hr] at h
        have h4 := cells_set (j := k * 4 + 3) (.int .i64 d.1.2) (cells_set (j := k * 4 + 2) (.int .i64 d.1.1) (cells_set (j := k * 4 + 1) (.int .i64 d.2.2) (cells_set (j := k * 4) (.int .i64 d.2.1) h)))
        have h5 := rowS_next ((l.take k).map swapC) r (swapC d)
        rw [hlenh.out] at h5
        have h6 := h4.trans (congrArg (fun C => some (Obj.cells C 43 (0, 0))) h5)
        refine ⟨k + 1, by omega, by go_num, Lib.hid ?_, ?_⟩
        · refine (Below.heap_alloc _ _ _ (by simp [World.setCell]; exact hg)).trans ?_
          rw [htk.out, List.map_append, show n - (k + 1) = r by omega]
          exact h6
        · exact ((((hB.setCell (p := ⟨w.heap.size, k * 4, none⟩) (Nat.le_refl _) _).setCell (p := ⟨w.heap.size, k * 4 + 1, none⟩) (Nat.le_refl _) _).setCell (p := ⟨w.heap.size, k * 4 + 2, none⟩) (Nat.le_refl _) _).setCell (p := ⟨w.heap.size, k * 4 + 3, none⟩) (Nat.le_refl _) _).alloc (by simp [World.setCell]; omega) _
      case measure => simp [intOf]; omega
    · obtain rfl : k = n := by omega
      go_wp2
      go_ret
      have hrr := hrow.out
      rw [Nat.sub_self, List.take_of_length_le (by omega)] at hrr
      exact ⟨some ⟨w.heap.size, 0, none⟩, k, k, rfl, by rw [List.length_map]; exact hl.symm, Nat.le_refl _, by unfold maxLen; omega, chs_of_row hrr (by rw [List.length_map]; exact hl), hB⟩
end Go.Proofs.Ytjbgiaekckdoaaa

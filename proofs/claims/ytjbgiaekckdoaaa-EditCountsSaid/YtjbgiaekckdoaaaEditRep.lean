/- Proved here: the contract of slices.Repeat at one number -1, any number of times up to 2000 (and of math/bits.Mul at 1). -/
import Derived.Test.YtjbgiaekckdoaaaMore
import Derived.Test.YtjbgiaekckdoaaaChecked
import Derived.WalkLawsBesides
import Derived.BigFrame
import Derived.Laws.Bits64b
import Derived.Laws.CopyOwn
import Derived.Deep.RegionLaw
import Derived.BigRegion
import Derived.Outline
namespace Go.Proofs.Ytjbgiaekckdoaaa
open Go.RowKit
set_option linter.unusedVariables false

theorem mask_small (a : Nat) (ha : a ≤ 2000) : bits .and .u64 (a : Int) 4294967295 = (a : Int) := by
  have h := bits_and_u64_nat a 4294967295 (by omega) (by omega)
  have e : a &&& 4294967295 = a % 4294967296 := Nat.and_two_pow_sub_one_eq_mod a 32
  rw [e, Nat.mod_eq_of_lt (by omega)] at h
  exact h

set_option maxHeartbeats 1000000 in
theorem mul64_one (m : Nat) (hm : m ≤ 2000) (w : World) : Calls Try.prog 36 #[.int .u64 1, .int .u64 m] w fun e w' => e = .returned (.tuple #[.int .u64 0, .int .u64 m]) ∧ w = w' := by
  have h1 : bits .and .u64 1 4294967295 = 1 := mask_small 1 (by omega)
  have h2 := mask_small m hm
  have h0 : bits .and .u64 0 4294967295 = 0 := mask_small 0 (by omega)
  have hd : (m : Int) / 4294967296 = 0 := by omega
  go_enter Try.func36, Try.ntmps36
  go_wp2
  go_ret2
  exact ⟨rfl, rfl⟩
theorem mul_one (m : Nat) (hm : m ≤ 2000) (w : World) : Calls Try.prog 32 #[.int .u64 1, .int .u64 m] w fun e w' => e = .returned (.tuple #[.int .u64 0, .int .u64 m]) ∧ w = w' := by
  go_enter Try.func32, Try.ntmps32
  go_wp2_with (go_at_call 36; refine (mul64_one m hm _).mono ?_; rintro e w' ⟨rfl, rfl⟩)
  go_ret2
  exact ⟨rfl, rfl⟩

/-- A row of which k are written. -/
def rowK (m k : Nat) : List Value := List.replicate k (.int .i64 (-1)) ++ List.replicate (m - k) (.int .i64 0)
theorem rowK_len {m k : Nat} (h : k ≤ m) : (rowK m k).length = m := by simp [rowK]; omega
theorem rowK_made (m : Nat) : madeCells #[.int .i64 0] m = (rowK m 0).toArray := by
  apply Array.ext
  · simp [rowK, size_madeCells]
  · intro i h1 h2
    have h3 : i % 1 = 0 := Nat.mod_one i
    simp [madeCells, rowK, h3]
theorem rowK_splice {m k c : Nat} (h : k + c ≤ m) : splice (rowK m k) k (List.replicate c (.int .i64 (-1))) = rowK m (k + c) := by
  unfold splice rowK
  rw [List.take_append_of_le_length (by simp), List.take_of_length_le (by simp), List.length_replicate, ← List.append_assoc, List.replicate_append_replicate, List.drop_append, List.drop_of_length_le (by simp), List.nil_append, List.length_replicate, List.drop_replicate]
  congr 2
  omega
theorem rowK_at {m k j : Nat} (h : j < k) : (rowK m k)[j]? = some (.int .i64 (-1)) := by
  unfold rowK
  rw [List.getElem?_append_left (by simpa using h), List.getElem?_replicate, if_pos h]

set_option maxRecDepth 100000 in
set_option maxHeartbeats 2000000 in
theorem repeat_any (g0 m : Nat) (w : World) (hm : m ≤ 2000) (hx : w.cell? ⟨g0, 0, none⟩ = some (.int .i64 (-1))) (hg : g0 < w.heap.size) :
    Calls Try.prog 23 #[.slice (some ⟨g0, 0, none⟩) 1 1, .int .i64 m] w fun e w' => e = .returned (.slice (some ⟨w.heap.size, 0, none⟩) m m) ∧ w'.heap[w.heap.size]? = some (.cells (rowK m m).toArray 3 (0, 0)) ∧ Below w.heap.size w w' := by
  have hmk := run_make_row' (P := Try.prog) 22 3 (.int .i64 0) 8 Try.underlying22 (by kernel_rfl) rfl .i64 .i64 m (by omega) (by omega)
  go_enter Try.func23, Try.ntmps23
  have hrow0 : (w.alloc (.cells (madeCells #[.int .i64 0] m) 3)).heap[w.heap.size]? = some (.cells (rowK m 0).toArray 3 (0, 0)) := by
    rw [rowK_made]
    show (w.heap.push _)[w.heap.size]? = _
    simp
  have hB0 : Below w.heap.size w (w.alloc (.cells (madeCells #[.int .i64 0] m) 3)) := (Below.refl _ _).alloc (Nat.le_refl _) _
  have hc1 : ∀ j v, (List.replicate (Nat.min 1 m) (Value.int .i64 (-1)))[j]? = some v → (w.alloc (.cells (madeCells #[.int .i64 0] m) 3)).cell? ((⟨g0, 0, none⟩ : Addr).add j) = some v := by
    intro j v hv
    rw [List.getElem?_replicate] at hv
    split at hv
    · rename_i hj
      have hj0 : j = 0 := by have : Nat.min 1 m ≤ 1 := Nat.min_le_left 1 m; omega
      subst hj0
      injection hv with hv
      subst hv
      exact (hB0.cell (p := ⟨g0, 0, none⟩) hg).trans hx
    · cases hv
  have hone : ∀ (c : Nat), ∀ v ∈ List.replicate c (Value.int .i64 (-1)), v.oneCell' = true := fun c v hv => by rw [List.eq_of_mem_replicate hv]; rfl
  have hrow0h := Lib.hid hrow0
  have hc1h := Lib.hid hc1
  have honeh := Lib.hid hone
  have hmin : Nat.min 1 m ≤ m := Nat.min_le_right 1 m
  have hminh := Lib.hid hmin
  clear hrow0 hc1 hone hmin
  go_wp2_with (first
    | (go_at_call 32; refine (mul_one m hm _).mono ?_; rintro e w' ⟨rfl, rfl⟩)
    | (with_reducible refine wpList_copy_splice rfl (.tmp 31) (.tmp 32) 22 22 rfl 3 ?_ ?_ (some ⟨w.heap.size, 0, none⟩) (some ⟨g0, 0, none⟩) m m 1 1 ?_ ?_ w.heap.size 0 (rowK m 0) 3 hrow0h.out (List.replicate (Nat.min 1 m) (.int .i64 (-1))) ?_ ?_ ?_ (honeh.out _) w.heap.size w hB0 (Nat.le_refl _) ?_
       · exact Try.underlying22
       · kernel_rfl
       · rfl
       · rfl
       · simp
       · exact fun _ => ⟨rfl, _, rfl, hc1h.out⟩
       · rw [List.length_replicate, rowK_len (Nat.zero_le _)]; have := hminh.out; omega
       intro w2 HG2 hB2))
  go_loopw [8] (fun s8 wr => ∃ k : Nat, k ≤ m ∧ (m = 0 ∨ 0 < k) ∧ s8 = .int .i64 k ∧ Hid (wr.heap[w.heap.size]? = some (.cells (rowK m k).toArray 3 (0, 0))) ∧ Below w.heap.size w wr)
    (fun s8 _ => m - (intOf s8).toNat)
  case atStart =>
    refine ⟨Nat.min 1 m, hminh.out, ?_, rfl, ?_, hB2⟩
    · by_cases h : m = 0
      · exact .inl h
      · exact .inr (by have : 1 ≤ Nat.min 1 m := Nat.le_min.2 ⟨Nat.le_refl _, by omega⟩; omega)
    · have h := HG2.out
      rw [rowK_splice (by have := hminh.out; omega), Nat.zero_add] at h
      exact Lib.hid h
  case round =>
    obtain ⟨k, hk, hk0, rfl, hrow, hB⟩ := hrel
    obtain ⟨wo, rfl⟩ : ∃ wo : World, wo = wr := ⟨_, rfl⟩
    by_cases hlt : k < m
    · have hkp : 0 < k := by omega
      have hmk3 : ¬ m = k := by omega
      have hcs : ∀ j v, (List.replicate (Nat.min k (m - k)) (Value.int .i64 (-1)))[j]? = some v → wo.drew.cell? ((⟨w.heap.size, 0, none⟩ : Addr).add j) = some v := by
        intro j v hv
        rw [List.getElem?_replicate] at hv
        split at hv
        · rename_i hj
          injection hv with hv
          subst hv
          have ha : (⟨w.heap.size, 0, none⟩ : Addr).add j = ⟨w.heap.size, j, none⟩ := by unfold Addr.add; split <;> simp_all
          have hjk : j < k := Nat.lt_of_lt_of_le hj (Nat.min_le_left _ _)
          rw [ha]
          show wo.cell? _ = _
          rw [cells_of hrow.out]
          simpa using rowK_at (m := m) hjk
        · cases hv
      have hcsh := Lib.hid hcs
      have hmk2 : Nat.min k (m - k) ≤ m - k := Nat.min_le_right _ _
      have hmp : 1 ≤ Nat.min k (m - k) := Nat.le_min.2 ⟨hkp, by omega⟩
      obtain ⟨cc, hcc⟩ : ∃ cc, Nat.min k (m - k) = cc := ⟨_, rfl⟩
      rw [hcc] at hmk2 hmp hcsh
      have hcch := Lib.hid hcc
      have hBd := Lib.hid (hB.drew)
      clear hcs hcc
      have hszh : Hid ((Try.prog.info? 3).map (·.size) = some 1) := Lib.hid (by kernel_rfl)
      have huh : Hid (Try.prog.underlying 22 = some (.slice 3)) := Lib.hid Try.underlying22
      have hnh : Hid ((List.replicate cc (Value.int .i64 (-1))).length = Nat.min k (m - k)) := Lib.hid (by rw [List.length_replicate, ← hcch.out])
      have hfh : Hid (k + (List.replicate cc (Value.int .i64 (-1))).length ≤ (rowK m k).length) := Lib.hid (by rw [List.length_replicate, rowK_len hk]; omega)
      go_wp2
      have hwr : IntKind.i64.wrap ((k : Int) + (cc : Int)) = (k : Int) + (cc : Int) := by rw [IntWalk.i64_in _ (by omega)]
      go_region_law (refine step_copy_splice rfl (.tmp 41) (.tmp 44) 22 22 rfl 3 huh.out hszh.out (some ⟨w.heap.size, k, none⟩) (some ⟨w.heap.size, 0, none⟩) (m - k) (m - k) k m (by go_simp) (by go_simp) w.heap.size k (rowK m k) 3 hrow.out (List.replicate cc (.int .i64 (-1))) hnh.out (fun _ => ⟨rfl, _, rfl, hcsh.out⟩) hfh.out (honeh.out _) w.heap.size w hBd.out (Nat.le_refl _) ?_; intro w4 hg4 hb4)
      go_simp
      go_roundw
      case rel =>
        have h := hg4.out
        rw [rowK_splice (by omega)] at h
        have hh := Lib.hid h
        exact ⟨.int .i64 ((k : Int) + (cc : Int)), _, _, _, _, _, _, _, _, _, _, _, _, _, ⟨k + cc, by omega, .inr (by omega), by go_num, hh, hb4⟩, rfl⟩
      case measure => simp [intOf]; omega
    · obtain rfl : k = m := by omega
      go_wp2
      go_ret
      exact ⟨rfl, hrow.out, hB⟩
end Go.Proofs.Ytjbgiaekckdoaaa

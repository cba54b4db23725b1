/- Proved here: texts joined: Sz. -/
import Derived.Test.YtcjmmidnfjifaaaGreatDoorBm42
/- Proved here: contracts of the landed package size's longest, Auto and Fits. -/
namespace Go.Proofs.YtcjmmidnfjifaaaGreatDoor
open Go.RowKit
set_option linter.unusedVariables false
set_option maxRecDepth 100000

/-- The greatest run of all texts. -/
def runM (n : Nat) (l : List Tx) : Nat := l.foldl (fun n t => max n (runN t)) n
theorem runM_append (n : Nat) (a b : List Tx) : runM n (a ++ b) = runM (runM n a) b := by unfold runM; rw [List.foldl_append]
theorem runM_auto : ∀ (l : List Tx) (n m : Nat), m = max 7 (n + 1) → maxR m l = max 7 (runM n l + 1)
  | [], n, m, h => h
  | t :: l, n, m, h => by
    show maxR (max m (runN t + 1)) l = max 7 (runM (max n (runN t)) l + 1)
    exact runM_auto l _ _ (by omega)
theorem runM_all : ∀ (l : List Tx) (n : Nat) (z : Int), ((runM n l : Nat) : Int) < z ↔ (n : Int) < z ∧ ∀ t ∈ l, (runN t : Int) < z
  | [], n, z => by simp [runM]
  | t :: l, n, z => by
    show ((runM (max n (runN t)) l : Nat) : Int) < z ↔ _
    rw [runM_all l, List.forall_mem_cons]
    constructor
    · rintro ⟨h1, h2⟩; exact ⟨by omega, by omega, h2⟩
    · rintro ⟨h1, h2, h3⟩; exact ⟨by omega, h3⟩
theorem runM_up {l : List Tx} {n m : Nat} (h : ∀ t ∈ l, t.length ≤ m) (hn : n ≤ m) : runM n l ≤ m := by
  have := (runM_all l n ((m : Int) + 1)).2 ⟨by omega, fun t ht => by have := h t ht; have := run_le t; omega⟩
  omega

set_option maxHeartbeats 1000000 in
theorem longest_any (A : Option Addr) (n c : Nat) (rows : List Slc) (files : List Txs) (w : World) (hn : n ≤ maxLen) (hsm : smallF files) (hA : RowsT w w.heap.size A n rows files) :
    Calls Tryz.prog 39 #[.slice A n c] w fun e w' => e = .returned (.int .i64 (runM 0 files.flatten)) ∧ Below w.heap.size w w' := by
  have hl := hA.len
  have hAh := Lib.hid hA
  have hlh := Lib.hid hl
  have hsmh := Lib.hid hsm
  have hn1 : n ≤ 1000000 := by have := hsm.1; omega
  clear hA hl hsm hn
  go_enter Tryz.func39, Tryz.ntmps39
  go_wp2
  go_loopw [3, 5, 7, 10, 16] (fun s3 _ _ s10 _ wr => ∃ i m : Nat, i ≤ n ∧ s10 = .int .i64 i ∧ s3 = .int .i64 m ∧ Hid (m = runM 0 (files.take i).flatten) ∧ Hid (Below w.heap.size w wr)) (fun _ _ _ s10 _ _ => n - (intOf s10).toNat)
  case atStart => exact ⟨0, 0, Nat.zero_le _, rfl, rfl, Lib.hid rfl, Lib.hid (Below.refl _ _)⟩
  case round =>
    obtain ⟨i, m, hi, rfl, rfl, hm, hB⟩ := hrel
    obtain ⟨wo, rfl⟩ : ∃ wo : World, wo = wr := ⟨_, rfl⟩
    by_cases hlt : i < n
    · obtain ⟨b, o, A1, n1, c1, f, rfl, hb, hf, hr, hc, hnc, hcm, hst⟩ := (hAh.out.up hB.out).at_ (k := i) hlt
      have i1 : (0 : Int) ≤ (i : Int) := by omega
      have i2 : (i : Int) < (n : Int) := by omega
      have hfl : f.length = n1 := hst.len
      have hfh := Lib.hid hf
      have hsth := Lib.hid hst
      have hn1m : n1 ≤ 9223372036854775807 := by unfold maxLen at hcm; omega
      have hflh := Lib.hid hfl
      clear hf hr hst hfl hnc hcm
      go_wp2
      go_loopw [3, 7, 16] (fun s3 _ s16 wr => ∃ j m : Nat, j ≤ n1 ∧ s16 = .int .i64 j ∧ s3 = .int .i64 m ∧ Hid (m = runM 0 ((files.take i).flatten ++ f.take j)) ∧ Hid (Below wo.heap.size wo wr)) (fun _ _ s16 _ => n1 - (intOf s16).toNat)
      case atStart => exact ⟨0, m, Nat.zero_le _, rfl, rfl, Lib.hid (by rw [hm.out]; simp), Lib.hid (Below.refl _ _)⟩
      case round =>
        obtain ⟨j, m2, hj, rfl, rfl, hm2, hB2⟩ := hrel
        obtain ⟨wp, rfl⟩ : ∃ wp : World, wp = wr := ⟨_, rfl⟩
        by_cases hlt2 : j < n1
        · obtain ⟨b2, o2, t, rfl, hb2, ht, hct⟩ := (Strs.below hsth.out hB2.out).at_ (k := j) hlt2
          have i3 : (0 : Int) ≤ (j : Int) := by omega
          have i4 : (j : Int) < (n1 : Int) := by omega
          have htl : t.length ≤ 1000000 := (hsmh.out.2 f (List.mem_of_getElem? hfh.out)).2 t (List.mem_of_getElem? ht)
          have hR := run_ok t wp htl
          obtain ⟨r, hr⟩ : ∃ r, runN t = r := ⟨_, rfl⟩
          rw [hr] at hR
          have hRh := Lib.hid hR
          obtain ⟨m3, hm3⟩ : ∃ m3, max m2 r = m3 := ⟨_, rfl⟩
          have hnx := Lib.hid (show m3 = runM 0 ((files.take i).flatten ++ f.take (j + 1)) from by
            rw [take_at ht, ← List.append_assoc, runM_append, ← hm2.out]
            show m3 = max m2 (runN t)
            rw [hr, hm3])
          have hmx : (if m2 < r then (r : Int) else (m2 : Int)) = (m3 : Int) := by split <;> omega
          clear hR hr ht htl hm3
          go_wp2_with (go_at_call 59; refine hRh.out.mono ?_; rintro e w1 ⟨rfl, hb1⟩; have hB3 := Lib.hid (hB2.out.trans (hb1.mono hB2.out.size)); clear hb1)
          go_roundw
          case rel => exact ⟨j + 1, m3, by omega, by go_num, by first | rfl | (rw [← hmx]; congr 1; split <;> omega), hnx, hB3⟩
          case measure => simp [intOf]; omega
        · obtain rfl : j = n1 := by omega
          have hend := Lib.hid (show m2 = runM 0 (files.take (i + 1)).flatten from by
            rw [flatF_take hfh.out, hm2.out, List.take_of_length_le (l := f) (by rw [hflh.out]; exact Nat.le_refl _)])
          have hBn := Lib.hid (hB.out.trans (hB2.out.mono hB.out.size))
          go_wp2
          go_roundw
          case rel => exact ⟨i + 1, m2, by omega, by go_num, rfl, hend, hBn⟩
          case measure => simp [intOf]; omega
    · obtain rfl : i = n := by omega
      have hend := Lib.hid (show m = runM 0 files.flatten from by
        rw [hm.out, List.take_of_length_le (l := files) (by rw [hlh.out]; exact Nat.le_refl _)])
      go_wp2
      go_ret
      exact ⟨ret_int (by rw [hend.out]), hB.out⟩

theorem flat_small {files : List Txs} (h : smallF files) : ∀ t ∈ files.flatten, t.length ≤ 1000000 := fun t ht => by
  obtain ⟨f, hf, htf⟩ := List.mem_flatten.1 ht
  exact (h.2 f hf).2 t htf
set_option maxHeartbeats 1000000 in
theorem auto_ok : SizeAutoOk := by
  intro A n c rows files w hnc hcm hsm hA
  have hL := longest_any A n c rows files w (Nat.le_trans hnc hcm) hsm hA
  have hu := runM_up (n := 0) (flat_small hsm) (Nat.zero_le _)
  have ha : autoN files = max 7 (runM 0 files.flatten + 1) := runM_auto _ 0 7 rfl
  obtain ⟨m, hm⟩ : ∃ m, runM 0 files.flatten = m := ⟨_, rfl⟩
  rw [hm] at hL hu ha
  obtain ⟨M, hM⟩ : ∃ M, max 7 (m + 1) = M := ⟨_, rfl⟩
  have hmx : (if (7 : Int) < (m : Int) + 1 then (m : Int) + 1 else 7) = (M : Int) := by split <;> omega
  rw [ha, hM]
  have hLh := Lib.hid hL
  clear hL hA hsm hm ha hM
  go_enter Tryz.func18, Tryz.ntmps18
  go_wp2_with (go_at_call 39; refine hLh.out.mono ?_; rintro e w1 ⟨rfl, hb1⟩; have hB1 := Lib.hid hb1; clear hb1)
  go_ret
  exact ⟨ret_int (by omega), hB1.out⟩
set_option maxHeartbeats 1000000 in
theorem fits_ok : SizeFitsOk := by
  intro z A n c rows files w h1 h2 hnc hcm hsm hA
  have hL := longest_any A n c rows files w (Nat.le_trans hnc hcm) hsm hA
  have hf : ∀ m, runM 0 files.flatten = m → fitsB z files = decide ((m : Int) < z) := fun m hm => by
    rw [Bool.eq_iff_iff, fits_iff, decide_eq_true_eq, ← hm, runM_all]
    constructor
    · rintro ⟨h1, h2⟩; exact ⟨by omega, h2⟩
    · rintro ⟨h1, h2⟩; exact ⟨by omega, h2⟩
  obtain ⟨m, hm⟩ : ∃ m, runM 0 files.flatten = m := ⟨_, rfl⟩
  rw [hf m hm]
  rw [hm] at hL
  have hLh := Lib.hid hL
  clear hL hA hsm hm hf
  go_enter Tryz.func29, Tryz.ntmps29
  go_wp2_with (go_at_call 39; refine hLh.out.mono ?_; rintro e w1 ⟨rfl, hb1⟩; have hB1 := Lib.hid hb1; clear hb1)
  go_ret
  exact ⟨ret_bool (by simp), hB1.out⟩
theorem sz_ok : SizeOk := ⟨run_ok, auto_ok, fits_ok⟩
end Go.Proofs.YtcjmmidnfjifaaaGreatDoor

/- Proved here: the contract of the document's own answer of layer 11: Fits. -/
import Derived.Test.YtiokgehiighgpaaSzSm
namespace Go.Proofs.Ytiokgehiighgpaa
open Go.RowKit
set_option linter.unusedVariables false
set_option maxRecDepth 100000

set_option maxHeartbeats 1000000 in
theorem rFits_any (z : Int) (A : Option Addr) (n c B : Nat) (rows : List Slc) (files : List (List Tx)) (w : World) (hn : n ≤ maxLen) (hsm : smallF files) (hA : RowsT w B A n rows files) :
    Calls Try.prog 15 #[.int .i64 z, .slice A n c] w fun e w' => e = .returned (.bool (fitsB z files)) ∧ ∃ q, w' = w.drewN q := by
  have hl := hA.len
  have hAh := Lib.hid hA
  have hlh := Lib.hid hl
  have hsmh := Lib.hid hsm
  have hn1 : n ≤ 1000000 := by have := hsm.1; omega
  have hno : Hid (∀ t, t ∈ files.flatten → ¬ (runN t : Int) < z → fitsB z files = false) := Lib.hid (fun t ht h => by
    cases hf : fitsB z files with
    | false => rfl
    | true => exact absurd ((fits_iff.1 hf).2 t ht) h)
  clear hA hl hsm hn
  go_enter Try.func15, Try.ntmps15
  go_wp2
  go_loopw [5, 6] (fun s5 _ wr => ∃ i : Nat, i ≤ n ∧ s5 = .int .i64 i ∧ Hid (∀ t ∈ (files.take i).flatten, (runN t : Int) < z) ∧ ∃ q, wr = w.drewN q) (fun s5 _ _ => n - (intOf s5).toNat)
  case atStart => exact ⟨0, Nat.zero_le _, rfl, Lib.hid (by simp), 0, rfl⟩
  case round =>
    obtain ⟨i, hi, rfl, hm, q, rfl⟩ := hrel
    by_cases hlt : i < n
    · obtain ⟨b, o, A1, n1, c1, f, rfl, hb, hf, hr, hc, hnc, hcm, hst⟩ := hAh.out.at_ (k := i) hlt
      have i1 : (0 : Int) ≤ (i : Int) := by omega
      have i2 : (i : Int) < (n : Int) := by omega
      have hc' : Hid (∀ z, (w.drewN z).cell? ⟨b, o + i, none⟩ = some (.slice A1 n1 c1)) := Lib.hid (fun z => hc)
      have hfl : f.length = n1 := hst.len
      have hfh := Lib.hid hf
      have hsth := Lib.hid hst
      have hn1m : n1 ≤ 9223372036854775807 := by unfold maxLen at hcm; omega
      have hflh := Lib.hid hfl
      clear hf hr hst hc hfl hnc hcm
      go_wp2
      go_loopw [6] (fun s6 wr => ∃ j : Nat, j ≤ n1 ∧ s6 = .int .i64 j ∧ Hid (∀ t ∈ (files.take i).flatten ++ f.take j, (runN t : Int) < z) ∧ ∃ q, wr = w.drewN q) (fun s6 _ => n1 - (intOf s6).toNat)
      case atStart => exact ⟨0, Nat.zero_le _, rfl, Lib.hid (by simpa using hm.out), q, rfl⟩
      case round =>
        obtain ⟨j, hj, rfl, hm2, q2, rfl⟩ := hrel
        have hc2 := hc'.out q2
        by_cases hlt2 : j < n1
        · obtain ⟨b2, o2, t, rfl, hb2, ht, hct⟩ := hsth.out.at_ (k := j) hlt2
          have i3 : (0 : Int) ≤ (j : Int) := by omega
          have i4 : (j : Int) < (n1 : Int) := by omega
          have hct' : (w.drewN q2).cell? ⟨b2, o2 + j, none⟩ = some (.string (str t)) := hct
          have htl : t.length ≤ 1000000 := (hsmh.out.2 f (List.mem_of_getElem? hfh.out)).2 t (List.mem_of_getElem? ht)
          have hR := rRun_any t (w.drewN q2) (by unfold maxLen; omega)
          obtain ⟨r, hr⟩ : ∃ r, runN t = r := ⟨_, rfl⟩
          rw [hr] at hR
          have hRh := Lib.hid hR
          have hth := Lib.hid ht
          have hrh := Lib.hid hr
          clear hR hr ht hct htl
          by_cases hz : z ≤ (r : Int)
          · have hno2 := Lib.hid (hno.out t (List.mem_flatten.2 ⟨f, List.mem_of_getElem? hfh.out, List.mem_of_getElem? hth.out⟩) (by rw [hrh.out]; omega))
            go_wp2_with (go_at_call 10; refine hRh.out.mono ?_; rintro e w1 ⟨rfl, q3, rfl⟩)
            go_ret
            exact ⟨ret_bool (by rw [hno2.out]), q2 + q3, rfl⟩
          · have hnx := Lib.hid (show ∀ t ∈ (files.take i).flatten ++ f.take (j + 1), (runN t : Int) < z from fun x hx => by
              rw [take_at hth.out, ← List.append_assoc] at hx
              rcases List.mem_append.1 hx with hx | hx
              · exact hm2.out x hx
              · rw [List.mem_singleton.1 hx, hrh.out]; omega)
            have hz2 : ¬ z ≤ (r : Int) := hz
            go_wp2_with (go_at_call 10; refine hRh.out.mono ?_; rintro e w1 ⟨rfl, q3, rfl⟩)
            go_roundw
            case rel => exact ⟨j + 1, by omega, by go_num, hnx, q2 + q3, by simp⟩
            case measure => simp [intOf]; omega
        · obtain rfl : j = n1 := by omega
          have hend := Lib.hid (show ∀ t ∈ (files.take (i + 1)).flatten, (runN t : Int) < z from by
            have := hm2.out
            rw [List.take_of_length_le (l := f) (by rw [hflh.out]; exact Nat.le_refl _), ← flatF_take hfh.out] at this
            exact this)
          go_wp2
          go_roundw
          case rel => exact ⟨i + 1, by omega, by go_num, hend, q2, rfl⟩
          case measure => simp [intOf]; omega
    · obtain rfl : i = n := by omega
      have hend := Lib.hid (show decide (1 ≤ z) = fitsB z files from by
        have := hm.out
        rw [List.take_of_length_le (l := files) (by rw [hlh.out]; exact Nat.le_refl _)] at this
        rw [Bool.eq_iff_iff, decide_eq_true_eq, fits_iff]
        exact ⟨fun h => ⟨h, this⟩, fun h => h.1⟩)
      go_wp2
      go_ret
      exact ⟨ret_bool (by rw [← hend.out]), q, rfl⟩
end Go.Proofs.Ytiokgehiighgpaa

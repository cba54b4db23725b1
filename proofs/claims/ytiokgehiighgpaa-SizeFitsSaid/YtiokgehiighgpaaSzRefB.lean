/- Proved here: the contract of the document's own answer of layer 11: Auto. -/
import Derived.Test.YtiokgehiighgpaaSzSm
import Derived.Test.YtiokgehiighgpaaSzFits
namespace Go.Proofs.Ytiokgehiighgpaa
open Go.RowKit
set_option linter.unusedVariables false
set_option maxRecDepth 100000

set_option maxHeartbeats 1000000 in
theorem rAuto_any (A : Option Addr) (n c B : Nat) (rows : List Slc) (files : List (List Tx)) (w : World) (hn : n ≤ maxLen) (hsm : smallF files) (hA : RowsT w B A n rows files) :
    Calls Try.prog 13 #[.slice A n c] w fun e w' => e = .returned (.int .i64 (autoN files)) ∧ ∃ q, w' = w.drewN q := by
  have hl := hA.len
  have hAh := Lib.hid hA
  have hlh := Lib.hid hl
  have hsmh := Lib.hid hsm
  have hn1 : n ≤ 1000000 := by have := hsm.1; omega
  have hup : Hid (∀ (i j : Nat) (f : List Tx), files[i]? = some f → maxR 7 ((files.take i).flatten ++ f.take j) ≤ 1000001) := Lib.hid (fun i j f hf => maxR_up (fun t ht => by
    rcases List.mem_append.1 ht with ht | ht
    · obtain ⟨g, hg, htg⟩ := List.mem_flatten.1 ht
      exact (hsm.2 g (List.mem_of_mem_take hg)).2 t htg
    · exact (hsm.2 f (List.mem_of_getElem? hf)).2 t (List.mem_of_mem_take ht)) (by omega))
  clear hA hl hsm hn
  go_enter Try.func13, Try.ntmps13
  go_wp2
  go_loopw [3, 4, 5] (fun s3 s4 _ wr => ∃ i m : Nat, i ≤ n ∧ s4 = .int .i64 i ∧ s3 = .int .i64 m ∧ Hid (m = maxR 7 (files.take i).flatten) ∧ ∃ q, wr = w.drewN q) (fun _ s4 _ _ => n - (intOf s4).toNat)
  case atStart => exact ⟨0, 7, Nat.zero_le _, rfl, rfl, Lib.hid rfl, 0, rfl⟩
  case round =>
    obtain ⟨i, m, hi, rfl, rfl, hm, q, rfl⟩ := hrel
    by_cases hlt : i < n
    · obtain ⟨b, o, A1, n1, c1, f, rfl, hb, hf, hr, hc, hnc, hcm, hst⟩ := hAh.out.at_ (k := i) hlt
      have i1 : (0 : Int) ≤ (i : Int) := by omega
      have i2 : (i : Int) < (n : Int) := by omega
      have hc' : Hid (∀ z, (w.drewN z).cell? ⟨b, o + i, none⟩ = some (.slice A1 n1 c1)) := Lib.hid (fun z => hc)
      have hfl : f.length = n1 := hst.len
      have hfh := Lib.hid hf
      have hsth := Lib.hid hst
      have hn1m : n1 ≤ 9223372036854775807 := by unfold maxLen at hcm; omega
      have hflh := Lib.hid hfl
      clear hf hr hst hc hfl hnc hcm
      go_wp2
      go_loopw [3, 5] (fun s3 s5 wr => ∃ j m : Nat, j ≤ n1 ∧ s5 = .int .i64 j ∧ s3 = .int .i64 m ∧ Hid (m = maxR 7 ((files.take i).flatten ++ f.take j)) ∧ ∃ q, wr = w.drewN q) (fun _ s5 _ => n1 - (intOf s5).toNat)
      case atStart => exact ⟨0, m, Nat.zero_le _, rfl, rfl, Lib.hid (by rw [hm.out]; simp), q, rfl⟩
      case round =>
        obtain ⟨j, m2, hj, rfl, rfl, hm2, q2, rfl⟩ := hrel
        have hc2 := hc'.out q2
        by_cases hlt2 : j < n1
        · obtain ⟨b2, o2, t, rfl, hb2, ht, hct⟩ := hsth.out.at_ (k := j) hlt2
          have i3 : (0 : Int) ≤ (j : Int) := by omega
          have i4 : (j : Int) < (n1 : Int) := by omega
          have hct' : (w.drewN q2).cell? ⟨b2, o2 + j, none⟩ = some (.string (str t)) := hct
          have htl : t.length ≤ 1000000 := (hsmh.out.2 f (List.mem_of_getElem? hfh.out)).2 t (List.mem_of_getElem? ht)
          have hR := rRun_any t (w.drewN q2) (by unfold maxLen; omega)
          obtain ⟨r, hr⟩ : ∃ r, runN t = r := ⟨_, rfl⟩
          have hrl : r ≤ 1000000 := by have := run_le t; omega
          rw [hr] at hR
          have hRh := Lib.hid hR
          have hm2l : m2 ≤ 1000001 := by rw [hm2.out]; exact hup.out i j f hfh.out
          obtain ⟨m3, hm3⟩ : ∃ m3, max m2 (r + 1) = m3 := ⟨_, rfl⟩
          have hnx := Lib.hid (show m3 = maxR 7 ((files.take i).flatten ++ f.take (j + 1)) from by
            rw [take_at ht, ← List.append_assoc, maxR_append, maxR_one, ← hm2.out, hr, hm3])
          have hmx : (if (m2 : Int) < (r : Int) + 1 then (r : Int) + 1 else (m2 : Int)) = (m3 : Int) := by split <;> omega
          have hw1 : IntKind.i64.wrap ((r : Int) + 1) = (r : Int) + 1 := IntWalk.i64_in _ (by omega)
          clear hR hr ht hct htl hm3
          go_wp2_with (go_at_call 10; refine hRh.out.mono ?_; rintro e w1 ⟨rfl, q3, rfl⟩)
          go_roundw
          case rel => exact ⟨j + 1, m3, by omega, by go_num, rfl, hnx, q2 + q3, by simp⟩
          case measure => simp [intOf]; omega
        · obtain rfl : j = n1 := by omega
          have hend := Lib.hid (show m2 = maxR 7 (files.take (i + 1)).flatten from by
            rw [flatF_take hfh.out, hm2.out, List.take_of_length_le (l := f) (by rw [hflh.out]; exact Nat.le_refl _)])
          go_wp2
          go_roundw
          case rel => exact ⟨i + 1, m2, by omega, by go_num, rfl, hend, q2, rfl⟩
          case measure => simp [intOf]; omega
    · obtain rfl : i = n := by omega
      have hend := Lib.hid (show m = autoN files from by
        rw [hm.out, List.take_of_length_le (by rw [hlh.out]; exact Nat.le_refl _)]; rfl)
      go_wp2
      go_ret
      exact ⟨ret_int (by rw [hend.out]), q, rfl⟩
end Go.Proofs.Ytiokgehiighgpaa

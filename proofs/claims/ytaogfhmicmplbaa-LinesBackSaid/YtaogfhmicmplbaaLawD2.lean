/- Proved here: the walk of the law LinesBack, where the last line is not open. -/
import Derived.Test.YtaogfhmicmplbaaLawD
namespace Go.Proofs.Ytaogfhmicmplbaa
open Go.RowKit
set_option linter.unusedVariables false

set_option maxHeartbeats 20000000 in
theorem LinesBack_shut (A : Option Addr) (n c : Nat) (bs : List UInt8) (w : World) (hz : ArgByts w A n c bs) (h300 : n ≤ 300) (ho : openB (splitL bs) = false) :
    Calls Try.prog 4 #[.slice A n c] w fun e w' => e = .returned (.bool true) ∧ Below w.heap.size w w' := by
  obtain ⟨hnc, hcm, hA⟩ := hz
  have hlen := hA.len
  have hi : ¬ (300 : Int) < (n : Int) := by omega
  have hsm := Lib.hid (split_small (bs := bs) (N := 300) (by omega))
  have hcnt := Lib.hid (split_count bs)
  replace hlen := Lib.hid hlen
  go_enter Try.func4, Try.ntmps4
  go_wp2_with (go_at_call 8; refine (awake_any _).mono ?_; rintro e w1 ⟨rfl, hB1⟩)
  have hA1 := hA.below hB1
  refine (Split_any A n c bs w1 (by have := hlen.out; omega) (hA1.more hB1.size)).mono ?_
  rintro e w2 ⟨A2, n2, c2, rfl, hn2, hnc2, hcm2, hst2, hB2⟩
  replace hn2 := Lib.hid hn2
  have hA2 := hA1.below (hB2.mono hB1.size)
  have hbig : ∀ s ∈ splitL bs, s.length ≤ maxLen := fun s h => by have := hsm.out.2 s h; unfold maxLen; omega
  have hn2m : n2 ≤ 300 := by have := hn2.out; have := hsm.out.1; omega
  have hBe : Below w.heap.size w w2 := hB1.trans (hB2.mono hB1.size)
  have hO := Lib.hid (Open_any A2 n2 c2 _ _ w2 (by unfold maxLen; omega) hbig hst2)
  have hJ := Lib.hid (Join_one w2 A2 n2 c2 _ bs (splitL_join bs) (by have := hsm.out.1; unfold maxLen; omega) (by have := hlen.out; omega) hst2)
  go_wp2_with fail
  go_loop [5, 6] (fun f i => ∃ k : Nat, k ≤ n ∧ i = .int .i64 k ∧ f = .int .i64 (nlN (bs.take k))) (fun _ i => n - (intOf i).toNat)
  case atStart => exact ⟨0, Nat.zero_le _, rfl, rfl⟩
  case round =>
    obtain ⟨k, hk, rfl, rfl⟩ := hrel
    have hnl : nlN (bs.take k) ≤ 300 := by have := nlN_le bs k; have := hlen.out; omega
    by_cases hlt : k < n
    · obtain ⟨b, o, x, rfl, _, hx, hcx⟩ := hA2.at_ (k := k) hlt
      have hts := Lib.hid (take_at hx)
      go_wp2
      · have h : ((x.toNat : Int) == 10) = true := by assumption
        go_round
        case rel => exact ⟨k + 1, by omega, by go_num, by rw [hts.out, nlN_hit _ _ h]; go_num⟩
        case measure => simp [intOf]; omega
      · have h : ((x.toNat : Int) == 10) = false := by assumption
        go_round
        case rel => exact ⟨k + 1, by omega, by go_num, by rw [hts.out, nlN_miss _ _ h]⟩
        case measure => simp [intOf]; omega
    · obtain rfl : k = n := by omega
      have htk : bs.take k = bs := List.take_of_length_le (by have := hlen.out; omega)
      rw [htk] at hnl ⊢
      clear htk
      go_wp2_with fail
      have hcn : n2 = nlN bs := by have := hcnt.out; rw [if_neg (by rw [ho]; decide)] at this; have := hn2.out; omega
      have hO1 := hO.out
      rw [ho] at hO1
      refine hO1.mono ?_
      rintro e w' ⟨rfl, rfl⟩
      clear hO1
      have hcb : ((n2 : Int) == (nlN bs : Int)) = true := by rw [hcn]; simp
      replace hcn := Lib.hid hcn
      replace ho := Lib.hid ho
      have hcvA := conv_bytes (P := Try.prog) hA2.drew c Try.underlying22 Try.underlying5 Try.underlying9
      have hcvB := conv_bytes (P := Try.prog) (hA2.below ((Below.refl _ w2).alloc hBe.size (.cells #[.slice A2 n2 c2] 24))).drew c Try.underlying22 Try.underlying5 Try.underlying9
      clear hO hbig hsm hcnt hst2 hA1 hB1 hB2 hn2 hlen hA2
      go_wp2
      obtain ⟨N, hN⟩ : ∃ N, nlN bs = N := ⟨_, rfl⟩
      rw [hN] at hnl hcb ⊢
      clear hN
      obtain ⟨S, hS⟩ : ∃ S, str bs = S := ⟨_, rfl⟩
      rw [hS] at hcvA hcvB
      replace hS := Lib.hid hS
      clear hcm hcm2 hnc hnc2
      go_region_with (go_at_call 15; refine hJ.out.mono ?_; rintro e w5 ⟨A5, n5, c5, rfl, -, -, -, hb5, hB5⟩; have hcv := conv_bytes (P := Try.prog) hb5 c5 Try.underlying22 Try.underlying5 Try.underlying9; have hB15 := hBe.trans (hB5.mono hBe.size); have hcvC := conv_bytes (P := Try.prog) (hA.below hB15) c Try.underlying22 Try.underlying5 Try.underlying9; rw [hS.out] at hcv hcvC)
      all_goals go_wp2
      all_goals go_ret
      all_goals refine ⟨?_, hB15⟩
      all_goals go_simp

end Go.Proofs.Ytaogfhmicmplbaa

/- Proved here: the contract of the document's own answer of layer 6: Few. -/
import Derived.Test.YtiokgehiighgpaaContFew
namespace Go.Proofs.Ytiokgehiighgpaa
open Go.RowKit
set_option linter.unusedVariables false

set_option maxHeartbeats 800000 in
theorem rFew_any (A0 : Option Addr) (n0 c0 B0 : Nat) (base : Txs) (A : Option Addr) (n c B : Nat) (rows : List Slc) (files : List Txs) (w : World) (hn0 : n0 ≤ maxLen) (hn : n ≤ maxLen) (hA0 : Strs w B0 A0 n0 base) (hA : RowsT w B A n rows files) :
    Calls Try.prog 11 #[.slice A0 n0 c0, .slice A n c] w fun e w' => e = .returned (.bool (fewT base files)) ∧ w' = w := by
  have hf := hA.few
  have hl := hA.len
  obtain ⟨fb, hfb⟩ : ∃ fb, fewB base 20 = fb := ⟨_, rfl⟩
  have hF := Few_any A0 n0 c0 20 B0 base w hn0 (by omega) hA0
  rw [hfb] at hF
  have hF' := Lib.hid hF
  have hfbh := Lib.hid hfb
  unfold maxLen at hn
  clear hF hfb hA0
  go_enter Try.func11, Try.ntmps11
  go_wp2
  go_loop [5] (fun i => ∃ k : Nat, k ≤ n ∧ k ≤ 7 ∧ i = .int .i64 k ∧ Hid ((files.take k).all (fun f => fewB f 20) = true)) (fun i => n - (intOf i).toNat)
  case atStart => exact ⟨0, Nat.zero_le _, Nat.zero_le _, rfl, Lib.hid rfl⟩
  case round =>
    obtain ⟨k, hk, hk7, rfl, hq⟩ := hrel
    by_cases hlt : k < n
    · by_cases hm : k < 7
      · obtain ⟨b, o, A', n', c', f, rfl, hb, ht, -, hc, hnc, hcm, hst⟩ := hA.at_ (k := k) hlt
        have hfl : n' ≤ maxLen := by omega
        obtain ⟨g, hg⟩ : ∃ g, fewB f 20 = g := ⟨_, rfl⟩
        have hC := Few_any A' n' c' 20 B f w hfl (by omega) hst
        rw [hg] at hC
        have hC' := Lib.hid hC
        have hg' := Lib.hid hg
        clear hC hg
        cases g
        · go_wp2_with (go_at_call 18; refine hC'.out.mono ?_; rintro e w' ⟨rfl, rfl⟩)
          go_ret
          exact ⟨ret_bool (fewT_no hm ht hg'.out), rfl⟩
        · go_wp2_with (go_at_call 18; refine hC'.out.mono ?_; rintro e w' ⟨rfl, rfl⟩)
          go_round
          case rel => exact ⟨k + 1, by omega, by omega, by go_num, Lib.hid (fewT_step hq.out ht hg'.out)⟩
          case measure => simp [intOf]; omega
      · have hend := Lib.hid (fewT_end (base := base) hl (.inr ⟨by omega, hlt⟩) hq.out)
        have h6 : decide ((n : Int) ≤ 6) = false := by simp; omega
        cases fb
        · go_wp2_with (go_at_call 18; refine hF'.out.mono ?_; rintro e w' ⟨rfl, rfl⟩)
          go_ret
          exact ⟨ret_bool (by rw [← hend.out, hfbh.out]; rfl), rfl⟩
        · go_wp2_with (go_at_call 18; refine hF'.out.mono ?_; rintro e w' ⟨rfl, rfl⟩)
          go_ret
          exact ⟨ret_bool (by rw [← hend.out, hfbh.out]; simp; try omega), rfl⟩
    · obtain rfl : k = n := by omega
      have hend := Lib.hid (fewT_end (base := base) hl (.inl rfl) hq.out)
      cases fb
      · go_wp2_with (go_at_call 18; refine hF'.out.mono ?_; rintro e w' ⟨rfl, rfl⟩)
        all_goals
          go_ret
          exact ⟨ret_bool (by rw [← hend.out, hfbh.out]; rfl), rfl⟩
      · go_wp2_with (go_at_call 18; refine hF'.out.mono ?_; rintro e w' ⟨rfl, rfl⟩)
        all_goals
          go_ret
          exact ⟨ret_bool (by rw [← hend.out, hfbh.out]; simp; try omega), rfl⟩
end Go.Proofs.Ytiokgehiighgpaa

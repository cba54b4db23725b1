/- Proved here: the contract of the document's own answer of layer 1: Few (it only reads). -/
import Derived.Test.YtoamkfegjhailaaTxts
import Derived.Test.YtoamkfegjhailaaChecked
import Derived.WalkLawsBesides
import Derived.BigFrame
import Derived.Deep.QuietTactic
import Derived.BigQuiet
namespace Go.Proofs.Ytoamkfegjhailaa
open Go.RowKit
set_option linter.unusedVariables false

theorem infoTxs : (Try.prog.info? 22).map (fun i => (i.zero, i.size, i.bytes)) = some (some (.slice none 0 0), 1, 24) := by kernel_rfl
/-- At most 'most' texts, of 100 bytes at most. -/
def fewB (ss : List (List UInt8)) (most : Nat) : Bool := decide (ss.length ≤ most) && (ss.take (most + 1)).all fun s => decide (s.length ≤ 100)

theorem few_step {ss : List (List UInt8)} {k : Nat} {t : List UInt8} (hq : (ss.take k).all (fun s => decide (s.length ≤ 100)) = true) (ht : ss[k]? = some t) (h : ¬ (100 : Int) < ((str t).size : Int)) : (ss.take (k + 1)).all (fun s => decide (s.length ≤ 100)) = true := by
  rw [str_size] at h
  rw [take_at ht, List.all_append, hq]
  simp; omega
theorem few_no {ss : List (List UInt8)} {k most : Nat} {t : List UInt8} (hk : k ≤ most) (ht : ss[k]? = some t) (h : (100 : Int) < ((str t).size : Int)) : false = fewB ss most := by
  rw [str_size] at h
  unfold fewB
  have hm : t ∈ ss.take (most + 1) := List.mem_of_getElem? (i := k) (by rw [List.getElem?_take]; rw [if_pos (by omega)]; exact ht)
  rw [eq_comm, Bool.and_eq_false_iff]
  right
  rw [Bool.eq_false_iff, ne_eq, List.all_eq_true]
  intro ha
  have := ha t hm
  simp at this
  omega

theorem few_end {ss : List (List UInt8)} {k n most : Nat} (hl : ss.length = n) (h : k = n ∨ most < k ∧ k < n) (hq : (ss.take k).all (fun s => decide (s.length ≤ 100)) = true) : decide (n ≤ most) = fewB ss most := by
  unfold fewB
  rw [hl]
  by_cases hm : n ≤ most
  · have : k = n := by omega
    subst this
    rw [List.take_of_length_le (by omega)] at hq
    rw [List.take_of_length_le (by omega), hq]
    simp
  · simp [hm]

set_option maxHeartbeats 400000 in
theorem Few_any (A : Option Addr) (n c most B : Nat) (ss : List (List UInt8)) (w : World) (hn : n ≤ maxLen) (hmo : most ≤ 1000000) (hA : Strs w B A n ss) :
    Calls Try.prog 9 #[.slice A n c, .int .i64 most] w fun e w' => e = .returned (.bool (fewB ss most)) ∧ w = w' := by
  unfold maxLen at hn
  have hl := hA.len
  go_enter Try.func9, Try.ntmps9
  go_wp2
  go_loop [5] (fun i => ∃ k : Nat, k ≤ n ∧ k ≤ most + 1 ∧ i = .int .i64 k ∧ Hid ((ss.take k).all (fun s => decide (s.length ≤ 100)) = true)) (fun i => n - (intOf i).toNat)
  case atStart => exact ⟨0, Nat.zero_le _, Nat.zero_le _, rfl, Lib.hid rfl⟩
  case round =>
    obtain ⟨k, hk, hkm, rfl, hq⟩ := hrel
    by_cases hlt : k < n
    · by_cases hm : k ≤ most
      · obtain ⟨b, o, t, rfl, hb, ht, hc⟩ := hA.at_ (k := k) hlt
        go_wp2
        · have h : (100 : Int) < ((str t).size : Int) := by assumption
          go_ret
          exact ⟨ret_bool (few_no hm ht h), rfl⟩
        · have h : ((str t).size : Int) ≤ 100 := by assumption
          go_round
          case rel => exact ⟨k + 1, by omega, by omega, by go_num, Lib.hid (few_step hq.out ht (by omega))⟩
          case measure => simp [intOf]; omega
      · go_wp2
        go_ret
        exact ⟨ret_bool (few_end hl (.inr ⟨by omega, hlt⟩) hq.out), rfl⟩
    · obtain rfl : k = n := by omega
      by_cases hm : k ≤ most
      · go_wp2
        go_ret
        exact ⟨ret_bool (by rw [← few_end hl (.inl rfl) hq.out]; simpa using hm), rfl⟩
      · go_wp2
        go_ret
        exact ⟨ret_bool (by rw [← few_end hl (.inl rfl) hq.out]; simpa using hm), rfl⟩
end Go.Proofs.Ytoamkfegjhailaa

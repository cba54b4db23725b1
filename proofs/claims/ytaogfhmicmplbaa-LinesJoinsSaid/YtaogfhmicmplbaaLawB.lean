/- Proved here: the walk of the law LinesSplits. -/
import Derived.Test.YtaogfhmicmplbaaAwake
import Derived.Test.YtaogfhmicmplbaaFrame
namespace Go.Proofs.Ytaogfhmicmplbaa
open Go.RowKit
set_option linter.unusedVariables false

theorem Byts.at_ {w : World} {B n k : Nat} {A : Option Addr} {bs : List UInt8} (h : Byts w B A n bs) (hk : k < n) :
    ∃ b o x, A = some ⟨b, o, none⟩ ∧ b < B ∧ bs[k]? = some x ∧ w.cell? ⟨b, o + k, none⟩ = some (.int .u8 (x.toNat : Int)) := by
  obtain ⟨b, o, u, e, hb, hu, hc⟩ := Reads.at_ h hk
  rw [List.getElem?_map] at hu
  cases h : bs[k]? with
  | none => rw [h] at hu; cases hu
  | some t => rw [h] at hu; exact ⟨b, o, t, e, hb, rfl, by rw [hc]; simpa using hu.symm⟩

theorem split_small {bs : List UInt8} {N : Nat} (h : bs.length ≤ N) : (splitL bs).length ≤ N ∧ ∀ s ∈ splitL bs, s.length ≤ N := by
  refine ⟨Nat.le_trans (splitL_len bs) h, fun s hs => ?_⟩
  have := splitL_join bs
  have h2 : s.length ≤ (splitL bs).flatten.length := by
    obtain ⟨i, hi, rfl⟩ := List.getElem_of_mem hs
    have := flat_len (splitL bs) (i + 1)
    rw [flat_take (List.getElem?_eq_getElem hi), List.length_append] at this
    omega
  rw [this] at h2
  omega

set_option maxHeartbeats 1000000 in
theorem LinesSplits_walk (A : Option Addr) (n c : Nat) (bs : List UInt8) (w : World) (hz : ArgByts w A n c bs) :
    Calls Try.prog 3 #[.slice A n c] w fun e w' => e = .returned (.bool true) ∧ Below w.heap.size w w' := by
  obtain ⟨hnc, hcm, hA⟩ := hz
  have hlen := hA.len
  by_cases h300 : n ≤ 300
  · have hi : ¬ (300 : Int) < (n : Int) := by omega
    have hsm := Lib.hid (split_small (bs := bs) (N := 300) (by omega))
    replace hlen := Lib.hid hlen
    go_enter Try.func3, Try.ntmps3
    go_wp2_with (go_at_call 8; refine (awake_any _).mono ?_; rintro e w1 ⟨rfl, hB1⟩)
    have hA1 := hA.below hB1
    refine (Split_any A n c bs w1 (by have := hlen.out; omega) (hA1.more hB1.size)).mono ?_
    rintro e w2 ⟨A2, n2, c2, rfl, hn2, hnc2, hcm2, hst2, hB2⟩
    replace hn2 := Lib.hid hn2
    have hA2 := hA1.below (hB2.mono hB1.size)
    have hbig : ∀ s ∈ splitL bs, s.length ≤ maxLen := fun s h => by have := hsm.out.2 s h; unfold maxLen; omega
    have hn2m : n2 ≤ maxLen := by omega
    go_wp2_with fail
    refine (rSplit_at A n c bs w2 (by omega) hnc (hA2.more (Nat.le_trans hB1.size hB2.size))).mono ?_
    rintro e w3 ⟨A3, n3, c3, rfl, hn3, hnc3, hcm3, hst3, hB3⟩
    replace hn3 := Lib.hid hn3
    have hst2' := hst2.below hB3
    go_wp2_with fail
    have hS := Same_any A2 A3 n2 n3 c2 c3 _ _ (splitL bs) (splitL bs) w3 hn2m (by omega) hst2' hst3
    rw [show decide (splitL bs = splitL bs) = true from by simp] at hS
    refine hS.mono ?_
    rintro e w4 ⟨rfl, k4, rfl⟩
    clear hS
    have hst4 := hst2'.drewN k4
    have hM := May_any A2 n2 c2 _ _ (w3.drewN k4) hn2m hbig hst4
    rw [may_split] at hM
    replace hM := Lib.hid hM
    have hA4 := (hA2.below (hB3.mono (Nat.le_trans hB1.size hB2.size))).drewN k4
    have hO := Open_any A2 n2 c2 _ _ (w3.drewN k4) hn2m hbig hst4
    have hO2 := rOpen_any A2 n2 c2 _ _ (w3.drewN k4) hn2m hbig hst4
    have hBe : Below w.heap.size w (w3.drewN k4) := below_drewN (hB1.trans ((hB2.mono hB1.size).trans (hB3.mono (Nat.le_trans hB1.size hB2.size)))) k4
    by_cases h0 : n = 0
    · have hb0 : bs = [] := List.eq_nil_of_length_eq_zero (by have := hlen.out; omega)
      rw [show openB (splitL bs) = false from by rw [hb0]; rfl] at hO hO2
      replace hO2 := Lib.hid hO2
      replace hO := Lib.hid hO
      replace h0 := Lib.hid h0
      clear hb0
      have hn0 : ¬ (0 : Int) < (n : Int) := by have := h0.out; omega
      go_wp2_with (first
        | (go_at_call 12; refine hM.out.mono ?_; rintro e w' ⟨rfl, rfl⟩)
        | (go_at_call 13; refine hO.out.mono ?_; rintro e w' ⟨rfl, rfl⟩)
        | (go_at_call 14; refine hO2.out.mono ?_; rintro e w' ⟨rfl, rfl⟩))
      go_ret
      exact ⟨rfl, hBe⟩
    obtain ⟨b, o, x, rfl, _, hx, hcx⟩ := hA4.at_ (k := n - 1) (by omega)
    have hop : openB (splitL bs) = ((x.toNat : Int) != 10) := by
      show _ = !((x.toNat : Int) == 10)
      have hl := hlen.out
      have hne : bs ≠ [] := by rintro rfl; simp at hl; omega
      rw [open_split, is10]
      unfold endedB
      rw [List.getLast?_eq_getElem?, hl, hx]
      simp [hne]
    rw [hop] at hO hO2
    clear hop
    replace hO2 := Lib.hid hO2
    replace hO := Lib.hid hO
    have hn1 : (1 : Int) ≤ (n : Int) := by omega
    go_wp2_with (first
      | (go_at_call 12; refine hM.out.mono ?_; rintro e w' ⟨rfl, rfl⟩)
      | (go_at_call 13; refine hO.out.mono ?_; rintro e w' ⟨rfl, rfl⟩)
      | (go_at_call 14; refine hO2.out.mono ?_; rintro e w' ⟨rfl, rfl⟩))
    go_ret
    exact ⟨rfl, hBe⟩
  · have hi : (300 : Int) < (n : Int) := by omega
    go_enter Try.func3, Try.ntmps3
    go_wp2_with (go_at_call 8; refine (awake_any _).mono ?_; rintro e w1 ⟨rfl, hB1⟩)
    go_ret
    exact ⟨rfl, hB1⟩
end Go.Proofs.Ytaogfhmicmplbaa

/- Proved here: what the statements SizeRuns, SizeTells and SizeFits say, by the contracts of package size. -/
import Derived.Test.YtiokgehiighgpaaConSize
import Derived.Test.YtiokgehiighgpaaContRef
namespace Go.Proofs.Ytiokgehiighgpaa
open Go.RowKit
set_option linter.unusedVariables false
set_option maxRecDepth 100000

section
variable (H : SizeOk)
include H

set_option maxHeartbeats 1000000 in
theorem SizeRuns_walk (s : ByteArray) (w : World) (hs : s.size ≤ maxLen) :
    Calls Try.prog 3 #[.string s] w fun e w' => e = .returned (.bool true) ∧ Below w.heap.size w w' := by
  have haw := Lib.hid (szAwake_any H w)
  unfold maxLen at hs
  by_cases hl : (200 : Int) < (s.size : Int)
  · go_enter Try.func3, Try.ntmps3
    go_wp2_with (go_at_call 8; refine haw.out.mono ?_; rintro e w1 ⟨rfl, hb1⟩; have hB1 := Lib.hid hb1; clear hb1)
    go_ret
    exact ⟨rfl, hB1.out⟩
  · have hsz : s.data.toList.length = s.size := (Lib.size_eq s).symm
    have hR := fun W => H.run_ok s.data.toList W (by omega)
    have hD := fun W => rRun_any s.data.toList W (by unfold maxLen; omega)
    rw [str_of] at hR hD
    obtain ⟨r, hr⟩ : ∃ r, runN s.data.toList = r := ⟨_, rfl⟩
    rw [hr] at hR hD
    have hRh := Lib.hid hR
    have hDh := Lib.hid hD
    clear hR hD hr hsz
    go_enter Try.func3, Try.ntmps3
    go_wp2_with (first
      | (go_at_call 8; refine haw.out.mono ?_; rintro e w1 ⟨rfl, hb1⟩; have hB1 := Lib.hid hb1; clear hb1)
      | (go_at_call 9; refine (hRh.out _).mono ?_; rintro e w2 ⟨rfl, hb2⟩; have hB2 := Lib.hid (hB1.out.trans (hb2.mono hB1.out.size)); clear hb2)
      | (go_at_call 10; refine (hDh.out _).mono ?_; rintro e w3 ⟨rfl, q3, rfl⟩))
    go_ret
    exact ⟨ret_bool (by simp), below_drewN hB2.out q3⟩

set_option maxHeartbeats 2000000 in
theorem SizeTells_walk (A : Option Addr) (n c : Nat) (rows : List Slc) (files : List Txs) (z : Int) (w : World) (h0 : ArgTs w A n c rows files) (hz : -9223372036854775808 ≤ z ∧ z ≤ 9223372036854775807) :
    Calls Try.prog 4 #[.slice A n c, .int .i64 z] w fun e w' => e = .returned (.bool true) ∧ Below w.heap.size w w' := by
  obtain ⟨hnc, hcm, hA⟩ := h0
  have haw := Lib.hid (szAwake_any H w)
  obtain ⟨fm, hfm⟩ : ∃ fm, fewT [] files = fm := ⟨_, rfl⟩
  have hF := Lib.hid (fun (W : World) (hb : Below w.heap.size w W) => rFew_any none 0 0 w.heap.size [] A n c w.heap.size rows files W (Nat.zero_le _) (Nat.le_trans hnc hcm) (Strs.nil _ _ _) (hA.below hb))
  rw [hfm] at hF
  cases fm
  · clear hA hfm
    go_enter Try.func4, Try.ntmps4
    go_wp2_with (first
      | (go_at_call 8; refine haw.out.mono ?_; rintro e w1 ⟨rfl, hb1⟩; have hB1 := Lib.hid hb1; clear hb1)
      | (go_at_call 11; refine (hF.out _ hB1.out).mono ?_; rintro e w2 ⟨rfl, rfl⟩))
    go_ret
    exact ⟨rfl, hB1.out⟩
  have hsm := few_smallF hfm
  have hAu := Lib.hid (fun (W : World) (hb : Below w.heap.size w W) => (H.auto_ok A n c rows files W hnc hcm hsm (hA.up hb)).mono fun e w' h => (⟨h.1, hb.trans (h.2.mono hb.size)⟩ : _ ∧ Below w.heap.size w w'))
  have hDa := Lib.hid (fun (W : World) (hb : Below w.heap.size w W) => (rAuto_any A n c W.heap.size rows files W (Nat.le_trans hnc hcm) hsm (hA.up hb)).mono fun e w' h => (⟨h.1, by obtain ⟨q, e⟩ := h.2; rw [e]; exact below_drewN hb q⟩ : _ ∧ Below w.heap.size w w'))
  have hFi := Lib.hid (fun (W : World) (hb : Below w.heap.size w W) => (H.fits_ok z A n c rows files W hz.1 hz.2 hnc hcm hsm (hA.up hb)).mono fun e w' h => (⟨h.1, hb.trans (h.2.mono hb.size)⟩ : _ ∧ Below w.heap.size w w'))
  have hDf := Lib.hid (fun (W : World) (hb : Below w.heap.size w W) => (rFits_any z A n c W.heap.size rows files W (Nat.le_trans hnc hcm) hsm (hA.up hb)).mono fun e w' h => (⟨h.1, by obtain ⟨q, e⟩ := h.2; rw [e]; exact below_drewN hb q⟩ : _ ∧ Below w.heap.size w w'))
  obtain ⟨N, hN⟩ : ∃ N, autoN files = N := ⟨_, rfl⟩
  obtain ⟨b, hb⟩ : ∃ b, fitsB z files = b := ⟨_, rfl⟩
  rw [hN] at hAu hDa
  rw [hb] at hFi hDf
  clear hA hfm hN hb hsm
  go_enter Try.func4, Try.ntmps4
  go_wp2_with (first
    | (go_at_call 8; refine haw.out.mono ?_; rintro e w1 ⟨rfl, hb1⟩; have hB1 := Lib.hid hb1; clear hb1)
    | (go_at_call 11; refine (hF.out _ hB1.out).mono ?_; rintro e w2 ⟨rfl, rfl⟩)
    | (go_at_call 12; refine (hAu.out _ hB1.out).mono ?_; rintro e w3 ⟨rfl, hb3⟩; have hB3 := Lib.hid hb3; clear hb3)
    | (go_at_call 13; refine (hDa.out _ hB3.out).mono ?_; rintro e w4 ⟨rfl, hb4⟩; have hB4 := Lib.hid hb4; clear hb4)
    | (go_at_call 14; refine (hFi.out _ hB4.out).mono ?_; rintro e w5 ⟨rfl, hb5⟩; have hB5 := Lib.hid hb5; clear hb5)
    | (go_at_call 15; refine (hDf.out _ hB5.out).mono ?_; rintro e w6 ⟨rfl, hb6⟩; have hB6 := Lib.hid hb6; clear hb6))
  go_ret
  exact ⟨ret_bool (by simp), hB6.out⟩

set_option maxHeartbeats 2000000 in
theorem SizeFits_walk (A : Option Addr) (n c : Nat) (rows : List Slc) (files : List Txs) (m : Nat) (w : World) (h0 : ArgTs w A n c rows files) (hm : m ≤ 65535) :
    Calls Try.prog 5 #[.slice A n c, .int .u16 m] w fun e w' => e = .returned (.bool true) ∧ Below w.heap.size w w' := by
  obtain ⟨hnc, hcm, hA⟩ := h0
  have haw := Lib.hid (szAwake_any H w)
  obtain ⟨fm, hfm⟩ : ∃ fm, fewT [] files = fm := ⟨_, rfl⟩
  have hF := Lib.hid (fun (W : World) (hb : Below w.heap.size w W) => rFew_any none 0 0 w.heap.size [] A n c w.heap.size rows files W (Nat.zero_le _) (Nat.le_trans hnc hcm) (Strs.nil _ _ _) (hA.below hb))
  rw [hfm] at hF
  cases fm
  · clear hA hfm
    go_enter Try.func5, Try.ntmps5
    go_wp2_with (first
      | (go_at_call 8; refine haw.out.mono ?_; rintro e w1 ⟨rfl, hb1⟩; have hB1 := Lib.hid hb1; clear hb1)
      | (go_at_call 11; refine (hF.out _ hB1.out).mono ?_; rintro e w2 ⟨rfl, rfl⟩))
    go_ret
    exact ⟨rfl, hB1.out⟩
  have hsm := few_smallF hfm
  have hAu := Lib.hid (fun (W : World) (hb : Below w.heap.size w W) => (H.auto_ok A n c rows files W hnc hcm hsm (hA.up hb)).mono fun e w' h => (⟨h.1, hb.trans (h.2.mono hb.size)⟩ : _ ∧ Below w.heap.size w w'))
  have hfa0 := fits_auto (files := files) 0
  have hfam := fits_auto (files := files) m
  have hfl := fits_less (files := files)
  have hge := auto_ge (files := files)
  have hle : autoN files ≤ 1000001 := maxR_up (fun t ht => by
    obtain ⟨f, hf, htf⟩ := List.mem_flatten.1 ht
    exact (hsm.2 f hf).2 t htf) (by omega)
  obtain ⟨N, hN⟩ : ∃ N, autoN files = N := ⟨_, rfl⟩
  rw [hN] at hAu hfa0 hfam hfl hge hle
  obtain ⟨K, hK⟩ : ∃ K, N + m = K := ⟨_, rfl⟩
  obtain ⟨L, hL⟩ : ∃ L, N - 1 = L := ⟨_, rfl⟩
  have eK : (N : Int) + (m : Int) = (K : Int) := by omega
  have eL : (N : Int) - 1 = (L : Int) := by omega
  have hFi : Hid (∀ (z : Nat) (W : World), z ≤ 2000000 → Below w.heap.size w W → Calls Try.prog 14 #[.int .i64 (z : Int), .slice A n c] W fun e w' => e = .returned (.bool (fitsB (z : Int) files)) ∧ Below w.heap.size w w') := Lib.hid (fun z W hz hb => (H.fits_ok (z : Int) A n c rows files W (by omega) (by omega) hnc hcm hsm (hA.up hb)).mono fun e w' h => ⟨h.1, hb.trans (h.2.mono hb.size)⟩)
  rw [show (N : Int) + (0 : Nat) = (N : Int) by omega] at hfa0
  rw [eK] at hfam
  rw [eL] at hfl
  have f1 : Hid (∀ (W : World), Below w.heap.size w W → Calls Try.prog 14 #[.int .i64 (N : Int), .slice A n c] W fun e w' => e = .returned (.bool true) ∧ Below w.heap.size w w') := Lib.hid (fun W hb => by have := hFi.out N W (by omega) hb; rw [hfa0] at this; exact this)
  have f2 : Hid (∀ (W : World), Below w.heap.size w W → Calls Try.prog 14 #[.int .i64 (K : Int), .slice A n c] W fun e w' => e = .returned (.bool true) ∧ Below w.heap.size w w') := Lib.hid (fun W hb => by have := hFi.out K W (by omega) hb; rw [hfam] at this; exact this)
  have f3 : Hid (N ≠ 7 → ∀ (W : World), Below w.heap.size w W → Calls Try.prog 14 #[.int .i64 (L : Int), .slice A n c] W fun e w' => e = .returned (.bool false) ∧ Below w.heap.size w w') := Lib.hid (fun h7 W hb => by have := hFi.out L W (by omega) hb; rw [hfl h7] at this; exact this)
  have g1 : (7 : Int) ≤ (N : Int) := by omega
  have wK : IntKind.i64.wrap (K : Int) = (K : Int) := IntWalk.i64_in _ (by omega)
  have wL : IntKind.i64.wrap (L : Int) = (L : Int) := IntWalk.i64_in _ (by omega)
  have t1 := trivial
  have t2 := trivial
  have hK2 := Lib.hid hK
  have hL2 := Lib.hid hL
  clear hA hfm hN hsm hFi hfa0 hfam hfl hK hL hge
  by_cases h7 : N = 7
  · have e7 : ((N : Int) == 7) = true := by rw [h7]; rfl
    clear h7 f3
    go_enter Try.func5, Try.ntmps5
    go_wp2_with (first
      | (go_at_call 8; refine haw.out.mono ?_; rintro e w1 ⟨rfl, hb1⟩; have hB1 := Lib.hid hb1; clear hb1)
      | (go_at_call 11; refine (hF.out _ hB1.out).mono ?_; rintro e w2 ⟨rfl, rfl⟩)
      | (go_at_call 12; refine (hAu.out _ hB1.out).mono ?_; rintro e w3 ⟨rfl, hb3⟩; have hB3 := Lib.hid hb3; clear hb3)
      | (go_at_call 14; have _t := t1; refine (f1.out _ hB3.out).mono ?_; rintro e w4 ⟨rfl, hb4⟩; have hB4 := Lib.hid hb4; clear hb4 t1)
      | (go_at_call 14; refine (f2.out _ hB4.out).mono ?_; rintro e w5 ⟨rfl, hb5⟩; have hB5 := Lib.hid hb5; clear hb5))
    go_ret
    exact ⟨rfl, hB5.out⟩
  · have e7 : ((N : Int) == 7) = false := by rw [beq_eq_false_iff_ne]; omega
    have f3' := Lib.hid (f3.out h7)
    clear h7 f3
    go_enter Try.func5, Try.ntmps5
    go_wp2_with (first
      | (go_at_call 8; refine haw.out.mono ?_; rintro e w1 ⟨rfl, hb1⟩; have hB1 := Lib.hid hb1; clear hb1)
      | (go_at_call 11; refine (hF.out _ hB1.out).mono ?_; rintro e w2 ⟨rfl, rfl⟩)
      | (go_at_call 12; refine (hAu.out _ hB1.out).mono ?_; rintro e w3 ⟨rfl, hb3⟩; have hB3 := Lib.hid hb3; clear hb3)
      | (go_at_call 14; have _t := t1; refine (f1.out _ hB3.out).mono ?_; rintro e w4 ⟨rfl, hb4⟩; have hB4 := Lib.hid hb4; clear hb4 t1)
      | (go_at_call 14; have _t := t2; refine (f2.out _ hB4.out).mono ?_; rintro e w5 ⟨rfl, hb5⟩; have hB5 := Lib.hid hb5; clear hb5 t2)
      | (go_at_call 14; refine (f3'.out _ hB5.out).mono ?_; rintro e w6 ⟨rfl, hb6⟩; have hB6 := Lib.hid hb6; clear hb6))
    go_ret
    exact ⟨rfl, hB6.out⟩
end
end Go.Proofs.Ytiokgehiighgpaa

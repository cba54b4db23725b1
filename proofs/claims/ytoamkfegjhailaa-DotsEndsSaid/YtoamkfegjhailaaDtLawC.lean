/- Proved here: what the statement DotsEnds says, by the contracts of package dots. -/
import Derived.Test.YtoamkfegjhailaaDtAwk
import Derived.Test.YtoamkfegjhailaaDtRef2
namespace Go.Proofs.Ytoamkfegjhailaa
open Go.RowKit
set_option linter.unusedVariables false
set_option maxRecDepth 100000

section
variable (H : DotsOk)
include H

set_option maxHeartbeats 4000000 in
theorem DotsEnds_walk (A : Option Addr) (n c : Nat) (l : Txs) (w : World) (h0 : TxR w w.heap.size (A, n, c) l) :
    Calls Try.prog 6 #[.slice A n c] w fun e w' => e = .returned (.bool true) ∧ Below w.heap.size w w' := by
  have haw := Lib.hid (dtAwake_any H w)
  obtain ⟨fm, hfm⟩ : ∃ fm, fewB l 30 = fm := ⟨_, rfl⟩
  have hF : Hid (∀ W, Below w.heap.size w W → Calls Try.prog 9 #[.slice A n c, .int .i64 30] W fun e w' => e = .returned (.bool fm) ∧ W = w') := Lib.hid (fun W hW => by rw [← hfm]; exact Few_any A n c 30 W.heap.size l W (Nat.le_trans h0.1 h0.2.1) (by decide) (h0.up hW).2.2)
  cases fm
  · clear h0 hfm
    go_enter Try.func6, Try.ntmps6
    go_wp2_with (first
      | (go_at_call 8; refine haw.out.mono ?_; rintro e w1 ⟨rfl, hb1⟩; have hB1 := Lib.hid hb1; clear hb1)
      | (go_at_call 9; refine (hF.out _ hB1.out).mono ?_; rintro e w2 ⟨rfl, hww⟩; have hws := hww.symm; clear hww; subst hws))
    go_ret
    exact ⟨rfl, hB1.out⟩
  have x0 := few_D hfm (by decide)
  have hln := h0.2.2.len
  dsimp only at hln
  have hC1 : Hid (∀ W, Below w.heap.size w W → Calls Try.prog 10 #[.slice A n c] W fun e w' => TxsB W w' e (blockD l, dottedB l)) := Lib.hid (fun W hW => H.block_ok A n c l W x0 (h0.up hW))
  have hbl : Hid ((blockD l).length = n + 1) := Lib.hid (by rw [block_len, hln])
  have hnb : n ≤ 100000 := by rw [← hln]; exact x0.1
  have hend : Hid (∀ (k : Nat) (t : Tx), (blockD l)[k]? = some t → decide (t = endD) = decide (k = n)) := Lib.hid (fun k t h => by
    have := block_end h
    rw [hln] at this
    rw [Bool.eq_iff_iff, decide_eq_true_eq, decide_eq_true_eq]
    exact this)
  obtain ⟨BL, hBL⟩ : ∃ BL, blockD l = BL := ⟨_, rfl⟩
  obtain ⟨o, ho⟩ : ∃ o, dottedB l = o := ⟨_, rfl⟩
  rw [hBL, ho] at hC1
  rw [hBL] at hbl hend
  obtain ⟨n1, hn1⟩ : ∃ n1, n + 1 = n1 := ⟨_, rfl⟩
  rw [hn1] at hbl
  have e1 : (n1 : Int) - 1 = (n : Int) := by omega
  have e2 : IntKind.i64.wrap ((n1 : Int) - 1) = (n : Int) := by rw [e1]; exact IntWalk.i64_in _ (by omega)
  have e3 : IntKind.i64.wrap (n : Int) = (n : Int) := IntWalk.i64_in _ (by omega)
  have hn1h := Lib.hid hn1
  clear h0 hfm x0 hln hBL ho hn1
  go_enter Try.func6, Try.ntmps6
  go_upto_region 5 with (first
    | (go_at_call 8; refine haw.out.mono ?_; rintro e w1 ⟨rfl, hb1⟩; have hB1 := Lib.hid hb1; clear hb1)
    | (go_at_call 9; refine (hF.out _ hB1.out).mono ?_; rintro e w2 ⟨rfl, hww⟩; have hws := hww.symm; clear hww; subst hws)
    | (go_at_call 10; refine (hC1.out _ hB1.out).mono ?_; rintro e w3 ⟨A3, n3, c3, rfl, p3, q3⟩; have hP3 := Lib.hid p3; have hB3 := Lib.hid (hB1.out.trans (q3.mono hB1.out.size)); clear p3 q3))
  obtain rfl : n3 = n1 := by have := hP3.out.2.2.len; dsimp only at this; rw [hbl.out] at this; exact this.symm
  go_wp2
  go_loop [6] (fun i => ∃ k : Nat, k ≤ n3 ∧ i = .int .i64 k) (fun i => n3 - (intOf i).toNat)
  case atStart => exact ⟨0, Nat.zero_le _, rfl⟩
  case round =>
    obtain ⟨k, hk, rfl⟩ := hrel
    by_cases hlt : k < n3
    · obtain ⟨b, o, t, rfl, hb, ht, hc⟩ := Strs.at_ hP3.out.2.2 (k := k) hlt
      obtain ⟨S, hS⟩ : ∃ S, str t = S := ⟨_, rfl⟩
      rw [hS] at hc
      have he : (S.toList == [46, 10]) = decide (k = n) := by
        rw [← hend.out k t ht, ← hS, Lib.toList_data, str_data, Bool.eq_iff_iff, beq_iff_eq, decide_eq_true_eq]
        rfl
      by_cases hkn : k = n
      · have he2 : (S.toList == [46, 10]) = true := by rw [he, decide_eq_true hkn]
        subst hkn
        clear he ht hS
        go_wp2
        go_round
        case rel => exact ⟨k + 1, by omega, by go_num⟩
        case measure => simp [intOf]; omega
      · have he2 : (S.toList == [46, 10]) = false := by rw [he, decide_eq_false hkn]
        have he3 : ((k : Int) == (n : Int)) = false := by simp; omega
        clear he ht hS
        go_wp2
        go_round
        case rel => exact ⟨k + 1, by omega, by go_num⟩
        case measure => simp [intOf]; omega
    · obtain rfl : k = n3 := by omega
      have hk1 := hn1h.out
      have e4 : (n : Int) + 1 = (k : Int) := by omega
      have e5 : IntKind.i64.wrap ((n : Int) + 1) = (k : Int) := by rw [e4]; exact IntWalk.i64_in _ (by omega)
      have e6 : IntKind.i64.wrap (k : Int) = (k : Int) := IntWalk.i64_in _ (by omega)
      clear e1 e2 e3 hk1
      go_wp2
      go_ret
      exact ⟨rfl, hB3.out⟩
end
end Go.Proofs.Ytoamkfegjhailaa

/- Proved here: texts joined: ZlLawA. -/
import Derived.Test.YtidfhgocnglnjaaBz16
import Derived.Test.YtidfhgocnglnjaaBz17
import Derived.Test.YtidfhgocnglnjaaBz18
/- Proved here: what the statement ZealChoose says, by the contracts of packages zeal and pick. -/
namespace Go.Proofs.Ytidfhgocnglnjaa
open Go.RowKit
set_option linter.unusedVariables false
set_option maxRecDepth 100000

/-- Few texts: neither many nor long. -/
theorem few_small {ps : List Pc} (h : fewP ps = true) : smallZ ps := by
  obtain ⟨h1, h2⟩ := fewP_parts h
  refine ⟨by omega, fun p hp => ?_⟩
  have h3 := h2 p hp
  have h4 := fewP1_text h3
  unfold fewP1 at h3
  rw [Bool.and_eq_true] at h3
  obtain ⟨a1, a2, a3⟩ := fewT_parts h3.2
  exact ⟨by omega, by omega, fun d hd => by have := a3 d hd; omega, by omega⟩
theorem zeal_len {ps : List Pc} (h : smallZ ps) : (zealD ps).length ≤ 300 := by
  have h1 := (flat_sum (ps := ps) h.2).2
  have h2 := len_normal (ps.flatMap trimD)
  have h3 := h.1
  unfold zealD
  omega

section
variable (H : ZealOk)
include H

set_option maxHeartbeats 4000000 in
theorem ZealChoose_walk (A : Option Addr) (n c : Nat) (vs : List PcV) (ps : List Pc) (y : Nat) (w : World) (h0 : ArgPcs w A n c vs ps) (hy : y ≤ 255) :
    Calls Try.prog 4 #[.slice A n c, .int .u8 y] w fun e w' => e = .returned (.bool true) ∧ Below w.heap.size w w' := by
  obtain ⟨hnc, hcm, hA⟩ := h0
  have haw := Lib.hid (zAwake_any H w)
  obtain ⟨fm, hfm⟩ : ∃ fm, fewP ps = fm := ⟨_, rfl⟩
  have hF := Lib.hid (fun (W : World) (hb : Below w.heap.size w W) => pFew_any A n c W.heap.size vs ps W (Nat.le_trans hnc hcm) (hA.up hb))
  rw [hfm] at hF
  cases fm
  · clear hA hfm
    go_enter Try.func4, Try.ntmps4
    go_wp2_with (first
      | (go_at_call 8; refine haw.out.mono ?_; rintro e w1 ⟨rfl, hb1⟩; have hB1 := Lib.hid hb1; clear hb1)
      | (go_at_call 9; refine (hF.out _ hB1.out).mono ?_; rintro e w2 ⟨rfl, q2, rfl⟩))
    go_ret
    exact ⟨rfl, below_drewN hB1.out q2⟩
  obtain ⟨N, hN⟩ : ∃ N : Nat, 1 + y % 6 = N := ⟨_, rfl⟩
  obtain ⟨M, hM⟩ : ∃ M : Nat, y % 6 = M := ⟨_, rfl⟩
  have hMt : ((y : Int)).tmod 6 = (M : Int) := by rw [← hM]; exact Int.ofNat_tmod y 6 ▸ rfl
  have hM5 : M ≤ 5 := by omega
  have hNi : (1 : Int) + (M : Int) = (N : Int) := by omega
  have hwN : IntKind.i64.wrap (N : Int) = (N : Int) := IntWalk.i64_in _ (by omega)
  have hsm := few_small hfm
  obtain ⟨hf1, hf2⟩ := fewP_parts hfm
  have hl := hA.len
  have hN6 : Hid (1 ≤ N ∧ N ≤ 6) := Lib.hid (by omega)
  have hZ := Lib.hid (fun (W : World) (hb : Below w.heap.size w W) => H.zeal_ok W.heap.size A n c vs ps W hnc hcm (Nat.le_refl _) hsm (hA.up hb))
  have hAh := Lib.hid hA
  have hsmh := Lib.hid hsm
  have hlh := Lib.hid hl
  have hcf : Hid (∀ z, (choose ps z).length ≤ 240) := Lib.hid (fun z => by have := choose_few z hf2; omega)
  have hyh := Lib.hid hy
  have hn12 : n ≤ 12 := by omega
  clear hA hfm hsm hl hf1 hf2 hN hM
  go_enter Try.func4, Try.ntmps4
  go_wp2_with (first
    | (go_at_call 8; refine haw.out.mono ?_; rintro e w1 ⟨rfl, hb1⟩; have hB1 := Lib.hid hb1; clear hb1)
    | (go_at_call 9; refine (hF.out _ hB1.out).mono ?_; rintro e w2 ⟨rfl, q2, hw2⟩; have hB2 : Hid (Below w.heap.size w w2) := Lib.hid (by rw [hw2]; exact below_drewN hB1.out q2); clear hw2))
  go_loop [7] (fun s7 => ∃ i : Nat, i ≤ n ∧ s7 = .int .i64 i ∧ Hid (∀ (j : Nat) (p : Pc), j < i → ps[j]? = some p → p.1 = true → N ≤ p.2.2.2.length)) (fun s7 => n - (intOf s7).toNat)
  case atStart => exact ⟨0, Nat.zero_le _, rfl, Lib.hid fun j p h => absurd h (by omega)⟩
  case round =>
    obtain ⟨i, hi, rfl, hq⟩ := hrel
    by_cases hlt : i < n
    · obtain ⟨b, o, cf, At, nt, ct, Ab, nb, cb, As, ns, cs, t, bs, ss, rfl, hb, hv, hp, k1, k2, k3, k4, j1, j2, ⟨-, -, rr, j3⟩⟩ := (hAh.out.up hB2.out).at_ (k := i) hlt
      have i1 : (0 : Int) ≤ (i : Int) := by omega
      have i2 : (i : Int) < (n : Int) := by omega
      have hns : ss.length = ns := j3.len
      have hph := Lib.hid hp
      have hnsh := Lib.hid hns
      clear hv hp j1 j2 j3 k2 k3 hns
      have hnext : cf = false ∨ N ≤ ns → Hid (∀ (j : Nat) (p : Pc), j < i + 1 → ps[j]? = some p → p.1 = true → N ≤ p.2.2.2.length) := fun h => Lib.hid fun j p hj hpj hc => by
        rcases Nat.lt_or_ge j i with h1 | h1
        · exact hq.out j p h1 hpj hc
        · have e : j = i := by omega
          subst e
          rw [hph.out] at hpj
          injection hpj with hpj
          subst hpj
          rcases h with h | h
          · rw [h] at hc; cases hc
          · rw [hnsh.out]; exact h
      cases cf
      · have hn2 := hnext (.inl rfl)
        clear hnext
        go_wp2
        go_round
        case rel => exact ⟨i + 1, by omega, by go_num, hn2⟩
        case measure => simp [intOf]; omega
      · by_cases hle : N ≤ ns
        · have hn2 := hnext (.inr hle)
          have hli : ¬ (ns : Int) < (N : Int) := by omega
          clear hnext hle
          go_wp2
          go_round
          case rel => exact ⟨i + 1, by omega, by go_num, hn2⟩
          case measure => simp [intOf]; omega
        · have hli : (ns : Int) < (N : Int) := by omega
          clear hnext hle
          go_wp2
          go_ret
          exact ⟨rfl, hB2.out⟩
    · obtain rfl : i = n := by omega
      have hall : ∀ p ∈ ps, p.1 = true → (N : Int) ≤ p.2.2.2.length := fun p hp hc => by
        obtain ⟨j, hj⟩ := List.mem_iff_getElem?.1 hp
        have h1 := (List.getElem?_eq_some_iff.1 hj).1
        have := hq.out j p (by have := hlh.out; omega) hj hc
        omega
      have hzc : choose (zealD ps) (N : Int) = choose ps (N : Int) := zeal_choose (by have := hN6.out; omega) hall
      have hCh : Hid (∀ (A5 : Option Addr) (n5 c5 : Nat) (vs5 : List PcV) (W : World), n5 ≤ c5 → c5 ≤ maxLen → Pcs W W.heap.size A5 n5 vs5 (zealD ps) → Calls Try.prog 16 #[.slice A5 n5 c5, .int .i64 N] W fun e w' => TxsOut W w' e (choose ps N)) := Lib.hid (fun A5 n5 c5 vs5 W h1 h2 h3 => by
        have := H.choose_ok A5 n5 c5 vs5 (zealD ps) N W h1 h2 (by have := h3.len; have := zeal_len hsmh.out; omega) (by have := hN6.out; unfold inR64; omega) (by rw [hzc]; have := hcf.out N; omega) h3
        rw [hzc] at this
        exact this)
      have hRc := Lib.hid (fun (W : World) (hb : Below w.heap.size w W) => rChoose_any A i c vs ps N W (Nat.le_trans hnc hcm) (by have := hN6.out; unfold inR64; omega) (by have := hcf.out N; omega) (hAh.out.up hb))
      clear hzc hall hq
      go_wp2_with (first
        | (go_at_call 13; refine (hZ.out _ hB2.out).mono ?_; rintro e w3 ⟨A5, n5, c5, vs5, rfl, q1, q2, q3, q4⟩; have hP5 := Lib.hid (And.intro q1 (And.intro q2 (q3 w3 (But.refl _ _)))); have hB3 := Lib.hid (hB2.out.trans (q4.mono hB2.out.size)); clear q1 q2 q3 q4)
        | (go_at_call 16; refine (hCh.out _ _ _ _ _ hP5.out.1 hP5.out.2.1 hP5.out.2.2).mono ?_; rintro e w4 ⟨A6, n6, c6, rfl, r1, r2⟩; have hT6 := Lib.hid r1; have hB4 := Lib.hid (hB3.out.trans (r2.mono hB3.out.size)); clear r1 r2)
        | (go_at_call 17; refine (hRc.out _ hB4.out).mono ?_; rintro e w5 ⟨A7, n7, c7, rfl, r1, r2⟩; have hB5 := Lib.hid (hB4.out.trans (r2.mono hB4.out.size)); have hT6b := hT6.out.up r2; have hS := Lib.hid (Same_any A6 A7 n6 n7 c6 c7 _ _ _ _ w5 (Nat.le_trans hT6b.1 hT6b.2.1) (Nat.le_trans r1.1 r1.2.1) hT6b.2.2 r1.2.2); rw [decide_eq_true rfl] at hS; clear r1 r2 hT6b)
        | (go_at_call 15; refine hS.out.mono ?_; rintro e w6 ⟨rfl, q6, rfl⟩))
      go_ret
      exact ⟨rfl, below_drewN hB5.out q6⟩
end
end Go.Proofs.Ytidfhgocnglnjaa

/- Proved here, out of the contracts of package edit: the walk of EditCounts. -/
import Derived.Test.YtjbgiaekckdoaaaEditLawB
namespace Go.Proofs.Ytjbgiaekckdoaaa
open Go.RowKit
set_option linter.unusedVariables false

theorem sum_cut (xs : List Ch) (k : Nat) : sumO xs = sumO (xs.take k) + sumO (xs.drop k) ∧ sumN xs = sumN (xs.take k) + sumN (xs.drop k) := by
  rw [← sumO_append, ← sumN_append, List.take_append_drop]
  exact ⟨rfl, rfl⟩
/-- What the loop over the changes of a match knows of each. -/
theorem chs_facts {l : List Int} {N : Int} (h : may l N = true) :
    (∀ c ∈ chs l N, 0 ≤ c.1.1 ∧ c.1.1 ≤ c.1.2 ∧ c.1.2 ≤ l.length ∧ 0 ≤ c.2.1 ∧ c.2.1 ≤ c.2.2 ∧ c.2.2 ≤ N) ∧ sumO (chs l N) + cntP l = l.length ∧ sumN (chs l N) + cntP l = N ∧
    (∀ (k r : Nat) (c d : Ch), k = r + 1 → (chs l N)[r]? = some d → (chs l N)[k]? = some c → d.1.2 < c.1.1 ∧ d.2.2 < c.2.1) := by
  obtain ⟨h0, hm⟩ := may_parts h
  refine ⟨fun c hc => ?_, ?_, ?_, fun k r c d e hd hc => ?_⟩
  · have := chL_lies N l 0 0 0 (Int.le_refl _) (Int.le_refl _) h0 hm c hc
    omega
  · have := sumO_chL N l 0 0 0 (Int.le_refl _) (Int.le_refl _) hm
    unfold chs
    omega
  · have := sumN_chL N l 0 0 0 (Int.le_refl _) (Int.le_refl _) h0 hm
    unfold chs
    omega
  · have hp := chL_apart N l 0 0 0 (Int.le_refl _) (Int.le_refl _) h0 hm
    rw [List.pairwise_iff_getElem] at hp
    obtain ⟨b1, v1⟩ := List.getElem?_eq_some_iff.1 hd
    obtain ⟨b2, v2⟩ := List.getElem?_eq_some_iff.1 hc
    have := hp r k b1 b2 (by omega)
    unfold chs at v1 v2
    rw [v1, v2] at this
    exact this
theorem part_bounds {l : List Int} {N : Int} (h : may l N = true) (k : Nat) : 0 ≤ sumO ((chs l N).take k) ∧ sumO ((chs l N).take k) ≤ l.length ∧ 0 ≤ sumN ((chs l N).take k) ∧ sumN ((chs l N).take k) ≤ N := by
  obtain ⟨h1, h2, h3, -⟩ := chs_facts h
  obtain ⟨c1, c2⟩ := sum_cut (chs l N) k
  have a1 := sumO_le (l := (chs l N).take k) fun c hc => (h1 c (List.mem_of_mem_take hc)).2.1
  have a2 := sumO_le (l := (chs l N).drop k) fun c hc => (h1 c (List.mem_of_mem_drop hc)).2.1
  have a3 := sumN_le (l := (chs l N).take k) fun c hc => (h1 c (List.mem_of_mem_take hc)).2.2.2.2.1
  have a4 := sumN_le (l := (chs l N).drop k) fun c hc => (h1 c (List.mem_of_mem_drop hc)).2.2.2.2.1
  omega
theorem sum_take {xs : List Ch} {k : Nat} {c : Ch} (h : xs[k]? = some c) : sumO (xs.take (k + 1)) = sumO (xs.take k) + c.1.2 - c.1.1 ∧ sumN (xs.take (k + 1)) = sumN (xs.take k) + c.2.2 - c.2.1 := by
  rw [take_at h, sumO_append, sumN_append]
  simp only [sumO, sumN]
  omega

section
variable (H : EditOk)
include H

set_option maxRecDepth 100000 in
set_option maxHeartbeats 6000000 in
theorem EditCounts_walk (A : Option Addr) (n c : Nat) (l : List Int) (N : Int) (w : World) (hA : ArgInts w A n c l) (hN : inR N) :
    Calls Try.prog 8 #[.slice A n c, .int .i64 N] w fun e w' => e = .returned (.bool true) ∧ Below w.heap.size w w' := by
  obtain ⟨hnc, hcm, hR, hA⟩ := hA
  have hal := hA.len
  obtain ⟨mb, hmb⟩ : ∃ mb, may l N = mb := ⟨_, rfl⟩
  have hMay := Lib.hid (may_of hnc hcm hN hA hmb)
  by_cases g1 : 60 < n
  · clear hcm hA hmb
    go_enter Try.func8, Try.ntmps8
    go_wp2_with fail
    refine (awake_any H _).mono ?_
    rintro e w1 ⟨rfl, hB1⟩
    go_wp2
    go_ret
    exact ⟨rfl, hB1⟩
  have g1' : decide ((60 : Int) < (n : Int)) = false := by simp; omega
  by_cases g2 : 2000 < N
  · clear hcm hA hmb
    go_enter Try.func8, Try.ntmps8
    go_wp2_with fail
    refine (awake_any H _).mono ?_
    rintro e w1 ⟨rfl, hB1⟩
    go_wp2
    go_ret
    exact ⟨rfl, hB1⟩
  have g2' : decide (2000 < N) = false := by simp; omega
  cases mb
  · clear hcm hA hmb
    go_enter Try.func8, Try.ntmps8
    go_wp2_with fail
    refine (awake_any H _).mono ?_
    rintro e w1 ⟨rfl, hB1⟩
    go_wp2_with (go_at_call 16; refine (hMay.out _ hB1).mono ?_; rintro e w' ⟨rfl, rfl⟩)
    go_ret
    exact ⟨rfl, hB1⟩
  obtain ⟨e1, e2, -, -⟩ := back_err hmb (by omega) (by omega)
  obtain ⟨fc, fo, fn, fa⟩ := chs_facts hmb
  have fb := part_bounds hmb
  have h1 := Lib.hid (fun (w' : World) (hb : Below w.heap.size w w') => e1 ▸ e2 ▸ H.changes_ok A n c l N w' hnc hcm hN hR (hA.up hb))
  obtain ⟨xs, hxs⟩ : ∃ xs, xs = chs l N := ⟨_, rfl⟩
  rw [← hxs] at h1 fc fo fn fa fb
  rw [hal] at fc fo fb
  have hxl : Hid (xs.length ≤ 100) := Lib.hid (by rw [hxs]; have := chs_len l N; omega)
  have nb0 : 0 ≤ N := (may_parts hmb).1
  have nb1 : N ≤ 2000 := by omega
  have fch := Lib.hid fc
  have foh := Lib.hid fo
  have fnh := Lib.hid fn
  have fah := Lib.hid fa
  have fbh := Lib.hid fb
  have hAh := Lib.hid hA
  have halh := Lib.hid hal
  have hcl := cntP_le l
  rw [hal] at hcl
  have hclh := Lib.hid hcl
  clear hcm hmb e1 e2 hN hR hxs fc fo fn fa fb hal hcl
  go_enter Try.func8, Try.ntmps8
  go_wp2_with fail
  refine (awake_any H _).mono ?_
  rintro e w1 ⟨rfl, hB1⟩
  have h1' := Lib.hid (h1.out w1 hB1)
  have hB1h := Lib.hid hB1
  clear hA
  go_wp2_with (first
    | (go_at_call 16; refine (hMay.out _ hB1h.out).mono ?_; rintro e w' ⟨rfl, rfl⟩)
    | (go_at_call 10; refine h1'.out.mono ?_; rintro e w2 ⟨A1, n1, c1, rfl, hn1, -, -, k1, hb2⟩; have hn1h := Lib.hid hn1; clear hn1; have hB2 := Lib.hid (hB1h.out.trans (hb2.mono hB1h.out.size)); clear hb2 hB1))
  have hA2 := Lib.hid (hAh.out.up hB2.out)
  have hn1b : n1 ≤ 100 := by have := hxl.out; have := hn1h.out; omega
  have hk1h := Lib.hid k1
  clear k1
  go_loop [8, 9] (fun sp si => ∃ i : Nat, i ≤ n ∧ si = .int .i64 i ∧ sp = .int .i64 (cntP (l.take i))) (fun _ si => n - (intOf si).toNat)
  case atStart => exact ⟨0, Nat.zero_le _, rfl, rfl⟩
  case round =>
    obtain ⟨i, hi, rfl, rfl⟩ := hrel
    have hcb : cntP (l.take i) ≤ 60 := by have := cntP_le (l.take i); rw [List.length_take] at this; omega
    by_cases hin : i < n
    · obtain ⟨g, o, v, rfl, hg, hv, hc⟩ := hA2.out.at_ (k := i) hin
      have hii : (i : Int) < (n : Int) := by omega
      have hct : cntP (l.take (i + 1)) = cntP (l.take i) + if 0 ≤ v then 1 else 0 := by rw [take_at hv, cntP_snoc]
      by_cases hv0 : 0 ≤ v
      · rw [if_pos hv0] at hct
        have hcth := Lib.hid hct
        clear hct
        go_wp2
        go_round
        case rel => exact ⟨i + 1, by omega, by go_num, by rw [hcth.out]; push_cast; rfl⟩
        case measure => simp [intOf] <;> omega
      · rw [if_neg hv0, Nat.add_zero] at hct
        have hcth := Lib.hid hct
        clear hct
        go_wp2
        go_round
        case rel => exact ⟨i + 1, by omega, by go_num, by simp [hcth.out]⟩
        case measure => simp [intOf] <;> omega
    · obtain rfl : i = n := by omega
      obtain ⟨p, hp⟩ : ∃ p, p = cntP (l.take i) := ⟨_, rfl⟩
      rw [← hp] at hcb ⊢
      have hpl : Hid (p = cntP l) := Lib.hid (by rw [hp, List.take_of_length_le (by rw [halh.out]; omega)])
      clear hp
      go_wp2
      go_loopw [10, 11, 12] (fun s10 s11 s12 wr => ∃ (k q : Nat) (so sn : Int), k ≤ n1 ∧ s12 = .int .i64 k ∧ s10 = .int .i64 so ∧ s11 = .int .i64 sn ∧ Hid (so = sumO (xs.take k) ∧ sn = sumN (xs.take k)) ∧ wr = w2.drewN q) (fun _ _ s12 _ => n1 - (intOf s12).toNat)
      case atStart => exact ⟨0, 0, 0, 0, Nat.zero_le _, rfl, rfl, rfl, Lib.hid ⟨rfl, rfl⟩, rfl⟩
      case round =>
        obtain ⟨k, q, so, sn, hk, rfl, rfl, rfl, hs, rfl⟩ := hrel
        by_cases hkn : k < n1
        · have hb := fbh.out k
          rw [← hs.out.1, ← hs.out.2] at hb
          obtain ⟨g, o, ⟨⟨x1, x2⟩, y1, y2⟩, rfl, hg, hx, c1, c2, c3, c4⟩ := hk1h.out.at_ (k := k) hkn
          have hst := sum_take hx
          have hf := fch.out _ (List.mem_of_getElem? hx)
          simp only at hf hst
          rw [← hs.out.1, ← hs.out.2] at hst
          have hsth := Lib.hid hst
          obtain ⟨f1, f2, f3, f4, f5, f6⟩ := hf
          obtain ⟨b1, b2, b3, b4⟩ := hb
          have i1 : (0 : Int) ≤ (k : Int) := by omega
          have i2 : (k : Int) < (n1 : Int) := by omega
          have e1 : IntKind.i64.wrap (so + x2) = so + x2 := IntWalk.i64_in _ (by omega)
          have e2 : IntKind.i64.wrap (so + x2 - x1) = so + x2 - x1 := IntWalk.i64_in _ (by omega)
          have e3 : IntKind.i64.wrap (sn + y2) = sn + y2 := IntWalk.i64_in _ (by omega)
          have e4 : IntKind.i64.wrap (sn + y2 - y1) = sn + y2 - y1 := IntWalk.i64_in _ (by omega)
          clear hst
          rcases Nat.eq_zero_or_pos k with h0 | h0
          · have j0 : decide ((0 : Int) < (k : Int)) = false := by simp; omega
            have j1 : decide (0 < k) = false := by simp; omega
            have j2 : ¬ (0 < k) := by omega
            clear h0
            go_wp2
            go_quiet (fail)
            obtain ⟨z1, rfl⟩ : ∃ z1, z1 = nq := ⟨_, rfl⟩
            go_wp2
            go_quiet (fail)
            obtain ⟨z2, rfl⟩ : ∃ z2, z2 = nq := ⟨_, rfl⟩
            go_wp2
            go_quiet (fail)
            obtain ⟨z3, rfl⟩ : ∃ z3, z3 = nq := ⟨_, rfl⟩
            go_wp2
            go_roundw
            case rel => exact ⟨k + 1, q + (z1 + (z2 + z3)), so + x2 - x1, sn + y2 - y1, by omega, by go_num, by go_num, by go_num, Lib.hid ⟨hsth.out.1.symm, hsth.out.2.symm⟩, by simp [Nat.add_assoc]⟩
            case measure => simp [intOf] <;> omega
          · obtain ⟨r, hr⟩ : ∃ r, k = r + 1 := ⟨k - 1, by omega⟩
            obtain ⟨g', o', ⟨⟨u1, u2⟩, v1, v2⟩, he', hg', hu, d1, d2, d3, d4⟩ := hk1h.out.at_ (k := r) (by omega)
            injection he' with he'
            injection he' with he1 he2
            subst he1
            subst he2
            have hap := fah.out k r _ _ hr hu hx
            simp only at hap
            have t1 : decide (x1 ≤ u2) = false := by simp; omega
            have t2 : decide (y1 ≤ v2) = false := by simp; omega
            have j0 : (0 : Int) < (k : Int) := by omega
            have j1 : (0 : Int) ≤ (r : Int) := by omega
            have j2 : (r : Int) < (n1 : Int) := by omega
            have e5 : (k : Int) - 1 = (r : Int) := by omega
            have e6 : IntKind.i64.wrap ((k : Int) - 1) = (r : Int) := by rw [e5]; exact IntWalk.i64_in _ (by omega)
            have e7 : IntKind.i64.wrap (r : Int) = (r : Int) := IntWalk.i64_in _ (by omega)
            have hrh := Lib.hid hr
            clear hr hap
            go_wp2
            go_quiet (fail)
            obtain ⟨z1, rfl⟩ : ∃ z1, z1 = nq := ⟨_, rfl⟩
            go_wp2
            go_quiet (fail)
            obtain ⟨z2, rfl⟩ : ∃ z2, z2 = nq := ⟨_, rfl⟩
            go_wp2
            go_quiet (fail)
            obtain ⟨z3, rfl⟩ : ∃ z3, z3 = nq := ⟨_, rfl⟩
            go_wp2
            go_roundw
            case rel => exact ⟨k + 1, q + (z1 + (z2 + z3)), so + x2 - x1, sn + y2 - y1, by omega, by go_num, by go_num, by go_num, Lib.hid ⟨hsth.out.1.symm, hsth.out.2.symm⟩, by simp [Nat.add_assoc]⟩
            case measure => simp [intOf] <;> omega
        · obtain rfl : k = n1 := by omega
          have hso : so = sumO xs := by rw [hs.out.1, List.take_of_length_le (by rw [hn1h.out]; omega)]
          have hsn : sn = sumN xs := by rw [hs.out.2, List.take_of_length_le (by rw [hn1h.out]; omega)]
          have q1 : so + (p : Int) = (i : Int) := by have := foh.out; rw [← hso, ← hpl.out] at this; exact this
          have q2 : sn + (p : Int) = N := by have := fnh.out; rw [← hsn, ← hpl.out] at this; exact this
          clear hso hsn
          go_wp2
          go_ret
          exact ⟨ret_bool (by simp), below_drewN hB2.out q⟩
end
end Go.Proofs.Ytjbgiaekckdoaaa

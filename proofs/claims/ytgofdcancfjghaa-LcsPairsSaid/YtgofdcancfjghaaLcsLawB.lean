/- Proved here, out of the contracts of package lcs: the walk of LcsPairs. -/
import Derived.Test.YtgofdcancfjghaaLcsAwake
namespace Go.Proofs.Ytgofdcancfjghaa
open Go.RowKit
set_option linter.unusedVariables false

theorem pairs_hit {m : List Int} {k : Nat} {v : Int} (h : m[k]? = some v) (hv : v ≠ -1) : lastP (m.take (k + 1)) = v ∧ paired (m.take (k + 1)) = paired (m.take k) + 1 := by
  rw [take_at h]; exact ⟨lastP_snoc_hit hv, paired_snoc_hit hv⟩
theorem pairs_miss {m : List Int} {k : Nat} (h : m[k]? = some (-1)) : lastP (m.take (k + 1)) = lastP (m.take k) ∧ paired (m.take (k + 1)) = paired (m.take k) := by
  rw [take_at h]; exact ⟨lastP_snoc_miss _, paired_snoc_miss _⟩
theorem paired_le (m : List Int) : paired m ≤ m.length := List.length_filter_le _ _
/-- What is paired at place k. -/
theorem pairs_at {a b : List Int} {k : Nat} {v : Int} (h : (mt a b 0)[k]? = some v) (hv : v ≠ -1) : ∃ y : Nat, v = (y : Int) ∧ y < b.length ∧ (∃ x, a[k]? = some x ∧ b[y]? = some x) ∧ lastP ((mt a b 0).take k) < v := by
  obtain ⟨y, hy, ⟨x, hx1, hx2⟩, hr⟩ := mt_good a b 0 k v h hv
  refine ⟨y, by rw [hy, Nat.zero_add], (List.getElem?_eq_some_iff.1 hx2).1, ⟨x, hx1, hx2⟩, lastP_lt (by omega) fun u hu => ?_⟩
  obtain ⟨i, hi⟩ := List.getElem?_of_mem hu
  rw [List.getElem?_take] at hi
  by_cases hik : i < k
  · rw [if_pos hik] at hi
    exact hr i u hik hi
  · rw [if_neg hik] at hi; cases hi

section
variable {Pr : World → Nat → (Nat → Prop) → List Int → List Int → Prop} (H : LcsOk Pr)
include H

set_option maxHeartbeats 1000000 in
theorem LcsPairs_walk (A : Option Addr) (n c : Nat) (a : List Int) (A' : Option Addr) (n' c' : Nat) (b : List Int) (w : World) (hA : ArgNums w A n c a) (hA' : ArgNums w A' n' c' b) :
    Calls Try.prog 4 #[.slice A n c, .slice A' n' c'] w fun e w' => e = .returned (.bool true) ∧ Below w.heap.size w w' := by
  have hnc := hA.1
  have hcm := hA.2.1
  have hnc' := hA'.1
  have hcm' := hA'.2.1
  unfold maxLen at hcm hcm'
  have hal := Lib.hid hA.2.2.len
  have hal' := Lib.hid hA'.2.2.len
  by_cases g1 : 40 < n
  · go_enter Try.func4, Try.ntmps4
    go_wp2_with fail
    refine (awake_any H _).mono ?_
    rintro e w1 ⟨rfl, hB1⟩
    go_wp2
    go_ret
    exact ⟨rfl, hB1⟩
  by_cases g2 : 40 < n'
  · go_enter Try.func4, Try.ntmps4
    go_wp2_with fail
    refine (awake_any H _).mono ?_
    rintro e w1 ⟨rfl, hB1⟩
    go_wp2
    go_ret
    exact ⟨rfl, hB1⟩
  have g3 : n ≤ 40 := by omega
  have g4 : n' ≤ 40 := by omega
  go_enter Try.func4, Try.ntmps4
  go_wp2_with fail
  refine (awake_any H _).mono ?_
  rintro e w1 ⟨rfl, hB1⟩
  have hN := Lib.hid (H.new_ok A A' n n' c c' a b w1 (by omega) (by omega) hnc hnc' hA.2.1 hA'.2.1 (hA.up hB1) (hA'.up hB1))
  have hMt := Lib.hid H.match_any
  have hLn := Lib.hid H.len_any
  go_wp2_with (first
    | (go_at_call 11; refine hN.out.mono ?_; rintro e w2 ⟨T, F, rfl, hP, hF, hB⟩; have hB2 := hB1.trans (hB.mono hB1.size); clear hB)
    | (go_at_call 13; refine (hMt.out T F _ _ _ hP).mono ?_; rintro e w3 ⟨Am, nm, cm, F3, rfl, hnm, hnc3, hcm3, hm, hAF, hP3, hb3, hF3⟩; have hB3 : Below w.heap.size w w3 := hB2.trans (hb3.below hB2.size (fun k hk => by have := hF k hk; have := hB1.size; omega)); have hF30 : ∀ k, F3 k → w.heap.size ≤ k := (fun k hk => by rcases hF3 k hk with h | h; (have := hF k h; have := hB1.size; omega); (have := hB2.size; omega)); obtain rfl : n = nm := (hnm.trans hal.out).symm; clear hF3 hb3 hnm hAF hP hF))
  obtain ⟨m, hmm⟩ : ∃ m, m = mt a b 0 := ⟨_, rfl⟩
  rw [← hmm] at hm
  have hmh := Lib.hid hmm
  have hml := hm.len
  clear hmm
  have hF30' := Lib.hid hF30
  have hmlh := Lib.hid hml
  clear hF30 hml
  go_loopw [9, 10, 11] (fun sl sn si wr => ∃ (k q : Nat) (l : Int) (cnt : Nat), k ≤ n ∧ si = .int .i64 k ∧ sl = .int .i64 l ∧ sn = .int .i64 cnt ∧ Hid (l = lastP (m.take k) ∧ cnt = paired (m.take k)) ∧ Hid (wr = w3.drewN q)) (fun _ _ si _ => n - (intOf si).toNat)
  case atStart => exact ⟨0, 0, -1, 0, Nat.zero_le _, rfl, rfl, rfl, Lib.hid ⟨rfl, rfl⟩, Lib.hid rfl⟩
  case round =>
    obtain ⟨k, q, l, cnt, hk, rfl, rfl, rfl, hlc, hwr⟩ := hrel
    have hBw : Below w.heap.size w wr := by rw [hwr.out]; exact below_drewN hB3 q
    have hmw : Nums wr w3.heap.size Am n m := by rw [hwr.out]; exact hm.drewN q
    by_cases hlt : k < n
    · obtain ⟨bm, om, v, rfl, hbm, hv, hvc⟩ := hmw.at_ (k := k) hlt
      have hcnt : cnt ≤ 40 := by
        have h1 := hlc.out.2
        have h2 := paired_le (m.take k)
        have h3 := List.length_take_le k m
        omega
      by_cases hv1 : v = -1
      · subst hv1
        have hps := pairs_miss hv
        rw [← hlc.out.1, ← hlc.out.2] at hps
        have hps' := Lib.hid hps
        clear hps hv
        go_wp2
        go_roundw
        case rel => exact ⟨k + 1, q, l, cnt, by omega, by go_num, rfl, rfl, Lib.hid ⟨hps'.out.1.symm, hps'.out.2.symm⟩, hwr⟩
        case measure => simp [intOf]; omega
      · have hps := pairs_hit hv hv1
        rw [← hlc.out.2] at hps
        rw [hmh.out] at hv
        obtain ⟨y, rfl, hyb, ⟨x, hx1, hx2⟩, hla⟩ := pairs_at hv hv1
        rw [← hmh.out, ← hlc.out.1] at hla
        have hps' := Lib.hid hps
        have hyn : y < n' := by have := hal'.out; omega
        obtain ⟨ba, oa, x', rfl, hba, hx', hxa⟩ := (hA.2.2.below hBw).at_ (k := k) hlt
        rw [hx1] at hx'
        injection hx' with hx'
        subst hx'
        obtain ⟨bb, ob, y', rfl, hbb, hy', hyc⟩ := (hA'.2.2.below hBw).at_ (k := y) hyn
        rw [hx2] at hy'
        injection hy' with hy'
        subst hy'
        have hvb : (((y : Nat) : Int) == -1) = false := by simp
        have i1 : (0 : Int) ≤ (k : Int) := by omega
        have i2 : (k : Int) < (n : Int) := by omega
        have i3 : (0 : Int) ≤ (y : Int) := by omega
        have i4 : (y : Int) < (n' : Int) := by omega
        have i5 : ¬ ((y : Int) ≤ l) := by omega
        have i6 : ¬ ((n' : Int) ≤ (y : Int)) := by omega
        clear hps hv hx1 hx2 hv1
        go_wp2
        go_quiet (fail)
        go_wp2
        go_roundw
        case rel => exact ⟨k + 1, q + nq, (y : Int), cnt + 1, by omega, by go_num, rfl, by go_num, Lib.hid ⟨hps'.out.1.symm, hps'.out.2.symm⟩, Lib.hid (by rw [hwr.out, World.drewN_drewN])⟩
        case measure => simp [intOf]; omega
    · obtain rfl : k = n := by omega
      have hP5 : Pr wr T F3 a b := by rw [hwr.out]; exact H.kept hP3 (below_drewN (Below.refl _ _) q)
      have hL := H.len_any T F3 a b wr hP5
      have hcl : cnt = lcsL a b := by
        have := hlc.out.2
        rw [List.take_of_length_le (by have := hmlh.out; omega), hmh.out, mt_count] at this
        exact this
      rw [← hcl] at hL
      have hL' := Lib.hid hL
      clear hL hcl
      go_wp2_with (go_at_call 15; refine hL'.out.mono ?_; rintro e w6 ⟨rfl, F6, hP6, hb6, hF6⟩; have hB6 : Below w.heap.size w w6 := hBw.trans (hb6.below hBw.size hF30'.out))
      go_ret
      exact ⟨rfl, hB6⟩
end
end Go.Proofs.Ytgofdcancfjghaa

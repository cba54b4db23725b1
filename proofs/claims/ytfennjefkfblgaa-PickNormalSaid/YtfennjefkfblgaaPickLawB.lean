/- Proved here, out of the contracts of package pick: the walk of PickNormal. -/
import Derived.Test.YtfennjefkfblgaaPickLawA
namespace Go.Proofs.Ytfennjefkfblgaa
open Go.RowKit
set_option linter.unusedVariables false

section
variable (H : PickOk)
include H

set_option maxRecDepth 100000 in
set_option maxHeartbeats 4000000 in
theorem PickNormal_walk (A : Option Addr) (n c : Nat) (vs : List PcV) (ps : List Pc) (w : World) (h0 : ArgPcs w A n c vs ps) :
    Calls Try.prog 4 #[.slice A n c] w fun e w' => e = .returned (.bool true) ∧ Below w.heap.size w w' := by
  have hn : n ≤ maxLen := Nat.le_trans h0.1 h0.2.1
  have haw := Lib.hid (awake_any H w)
  obtain ⟨fa, hfa⟩ : ∃ fa, fewP ps = fa := ⟨_, rfl⟩
  have hFa := Lib.hid (fun (W : World) (hb : Below w.heap.size w W) => (pFew_any A n c w.heap.size vs ps W hn (h0.2.2.below hb)).mono fun e w' (h : _ ∧ ∃ q, w' = W.drewN q) => show e = .returned (.bool (fewP ps)) ∧ Below w.heap.size w w' from ⟨h.1, by obtain ⟨q, rfl⟩ := h.2; exact below_drewN hb q⟩)
  rw [hfa] at hFa
  cases fa
  · clear h0 hn
    go_enter Try.func4, Try.ntmps4
    go_wp2_with (first
      | (go_at_call 9; refine haw.out.mono ?_; rintro e w1 ⟨rfl, hb1⟩)
      | (go_at_call 15; refine (hFa.out _ hb1).mono ?_; rintro e w2 ⟨rfl, hb2⟩))
    go_ret
    exact ⟨rfl, hb2⟩
  · obtain ⟨l0, l1⟩ := fewP_parts hfa
    have k0 := h0.2.2.len
    have s1 := sumT_few l1
    have s2 := normal_len ps
    have s3 := sumT_normal ps
    have hput := Lib.hid (put_normal ps)
    obtain ⟨N, hN⟩ : ∃ N, normal ps = N := ⟨_, rfl⟩
    have hNm := Lib.hid (fun (W : World) (hb : Below w.heap.size w W) => H.normal_ok A n c vs ps W h0.1 h0.2.1 (by omega) (by omega) (smallN_few l1) (h0.2.2.up hb))
    have hrN := Lib.hid (fun (W : World) (hb : Below w.heap.size w W) => rNormal_any A n c vs ps W (by omega) (by omega) (h0.2.2.up hb))
    have hrK := Lib.hid (fun (W : World) (hb : Below w.heap.size w W) => rClean_any A n c _ vs ps W hn (h0.2.2.up hb))
    have hNN := Lib.hid (fun (A3 : Option Addr) (n3 c3 : Nat) (vs3 : List PcV) (W : World) (e1 : n3 ≤ c3) (e2 : c3 ≤ maxLen) (h : Pcs W W.heap.size A3 n3 vs3 (normal ps)) => H.normal_ok A3 n3 c3 vs3 (normal ps) W e1 e2 (by have := h.len; omega) (by omega) (smallN_normal (smallN_few l1)) h)
    have hKN := Lib.hid (fun (A3 : Option Addr) (n3 c3 : Nat) (vs3 : List PcV) (W : World) (e1 : n3 ≤ c3) (e2 : c3 ≤ maxLen) (h : Pcs W W.heap.size A3 n3 vs3 (normal ps)) => H.clean_ok A3 n3 c3 vs3 (normal ps) W e1 e2 (by have := h.len; omega) h)
    rw [normal_twice] at hNN
    rw [clean_normal] at hKN
    have hSm := Lib.hid (fun (A1 A2 : Option Addr) (n1 n2 c1 c2 : Nat) (vs1 vs2 : List PcV) (W : World) (e1 : n1 ≤ c1) (e2 : c1 ≤ maxLen) (e3 : n2 ≤ c2) (e4 : c2 ≤ maxLen) (p1 : Pcs W W.heap.size A1 n1 vs1 N) (p2 : Pcs W W.heap.size A2 n2 vs2 N) => pSame_any A1 A2 n1 n2 c1 c2 _ _ vs1 vs2 N N W (Nat.le_trans e1 e2) (Nat.le_trans e3 e4) p1 p2)
    simp only [decide_true] at hSm
    rw [hN] at hNm hrN hNN hKN hput s2
    obtain ⟨cl, hcl⟩ : ∃ cl, cleanB ps = cl := ⟨_, rfl⟩
    rw [hcl] at hrK hKN
    clear h0 hn hfa l1 s1 s3 hN hcl
    go_enter Try.func4, Try.ntmps4
    go_wp2_with (first
      | (go_at_call 9; refine haw.out.mono ?_; rintro e w1 ⟨rfl, hb1⟩)
      | (go_at_call 15; refine (hFa.out _ hb1).mono ?_; rintro e w2 ⟨rfl, hb2⟩)
      | (go_at_call 16; refine (hNm.out _ hb2).mono ?_; rintro e w3 ⟨A1, n1, c1, vs1, rfl, m1, m2, m3, hb3⟩; have hB3 := hb2.trans (hb3.mono hb2.size)))
    have hm3 := Lib.hid m3
    have hml := m3.len
    have hn1 : n1 ≤ 100000 := by omega
    clear m3
    go_loop [5] (fun s5 => ∃ i : Nat, i ≤ n1 ∧ s5 = .int .i64 i) (fun s5 => n1 - (intOf s5).toNat)
    case atStart => exact ⟨0, Nat.zero_le _, rfl⟩
    case round =>
      obtain ⟨i, hin, rfl⟩ := hrel
      by_cases hlt : i < n1
      · obtain ⟨b, o, cf, At, nt, ct, Ab, nb, cb, As, ns, cs, t, bs, ss, rfl, hb, hv, hp, k1, k2, k3, k4, ⟨j1, j2, j3⟩, -, -⟩ := hm3.out.at_ (k := i) hlt
        have i1 : (0 : Int) ≤ (i : Int) := by omega
        have i2 : (i : Int) < (n1 : Int) := by omega
        cases cf
        · obtain ⟨p1, p2, p3⟩ := put_at hput.out hp rfl
          have hlt2 : nt ≠ 0 := by
            have := j3.len
            rintro rfl
            exact p1 (List.eq_nil_of_length_eq_zero this)
          have e0 : ((nt : Int) == 0) = false := by simp; omega
          clear hv hp j1 j2 j3 k3 k4 p1 p3
          rcases Nat.eq_zero_or_pos i with rfl | hpos
          · clear p2
            simp only [Nat.zero_mul, Nat.add_zero] at k1 k2
            go_wp2
            go_round
            case rel => exact ⟨1, by omega, by go_num⟩
            case measure => simp [intOf]; omega
          · obtain ⟨r, rfl⟩ : ∃ r, i = r + 1 := ⟨i - 1, by omega⟩
            obtain ⟨b2, o2, cf2, At2, nt2, ct2, Ab2, nb2, cb2, As2, ns2, cs2, t2, bs2, ss2, he, hb2', hv2, hp2, q1, -, -, -, -, -, -⟩ := hm3.out.at_ (k := r) (by omega)
            injection he with he
            injection he with he1 he2
            subst he1
            subst he2
            have hcf : cf2 = true := p2 (by omega) _ (by simpa using hp2)
            subst hcf
            have e1 : ((r : Int) + 1) - 1 = (r : Int) := by omega
            have e2 : decide ((0 : Int) < (r : Int) + 1) = true := decide_eq_true (by omega)
            have i3 : (0 : Int) ≤ (r : Int) := by omega
            have i4 : (r : Int) < (n1 : Int) := by omega
            clear hv2 hp2 p2
            go_wp2
            go_round
            case rel => exact ⟨r + 1 + 1, by omega, by go_num⟩
            case measure => simp [intOf]; omega
        · clear hv hp j1 j2 j3 k2 k3 k4
          go_wp2
          go_round
          case rel => exact ⟨i + 1, by omega, by go_num⟩
          case measure => simp [intOf]; omega
      · obtain rfl : i = n1 := by omega
        go_wp2_with (first
          | (go_at_call 17; refine (hrN.out _ hB3).mono ?_; rintro e w4 ⟨A2, n2, c2, vs2, rfl, x1, x2, x3, hb4⟩; have m4 := Lib.hid (hm3.out.up hb4); have hB4 := hB3.trans (hb4.mono hB3.size); have tok1 : True := trivial)
          | (have _t := tok1; clear tok1; go_at_call 13; refine (hSm.out A1 A2 i n2 c1 c2 vs1 vs2 _ m1 m2 x1 x2 m4.out x3).mono ?_; rintro e w5 ⟨rfl, hw5⟩; have hb5 : Below w4.heap.size w4 w5 := (by obtain ⟨q, rfl⟩ := hw5; exact below_drewN (Below.refl _ _) q); have m5 := Lib.hid (m4.out.up hb5); have hB5 := hB4.trans (hb5.mono hB4.size); clear hw5 x3)
          | (go_at_call 16; refine (hNN.out A1 i c1 vs1 _ m1 m2 m5.out).mono ?_; rintro e w6 ⟨A3, n3, c3, vs3, rfl, y1, y2, y3, hb6⟩; have m6 := Lib.hid (m5.out.up hb6); have hB6 := hB5.trans (hb6.mono hB5.size))
          | (go_at_call 13; refine (hSm.out A3 A1 n3 i c3 c1 vs3 vs1 _ y1 y2 m1 m2 y3 m6.out).mono ?_; rintro e w7 ⟨rfl, hw7⟩; have hb7 : Below w6.heap.size w6 w7 := (by obtain ⟨q, rfl⟩ := hw7; exact below_drewN (Below.refl _ _) q); have m7 := Lib.hid (m6.out.up hb7); have hB7 := hB6.trans (hb7.mono hB6.size); clear hw7 y3)
          | (go_at_call 14; refine (hKN.out A1 i c1 vs1 _ m1 m2 m7.out).mono ?_; rintro e w8 ⟨rfl, hb8⟩; have hB8 := hB7.trans (hb8.mono hB7.size))
          | (go_at_call 18; refine (hrK.out _ hB8).mono ?_; rintro e w9 ⟨rfl, rfl⟩))
        go_ret
        exact ⟨by first | rfl | simp, hB8⟩
end
end Go.Proofs.Ytfennjefkfblgaa

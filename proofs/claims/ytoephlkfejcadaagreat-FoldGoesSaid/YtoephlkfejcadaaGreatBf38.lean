/- Proved here: texts joined: AlignFns. -/
import Derived.Test.YtoephlkfejcadaaGreatBf07
import Derived.Test.YtoephlkfejcadaaGreatBf19
import Derived.Test.YtoephlkfejcadaaGreatChecked
import Derived.WalkKit
import Derived.BigQuiet
import Derived.BigRegion
import Derived.WalkMore
import Derived.Deep.DeepCutAuto
/- Proved here: the contracts of package align's functions that only read: isMatch, isStable, nextStable, runEnd, areMatches. -/
namespace Go.Proofs.YtoephlkfejcadaaGreat
open Go.RowKit
set_option linter.unusedVariables false

theorem pl_nat {l : List Int} {k : Nat} {v : Int} (h : l[k]? = some v) : pl l (k : Int) = v := by
  unfold pl
  rw [Int.toNat_natCast, h]
  rfl
theorem isMatch_neg {m : Nat} {l : List Int} {z : Int} (h : IsMatch m l z) {k : Nat} {v : Int} (hv : l[k]? = some v) : v = -1 ∨ 0 ≤ v ∧ v < z := by
  by_cases e : v = -1
  · exact .inl e
  · exact .inr (h.2.1 v (List.mem_of_getElem? hv) e)

set_option maxHeartbeats 1000000 in
theorem aMatch_any (A : Option Addr) (n c B : Nat) (l : List Int) (z : Int) (w : World) (hn : n ≤ 2000) (hz0 : 0 ≤ z) (hz : z ≤ 2000) (hM : IsMatch n l z) (hA : Nums w B A n l) :
    Calls Tryz.prog 99 #[.slice A n c, .int .i64 z] w fun e w' => e = .returned (.bool true) ∧ w' = w := by
  have hMh := Lib.hid hM
  clear hM
  go_enter Tryz.func99, Tryz.ntmps99
  go_wp2
  go_loop [5, 7, 10] (fun s5 s7 s10 => ∃ (k : Nat) (b : Int), k ≤ n ∧ s10 = .int .i64 k ∧ s5 = .int .i64 b ∧ -1 ≤ b ∧ b ≤ 2000 ∧ Hid (∀ j v, k ≤ j → l[j]? = some v → v ≠ -1 → b < v)) (fun _ _ s10 => n - (intOf s10).toNat)
  case atStart => exact ⟨0, -1, Nat.zero_le _, rfl, rfl, Int.le_refl _, by omega, Lib.hid fun j v _ hv hne => by have := isMatch_neg hMh.out hv; omega⟩
  case round =>
    obtain ⟨k, b, hk, rfl, rfl, hb1, hb2, hx⟩ := hrel
    by_cases hlt : k < n
    · obtain ⟨g, o, v, rfl, hg, hv, hc⟩ := hA.at_ hlt
      by_cases hj : v = -1
      · subst hj
        go_wp2
        go_round
        case rel => exact ⟨k + 1, b, by omega, by go_num, rfl, hb1, hb2, Lib.hid fun j v hj hv hne => hx.out j v (by omega) hv hne⟩
        case measure => simp [intOf]; omega
      · have hj' : (v == -1) = false := by simpa using hj
        have hbv := hx.out k v (Nat.le_refl _) hv hj
        have hvr := hMh.out.2.1 v (List.mem_of_getElem? hv) hj
        have h1' : decide (v ≤ b) = false := by simpa using hbv
        have h2' : decide (z ≤ v) = false := by simpa using hvr.2
        have hnext : Hid (∀ j u, k + 1 ≤ j → l[j]? = some u → u ≠ -1 → v < u) := Lib.hid fun j u hkj hu hne => by
          obtain ⟨q1, q2⟩ := List.getElem?_eq_some_iff.1 hv
          obtain ⟨q3, q4⟩ := List.getElem?_eq_some_iff.1 hu
          have := (List.pairwise_iff_getElem.1 hMh.out.2.2) k j q1 q3 (by omega)
          rw [q2, q4] at this
          exact this hj hne
        go_wp2
        go_round
        case rel => exact ⟨k + 1, v, by omega, by go_num, rfl, by omega, by omega, hnext⟩
        case measure => simp [intOf]; omega
    · obtain rfl : k = n := by omega
      have hz' : decide ((0 : Int) ≤ z) = true := by simpa using hz0
      go_wp2
      go_ret
      exact ⟨rfl, rfl⟩

/-- Matches, each of m places, that may be, as a slice of slices. -/
def Mats (w : World) (B : Nat) (A : Option Addr) (n : Nat) (rows : List (Option Addr × Nat × Nat)) (ms : List (List Int)) (m : Nat) : Prop := RowsN w B A n rows ms ∧ ∀ l ∈ ms, l.length = m ∧ ∀ v ∈ l, -1 ≤ v ∧ v < 2000
theorem Mats.at_ {w : World} {B n m k : Nat} {A : Option Addr} {rows : List (Option Addr × Nat × Nat)} {ms : List (List Int)} (h : Mats w B A n rows ms m) (hk : k < n) :
    ∃ b o A' n' c' xs, A = some ⟨b, o, none⟩ ∧ b < B ∧ ms[k]? = some xs ∧ w.cell? ⟨b, o + k, none⟩ = some (.slice A' n' c') ∧ Nums w B A' n' xs ∧ n' = m := by
  obtain ⟨b, o, A', n', c', xs, h1, h2, h3, h4, h5⟩ := h.1.at_ hk
  exact ⟨b, o, A', n', c', xs, h1, h2, h3, h4, h5, by rw [← h5.len]; exact (h.2 xs (List.mem_of_getElem? h3)).1⟩

set_option maxHeartbeats 1000000 in
theorem isStable_any (A : Option Addr) (n c B : Nat) (rows : List (Option Addr × Nat × Nat)) (ms : List (List Int)) (m k : Nat) (w : World) (hn : n ≤ 16) (hm : m ≤ 2000) (hk : k < m) (hA : Mats w B A n rows ms m) :
    Calls Tryz.prog 100 #[.slice A n c, .int .i64 k] w fun e w' => e = .returned (.bool (allP ms k)) ∧ w' = w := by
  have hl := hA.1.len
  obtain ⟨r, hr⟩ : ∃ r, allP ms k = r := ⟨_, rfl⟩
  rw [hr]
  have hr' := Lib.hid hr
  clear hr
  go_enter Tryz.func100, Tryz.ntmps100
  go_wp2
  go_loop [6, 9] (fun _ s9 => ∃ (j : Nat), j ≤ n ∧ s9 = .int .i64 j ∧ Hid (∀ i l, i < j → ms[i]? = some l → 0 ≤ pl l k)) (fun _ s9 => n - (intOf s9).toNat)
  case atStart => exact ⟨0, Nat.zero_le _, rfl, Lib.hid fun i l h => absurd h (by omega)⟩
  case round =>
    obtain ⟨j, hj, rfl, hx⟩ := hrel
    by_cases hlt : j < n
    · obtain ⟨b, o, A1, n1, c1, xs, rfl, hb, hxs, hc, hN, rfl⟩ := hA.at_ hlt
      obtain ⟨b1, o1, v, rfl, hb1, hv, hc1⟩ := hN.at_ hk
      have hvr := (hA.2 xs (List.mem_of_getElem? hxs)).2 v (List.mem_of_getElem? hv)
      have hpl := pl_nat hv
      by_cases hj : v = -1
      · subst hj
        have hf : allP ms k = false := by
          cases h : allP ms k with
          | false => rfl
          | true =>
            have := allP_mem h (List.mem_of_getElem? hxs)
            omega
        have hfr : r = false := by rw [← hr'.out, hf]
        subst hfr
        clear hf hpl
        go_wp2
        go_ret
        exact ⟨rfl, rfl⟩
      · have hj' : (v == -1) = false := by simpa using hj
        have hplh := Lib.hid hpl
        have hxsh := Lib.hid hxs
        clear hpl hxs
        go_wp2
        go_round
        case rel =>
          refine ⟨j + 1, by omega, by go_num, Lib.hid fun i l hi hl => ?_⟩
          rcases Nat.lt_or_ge i j with h | h
          · exact hx.out i l h hl
          · obtain rfl : i = j := by omega
            rw [hxsh.out] at hl
            injection hl with hl
            subst hl
            have := hplh.out
            omega
        case measure => simp [intOf]; omega
    · obtain rfl : j = n := by omega
      have ht : allP ms k = true := allP_of fun l hl' => by
        obtain ⟨i, hi⟩ := List.mem_iff_getElem?.1 hl'
        exact hx.out i l (by have := (List.getElem?_eq_some_iff.1 hi).1; omega) hi
      have htr : r = true := by rw [← hr'.out, ht]
      subst htr
      clear ht
      go_wp2
      go_ret
      exact ⟨rfl, rfl⟩

/-- The first stable place from place i on. -/
def Next (ms : List (List Int)) (m i r : Nat) : Prop := i ≤ r ∧ r ≤ m ∧ (∀ k : Int, i ≤ k → k < r → allP ms k = false) ∧ (r < m → allP ms r = true)

set_option maxHeartbeats 1000000 in
theorem nextStable_any (A : Option Addr) (n c B : Nat) (rows : List (Option Addr × Nat × Nat)) (ms : List (List Int)) (m i : Nat) (w : World) (hn : n ≤ 16) (hm : m ≤ 2000) (hi : i ≤ m) (hA : Mats w B A n rows ms m) :
    Calls Tryz.prog 71 #[.slice A n c, .int .i64 i, .int .i64 m] w fun e w' => (∃ r : Nat, Next ms m i r ∧ e = .returned (.int .i64 r)) ∧ w' = w := by
  have hS := Lib.hid (fun (k : Nat) (hk : k < m) => isStable_any A n c B rows ms m k w hn hm hk hA)
  clear hA
  go_enter Tryz.func71, Tryz.ntmps71
  go_wp2
  go_loop [1] (fun s1 => ∃ (j : Nat), i ≤ j ∧ j ≤ m ∧ s1 = .int .i64 j ∧ Hid (∀ k : Int, i ≤ k → k < j → allP ms k = false)) (fun s1 => m - (intOf s1).toNat)
  case atStart => exact ⟨i, Nat.le_refl _, hi, rfl, Lib.hid fun k h1 h2 => absurd h2 (by omega)⟩
  case round =>
    obtain ⟨j, hij, hj, rfl, hx⟩ := hrel
    by_cases hlt : j < m
    · have hc := hS.out j hlt
      cases hp : allP ms j
      · rw [hp] at hc
        have hch := Lib.hid hc
        have hph := Lib.hid hp
        clear hc hp
        go_wp2_with (go_at_call 100; refine hch.out.mono ?_; rintro e w' ⟨rfl, rfl⟩)
        go_round
        case rel =>
          refine ⟨j + 1, by omega, by omega, by go_num, Lib.hid fun k h1 h2 => ?_⟩
          by_cases e : k = j
          · rw [e]; exact hph.out
          · exact hx.out k h1 (by omega)
        case measure => simp [intOf]; omega
      · rw [hp] at hc
        have hch := Lib.hid hc
        have hph := Lib.hid hp
        clear hc hp
        go_wp2_with (go_at_call 100; refine hch.out.mono ?_; rintro e w' ⟨rfl, rfl⟩)
        go_ret
        exact ⟨⟨j, ⟨hij, hj, hx.out, fun _ => hph.out⟩, rfl⟩, rfl⟩
    · obtain rfl : j = m := by omega
      go_wp2
      go_ret
      exact ⟨⟨j, ⟨hij, hj, hx.out, fun h => absurd h (by omega)⟩, rfl⟩, rfl⟩

/-- Where a run ends that begins with place i. -/
def RunTo (ms : List (List Int)) (m i r : Nat) : Prop := i < r ∧ r ≤ m ∧ (∀ k : Int, i < k → k < r → ∀ l ∈ ms, pl l k = pl l (k - 1) + 1) ∧ (r < m → ∃ l ∈ ms, pl l (r : Int) ≠ pl l ((r : Int) - 1) + 1)
theorem pl_two {l : List Int} {k r : Nat} {v u : Int} (hkr : k = r + 1) (hv : l[k]? = some v) (hu : l[r]? = some u) : pl l (k : Int) = v ∧ pl l ((k : Int) - 1) = u := by
  subst hkr
  refine ⟨pl_nat hv, ?_⟩
  rw [show ((r + 1 : Nat) : Int) - 1 = (r : Int) by push_cast; omega]
  exact pl_nat hu

set_option maxHeartbeats 1000000 in
theorem runEnd_any (A : Option Addr) (n c B : Nat) (rows : List (Option Addr × Nat × Nat)) (ms : List (List Int)) (m i : Nat) (w : World) (hn : n ≤ 16) (hm : m ≤ 2000) (hi : i < m) (hA : Mats w B A n rows ms m) :
    Calls Tryz.prog 72 #[.slice A n c, .int .i64 i, .int .i64 m] w fun e w' => (∃ r : Nat, RunTo ms m i r ∧ e = .returned (.int .i64 r)) ∧ ∃ q, w' = w.drewN q := by
  have hl := hA.1.len
  have hAh := Lib.hid hA
  clear hA
  go_enter Tryz.func72, Tryz.ntmps72
  go_wp2
  go_step3
  go_wp2
  go_step3
  go_wp2
  go_loopw [7, 9, 17, 18, 19] (fun s7 _ _ _ _ wr => ∃ (t : Nat), i < t ∧ t ≤ m ∧ s7 = .int .i64 t ∧ Hid (∀ k : Int, i < k → k < t → ∀ l ∈ ms, pl l k = pl l (k - 1) + 1) ∧ ∃ q, wr = w.drewN q) (fun s7 _ _ _ _ _ => m - (intOf s7).toNat)
  case atStart => exact ⟨i + 1, by omega, by omega, by go_num, Lib.hid fun k h1 h2 => absurd h2 (by omega), 0, rfl⟩
  case round =>
    obtain ⟨t, hit, ht, rfl, hx, q, rfl⟩ := hrel
    obtain ⟨wo, hwo⟩ : ∃ wo : World, wo = w.drewN q := ⟨_, rfl⟩
    rw [← hwo]
    have hwoh := Lib.hid hwo
    clear hwo
    by_cases hlt : t < m
    · obtain ⟨r, hr⟩ : ∃ r, t = r + 1 := ⟨t - 1, by omega⟩
      have hrh := Lib.hid hr
      have e1 : (t : Int) - 1 = (r : Int) := by omega
      have e2 : IntKind.i64.wrap ((t : Int) - 1) = (r : Int) := by rw [e1]; exact IntWalk.i64_in _ (by omega)
      have e3 : IntKind.i64.wrap (r : Int) = (r : Int) := IntWalk.i64_in _ (by omega)
      have hrm : r < m := by omega
      clear hr
      go_wp2
      go_loopw [9, 19] (fun _ s19 wr => ∃ (j : Nat), j ≤ n ∧ s19 = .int .i64 j ∧ Hid (∀ i l, i < j → ms[i]? = some l → pl l (t : Int) = pl l ((t : Int) - 1) + 1) ∧ ∃ q, wr = wo.drewN q) (fun _ s19 _ => n - (intOf s19).toNat)
      case atStart => exact ⟨0, Nat.zero_le _, rfl, Lib.hid fun i l h => absurd h (by omega), 0, rfl⟩
      case round =>
        obtain ⟨j, hj, rfl, hy, q2, rfl⟩ := hrel
        obtain ⟨wp, hwp⟩ : ∃ wp : World, wp = wo.drewN q2 := ⟨_, rfl⟩
        have hAp : Mats wp B A n rows ms m := by rw [hwp, hwoh.out, World.drewN_drewN]; exact ⟨hAh.out.1.drewN _, hAh.out.2⟩
        rw [← hwp]
        have hwph := Lib.hid hwp
        clear hwp
        by_cases hlt2 : j < n
        · obtain ⟨b, o, A1, n1, c1, xs, rfl, hb, hxs, hc, hN, rfl⟩ := hAp.at_ hlt2
          obtain ⟨b1, o1, v, rfl, hb1, hv, hc1⟩ := hN.at_ hlt
          obtain ⟨b2, o2, u, he2, hb2, hu, hc2⟩ := hN.at_ hrm
          injection he2 with he2
          injection he2 with he2 he3
          subst he2
          subst he3
          have hur := (hAp.2 xs (List.mem_of_getElem? hxs)).2 u (List.mem_of_getElem? hu)
          have hvr := (hAp.2 xs (List.mem_of_getElem? hxs)).2 v (List.mem_of_getElem? hv)
          have hpl := Lib.hid (pl_two hrh.out hv hu)
          have hxsh := Lib.hid hxs
          have i1 : (0 : Int) ≤ (t : Int) := by omega
          have i2 : (t : Int) < (n1 : Int) := by omega
          have i3 : (0 : Int) ≤ (r : Int) := by omega
          have i4 : (r : Int) < (n1 : Int) := by omega
          have e4 : IntKind.i64.wrap (u + 1) = u + 1 := IntWalk.i64_in _ (by omega)
          obtain ⟨bb, hbb⟩ : ∃ bb, (v != u + 1) = bb := ⟨_, rfl⟩
          have hbbh := Lib.hid hbb
          clear hxs hv hu hAp
          go_wp2
          go_quiet (fail)
          obtain ⟨z1, rfl⟩ : ∃ z1, z1 = nq := ⟨_, rfl⟩
          cases bb
          · go_wp2
            go_roundw
            case rel =>
              refine ⟨j + 1, by omega, by go_num, Lib.hid fun i l hi hl => ?_, q2 + z1, by rw [hwph.out, World.drewN_drewN]⟩
              rcases Nat.lt_or_ge i j with h | h
              · exact hy.out i l h hl
              · obtain rfl : i = j := by omega
                rw [hxsh.out] at hl
                injection hl with hl
                subst hl
                rw [hpl.out.1, hpl.out.2]
                simpa using hbbh.out
            case measure => simp [intOf]; omega
          · go_wp2
            rw [Exit.noGoto_ret]
            go_ret
            exact ⟨⟨t, ⟨hit, ht, hx.out, fun _ => ⟨xs, List.mem_of_getElem? hxsh.out, by rw [hpl.out.1, hpl.out.2]; simpa using hbbh.out⟩⟩, rfl⟩, q + (q2 + z1), by rw [hwph.out, hwoh.out, World.drewN_drewN, World.drewN_drewN]⟩
        · obtain rfl : j = n := by omega
          go_wp2
          go_roundw
          case rel =>
            refine ⟨t + 1, by omega, by omega, by go_num, Lib.hid fun k h1 h2 l hl' => ?_, q + q2, by rw [hwph.out, hwoh.out, World.drewN_drewN]⟩
            by_cases e : k = t
            · subst e
              obtain ⟨i', hi'⟩ := List.mem_iff_getElem?.1 hl'
              exact hy.out i' l (by have := (List.getElem?_eq_some_iff.1 hi').1; omega) hi'
            · exact hx.out k h1 (by omega) l hl'
          case measure => simp [intOf]; omega
    · obtain rfl : t = m := by omega
      go_wp2
      try rw [Exit.noGoto_ret]
      go_ret
      exact ⟨⟨t, ⟨hit, ht, hx.out, fun h => absurd h (by omega)⟩, rfl⟩, q, hwoh.out⟩

set_option maxHeartbeats 1000000 in
theorem areMatches_any (A : Option Addr) (n c B : Nat) (sizes : List Int) (A' : Option Addr) (n' c' B' : Nat) (rows : List (Option Addr × Nat × Nat)) (ms : List (List Int)) (m : Nat) (w : World) (hn1 : 1 ≤ n) (hn : n ≤ 16) (hm : m ≤ 2000) (hml : ms.length = n) (hz : ∀ z ∈ sizes, 0 ≤ z ∧ z ≤ 2000)
    (hM : ∀ (k : Nat) (l : List Int) (z : Int), ms[k]? = some l → sizes[k]? = some z → IsMatch m l z) (hA : Nums w B A n sizes) (hA' : RowsN w B' A' n' rows ms) :
    Calls Tryz.prog 67 #[.int .i64 m, .slice A n c, .slice A' n' c'] w fun e w' => e = .returned (.bool true) ∧ w' = w := by
  have hl := hA.len
  obtain rfl : n' = n := by have := hA'.len; omega
  have hS := Lib.hid (fun (A1 : Option Addr) (c1 : Nat) (l : List Int) (z : Int) (h1 : 0 ≤ z) (h2 : z ≤ 2000) (h3 : IsMatch m l z) (h4 : Nums w B' A1 m l) => aMatch_any A1 m c1 B' l z w hm h1 h2 h3 h4)
  have hMh := Lib.hid hM
  have hzh := Lib.hid hz
  have g1 : ((n' : Int) == 0) = false := by simp; omega
  have g2 : decide ((16 : Int) < (n' : Int)) = false := by simp; omega
  have g3 : ((n' : Int) != (n' : Int)) = false := by simp
  clear hM hz
  go_enter Tryz.func67, Tryz.ntmps67
  go_wp2
  go_loop [7, 8, 26] (fun _ _ s26 => ∃ (j : Nat), j ≤ n' ∧ s26 = .int .i64 j) (fun _ _ s26 => n' - (intOf s26).toNat)
  case atStart => exact ⟨0, Nat.zero_le _, rfl⟩
  case round =>
    obtain ⟨j, hj, rfl⟩ := hrel
    by_cases hlt : j < n'
    · obtain ⟨b, o, A1, n1, c1, xs, rfl, hb, hxs, hc, hN⟩ := hA'.at_ hlt
      obtain ⟨b2, o2, z, rfl, hb2, hz2, hc2⟩ := hA.at_ hlt
      have hmm := hMh.out j xs z hxs hz2
      have hzz := hzh.out z (List.mem_of_getElem? hz2)
      have hn1m : n1 = m := by rw [← hN.len]; exact hmm.1
      subst hn1m
      have hcall := Lib.hid (hS.out A1 c1 xs z hzz.1 hzz.2 hmm hN)
      have g4 : ((n1 : Int) != (n1 : Int)) = false := by simp
      clear hxs hz2 hmm hN
      go_wp2_with (go_at_call 99; refine hcall.out.mono ?_; rintro e w' ⟨rfl, rfl⟩)
      go_round
      case rel => exact ⟨j + 1, by omega, by go_num⟩
      case measure => simp [intOf]; omega
    · obtain rfl : j = n' := by omega
      go_wp2
      go_ret
      exact ⟨rfl, rfl⟩

/-- No matches may not be. -/
theorem areMatches_nil (m : Nat) (w : World) : Calls Tryz.prog 67 #[.int .i64 m, .slice none 0 0, .slice none 0 0] w fun e w' => e = .returned (.bool false) ∧ w' = w := by
  go_enter Tryz.func67, Tryz.ntmps67
  go_wp2
  go_ret
  exact ⟨rfl, rfl⟩
end Go.Proofs.YtoephlkfejcadaaGreat

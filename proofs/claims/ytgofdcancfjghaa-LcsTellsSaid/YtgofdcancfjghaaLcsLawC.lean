/- Proved here, out of the contracts of package lcs: the walk of LcsGreatest. -/
import Derived.Test.YtgofdcancfjghaaLcsLawA
namespace Go.Proofs.Ytgofdcancfjghaa
open Go.RowKit
set_option linter.unusedVariables false

/-- A slice of pairs of bytes that reads as ps. -/
def Pts (w : World) (B : Nat) (A : Option Addr) (n : Nat) (ps : List (Nat × Nat)) : Prop :=
  ps.length = n ∧ (∀ p ∈ ps, p.1 ≤ 255 ∧ p.2 ≤ 255) ∧ (0 < n → ∃ b o : Nat, A = some ⟨b, o, none⟩ ∧ b < B ∧ ∀ j p, ps[j]? = some p → w.cell? ⟨b, o + j * 2, none⟩ = some (.int .u8 p.1) ∧ w.cell? ⟨b, o + j * 2 + 1, none⟩ = some (.int .u8 p.2))
theorem Pts.at_ {w : World} {B n k : Nat} {A : Option Addr} {ps : List (Nat × Nat)} (h : Pts w B A n ps) (hk : k < n) : ∃ b o x y, A = some ⟨b, o, none⟩ ∧ b < B ∧ ps[k]? = some (x, y) ∧ x ≤ 255 ∧ y ≤ 255 ∧ w.cell? ⟨b, o + k * 2, none⟩ = some (.int .u8 x) ∧ w.cell? ⟨b, o + k * 2 + 1, none⟩ = some (.int .u8 y) := by
  obtain ⟨b, o, rfl, hb, hc⟩ := h.2.2 (by omega)
  have hl : k < ps.length := by have := h.1; omega
  have hm := h.2.1 ps[k] (List.getElem_mem hl)
  obtain ⟨h1, h2⟩ := hc k ps[k] (List.getElem?_eq_getElem hl)
  exact ⟨b, o, ps[k].1, ps[k].2, rfl, hb, List.getElem?_eq_getElem hl, hm.1, hm.2, h1, h2⟩
theorem Pts.below {w w' : World} {B n : Nat} {A : Option Addr} {ps : List (Nat × Nat)} (h : Pts w B A n ps) (hb : Below B w w') : Pts w' B A n ps :=
  ⟨h.1, h.2.1, fun hn => by
    obtain ⟨b, o, e, hlt, hc⟩ := h.2.2 hn
    exact ⟨b, o, e, hlt, fun j p hp => ⟨(hb.cell (p := ⟨b, o + j * 2, none⟩) hlt).trans (hc j p hp).1, (hb.cell (p := ⟨b, o + j * 2 + 1, none⟩) hlt).trans (hc j p hp).2⟩⟩⟩

section
variable {Pr : World → Nat → (Nat → Prop) → List Int → List Int → Prop} (H : LcsOk Pr)
include H

set_option maxHeartbeats 2000000 in
theorem LcsGreatest_walk (A : Option Addr) (n c : Nat) (a : List Int) (A' : Option Addr) (n' c' : Nat) (b : List Int) (A2 : Option Addr) (n2 c2 : Nat) (ps : List (Nat × Nat)) (w : World) (hA : ArgNums w A n c a) (hA' : ArgNums w A' n' c' b) (h2c : n2 ≤ c2) (hc2 : c2 ≤ maxLen) (hP : Pts w w.heap.size A2 n2 ps) :
    Calls Try.prog 5 #[.slice A n c, .slice A' n' c', .slice A2 n2 c2] w fun e w' => e = .returned (.bool true) ∧ Below w.heap.size w w' := by
  have hnc := hA.1
  have hcm := hA.2.1
  have hnc' := hA'.1
  have hcm' := hA'.2.1
  unfold maxLen at hcm hcm' hc2
  have hal := Lib.hid hA.2.2.len
  have hal' := Lib.hid hA'.2.2.len
  by_cases g1 : 40 < n
  · go_enter Try.func5, Try.ntmps5
    go_wp2_with fail
    refine (awake_any H _).mono ?_
    rintro e w1 ⟨rfl, hB1⟩
    go_wp2
    go_ret
    exact ⟨rfl, hB1⟩
  by_cases g2 : 40 < n'
  · go_enter Try.func5, Try.ntmps5
    go_wp2_with fail
    refine (awake_any H _).mono ?_
    rintro e w1 ⟨rfl, hB1⟩
    go_wp2
    go_ret
    exact ⟨rfl, hB1⟩
  by_cases g0 : 100 < n2
  · go_enter Try.func5, Try.ntmps5
    go_wp2_with fail
    refine (awake_any H _).mono ?_
    rintro e w1 ⟨rfl, hB1⟩
    go_wp2
    go_ret
    exact ⟨rfl, hB1⟩
  have g3 : n ≤ 40 := by omega
  have g4 : n' ≤ 40 := by omega
  have g5 : n2 ≤ 100 := by omega
  have l1 := Lib.hid (long_of H A A' n n' c c' a b w hA hA' (by omega) (by omega))
  go_enter Try.func5, Try.ntmps5
  go_wp2_with fail
  refine (awake_any H _).mono ?_
  rintro e w1 ⟨rfl, hB1⟩
  go_wp2
  go_loopw [8, 9, 10, 11] (fun si sj sn sk wr => ∃ (i j cnt k q : Nat), k ≤ n2 ∧ i ≤ 256 ∧ j ≤ 256 ∧ si = .int .i64 i ∧ sj = .int .i64 j ∧ sn = .int .i64 cnt ∧ sk = .int .i64 k ∧ Hid (cnt + lcsAt a b i j ≤ lcsL a b) ∧ Hid (wr = w1.drewN q)) (fun _ _ _ sk _ => n2 - (intOf sk).toNat)
  case atStart => exact ⟨0, 0, 0, 0, 0, Nat.zero_le _, Nat.zero_le _, Nat.zero_le _, rfl, rfl, rfl, rfl, Lib.hid (by rw [lcsAt_zero]; omega), Lib.hid rfl⟩
  case round =>
    obtain ⟨i, j, cnt, k, q, hk, hi, hj, rfl, rfl, rfl, rfl, hc, hwr⟩ := hrel
    have hBw : Below w.heap.size w wr := by rw [hwr.out]; exact below_drewN hB1 q
    have hcb : cnt ≤ 40 := by
      have := hc.out
      have := lcs_le_left a b
      have := hal.out
      omega
    by_cases hlt : k < n2
    · obtain ⟨bp, op, x, y, rfl, hbp, hpk, hx255, hy255, hpx, hpy⟩ := (hP.below hBw).at_ (k := k) hlt
      by_cases b1 : i ≤ x
      · by_cases b2 : j ≤ y
        · by_cases b3 : x < n
          · by_cases b4 : y < n'
            · obtain ⟨ba, oa, u, rfl, hba, hu, huc⟩ := (hA.2.2.below hBw).at_ (k := x) b3
              obtain ⟨bb, ob, v, rfl, hbb, hv, hvc⟩ := (hA'.2.2.below hBw).at_ (k := y) b4
              have i1 : (0 : Int) ≤ (x : Int) := by omega
              have i2 : (x : Int) < (n : Int) := by omega
              have i3 : (0 : Int) ≤ (y : Int) := by omega
              have i4 : (y : Int) < (n' : Int) := by omega
              by_cases b5 : u = v
              · have hb : (u == v) = true := by simpa using b5
                have hst := lcsAt_take b1 b2 hu (b5 ▸ hv)
                have hc2 := Lib.hid (show cnt + 1 + lcsAt a b (x + 1) (y + 1) ≤ lcsL a b from by have := hc.out; omega)
                clear b5 hst hu hv
                go_wp2
                go_quiet (fail)
                go_wp2
                go_roundw
                case rel => exact ⟨x + 1, y + 1, cnt + 1, k + 1, q + nq, by omega, by omega, by omega, by go_num, by go_num, by go_num, by go_num, hc2, Lib.hid (by rw [hwr.out, World.drewN_drewN])⟩
                case measure => simp [intOf]; omega
              · have hb : (u == v) = false := by simpa using b5
                clear b5 hu hv
                go_wp2
                go_quiet (fail)
                go_wp2
                go_roundw
                case rel => exact ⟨i, j, cnt, k + 1, q + nq, by omega, hi, hj, rfl, rfl, rfl, by go_num, hc, Lib.hid (by rw [hwr.out, World.drewN_drewN])⟩
                case measure => simp [intOf]; omega
            · go_wp2
              go_quiet (fail)
              go_wp2
              go_roundw
              case rel => exact ⟨i, j, cnt, k + 1, q + nq, by omega, hi, hj, rfl, rfl, rfl, by go_num, hc, Lib.hid (by rw [hwr.out, World.drewN_drewN])⟩
              case measure => simp [intOf]; omega
          · go_wp2
            go_quiet (fail)
            go_wp2
            go_roundw
            case rel => exact ⟨i, j, cnt, k + 1, q + nq, by omega, hi, hj, rfl, rfl, rfl, by go_num, hc, Lib.hid (by rw [hwr.out, World.drewN_drewN])⟩
            case measure => simp [intOf]; omega
        · go_wp2
          go_quiet (fail)
          go_wp2
          go_roundw
          case rel => exact ⟨i, j, cnt, k + 1, q + nq, by omega, hi, hj, rfl, rfl, rfl, by go_num, hc, Lib.hid (by rw [hwr.out, World.drewN_drewN])⟩
          case measure => simp [intOf]; omega
      · go_wp2
        go_quiet (fail)
        go_wp2
        go_roundw
        case rel => exact ⟨i, j, cnt, k + 1, q + nq, by omega, hi, hj, rfl, rfl, rfl, by go_num, hc, Lib.hid (by rw [hwr.out, World.drewN_drewN])⟩
        case measure => simp [intOf]; omega
    · have hle : Hid (cnt ≤ lcsL a b) := Lib.hid (by have := hc.out; omega)
      obtain ⟨L, hL⟩ : ∃ L, L = lcsL a b := ⟨_, rfl⟩
      have hl1 := l1.out wr hBw
      have hle' := hle.out
      rw [← hL] at hl1 hle'
      have hl1' := Lib.hid hl1
      have hci : (cnt : Int) ≤ (L : Int) := by omega
      clear hL hl1
      go_wp2_with (go_at_call 17; refine hl1'.out.mono ?_; rintro e wk ⟨rfl, hBk⟩)
      go_ret
      exact ⟨rfl, hBk⟩
end
end Go.Proofs.Ytgofdcancfjghaa

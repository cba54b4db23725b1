/- Proved here, out of the contracts of package lcs: the walk of LcsEnds. -/
import Derived.Test.YtgofdcancfjghaaLcsLawA
import Derived.Deep.RegionWith
import Derived.Deep.DeepCutAuto
namespace Go.Proofs.Ytgofdcancfjghaa
open Go.RowKit
set_option linter.unusedVariables false

theorem mt_ends {p a b : List Int} {i : Nat} (h : i < p.length) : (mt (p ++ a) (p ++ b) 0)[i]? = some (i : Int) := by
  rw [mt_front, List.getElem?_append_left (by simpa using h)]
  simp [h]
theorem lcs_ends (p a b q : List Int) : lcsL (p ++ (a ++ q)) (p ++ (b ++ q)) = p.length + lcsL a b + q.length := by
  rw [lcs_front, lcs_back]; omega

section
variable {Pr : World → Nat → (Nat → Prop) → List Int → List Int → Prop} (H : LcsOk Pr)
include H

omit H in
theorem both_of {w : World} {A A' : Option Addr} {n n' c c' : Nat} {a b : List Int} (hn : n ≤ 1000) (hn' : n' ≤ 1000) (hA : Nums w w.heap.size A n a) (hA' : Nums w w.heap.size A' n' b) :
    Calls Try.prog 19 #[.slice A n c, .slice A' n' c'] w fun e w' => ∃ Ar cr, e = .returned (.slice Ar (n + n') cr) ∧ n + n' ≤ cr ∧ cr ≤ maxLen ∧ Nums w' w'.heap.size Ar (n + n') (a ++ b) ∧ Below w.heap.size w w' := by
  refine (both_any A A' n n' c c' w.heap.size w.heap.size a b w hn hn' (Nat.le_refl _) (Nat.le_refl _) hA hA').mono ?_
  rintro e w' ⟨Ar, nr, cr, rfl, hnr, h1, h2, h3, h4⟩
  have hnn : nr = n + n' := by rw [hnr, List.length_append, hA.len, hA'.len]
  subst hnn
  exact ⟨Ar, cr, rfl, h1, h2, h3, h4⟩

set_option maxRecDepth 100000 in
set_option maxHeartbeats 40000000 in
theorem LcsEnds_walk (A : Option Addr) (n c : Nat) (a : List Int) (A' : Option Addr) (n' c' : Nat) (b : List Int) (E0 : Option Addr) (m0 k0 : Nat) (p : List Int) (E1 : Option Addr) (m1 k1 : Nat) (r : List Int) (w : World) (hA : ArgNums w A n c a) (hA' : ArgNums w A' n' c' b) (hE0 : ArgNums w E0 m0 k0 p) (hE1 : ArgNums w E1 m1 k1 r) :
    Calls Try.prog 7 #[.slice A n c, .slice A' n' c', .agg #[.slice E0 m0 k0, .slice E1 m1 k1]] w fun e w' => e = .returned (.bool true) ∧ Below w.heap.size w w' := by
  have hcm := hA.2.1
  have hcm' := hA'.2.1
  have hnc := hA.1
  have hnc' := hA'.1
  have hcm0 := hE0.2.1
  have hcm1 := hE1.2.1
  have hnc0 := hE0.1
  have hnc1 := hE1.1
  unfold maxLen at hcm hcm' hcm0 hcm1
  have hal := Lib.hid hA.2.2.len
  have hpl := Lib.hid hE0.2.2.len
  have hrl := Lib.hid hE1.2.2.len
  have hB0 : Below w.heap.size w (w.alloc (.cells #[.slice E0 m0 k0, .slice E1 m1 k1] 37)) := (Below.refl _ _).alloc (Nat.le_refl _) _
  have hs0 : (w.alloc (.cells #[.slice E0 m0 k0, .slice E1 m1 k1] 37)).heap.size = w.heap.size + 1 := by simp
  have hbx : ∀ W, Below (w.heap.size + 1) (w.alloc (.cells #[.slice E0 m0 k0, .slice E1 m1 k1] 37)) W → W.cell? ⟨w.heap.size, 0, none⟩ = some (.slice E0 m0 k0) ∧ W.cell? ⟨w.heap.size, 1, none⟩ = some (.slice E1 m1 k1) ∧ Below w.heap.size w W := fun W hB =>
    ⟨by rw [hB.cell (p := ⟨w.heap.size, 0, none⟩) (by show w.heap.size < _; omega), World.cell?_alloc_mark]; rfl, by rw [hB.cell (p := ⟨w.heap.size, 1, none⟩) (by show w.heap.size < _; omega), World.cell?_alloc_mark]; rfl, hB0.trans (hB.mono (by omega))⟩
  have hbxh := Lib.hid hbx
  have hs0h := Lib.hid hs0
  clear hs0 hbx hB0
  by_cases g1 : 40 < n
  · go_enter Try.func7, Try.ntmps7
    go_wp2_with fail
    refine (awake_any H _).mono ?_
    rintro e w1 ⟨rfl, hB1⟩
    rw [hs0h.out] at hB1
    obtain ⟨d0, d1, hB⟩ := hbxh.out w1 hB1
    go_wp2
    go_ret
    exact ⟨rfl, hB⟩
  by_cases g2 : 40 < n'
  · go_enter Try.func7, Try.ntmps7
    go_wp2_with fail
    refine (awake_any H _).mono ?_
    rintro e w1 ⟨rfl, hB1⟩
    rw [hs0h.out] at hB1
    obtain ⟨d0, d1, hB⟩ := hbxh.out w1 hB1
    go_wp2
    go_ret
    exact ⟨rfl, hB⟩
  by_cases g3 : 20 < m0
  · go_enter Try.func7, Try.ntmps7
    go_wp2_with fail
    refine (awake_any H _).mono ?_
    rintro e w1 ⟨rfl, hB1⟩
    rw [hs0h.out] at hB1
    obtain ⟨d0, d1, hB⟩ := hbxh.out w1 hB1
    go_wp2
    go_ret
    exact ⟨rfl, hB⟩
  by_cases g4 : 20 < m1
  · go_enter Try.func7, Try.ntmps7
    go_wp2_with fail
    refine (awake_any H _).mono ?_
    rintro e w1 ⟨rfl, hB1⟩
    rw [hs0h.out] at hB1
    obtain ⟨d0, d1, hB⟩ := hbxh.out w1 hB1
    go_wp2
    go_ret
    exact ⟨rfl, hB⟩
  go_enter Try.func7, Try.ntmps7
  go_wp2_with fail
  refine (awake_any H _).mono ?_
  rintro e w1 ⟨rfl, hB1⟩
  rw [hs0h.out] at hB1
  obtain ⟨d0, d1, hB⟩ := hbxh.out w1 hB1
  have hBc := Lib.hid hB1.drew
  clear hB1 hB
  go_upto_region 4 with fail
  go_cut [8] (fun sx wx => ∃ (X : Option Addr) (cX : Nat), sx = .slice X (m0 + (n + m1)) cX ∧ m0 + (n + m1) ≤ cX ∧ cX ≤ maxLen ∧ Nums wx wx.heap.size X (m0 + (n + m1)) (p ++ (a ++ r)) ∧ Hid (Below (w.heap.size + 1) (w.alloc (.cells #[.slice E0 m0 k0, .slice E1 m1 k1] 37)) wx))
  case first =>
    go_region_with (go_at_call 19; first
      | ((with_reducible refine (both_of (A := A) (A' := E1) (c := c) (c' := k1) (by omega) (by omega) (hA.up (hbxh.out _ hBc.out).2.2) (hE1.up (hbxh.out _ hBc.out).2.2)).mono ?_); rintro e w2 ⟨X1, cX1, rfl, hx1, hx2, hx3, hBn⟩; have hBd := Lib.hid (hBc.out.trans (hBn.mono (by have := hBc.out.size; rw [hs0h.out] at this; exact this))); obtain ⟨d2, d3, hBw⟩ := hbxh.out w2 hBd.out; clear hBn)
      | (refine (both_of (A := E0) (A' := X1) (c := k0) (c' := cX1) (by omega) (by omega) (hE0.up (hbxh.out _ hBd.out).2.2) hx3).mono ?_; rintro e w3 ⟨X2, cX2, rfl, hy1, hy2, hy3, hBn⟩; have hBe := Lib.hid (hBd.out.trans (hBn.mono (by have := hBd.out.size; rw [hs0h.out] at this; exact this))); obtain ⟨d4, d5, hBw3⟩ := hbxh.out w3 hBe.out; clear hBn))
    all_goals (go_wp2_with fail; go_meet; exact ⟨X2, cX2, rfl, hy1, hy2, hy3, hBe⟩)
  case rest =>
  obtain ⟨Xa, cXa, rfl, hxa1, hxa2, hxa3, hBq⟩ := hcut
  clear hBc d0 d1
  have hBc := Lib.hid hBq.out.drew
  obtain ⟨d0, d1, hBz⟩ := hbxh.out wc hBq.out
  have hxa3d : Nums wc.drew wc.heap.size Xa (m0 + (n + m1)) (p ++ (a ++ r)) := hxa3.drew
  have hxs : wc.heap.size ≤ wc.drew.heap.size := Nat.le_refl _
  clear hBz
  go_upto_region 5 with fail
  go_cut [9] (fun sx wx => ∃ (X : Option Addr) (cX : Nat), sx = .slice X (m0 + (n' + m1)) cX ∧ m0 + (n' + m1) ≤ cX ∧ cX ≤ maxLen ∧ Nums wx wx.heap.size X (m0 + (n' + m1)) (p ++ (b ++ r)) ∧ Hid (Below (w.heap.size + 1) (w.alloc (.cells #[.slice E0 m0 k0, .slice E1 m1 k1] 37)) wx) ∧ Nums wx wx.heap.size Xa (m0 + (n + m1)) (p ++ (a ++ r)))
  case first =>
    go_region_with (go_at_call 19; first
      | ((with_reducible refine (both_of (A := A') (A' := E1) (c := c') (c' := k1) (by omega) (by omega) (hA'.up (hbxh.out _ hBc.out).2.2) (hE1.up (hbxh.out _ hBc.out).2.2)).mono ?_); rintro e w2 ⟨Y1, cY1, rfl, hx1, hx2, hx3, hBn⟩; have hBd := Lib.hid (hBc.out.trans (hBn.mono (by have := hBc.out.size; rw [hs0h.out] at this; exact this))); obtain ⟨d2, d3, hBw⟩ := hbxh.out w2 hBd.out; have hxa4 := (hxa3d.below hBn).more (Nat.le_trans hxs hBn.size); clear hBn)
      | (refine (both_of (A := E0) (A' := Y1) (c := k0) (c' := cY1) (by omega) (by omega) (hE0.up (hbxh.out _ hBd.out).2.2) hx3).mono ?_; rintro e w3 ⟨Y2, cY2, rfl, hy1, hy2, hy3, hBn⟩; have hBe := Lib.hid (hBd.out.trans (hBn.mono (by have := hBd.out.size; rw [hs0h.out] at this; exact this))); obtain ⟨d4, d5, hBw3⟩ := hbxh.out w3 hBe.out; have hxa5 := (hxa4.below hBn).more hBn.size; clear hBn))
    all_goals (go_wp2_with fail; go_meet; exact ⟨Y2, cY2, rfl, hy1, hy2, hy3, hBe, hxa5⟩)
  case rest =>
  obtain ⟨Xb, cXb, rfl, hxb1, hxb2, hxb3, hBq2, hxa6⟩ := hcut
  obtain ⟨f0, f1, hBz⟩ := hbxh.out wc hBq2.out
  have hN := Lib.hid (H.new_ok Xa Xb _ _ cXa cXb _ _ wc (by omega) (by omega) hxa1 hxb1 hxa2 hxb2 hxa6 hxb3)
  have hMt := Lib.hid H.match_any
  have hme := Lib.hid (fun (i : Nat) (h : i < p.length) => mt_ends (p := p) (a := a ++ r) (b := b ++ r) h)
  have hlen := Lib.hid (lcs_ends p a b r)
  have hxl : Hid ((p ++ (a ++ r)).length = m0 + (n + m1)) := Lib.hid hxa6.len
  obtain ⟨xs, hxs2⟩ : ∃ xs, xs = p ++ (a ++ r) := ⟨_, rfl⟩
  obtain ⟨ys, hys2⟩ : ∃ ys, ys = p ++ (b ++ r) := ⟨_, rfl⟩
  rw [← hxs2, ← hys2] at hN hme hlen
  rw [← hxs2] at hxl
  have hbs := hBq2.out.size
  rw [hs0h.out] at hbs
  clear hxa3 hxb3 hxa6 hxs2 hys2 hxa3d hBc
  go_wp2_with (first
    | (go_at_call 11; refine hN.out.mono ?_; rintro e w5 ⟨T, F, rfl, hP, hF, hBn⟩; have hB5 := Lib.hid (hBq2.out.trans (hBn.mono hbs)); have hs5 := hBn.size; clear hBn)
    | (go_at_call 13; refine (hMt.out T F _ _ _ hP).mono ?_; rintro e w6 ⟨Am, nm, cm, F6, rfl, hnm, hnc6, hcm6, hm, hAF, hP6, hb6, hF6⟩; have hB6 := Lib.hid (hB5.out.trans (hb6.below (by omega) (fun k hk => by have := hF k hk; omega))); have hF60 : Hid (∀ k, F6 k → w.heap.size + 1 ≤ k) := Lib.hid (fun k hk => by rcases hF6 k hk with h | h; (have := hF k h; omega); omega); obtain rfl : m0 + (n + m1) = nm := (hnm.trans hxl.out).symm; obtain ⟨g0', g1', hBw6⟩ := hbxh.out w6 hB6.out; have hs6 := hb6.size; clear hF6 hb6 hnm hAF hP hF))
  go_loop [13] (fun si => ∃ k : Nat, k ≤ m0 ∧ si = .int .i64 k) (fun si => m0 - (intOf si).toNat)
  case atStart => exact ⟨0, Nat.zero_le _, rfl⟩
  case round =>
    obtain ⟨k, hk, rfl⟩ := hrel
    by_cases hlt : k < m0
    · obtain ⟨bm, om, v, rfl, hbm, hv, hvc⟩ := hm.at_ (k := k) (by omega)
      rw [hme.out k (by have := hpl.out; omega)] at hv
      injection hv with hv
      subst hv
      have hkn : ¬ ((m0 + (n + m1) : Nat) : Int) ≤ (k : Int) := by omega
      have hkn2 : (k : Int) < ((m0 + (n + m1) : Nat) : Int) := by omega
      have hkn3 : decide (m0 + (n + m1) ≤ k) = false := by simp; omega
      go_wp2
      go_round
      case rel => exact ⟨k + 1, by omega, by go_num⟩
      case measure => simp [intOf]; omega
    · obtain rfl : k = m0 := by omega
      have hl1 := lcs_le_left a b
      rw [hal.out] at hl1
      obtain ⟨L, hL⟩ : ∃ L, L = lcsL a b := ⟨_, rfl⟩
      have hlen2 := hlen.out
      rw [← hL, hpl.out, hrl.out] at hlen2
      obtain ⟨Z, hZ⟩ : ∃ Z, Z = lcsL xs ys := ⟨_, rfl⟩
      rw [← hZ] at hlen2
      rw [← hL] at hl1
      have hLz : Hid (∀ (W : World) (G : Nat → Prop), Pr W T G xs ys → Calls Try.prog 15 #[.pointer (some ⟨T, 0, none⟩)] W fun e w' => e = .returned (.int .i64 Z) ∧ PrAfter Pr W w' T G xs ys) := Lib.hid (fun W G h => (H.len_any T G xs ys W h).mono fun e w' ⟨h1, h2⟩ => ⟨by rw [h1, hZ], h2⟩)
      have hLo : Hid (∀ (W : World), Below w.heap.size w W → Calls Try.prog 17 #[.slice A n c, .slice A' n' c'] W fun e w' => e = .returned (.int .i64 L) ∧ Below W.heap.size W w') := Lib.hid (fun W h => (long_any H A A' n n' c c' a b W (by omega) (by omega) hnc hnc' hA.2.1 hA'.2.1 (hA.up h) (hA'.up h)).mono fun e w' ⟨h1, h2⟩ => ⟨by rw [h1, hL], h2⟩)
      have e1 : IntKind.i64.wrap ((k : Int) + (L : Int)) = (k : Int) + (L : Int) := IntWalk.i64_in _ (by omega)
      have e2 : IntKind.i64.wrap ((k : Int) + (L : Int) + (m1 : Int)) = (Z : Int) := by rw [IntWalk.i64_in _ (by omega)]; omega
      clear hL hZ hlen2
      have hPc : Pr w6.drew T F6 xs ys := H.kept hP6 (Below.refl _ _).drew
      have hBc := Lib.hid hB6.out.drew
      have d6 : w6.drew.cell? ⟨w.heap.size, 0, none⟩ = some (.slice E0 k k0) := g0'
      have d7 : w6.drew.cell? ⟨w.heap.size, 1, none⟩ = some (.slice E1 m1 k1) := g1'
      have hFc : Hid (∀ j, F6 j → w.heap.size + 1 ≤ j) := hF60
      have hsc : w.heap.size + 1 ≤ w6.drew.heap.size := by have := hB6.out.size; rw [hs0h.out] at this; exact this
      clear hB6 hF60 hP6 hm hme hN hMt
      go_upto_region 13 with fail
      go_cut [6] (fun s6 wx => s6 = .bool true ∧ Below w.heap.size w wx)
      case rest =>
        obtain ⟨rfl, hBf⟩ := hcut
        go_wp2
        go_ret
        exact ⟨rfl, hBf⟩
      case first =>
      go_region_with (first
        | (go_at_call 15; refine (hLz.out _ _ hPc).mono ?_; rintro e wk ⟨rfl, F7, hP7, hb7, hF7⟩; have hBk := Lib.hid (hBc.out.trans (hb7.below hsc hFc.out)); have hsk := Nat.le_trans hsc hb7.size; obtain ⟨q0, q1, _⟩ := hbxh.out wk hBk.out; clear hPc hBc hF7 hb7 hsc; have hPc := hP7; have hBc := hBk; have hsc := hsk; clear hP7 hBk hsk)
        | (go_at_call 17; refine (hLo.out _ (hbxh.out _ hBc.out).2.2).mono ?_; rintro e wk ⟨rfl, hBn⟩; have hBk := Lib.hid (hBc.out.trans (hBn.mono hsc)); have hsk := Nat.le_trans hsc hBn.size; have hP7 := H.kept hPc hBn; obtain ⟨q0, q1, _⟩ := hbxh.out wk hBk.out; clear hPc hBc hBn hsc; have hPc := hP7; have hBc := hBk; have hsc := hsk; clear hP7 hBk hsk))
      all_goals (go_wp2_with fail; go_meet; refine ⟨?_, (hbxh.out _ hBc.out).2.2⟩; first | with_reducible rfl | go_simp)
end
end Go.Proofs.Ytgofdcancfjghaa

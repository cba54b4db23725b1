/- Proved here: texts joined: ZlLawC. -/
import Derived.Test.YtidfhgocnglnjaaBz23
import Derived.Test.YtidfhgocnglnjaaBz37
/- Proved here: what the statement ZealEnds says, by the contracts of package zeal. -/
namespace Go.Proofs.Ytidfhgocnglnjaa
open Go.RowKit
set_option linter.unusedVariables false
set_option maxRecDepth 100000

section
variable (H : ZealOk)
include H

set_option maxHeartbeats 16000000 in
theorem ZealEnds_walk (v : PcV) (p : Pc) (w : World) (h0 : PcR w w.heap.size v p) :
    Calls Try.prog 6 #[.agg #[.bool p.1, .slice v.1.1 v.1.2.1 v.1.2.2, .slice v.2.1.1 v.2.1.2.1 v.2.1.2.2, .slice v.2.2.1 v.2.2.2.1 v.2.2.2.2]] w fun e w' => e = .returned (.bool true) ∧ Below w.heap.size w w' := by
  obtain ⟨cf, t, bs, ss⟩ := p
  obtain ⟨⟨A1, n1, c1⟩, ⟨A2, n2, c2⟩, ⟨A3, n3, c3⟩⟩ := v
  dsimp only
  have hns : ss.length = n3 := by obtain ⟨-, -, -, -, rr, h⟩ := h0; exact h.len
  obtain ⟨W0, hW0⟩ : ∃ W0, W0 = w.alloc (.cells #[.bool cf, .slice A1 n1 c1, .slice A2 n2 c2, .slice A3 n3 c3] 25) := ⟨_, rfl⟩
  have k0 : W0.heap[w.heap.size]? = some (pcObj cf ((A1, n1, c1), (A2, n2, c2), (A3, n3, c3))) := by rw [hW0]; exact one_a w _
  have hb0 : Below w.heap.size w W0 := by rw [hW0]; exact below_alloc (Below.refl _ _) _
  have hlt : w.heap.size < W0.heap.size := (Array.getElem?_eq_some_iff.1 k0).1
  have hcells : Hid (∀ W, Below W0.heap.size W0 W → W.cell? ⟨w.heap.size, 0, none⟩ = some (.bool cf) ∧ W.cell? ⟨w.heap.size, 1, none⟩ = some (.slice A1 n1 c1) ∧ W.cell? ⟨w.heap.size, 2, none⟩ = some (.slice A2 n2 c2) ∧ W.cell? ⟨w.heap.size, 3, none⟩ = some (.slice A3 n3 c3)) := Lib.hid (fun W hW => by
    have e := (hW.block _ hlt).trans k0
    obtain ⟨x0, x1, x2, x3, -⟩ := piece_at e
    exact ⟨x0, x1, x2, x3⟩)
  have haw := Lib.hid (zAwake_any H W0)
  have hW0h := Lib.hid hW0
  have hb0h := Lib.hid hb0
  obtain ⟨f2, hf2⟩ : ∃ f2, fewP [(cf, t, bs, ss)] = f2 := ⟨_, rfl⟩
  have hF2 : Hid (∀ W g, Below W0.heap.size W0 W → W.heap[g]? = some (pcObj cf ((A1, n1, c1), (A2, n2, c2), (A3, n3, c3))) → Calls Try.prog 9 #[.slice (some ⟨g, 0, none⟩) 1 1] W fun e w' => e = .returned (.bool f2) ∧ ∃ q, w' = W.drewN q) := Lib.hid (fun W g hb hg => by
    have := pFew_any (some ⟨g, 0, none⟩) 1 1 W.heap.size _ [(cf, t, bs, ss)] W (by decide) (pcs_one (p := (cf, t, bs, ss)) hg (h0.up (hb0.trans (hb.mono hb0.size))))
    rw [hf2] at this
    exact this)
  have hf2h := Lib.hid hf2
  have h0h := Lib.hid h0
  clear hW0 k0 hb0 hlt hf2 h0
  go_enter Try.func6, Try.ntmps6
  go_upto_region 1 with fail
  rw [← hW0h.out]
  go_upto_region 2 with (go_at_call 8; refine haw.out.mono ?_; rintro e w1 ⟨rfl, hb1⟩; have hB1 := Lib.hid hb1; clear hb1)
  obtain ⟨x0, x1, x2, x3⟩ := hcells.out w1 hB1.out
  obtain ⟨y0, y1, y2, y3⟩ := hcells.out (w1.alloc (pcObj cf ((A1, n1, c1), (A2, n2, c2), (A3, n3, c3)))) (below_alloc hB1.out _)
  have hgo : Hid (∀ q, Below w.heap.size w ((w1.alloc (pcObj cf ((A1, n1, c1), (A2, n2, c2), (A3, n3, c3)))).drewN q)) := Lib.hid (fun q => below_drewN (hb0h.out.trans ((below_alloc hB1.out _).mono hb0h.out.size)) q)
  cases f2
  · go_wp2_with (go_at_call 9; refine (hF2.out _ _ (below_alloc hB1.out _) (Go.Deep.blk_alloc_new _ _)).mono ?_; rintro e w3 ⟨rfl, q3, rfl⟩)
    go_ret
    exact ⟨rfl, hgo.out _⟩
  cases cf
  · go_wp2_with (go_at_call 9; refine (hF2.out _ _ (below_alloc hB1.out _) (Go.Deep.blk_alloc_new _ _)).mono ?_; rintro e w3 ⟨rfl, q3, rfl⟩)
    go_ret
    exact ⟨rfl, hgo.out _⟩
  cases ss with
  | nil =>
    obtain rfl : n3 = 0 := by simpa using hns.symm
    go_wp2_with (go_at_call 9; refine (hF2.out _ _ (below_alloc hB1.out _) (Go.Deep.blk_alloc_new _ _)).mono ?_; rintro e w3 ⟨rfl, q3, rfl⟩)
    go_ret
    exact ⟨rfl, hgo.out _⟩
  | cons f ds =>
    have hn3 : 0 < n3 := by rw [← hns]; simp
    have hnz : ((n3 : Int) == 0) = false := by simp; omega
    go_upto_region 4 with (go_at_call 9; refine (hF2.out _ _ (below_alloc hB1.out _) (Go.Deep.blk_alloc_new _ _)).mono ?_; rintro e w3 ⟨rfl, q3, hw3⟩; have hB3 : Hid (Below W0.heap.size W0 w3) := Lib.hid (by rw [hw3]; exact below_drewN (below_alloc hB1.out _) q3); obtain ⟨z0, z1, z2, z3⟩ := hcells.out w3 hB3.out; clear hw3)
    have hsP : smallP (true, t, bs, f :: ds) := few_one hf2h.out
    have hbw3 := Lib.hid (hb0h.out.trans (hB3.out.mono hb0h.out.size))
    have hTr : Hid (Calls Try.prog 11 #[.agg #[.bool true, .slice A1 n1 c1, .slice A2 n2 c2, .slice A3 n3 c3]] w3 fun e w' => PcsLo w3.heap.size w3 w' e (trimD (true, t, bs, f :: ds))) := Lib.hid (H.trim_ok w3.heap.size ((A1, n1, c1), (A2, n2, c2), (A3, n3, c3)) (true, t, bs, f :: ds) w3 (Nat.le_refl _) hsP (h0h.out.up hbw3.out))
    have hn53 := Lib.hid (trimD_sum hsP).2
    clear hsP x0 x1 x2 x3 y0 y1 y2 y3 hgo hF2 hW0h haw
    go_upto_region 5 with (go_at_call 11; refine hTr.out.mono ?_; rintro e w4 ⟨A5, n5, c5, vs5, rfl, r2, r3, r4, r5⟩; have hP5 := Lib.hid (r4 w4 (But.refl _ _)); have hB4 := Lib.hid (hB3.out.trans (r5.mono hB3.out.size)); have hbw4 := Lib.hid (hbw3.out.trans (r5.mono hbw3.out.size)); clear r2 r3 r4 r5)
    have hn5 : n5 ≤ 3 := by have := hP5.out.len; have := hn53.out; omega
    clear hTr
    go_wp2
    go_loopw [5] (fun s5 wr => ∃ i : Nat, i ≤ n5 ∧ s5 = .int .i64 i ∧ Hid (Below w4.heap.size w4 wr)) (fun s5 _ => n5 - (intOf s5).toNat)
    case atStart => exact ⟨0, Nat.zero_le _, rfl, Lib.hid (Below.refl _ _)⟩
    case round =>
      obtain ⟨i, hi, rfl, hB⟩ := hrel
      obtain ⟨wo, rfl⟩ : ∃ wo : World, wo = wr := ⟨_, rfl⟩
      by_cases hlt : i < n5
      · obtain ⟨b, o, cf, At, nt, ct, Ab, nb, cb, As, ns, cs, t', bs', ss', rfl, hb, hv, hp, k1, k2, k3, k4, j1, j2, ⟨j3, j4, rr, j5⟩⟩ := (hP5.out.up hB.out).at_ (k := i) hlt
        have i1 : (0 : Int) ≤ (i : Int) := by omega
        have i2 : (i : Int) < (n5 : Int) := by omega
        have hph := Lib.hid hp
        clear hv hp
        obtain ⟨wc, hwc⟩ : ∃ wc, wc = wo.alloc (.cells #[.bool cf, .slice At nt ct, .slice Ab nb cb, .slice As ns cs] 25) := ⟨_, rfl⟩
        have hbc : Below wo.heap.size wo wc := by rw [hwc]; exact below_alloc (Below.refl _ _) _
        have hB5 := Lib.hid (hB.out.trans (hbc.mono hB.out.size))
        have hB05 := Lib.hid (hB4.out.trans (hB5.out.mono hB4.out.size))
        have g0 : wc.heap[wo.heap.size]? = some (pcObj cf ((At, nt, ct), (Ab, nb, cb), (As, ns, cs))) := by rw [hwc]; exact one_a wo _
        obtain ⟨g1, g2, g3, g4, -⟩ := piece_at g0
        obtain ⟨z0, z1, z2, z3⟩ := hcells.out wc hB05.out
        have hJ2 := Lib.hid (j2.up hbc)
        have hJ5 := Lib.hid (j5.up hbc)
        have hJ2' := Lib.hid (show TxR wc wc.heap.size (A2, n2, c2) bs from (h0h.out.up (hbw4.out.trans (hB5.out.mono hbw4.out.size))).2.1)
        have hwch := Lib.hid hwc
        have hbch := Lib.hid hbc
        clear hwc hbc g0 j1 j2 j5
        go_upto_region 9 with fail
        rw [← hwch.out]
        cases cf
        · go_wp2
          go_roundw
          case rel => exact ⟨i + 1, by omega, by go_num, hB5⟩
          case measure => simp [intOf]; omega
        obtain ⟨e1, e2, g, e3, e4, e5⟩ := ends_conf (List.mem_of_getElem? hph.out) rfl
        dsimp only at e1 e2 e3 e4 e5
        subst e1
        obtain rfl : ns = n3 := by rw [← hns, ← e2]; exact hJ5.out.len.symm
        dsimp only at g1 g2 g3 g4 j3 j4
        obtain ⟨b1, o1, A6, n6, c6, g', rfl, hb1, ht1, hr1, hc1, hnc1, hcm1, hst1⟩ := hJ5.out.at_ (k := 0) hn3
        obtain rfl : g = g' := by rw [e3] at ht1; injection ht1
        have hg6 : g.length = n6 := hst1.len
        have hn6m : n6 ≤ maxLen := Nat.le_trans hnc1 hcm1
        unfold maxLen at hn6m j4
        have hn3m : ns ≤ 9223372036854775807 := by omega
        have hSm : Hid (Calls Try.prog 15 #[.slice Ab nb cb, .slice A2 n2 c2] wc fun e w' => e = .returned (.bool true) ∧ ∃ q, w' = wc.drewN q) := Lib.hid (by
          have := Same_any Ab A2 nb n2 cb c2 _ _ bs' bs' wc (Nat.le_trans hJ2.out.1 hJ2.out.2.1) (Nat.le_trans hJ2'.out.1 hJ2'.out.2.1) hJ2.out.2.2 hJ2'.out.2.2
          rw [decide_eq_true rfl] at this
          exact this)
        have i3 : (0 : Int) < (ns : Int) := by omega
        have hs1 := hd_start e3
        rw [hg6] at hs1
        have hs1h := Lib.hid hs1
        have hst1h := Lib.hid hst1
        have e4h := Lib.hid e4
        have e5h := Lib.hid e5
        have e2h := Lib.hid (e2.trans hns)
        have hg6h := Lib.hid hg6
        have hr0 : wc.cell? ⟨b1, o1, none⟩ = some (.slice A6 n6 c6) := hc1
        clear hs1 hst1 e4 e5 e2 ht1 hr1 hc1 hg6 e3 hns hJ2 hJ2' k1 k2 k3 k4 hnz
        go_upto_region 13 with (go_at_call 15; refine hSm.out.mono ?_; rintro e w6 ⟨rfl, q6, rfl⟩)
        go_upto_region 15 with fail
        obtain ⟨fl, hfl⟩ : ∃ fl, decide (0 < n6) = fl := ⟨_, rfl⟩
        simp only [hfl]
        rw [hfl] at hs1h
        clear hfl
        go_wp2
        go_loopw [8, 9, 10] (fun s8 s9 s10 wr => ∃ (k : Nat) (x8 x9 : Bool), 1 ≤ k ∧ k ≤ ns ∧ s10 = .int .i64 k ∧ s8 = .bool x8 ∧ s9 = .bool x9 ∧ Hid (hdB g (ss'.take k) = x8) ∧ Hid (edB g (ss'.take k) = x9) ∧ Hid (∃ q, wr = wc.drewN q)) (fun _ _ s10 _ => ns - (intOf s10).toNat)
        case atStart => exact ⟨1, _, _, Nat.le_refl _, hn3, rfl, rfl, rfl, Lib.hid hs1h.out.1.symm, Lib.hid hs1h.out.2.symm, Lib.hid ⟨_, rfl⟩⟩
        case round =>
          obtain ⟨k, x8, x9, hk1, hkm, rfl, rfl, rfl, hq8, hq9, hw⟩ := hrel
          obtain ⟨wi, rfl⟩ : ∃ wi : World, wi = wr := ⟨_, rfl⟩
          have hdr : Hid (∀ j, ∃ q, wi.drewN j = wc.drewN q) := Lib.hid (fun j => by obtain ⟨q, rfl⟩ := hw.out; exact ⟨_, World.drewN_drewN _ _ _⟩)
          have hci : ∀ a : Addr, wi.cell? a = wc.cell? a := fun a => by obtain ⟨q, rfl⟩ := hw.out; rfl
          have m4 := (hci _).trans g4
          have m0 := (hci _).trans hr0
          by_cases hlk : k < ns
          · obtain ⟨b', o', A7, n7, c7, d, e', hb', hdk, hr7, hc7, hnc7, hcm7, hst7⟩ := hJ5.out.at_ (k := k) hlk
            injection e' with e'
            injection e' with e1 e2
            subst e1
            subst e2
            have m7 := (hci _).trans hc7
            have hdl : d.length = n7 := hst7.len
            have hn7m : n7 ≤ maxLen := Nat.le_trans hnc7 hcm7
            unfold maxLen at hn7m
            have i4 : (0 : Int) ≤ (k : Int) := by omega
            have i5 : (k : Int) < (ns : Int) := by omega
            have hlast : Hid (∀ (B n : Nat) (A : Option Addr) (ss : Txs), Strs wc B A n ss → 0 < n → n ≤ 9223372036854775807 → ∃ b o s s' r, A = some ⟨b, o, none⟩ ∧ ss[0]? = some s ∧ ss[ss.length - 1]? = some s' ∧ wi.cell? ⟨b, o, none⟩ = some (.string (str s)) ∧ wi.cell? ⟨b, o + r, none⟩ = some (.string (str s')) ∧ (n : Int) - 1 = (r : Int) ∧ IntKind.i64.wrap (r : Int) = (r : Int) ∧ (0 : Int) ≤ (r : Int) ∧ (r : Int) < (n : Int)) := Lib.hid (by
              intro B n A ss h h1 h2
              obtain ⟨r, hr⟩ : ∃ r, n - 1 = r := ⟨_, rfl⟩
              obtain ⟨b, o, s, rfl, hb, hs, hc⟩ := h.at_ (k := 0) h1
              obtain ⟨b', o', s', e, hb', hs', hc'⟩ := h.at_ (k := r) (by omega)
              injection e with e
              injection e with e1 e2
              subst e1
              subst e2
              have hl := h.len
              exact ⟨b, o, s, s', r, rfl, hs, by rw [hl, hr]; exact hs', (hci _).trans hc, (hci _).trans hc', by omega, IntWalk.i64_in _ (by omega), by omega, by omega⟩)
            have hrel2 : Hid (∀ y, ∃ q, wi.drewN y = wc.drewN q) := Lib.hid (fun y => by obtain ⟨q, rfl⟩ := hw.out; simp only [World.drewN_drewN]; exact ⟨_, rfl⟩)
            have hst7h := Lib.hid hst7
            have hdkh := Lib.hid hdk
            have hdlh := Lib.hid hdl
            clear hst7 hdk hdl hr7 hc7 hnc7 hcm7 g1 g2 g3 z0 z1 z2 z3 hci hdr
            rcases Nat.eq_zero_or_pos n7 with h7 | h7
            · subst h7
              have h8 := Lib.hid (hd_none (f := g) hdkh.out hdlh.out)
              have h9 := Lib.hid (ed_none (f := g) hdkh.out hdlh.out)
              cases x8 <;> cases x9
              all_goals
                go_wp2
                go_quiet (fail)
                obtain ⟨y1, rfl⟩ : ∃ y1, y1 = nq := ⟨_, rfl⟩
                go_wp2
                go_quiet (fail)
                obtain ⟨y2, rfl⟩ : ∃ y2, y2 = nq := ⟨_, rfl⟩
                go_wp2
                go_roundw
                case rel => exact ⟨k + 1, _, _, by omega, by omega, by go_num, rfl, rfl, h8, h9, Lib.hid (hrel2.out _)⟩
                case measure => simp [intOf]; omega
            · obtain ⟨b7, o7, s7, t7, r7, rfl, p1, p2, p3, p4, p5, p6, p7, p8⟩ := hlast.out _ _ _ _ hst7h.out h7 (by omega)
              have l7 : (0 : Int) < (n7 : Int) := by omega
              have p1h := Lib.hid p1
              have p2h := Lib.hid p2
              clear p1 p2
              rcases Nat.eq_zero_or_pos n6 with h6 | h6
              · have hx8 : x8 = false := by have := hq8.out; unfold hdB at this; rw [hg6h.out, h6] at this; exact this.symm
                have hx9 : x9 = false := by have := hq9.out; unfold edB at this; rw [hg6h.out, h6] at this; exact this.symm
                subst hx8
                subst hx9
                clear h6
                have h8 := Lib.hid (hd_off hq8.out hdkh.out)
                have h9 := Lib.hid (ed_off hq9.out hdkh.out)
                go_wp2
                go_quiet (fail)
                obtain ⟨y1, rfl⟩ : ∃ y1, y1 = nq := ⟨_, rfl⟩
                go_wp2
                go_quiet (fail)
                obtain ⟨y2, rfl⟩ : ∃ y2, y2 = nq := ⟨_, rfl⟩
                go_wp2
                go_roundw
                case rel => exact ⟨k + 1, _, _, by omega, by omega, by go_num, rfl, rfl, h8, h9, Lib.hid (hrel2.out _)⟩
                case measure => simp [intOf]; omega
              · obtain ⟨b6, o6, s6, t6, r6, rfl, u1, u2, u3, u4, u5, u6, u7, u8⟩ := hlast.out _ _ _ _ hst1h.out h6 (by omega)
                have a8 : (x8 = false ∧ Hid (hdB g (ss'.take (k + 1)) = false)) ∨ (x8 = true ∧ Hid (hdB g (ss'.take (k + 1)) = ((str s7).toList == (str s6).toList))) := by
                  cases x8
                  · exact .inl ⟨rfl, Lib.hid (hd_off hq8.out hdkh.out)⟩
                  · exact .inr ⟨rfl, Lib.hid (hd_on hq8.out hdkh.out p1h.out u1)⟩
                have a9 : (x9 = false ∧ Hid (edB g (ss'.take (k + 1)) = false)) ∨ (x9 = true ∧ Hid (edB g (ss'.take (k + 1)) = ((str t7).toList == (str t6).toList))) := by
                  cases x9
                  · exact .inl ⟨rfl, Lib.hid (ed_off hq9.out hdkh.out)⟩
                  · exact .inr ⟨rfl, Lib.hid (ed_on hq9.out hdkh.out p2h.out u2)⟩
                have l6 : (0 : Int) < (n6 : Int) := by omega
                clear u1 u2
                rcases a8 with ⟨rfl, h8⟩ | ⟨rfl, h8⟩ <;> rcases a9 with ⟨rfl, h9⟩ | ⟨rfl, h9⟩
                all_goals
                  go_wp2
                  go_quiet (fail)
                  obtain ⟨y1, rfl⟩ : ∃ y1, y1 = nq := ⟨_, rfl⟩
                  go_wp2
                  go_quiet (fail)
                  obtain ⟨y2, rfl⟩ : ∃ y2, y2 = nq := ⟨_, rfl⟩
                  go_wp2
                  go_roundw
                  case rel => exact ⟨k + 1, _, _, by omega, by omega, by go_num, rfl, rfl, h8, h9, Lib.hid (hrel2.out _)⟩
                  case measure => simp [intOf]; omega
          · obtain rfl : k = ns := by omega
            have hx8 : x8 = false := by have := hq8.out; rw [List.take_of_length_le (by rw [e2h.out]; exact Nat.le_refl _), e4h.out] at this; exact this.symm
            have hx9 : x9 = false := by have := hq9.out; rw [List.take_of_length_le (by rw [e2h.out]; exact Nat.le_refl _), e5h.out] at this; exact this.symm
            subst hx8
            subst hx9
            have hB6 : Hid (Below w4.heap.size w4 wi) := Lib.hid (by obtain ⟨q, rfl⟩ := hw.out; exact below_drewN hB5.out q)
            go_wp2
            go_roundw
            case rel => exact ⟨i + 1, by omega, by go_num, hB6⟩
            case measure => simp [intOf]; omega
      · obtain rfl : i = n5 := by omega
        go_wp2
        go_ret
        exact ⟨rfl, hbw4.out.trans (hB.out.mono hbw4.out.size)⟩
end
end Go.Proofs.Ytidfhgocnglnjaa

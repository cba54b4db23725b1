/- Proved here: texts joined: MkLawE. -/
import Derived.Test.YtcjmmidnfjifaaaGreatDoorBm24
import Derived.Test.YtcjmmidnfjifaaaGreatDoorBm28
import Derived.Test.YtcjmmidnfjifaaaGreatDoorBm45
/- Proved here: what the statement MarkLines says, by the contract of package mark. -/
namespace Go.Proofs.YtcjmmidnfjifaaaGreatDoor
open Go.RowKit
set_option linter.unusedVariables false
set_option maxRecDepth 100000

/-- What is known of pieces that may be printed, and of what is printed of them. -/
structure LnOk (style : Int) (lg : Nat) (ks : List Pc) (xs : Txs) : Prop where
  small : smallK ks
  may : mayB xs = true
  cnt : cntM lg xs = sumP (marksP style) ks
  len : xs.length = sumP (wantP style) ks + sumP (marksP style) ks
  txt : ∀ t ∈ xs, t.length ≤ 2000000
  most : xs.length ≤ 20000000
theorem lnOk_of {style : Int} {lg : Nat} {ks : List Pc} (hlg : lg ≤ 40) (hs : smallK ks) (hf : formB ks = true) (hsd : ∀ p ∈ ks, p.1 = true → p.2.2.2 ≠ [] ∧ p.2.2.2.length ≤ 16) (hz : fitsB (lg : Int) (listsP ks) = true) : LnOk style lg ks (linesM style lg ks) := by
  obtain ⟨hn, hF⟩ := formB_form hf
  have hr : ∀ x ∈ listsP ks, ∀ t ∈ x, runN t < lg := fun x hx t ht => by
    have := (fits_iff.1 hz).2 t (List.mem_flatten.2 ⟨x, hx, ht⟩)
    omega
  obtain ⟨c1, c2⟩ := lines_cnt (style := style) hn (fun p hp h => (hsd p hp h).1) hr
  refine ⟨hs, lines_may hF hsd, c1, c2, fun t ht => ?_, ?_⟩
  · have := lines_txt (lg := lg) (style := style) hs.2 t ht
    omega
  · have h1 := lines_sum (style := style) (long := lg) (ps := ks) fun p hp => ⟨hs.1.2 p hp, fun h => (hsd p hp h).2⟩
    have := hs.1.1
    omega
theorem want_is {style : Int} {cf : Bool} {t bs : Txs} {ss : List Txs} {nt nb : Nat} (h1 : t.length = nt) (h2 : bs.length = nb) : wantP style (cf, t, bs, ss) = nt + (if cf = true ∧ style ≠ 1 then nb else 0) + ss.flatten.length := by
  unfold wantP
  rw [← h1, ← h2]
theorem marks_is {style : Int} {cf : Bool} {t bs : Txs} {ss : List Txs} {ns : Nat} (h1 : ss.length = ns) : marksP style (cf, t, bs, ss) = if cf = true then ns + 1 + (if style = 1 then 0 else 1) else 0 := by
  unfold marksP
  rw [← h1]
theorem cnt_take {lg i : Nat} {xs : Txs} {t : Tx} (h : xs[i]? = some t) : cntM lg (xs.take (i + 1)) = cntM lg (xs.take i) + (if lg ≤ runN t then 1 else 0) := by
  rw [take_at h, cnt_append]
  unfold cntM
  by_cases hx : lg ≤ runN t <;> simp [hx]

section
variable (H : MarkPrintOk)
include H

set_option maxHeartbeats 16000000 in
theorem MarkLines_walk (A : Option Addr) (n c : Nat) (vs : List PcV) (ps : List Pc) (style long : Int) (w : World) (h0 : ArgPcs w A n c vs ps) (hst : inR64 style) (hlg : inR64 long) :
    Calls Tryz.prog 4 #[.slice A n c, .int .i64 style, .int .i64 long] w fun e w' => e = .returned (.bool true) ∧ Below w.heap.size w w' := by
  obtain ⟨hnc, hcm, hA⟩ := h0
  have haw := Lib.hid (mkAwake_any H w)
  obtain ⟨fm, hfm⟩ : ∃ fm, mayM ps style long = fm := ⟨_, rfl⟩
  have hF := Lib.hid (fun (W : World) (hb : Below w.heap.size w W) => rMkMay_any A n c vs ps style long W hnc hcm hst hlg (hA.up hb))
  rw [hfm] at hF
  cases fm
  · clear hA hfm hlg hst
    go_enter Tryz.func4, Tryz.ntmps4
    go_wp2_with (first
      | (go_at_call 8; refine haw.out.mono ?_; rintro e w1 ⟨rfl, hb1⟩; have hB1 := Lib.hid hb1; clear hb1)
      | (go_at_call 13; refine (hF.out _ hB1.out).mono ?_; rintro e w2 ⟨rfl, q2⟩; have hB2 := Lib.hid (hB1.out.trans (q2.mono hB1.out.size)); clear q2))
    go_ret
    exact ⟨rfl, hB2.out⟩
  obtain ⟨hfew, h40, hno⟩ := mayM_parts hfm
  have hsm := few_W hfew
  obtain ⟨g1, g2, g3, g4, g5⟩ := wrongM_none.1 hno
  obtain ⟨lg, rfl⟩ : ∃ lg : Nat, long = (lg : Int) := ⟨long.toNat, by omega⟩
  have hM := Lib.hid (fun (W : World) (hb : Below w.heap.size w W) => H A n c vs ps style (lg : Int) W hnc hcm hst hlg hsm (hA.up hb))
  have hZe : Hid (∀ W, Below w.heap.size w W → Calls Tryz.prog 14 #[.slice A n c] W fun e w' => PcsLo W.heap.size W w' e (zealD ps)) := Lib.hid (fun W hW => rZeal_any W.heap.size A n c vs ps W (Nat.le_refl _) hsm.1.1 (hA.up hW))
  have hpr : printM ps style (lg : Int) = linesM style lg (if style = 3 then zealD ps else ps) := by unfold printM; rw [if_pos hno, Int.toNat_natCast]
  rw [hpr, hno] at hM
  unfold inR64 at hst
  have hAh := Lib.hid hA
  have hncm := Lib.hid (Nat.le_trans hnc hcm)
  have hlg40 : lg ≤ 40 := by omega
  by_cases h3 : style = 3
  · have hz := wrongM_none.1 (zeal_right (l := ps) (long := (lg : Int)) (by rw [h3] at hno; exact hno))
    have hOk := Lib.hid (lnOk_of (style := style) hlg40 hsm.2 (g4 h3) hz.2.1 hz.2.2.2.2)
    rw [if_pos h3] at hM
    have h3b : (style == 3) = true := by rw [h3]; rfl
    obtain ⟨ks, hks⟩ : ∃ ks, zealD ps = ks := ⟨_, rfl⟩
    rw [hks] at hM hZe hOk
    obtain ⟨xs, hxs⟩ : ∃ xs, linesM style lg ks = xs := ⟨_, rfl⟩
    rw [hxs] at hM hOk
    clear hA hfm hsm hno hlg hpr hz g1 g2 g3 g4 g5 hfew h40 hks hxs h3
    go_enter Tryz.func4, Tryz.ntmps4
    go_wp2_with (first
      | (go_at_call 8; refine haw.out.mono ?_; rintro e w1 ⟨rfl, hb1⟩; have hB1 := Lib.hid hb1; clear hb1)
      | (go_at_call 13; refine (hF.out _ hB1.out).mono ?_; rintro e w2 ⟨rfl, q2⟩; have hB2 := Lib.hid (hB1.out.trans (q2.mono hB1.out.size)); clear q2)
      | (go_at_call 10; refine (hM.out _ hB2.out).mono ?_; rintro e w3 ⟨A1, n1, c1, rfl, q1, q2⟩; have hT1 := Lib.hid q1; have hB3 := Lib.hid (hB2.out.trans (q2.mono hB2.out.size)); clear q1 q2)
      | (go_at_call 14; refine (hZe.out _ hB3.out).mono ?_; rintro e wb ⟨A2, n2, c2, vs2, rfl, q1, q2, q3, q4⟩; have hkn := Lib.hid (Nat.le_trans q1 q2); have hKA := Lib.hid (q3 wb (But.refl _ _)); have hTb := Lib.hid (hT1.out.up q4); have hBb := Lib.hid (hB3.out.trans (q4.mono hB3.out.size)); clear q1 q2 q3 q4))
    have hkl := hKA.out.len
    have hklh := Lib.hid hkl
    have hn100 : n2 ≤ 100 := by rw [← hkl]; exact hOk.out.small.1.1
    have hx1 := hTb.out.2.2.len
    have hx2 := Lib.hid hx1
    have hn1m : n1 ≤ 20000000 := by have := hOk.out.most; dsimp only at hx1; omega
    clear hkl hx1
    go_loop [10, 11, 13, 14] (fun s10 s11 s13 _ => ∃ i Wn Mn : Nat, i ≤ n2 ∧ s13 = .int .i64 i ∧ s10 = .int .i64 Wn ∧ s11 = .int .i64 Mn ∧ Wn ≤ i * 6000000 ∧ Mn ≤ i * 1002 ∧ Hid (Wn = sumP (wantP style) (ks.take i) ∧ Mn = sumP (marksP style) (ks.take i))) (fun _ _ s13 _ => n2 - (intOf s13).toNat)
    case atStart => exact ⟨0, 0, 0, Nat.zero_le _, rfl, rfl, rfl, Nat.zero_le _, Nat.zero_le _, Lib.hid ⟨rfl, rfl⟩⟩
    case round =>
      obtain ⟨i, Wn, Mn, hi1, rfl, rfl, rfl, hWb, hMb, hWM⟩ := hrel
      by_cases hlt : i < n2
      · obtain ⟨b, o, cf, At, nt, ct, Ab, nb, cb, As, ns, cs, t, bs, ss, hAe, hb, hv, hp, k1, k2, k3, k4, j1, j2, ⟨j31, j32, rr, hrr⟩⟩ := hKA.out.at_ (k := i) hlt
        subst hAe
        have i1 : (0 : Int) ≤ (i : Int) := by omega
        have i2 : (i : Int) < (n2 : Int) := by omega
        have htl := j1.2.2.len
        have hbl := j2.2.2.len
        have hsl := hrr.len
        dsimp only at htl hbl hsl j31 j32
        obtain ⟨p1, p2, p3, p4⟩ := hOk.out.small.1.2 _ (List.mem_of_getElem? hp)
        dsimp only at p1 p2 p3 p4
        have hnt : nt ≤ 5000 := by omega
        have hnb : nb ≤ 10000 := by omega
        have hns : ns ≤ 1000 := by omega
        have hp3 := Lib.hid p3
        have hrrh := Lib.hid hrr
        have hslh := Lib.hid hsl
        obtain ⟨W1, hW1⟩ : ∃ W1, W1 = Wn + (nt + (if cf = true ∧ style ≠ 1 then nb else 0)) := ⟨_, rfl⟩
        obtain ⟨M1, hM1⟩ : ∃ M1, M1 = Mn + (if cf = true then ns + 1 + (if style = 1 then 0 else 1) else 0) := ⟨_, rfl⟩
        have hnx : Hid (W1 + ss.flatten.length = sumP (wantP style) (ks.take (i + 1)) ∧ M1 = sumP (marksP style) (ks.take (i + 1))) := Lib.hid (by
          rw [sumP_take hp, sumP_take hp, want_is htl hbl, marks_is hsl, hM1, hW1, ← hWM.out.1, ← hWM.out.2]
          exact ⟨by omega, rfl⟩)
        have hsplit : cf = false ∨ (cf = true ∧ style = 1) ∨ (cf = true ∧ style ≠ 1) := by cases cf <;> simp <;> omega
        clear hv hp j1 j2 htl hbl hsl hrr p1 p2 p3 p4 hWM
        rcases hsplit with rfl | ⟨rfl, hs1⟩ | ⟨rfl, hs1⟩
        case' inl =>
          have e1 : W1 = Wn + nt := by rw [hW1]; simp
          have e2 : M1 = Mn := by rw [hM1]; simp
          clear hW1 hM1
          subst e2
          have hw1 : IntKind.i64.wrap ((Wn : Int) + (nt : Int)) = (W1 : Int) := by rw [IntWalk.i64_in _ (by omega)]; omega
          have hWb1 : W1 ≤ Wn + 15000 := by omega
          have hMb1 : M1 ≤ M1 + 1002 := by omega
          have hMb2 : M1 ≤ (i + 1) * 1002 := by omega
          clear e1
          go_upto_region 19 with fail
          clear hw1 hMb1
        case inr.inl => rw [hs1] at h3b; cases h3b
        case' inr.inr =>
          obtain ⟨Wa, hWa⟩ : ∃ Wa, Wa = Wn + nt := ⟨_, rfl⟩
          have e1 : W1 = Wa + nb := by rw [hW1, if_pos ⟨rfl, hs1⟩, hWa]; omega
          have e2 : M1 = Mn + (ns + 1 + 1) := by rw [hM1, if_pos rfl, if_neg hs1]
          have hs1b : (style == 1) = false := by rw [beq_eq_false_iff_ne]; exact hs1
          clear hW1 hM1 hs1
          obtain ⟨Ma, hMa⟩ : ∃ Ma, Ma = Mn + ns := ⟨_, rfl⟩
          obtain ⟨Mb, hMb'⟩ : ∃ Mb, Mb = Ma + 1 := ⟨_, rfl⟩
          have hw1 : IntKind.i64.wrap ((Wn : Int) + (nt : Int)) = (Wa : Int) := by rw [IntWalk.i64_in _ (by omega)]; omega
          have hw2 : IntKind.i64.wrap ((Mn : Int) + (ns : Int)) = (Ma : Int) := by rw [IntWalk.i64_in _ (by omega)]; omega
          have hw3 : IntKind.i64.wrap ((Ma : Int) + 1) = (Mb : Int) := by rw [IntWalk.i64_in _ (by omega)]; omega
          have hw4 : IntKind.i64.wrap ((Mb : Int) + 1) = (M1 : Int) := by rw [IntWalk.i64_in _ (by omega)]; omega
          have hw5 : IntKind.i64.wrap ((Wa : Int) + (nb : Int)) = (W1 : Int) := by rw [IntWalk.i64_in _ (by omega)]; omega
          have hWb1 : W1 ≤ Wn + 15000 := by omega
          have hMb2 : M1 ≤ (i + 1) * 1002 := by omega
          clear e1 e2 hMa hMb' hWa
          go_upto_region 19 with fail
          clear hw1 hw2 hw3 hw4 hw5 hs1b
        all_goals
          go_wp2
          go_loop [10, 14] (fun s10 s14 => ∃ j V : Nat, j ≤ ns ∧ s14 = .int .i64 j ∧ s10 = .int .i64 V ∧ V ≤ W1 + j * 5000 ∧ Hid (V = W1 + (ss.take j).flatten.length)) (fun _ s14 => ns - (intOf s14).toNat)
          case atStart => exact ⟨0, W1, Nat.zero_le _, rfl, rfl, by omega, Lib.hid rfl⟩
          case round =>
            obtain ⟨j, V, hj1, rfl, rfl, hVb, hV⟩ := hrel
            by_cases hjl : j < ns
            · obtain ⟨bq, oq, Ad, nd, cd, d, hAs, hbq, hdq, hrq, hcq, hnq, hmq, hsq⟩ := hrrh.out.at_ (k := j) hjl
              try dsimp only at hAs
              subst hAs
              have i3 : (0 : Int) ≤ (j : Int) := by omega
              have i4 : (j : Int) < (ns : Int) := by omega
              have hdl := hsq.len
              have hd5 := hp3.out d (List.mem_of_getElem? hdq)
              have hnd : nd ≤ 5000 := by omega
              have hwv : IntKind.i64.wrap ((V : Int) + (nd : Int)) = ((V + nd : Nat) : Int) := by rw [IntWalk.i64_in _ (by omega)]; omega
              have hst2 : Hid (V + nd = W1 + (ss.take (j + 1)).flatten.length) := Lib.hid (by rw [hV.out, flatF_take hdq, List.length_append, hdl]; omega)
              clear hdq hrq hnq hmq hsq hdl hd5
              go_wp2
              go_round
              case rel => exact ⟨j + 1, V + nd, by omega, by go_num, rfl, by omega, hst2⟩
              case measure => simp [intOf]; omega
            · obtain rfl : j = ns := by omega
              have hVf : Hid (V = sumP (wantP style) (ks.take (i + 1)) ∧ M1 = sumP (marksP style) (ks.take (i + 1))) := Lib.hid ⟨by rw [← hnx.out.1, hV.out, List.take_of_length_le (by rw [hslh.out]; exact Nat.le_refl _)], hnx.out.2⟩
              go_wp2
              go_round
              case rel => exact ⟨i + 1, V, M1, by omega, by go_num, rfl, rfl, by omega, hMb2, hVf⟩
              case measure => simp [intOf]; omega
      · obtain rfl : i = n2 := by omega
        obtain ⟨hWf, hMf⟩ := hWM.out
        rw [List.take_of_length_le (by rw [hklh.out]; exact Nat.le_refl _)] at hWf hMf
        have hlen : n1 = Wn + Mn := by have h1 := hOk.out.len; have h2 := hx2.out; dsimp only at h2; omega
        have hcnt : Hid (cntM lg xs = Mn) := Lib.hid (by rw [hOk.out.cnt, ← hMf])
        have hwf : IntKind.i64.wrap ((Wn : Int) + (Mn : Int)) = (n1 : Int) := by rw [IntWalk.i64_in _ (by omega)]; omega
        clear hWf hMf hlen hWM
        go_wp2
        go_loopw [15, 16] (fun s15 s16 wr => ∃ i m : Nat, i ≤ n1 ∧ s16 = .int .i64 i ∧ s15 = .int .i64 m ∧ m ≤ i ∧ Hid (m = cntM lg (xs.take i)) ∧ ∃ q, wr = wb.drewN q) (fun _ s16 _ => n1 - (intOf s16).toNat)
        case atStart => exact ⟨0, 0, Nat.zero_le _, rfl, rfl, Nat.le_refl _, Lib.hid rfl, 0, rfl⟩
        case round =>
          obtain ⟨i', m, hi1', rfl, rfl, hmb, hm, q, rfl⟩ := hrel
          by_cases hlt' : i' < n1
          · obtain ⟨b, o, t, hAe, hb, ht, hcell⟩ := hTb.out.2.2.at_ (k := i') hlt'
            try dsimp only at hAe
            subst hAe
            have i1 : (0 : Int) ≤ (i' : Int) := by omega
            have i2 : (i' : Int) < (n1 : Int) := by omega
            have hcl : (wb.drewN q).cell? ⟨b, o + i', none⟩ = some (.string (str t)) := hcell
            have hRu := Lib.hid (rRun_any t (wb.drewN q) (by have := hOk.out.txt t (List.mem_of_getElem? ht); unfold maxLen; omega))
            have hct := Lib.hid (cnt_take (lg := lg) ht)
            clear ht hcell
            by_cases hge : lg ≤ runN t
            · have hgi : (lg : Int) ≤ (runN t : Int) := by omega
              have hst2 : Hid (m + 1 = cntM lg (xs.take (i' + 1))) := Lib.hid (by rw [hct.out, if_pos hge, hm.out])
              obtain ⟨R, hR⟩ : ∃ R, runN t = R := ⟨_, rfl⟩
              rw [hR] at hgi hRu
              clear hge hct hR
              go_wp2_with (go_at_call 15; refine hRu.out.mono ?_; rintro e w5 ⟨rfl, q5, rfl⟩)
              go_roundw
              case rel => exact ⟨i' + 1, m + 1, by omega, by go_num, by go_num, by omega, hst2, _, rfl⟩
              case measure => simp [intOf]; omega
            · have hgi : ¬ (lg : Int) ≤ (runN t : Int) := by omega
              have hst2 : Hid (m = cntM lg (xs.take (i' + 1))) := Lib.hid (by rw [hct.out, if_neg hge, hm.out]; rfl)
              obtain ⟨R, hR⟩ : ∃ R, runN t = R := ⟨_, rfl⟩
              rw [hR] at hgi hRu
              clear hge hct hR
              go_wp2_with (go_at_call 15; refine hRu.out.mono ?_; rintro e w5 ⟨rfl, q5, rfl⟩)
              go_roundw
              case rel => exact ⟨i' + 1, m, by omega, by go_num, rfl, by omega, hst2, _, rfl⟩
              case measure => simp [intOf]; omega
          · obtain rfl : i' = n1 := by omega
            have hmm : m = Mn := by rw [hm.out, List.take_of_length_le (by have := hx2.out; first | (dsimp only at this; omega) | omega)]; exact hcnt.out
            subst hmm
            have hMy := rMayB_any A1 i' c1 wb.heap.size xs (wb.drewN q) (by unfold maxLen; omega) (fun s hs => by have := hOk.out.txt s hs; unfold maxLen; omega) (hTb.out.2.2.drewN q)
            rw [hOk.out.may] at hMy
            have hMyh := Lib.hid hMy
            clear hMy
            go_wp2_with (go_at_call 16; refine hMyh.out.mono ?_; rintro e w6 ⟨rfl, rfl⟩)
            go_ret
            exact ⟨rfl, below_drewN hBb.out q⟩
  · have hOk := Lib.hid (lnOk_of (style := style) hlg40 hsm.1 g3 g2 g5)
    rw [if_neg h3] at hM
    have h3b : (style == 3) = false := by rw [beq_eq_false_iff_ne]; exact h3
    obtain ⟨xs, hxs⟩ : ∃ xs, linesM style lg ps = xs := ⟨_, rfl⟩
    rw [hxs] at hM hOk
    clear hA hfm hsm hno hlg hpr g1 g2 g3 g4 g5 hfew h40 hxs h3
    go_enter Tryz.func4, Tryz.ntmps4
    go_wp2_with (first
      | (go_at_call 8; refine haw.out.mono ?_; rintro e w1 ⟨rfl, hb1⟩; have hB1 := Lib.hid hb1; clear hb1)
      | (go_at_call 13; refine (hF.out _ hB1.out).mono ?_; rintro e w2 ⟨rfl, q2⟩; have hB2 := Lib.hid (hB1.out.trans (q2.mono hB1.out.size)); clear q2)
      | (go_at_call 10; refine (hM.out _ hB2.out).mono ?_; rintro e wb ⟨A1, n1, c1, rfl, q1, q2⟩; have hTb := Lib.hid q1; have hBb := Lib.hid (hB2.out.trans (q2.mono hB2.out.size)); have hKA := Lib.hid (hAh.out.up hBb.out); clear q1 q2))
    have hkl := hKA.out.len
    have hklh := Lib.hid hkl
    have hn100 : n ≤ 100 := by rw [← hkl]; exact hOk.out.small.1.1
    have hx1 := hTb.out.2.2.len
    have hx2 := Lib.hid hx1
    have hn1m : n1 ≤ 20000000 := by have := hOk.out.most; dsimp only at hx1; omega
    clear hkl hx1
    go_loop [10, 11, 13, 14] (fun s10 s11 s13 _ => ∃ i Wn Mn : Nat, i ≤ n ∧ s13 = .int .i64 i ∧ s10 = .int .i64 Wn ∧ s11 = .int .i64 Mn ∧ Wn ≤ i * 6000000 ∧ Mn ≤ i * 1002 ∧ Hid (Wn = sumP (wantP style) (ps.take i) ∧ Mn = sumP (marksP style) (ps.take i))) (fun _ _ s13 _ => n - (intOf s13).toNat)
    case atStart => exact ⟨0, 0, 0, Nat.zero_le _, rfl, rfl, rfl, Nat.zero_le _, Nat.zero_le _, Lib.hid ⟨rfl, rfl⟩⟩
    case round =>
      obtain ⟨i, Wn, Mn, hi1, rfl, rfl, rfl, hWb, hMb, hWM⟩ := hrel
      by_cases hlt : i < n
      · obtain ⟨b, o, cf, At, nt, ct, Ab, nb, cb, As, ns, cs, t, bs, ss, hAe, hb, hv, hp, k1, k2, k3, k4, j1, j2, ⟨j31, j32, rr, hrr⟩⟩ := hKA.out.at_ (k := i) hlt
        subst hAe
        have i1 : (0 : Int) ≤ (i : Int) := by omega
        have i2 : (i : Int) < (n : Int) := by omega
        have htl := j1.2.2.len
        have hbl := j2.2.2.len
        have hsl := hrr.len
        dsimp only at htl hbl hsl j31 j32
        obtain ⟨p1, p2, p3, p4⟩ := hOk.out.small.1.2 _ (List.mem_of_getElem? hp)
        dsimp only at p1 p2 p3 p4
        have hnt : nt ≤ 5000 := by omega
        have hnb : nb ≤ 10000 := by omega
        have hns : ns ≤ 1000 := by omega
        have hp3 := Lib.hid p3
        have hrrh := Lib.hid hrr
        have hslh := Lib.hid hsl
        obtain ⟨W1, hW1⟩ : ∃ W1, W1 = Wn + (nt + (if cf = true ∧ style ≠ 1 then nb else 0)) := ⟨_, rfl⟩
        obtain ⟨M1, hM1⟩ : ∃ M1, M1 = Mn + (if cf = true then ns + 1 + (if style = 1 then 0 else 1) else 0) := ⟨_, rfl⟩
        have hnx : Hid (W1 + ss.flatten.length = sumP (wantP style) (ps.take (i + 1)) ∧ M1 = sumP (marksP style) (ps.take (i + 1))) := Lib.hid (by
          rw [sumP_take hp, sumP_take hp, want_is htl hbl, marks_is hsl, hM1, hW1, ← hWM.out.1, ← hWM.out.2]
          exact ⟨by omega, rfl⟩)
        have hsplit : cf = false ∨ (cf = true ∧ style = 1) ∨ (cf = true ∧ style ≠ 1) := by cases cf <;> simp <;> omega
        clear hv hp j1 j2 htl hbl hsl hrr p1 p2 p3 p4 hWM
        rcases hsplit with rfl | ⟨rfl, hs1⟩ | ⟨rfl, hs1⟩
        case' inl =>
          have e1 : W1 = Wn + nt := by rw [hW1]; simp
          have e2 : M1 = Mn := by rw [hM1]; simp
          clear hW1 hM1
          subst e2
          have hw1 : IntKind.i64.wrap ((Wn : Int) + (nt : Int)) = (W1 : Int) := by rw [IntWalk.i64_in _ (by omega)]; omega
          have hWb1 : W1 ≤ Wn + 15000 := by omega
          have hMb1 : M1 ≤ M1 + 1002 := by omega
          have hMb2 : M1 ≤ (i + 1) * 1002 := by omega
          clear e1
          go_upto_region 19 with fail
          clear hw1 hMb1
        case' inr.inl =>
          have e1 : W1 = Wn + nt := by rw [hW1, if_neg (by simp [hs1])]; rfl
          have e2 : M1 = Mn + (ns + 1) := by rw [hM1, if_pos rfl, if_pos hs1]
          have hs1b : (style == 1) = true := by rw [hs1]; rfl
          clear hW1 hM1 hs1
          obtain ⟨Ma, hMa⟩ : ∃ Ma, Ma = Mn + ns := ⟨_, rfl⟩
          have hw1 : IntKind.i64.wrap ((Wn : Int) + (nt : Int)) = (W1 : Int) := by rw [IntWalk.i64_in _ (by omega)]; omega
          have hw2 : IntKind.i64.wrap ((Mn : Int) + (ns : Int)) = (Ma : Int) := by rw [IntWalk.i64_in _ (by omega)]; omega
          have hw3 : IntKind.i64.wrap ((Ma : Int) + 1) = (M1 : Int) := by rw [IntWalk.i64_in _ (by omega)]; omega
          have hWb1 : W1 ≤ Wn + 15000 := by omega
          have hMb2 : M1 ≤ (i + 1) * 1002 := by omega
          clear e1 e2 hMa
          go_upto_region 19 with fail
          clear hw1 hw2 hw3 hs1b
        case' inr.inr =>
          obtain ⟨Wa, hWa⟩ : ∃ Wa, Wa = Wn + nt := ⟨_, rfl⟩
          have e1 : W1 = Wa + nb := by rw [hW1, if_pos ⟨rfl, hs1⟩, hWa]; omega
          have e2 : M1 = Mn + (ns + 1 + 1) := by rw [hM1, if_pos rfl, if_neg hs1]
          have hs1b : (style == 1) = false := by rw [beq_eq_false_iff_ne]; exact hs1
          clear hW1 hM1 hs1
          obtain ⟨Ma, hMa⟩ : ∃ Ma, Ma = Mn + ns := ⟨_, rfl⟩
          obtain ⟨Mb, hMb'⟩ : ∃ Mb, Mb = Ma + 1 := ⟨_, rfl⟩
          have hw1 : IntKind.i64.wrap ((Wn : Int) + (nt : Int)) = (Wa : Int) := by rw [IntWalk.i64_in _ (by omega)]; omega
          have hw2 : IntKind.i64.wrap ((Mn : Int) + (ns : Int)) = (Ma : Int) := by rw [IntWalk.i64_in _ (by omega)]; omega
          have hw3 : IntKind.i64.wrap ((Ma : Int) + 1) = (Mb : Int) := by rw [IntWalk.i64_in _ (by omega)]; omega
          have hw4 : IntKind.i64.wrap ((Mb : Int) + 1) = (M1 : Int) := by rw [IntWalk.i64_in _ (by omega)]; omega
          have hw5 : IntKind.i64.wrap ((Wa : Int) + (nb : Int)) = (W1 : Int) := by rw [IntWalk.i64_in _ (by omega)]; omega
          have hWb1 : W1 ≤ Wn + 15000 := by omega
          have hMb2 : M1 ≤ (i + 1) * 1002 := by omega
          clear e1 e2 hMa hMb' hWa
          go_upto_region 19 with fail
          clear hw1 hw2 hw3 hw4 hw5 hs1b
        all_goals
          go_wp2
          go_loop [10, 14] (fun s10 s14 => ∃ j V : Nat, j ≤ ns ∧ s14 = .int .i64 j ∧ s10 = .int .i64 V ∧ V ≤ W1 + j * 5000 ∧ Hid (V = W1 + (ss.take j).flatten.length)) (fun _ s14 => ns - (intOf s14).toNat)
          case atStart => exact ⟨0, W1, Nat.zero_le _, rfl, rfl, by omega, Lib.hid rfl⟩
          case round =>
            obtain ⟨j, V, hj1, rfl, rfl, hVb, hV⟩ := hrel
            by_cases hjl : j < ns
            · obtain ⟨bq, oq, Ad, nd, cd, d, hAs, hbq, hdq, hrq, hcq, hnq, hmq, hsq⟩ := hrrh.out.at_ (k := j) hjl
              try dsimp only at hAs
              subst hAs
              have i3 : (0 : Int) ≤ (j : Int) := by omega
              have i4 : (j : Int) < (ns : Int) := by omega
              have hdl := hsq.len
              have hd5 := hp3.out d (List.mem_of_getElem? hdq)
              have hnd : nd ≤ 5000 := by omega
              have hwv : IntKind.i64.wrap ((V : Int) + (nd : Int)) = ((V + nd : Nat) : Int) := by rw [IntWalk.i64_in _ (by omega)]; omega
              have hst2 : Hid (V + nd = W1 + (ss.take (j + 1)).flatten.length) := Lib.hid (by rw [hV.out, flatF_take hdq, List.length_append, hdl]; omega)
              clear hdq hrq hnq hmq hsq hdl hd5
              go_wp2
              go_round
              case rel => exact ⟨j + 1, V + nd, by omega, by go_num, rfl, by omega, hst2⟩
              case measure => simp [intOf]; omega
            · obtain rfl : j = ns := by omega
              have hVf : Hid (V = sumP (wantP style) (ps.take (i + 1)) ∧ M1 = sumP (marksP style) (ps.take (i + 1))) := Lib.hid ⟨by rw [← hnx.out.1, hV.out, List.take_of_length_le (by rw [hslh.out]; exact Nat.le_refl _)], hnx.out.2⟩
              go_wp2
              go_round
              case rel => exact ⟨i + 1, V, M1, by omega, by go_num, rfl, rfl, by omega, hMb2, hVf⟩
              case measure => simp [intOf]; omega
      · obtain rfl : i = n := by omega
        obtain ⟨hWf, hMf⟩ := hWM.out
        rw [List.take_of_length_le (by rw [hklh.out]; exact Nat.le_refl _)] at hWf hMf
        have hlen : n1 = Wn + Mn := by have h1 := hOk.out.len; have h2 := hx2.out; dsimp only at h2; omega
        have hcnt : Hid (cntM lg xs = Mn) := Lib.hid (by rw [hOk.out.cnt, ← hMf])
        have hwf : IntKind.i64.wrap ((Wn : Int) + (Mn : Int)) = (n1 : Int) := by rw [IntWalk.i64_in _ (by omega)]; omega
        clear hWf hMf hlen hWM
        go_wp2
        go_loopw [15, 16] (fun s15 s16 wr => ∃ i m : Nat, i ≤ n1 ∧ s16 = .int .i64 i ∧ s15 = .int .i64 m ∧ m ≤ i ∧ Hid (m = cntM lg (xs.take i)) ∧ ∃ q, wr = wb.drewN q) (fun _ s16 _ => n1 - (intOf s16).toNat)
        case atStart => exact ⟨0, 0, Nat.zero_le _, rfl, rfl, Nat.le_refl _, Lib.hid rfl, 0, rfl⟩
        case round =>
          obtain ⟨i', m, hi1', rfl, rfl, hmb, hm, q, rfl⟩ := hrel
          by_cases hlt' : i' < n1
          · obtain ⟨b, o, t, hAe, hb, ht, hcell⟩ := hTb.out.2.2.at_ (k := i') hlt'
            try dsimp only at hAe
            subst hAe
            have i1 : (0 : Int) ≤ (i' : Int) := by omega
            have i2 : (i' : Int) < (n1 : Int) := by omega
            have hcl : (wb.drewN q).cell? ⟨b, o + i', none⟩ = some (.string (str t)) := hcell
            have hRu := Lib.hid (rRun_any t (wb.drewN q) (by have := hOk.out.txt t (List.mem_of_getElem? ht); unfold maxLen; omega))
            have hct := Lib.hid (cnt_take (lg := lg) ht)
            clear ht hcell
            by_cases hge : lg ≤ runN t
            · have hgi : (lg : Int) ≤ (runN t : Int) := by omega
              have hst2 : Hid (m + 1 = cntM lg (xs.take (i' + 1))) := Lib.hid (by rw [hct.out, if_pos hge, hm.out])
              obtain ⟨R, hR⟩ : ∃ R, runN t = R := ⟨_, rfl⟩
              rw [hR] at hgi hRu
              clear hge hct hR
              go_wp2_with (go_at_call 15; refine hRu.out.mono ?_; rintro e w5 ⟨rfl, q5, rfl⟩)
              go_roundw
              case rel => exact ⟨i' + 1, m + 1, by omega, by go_num, by go_num, by omega, hst2, _, rfl⟩
              case measure => simp [intOf]; omega
            · have hgi : ¬ (lg : Int) ≤ (runN t : Int) := by omega
              have hst2 : Hid (m = cntM lg (xs.take (i' + 1))) := Lib.hid (by rw [hct.out, if_neg hge, hm.out]; rfl)
              obtain ⟨R, hR⟩ : ∃ R, runN t = R := ⟨_, rfl⟩
              rw [hR] at hgi hRu
              clear hge hct hR
              go_wp2_with (go_at_call 15; refine hRu.out.mono ?_; rintro e w5 ⟨rfl, q5, rfl⟩)
              go_roundw
              case rel => exact ⟨i' + 1, m, by omega, by go_num, rfl, by omega, hst2, _, rfl⟩
              case measure => simp [intOf]; omega
          · obtain rfl : i' = n1 := by omega
            have hmm : m = Mn := by rw [hm.out, List.take_of_length_le (by have := hx2.out; first | (dsimp only at this; omega) | omega)]; exact hcnt.out
            subst hmm
            have hMy := rMayB_any A1 i' c1 wb.heap.size xs (wb.drewN q) (by unfold maxLen; omega) (fun s hs => by have := hOk.out.txt s hs; unfold maxLen; omega) (hTb.out.2.2.drewN q)
            rw [hOk.out.may] at hMy
            have hMyh := Lib.hid hMy
            clear hMy
            go_wp2_with (go_at_call 16; refine hMyh.out.mono ?_; rintro e w6 ⟨rfl, rfl⟩)
            go_ret
            exact ⟨rfl, below_drewN hBb.out q⟩
end
end Go.Proofs.YtcjmmidnfjifaaaGreatDoor

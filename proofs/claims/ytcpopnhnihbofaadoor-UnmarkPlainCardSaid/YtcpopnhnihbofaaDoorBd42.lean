/- Proved here: texts joined: SzFits, UnLawE. -/
import Derived.Test.YtcpopnhnihbofaaDoorBd16
import Derived.Test.YtcpopnhnihbofaaDoorBd17
import Derived.Test.YtcpopnhnihbofaaDoorBd19
import Derived.Test.YtcpopnhnihbofaaDoorBd26
import Derived.Test.YtcpopnhnihbofaaDoorBd28
import Derived.Test.YtcpopnhnihbofaaDoorBd41
import Derived.Laws.OwnMore
/- Proved here: the contract of the document's own answer of layer 11: Fits. -/
namespace Go.Proofs.YtcpopnhnihbofaaDoor
open Go.RowKit
set_option linter.unusedVariables false
set_option maxRecDepth 100000

set_option maxHeartbeats 1000000 in
theorem rFits_any (z : Int) (A : Option Addr) (n c B : Nat) (rows : List Slc) (files : List (List Tx)) (w : World) (hn : n ≤ maxLen) (hsm : smallF files) (hA : RowsT w B A n rows files) :
    Calls Tryd.prog 12 #[.int .i64 z, .slice A n c] w fun e w' => e = .returned (.bool (fitsB z files)) ∧ ∃ q, w' = w.drewN q := by
  have hl := hA.len
  have hAh := Lib.hid hA
  have hlh := Lib.hid hl
  have hsmh := Lib.hid hsm
  have hn1 : n ≤ 1000000 := by have := hsm.1; omega
  have hno : Hid (∀ t, t ∈ files.flatten → ¬ (runN t : Int) < z → fitsB z files = false) := Lib.hid (fun t ht h => by
    cases hf : fitsB z files with
    | false => rfl
    | true => exact absurd ((fits_iff.1 hf).2 t ht) h)
  clear hA hl hsm hn
  go_enter Tryd.func12, Tryd.ntmps12
  go_wp2
  go_loopw [5, 6] (fun s5 _ wr => ∃ i : Nat, i ≤ n ∧ s5 = .int .i64 i ∧ Hid (∀ t ∈ (files.take i).flatten, (runN t : Int) < z) ∧ ∃ q, wr = w.drewN q) (fun s5 _ _ => n - (intOf s5).toNat)
  case atStart => exact ⟨0, Nat.zero_le _, rfl, Lib.hid (by simp), 0, rfl⟩
  case round =>
    obtain ⟨i, hi, rfl, hm, q, rfl⟩ := hrel
    by_cases hlt : i < n
    · obtain ⟨b, o, A1, n1, c1, f, rfl, hb, hf, hr, hc, hnc, hcm, hst⟩ := hAh.out.at_ (k := i) hlt
      have i1 : (0 : Int) ≤ (i : Int) := by omega
      have i2 : (i : Int) < (n : Int) := by omega
      have hc' : Hid (∀ z, (w.drewN z).cell? ⟨b, o + i, none⟩ = some (.slice A1 n1 c1)) := Lib.hid (fun z => hc)
      have hfl : f.length = n1 := hst.len
      have hfh := Lib.hid hf
      have hsth := Lib.hid hst
      have hn1m : n1 ≤ 9223372036854775807 := by unfold maxLen at hcm; omega
      have hflh := Lib.hid hfl
      clear hf hr hst hc hfl hnc hcm
      go_wp2
      go_loopw [6] (fun s6 wr => ∃ j : Nat, j ≤ n1 ∧ s6 = .int .i64 j ∧ Hid (∀ t ∈ (files.take i).flatten ++ f.take j, (runN t : Int) < z) ∧ ∃ q, wr = w.drewN q) (fun s6 _ => n1 - (intOf s6).toNat)
      case atStart => exact ⟨0, Nat.zero_le _, rfl, Lib.hid (by simpa using hm.out), q, rfl⟩
      case round =>
        obtain ⟨j, hj, rfl, hm2, q2, rfl⟩ := hrel
        have hc2 := hc'.out q2
        by_cases hlt2 : j < n1
        · obtain ⟨b2, o2, t, rfl, hb2, ht, hct⟩ := hsth.out.at_ (k := j) hlt2
          have i3 : (0 : Int) ≤ (j : Int) := by omega
          have i4 : (j : Int) < (n1 : Int) := by omega
          have hct' : (w.drewN q2).cell? ⟨b2, o2 + j, none⟩ = some (.string (str t)) := hct
          have htl : t.length ≤ 1000000 := (hsmh.out.2 f (List.mem_of_getElem? hfh.out)).2 t (List.mem_of_getElem? ht)
          have hR := rRun_any t (w.drewN q2) (by unfold maxLen; omega)
          obtain ⟨r, hr⟩ : ∃ r, runN t = r := ⟨_, rfl⟩
          rw [hr] at hR
          have hRh := Lib.hid hR
          have hth := Lib.hid ht
          have hrh := Lib.hid hr
          clear hR hr ht hct htl
          by_cases hz : z ≤ (r : Int)
          · have hno2 := Lib.hid (hno.out t (List.mem_flatten.2 ⟨f, List.mem_of_getElem? hfh.out, List.mem_of_getElem? hth.out⟩) (by rw [hrh.out]; omega))
            go_wp2_with (go_at_call 28; refine hRh.out.mono ?_; rintro e w1 ⟨rfl, q3, rfl⟩)
            go_ret
            exact ⟨ret_bool (by rw [hno2.out]), q2 + q3, rfl⟩
          · have hnx := Lib.hid (show ∀ t ∈ (files.take i).flatten ++ f.take (j + 1), (runN t : Int) < z from fun x hx => by
              rw [take_at hth.out, ← List.append_assoc] at hx
              rcases List.mem_append.1 hx with hx | hx
              · exact hm2.out x hx
              · rw [List.mem_singleton.1 hx, hrh.out]; omega)
            have hz2 : ¬ z ≤ (r : Int) := hz
            go_wp2_with (go_at_call 28; refine hRh.out.mono ?_; rintro e w1 ⟨rfl, q3, rfl⟩)
            go_roundw
            case rel => exact ⟨j + 1, by omega, by go_num, hnx, q2 + q3, by simp⟩
            case measure => simp [intOf]; omega
        · obtain rfl : j = n1 := by omega
          have hend := Lib.hid (show ∀ t ∈ (files.take (i + 1)).flatten, (runN t : Int) < z from by
            have := hm2.out
            rw [List.take_of_length_le (l := f) (by rw [hflh.out]; exact Nat.le_refl _), ← flatF_take hfh.out] at this
            exact this)
          go_wp2
          go_roundw
          case rel => exact ⟨i + 1, by omega, by go_num, hend, q2, rfl⟩
          case measure => simp [intOf]; omega
    · obtain rfl : i = n := by omega
      have hend := Lib.hid (show decide (1 ≤ z) = fitsB z files from by
        have := hm.out
        rw [List.take_of_length_le (l := files) (by rw [hlh.out]; exact Nat.le_refl _)] at this
        rw [Bool.eq_iff_iff, decide_eq_true_eq, fits_iff]
        exact ⟨fun h => ⟨h, this⟩, fun h => h.1⟩)
      go_wp2
      go_ret
      exact ⟨ret_bool (by rw [← hend.out]), q, rfl⟩
end Go.Proofs.YtcpopnhnihbofaaDoor
/- Proved here: what the statement UnmarkPlain says, by the contract of package unmark. -/
namespace Go.Proofs.YtcpopnhnihbofaaDoor
open Go.RowKit
set_option linter.unusedVariables false
set_option maxRecDepth 100000

theorem few_partsE {l : Txs} {k : Nat} (h : fewB l k = true) : l.length ≤ k ∧ ∀ t ∈ l, t.length ≤ 100 := by
  unfold fewB at h
  rw [Bool.and_eq_true, decide_eq_true_eq] at h
  refine ⟨h.1, fun t ht => ?_⟩
  have h2 := h.2
  rw [List.take_of_length_le (by omega), List.all_eq_true] at h2
  simpa using h2 t ht

section
variable (H : UnmParseOk)
include H

set_option maxHeartbeats 8000000 in
theorem UnmarkPlain_walk (A : Option Addr) (n c : Nat) (l : Txs) (y : Nat) (w : World) (h0 : TxR w w.heap.size (A, n, c) l) (hy : y ≤ 255) :
    Calls Tryd.prog 4 #[.slice A n c, .int .u8 (y : Int)] w fun e w' => e = .returned (.bool true) ∧ Below w.heap.size w w' := by
  have haw := Lib.hid (unAwake_any H w)
  have hn : n ≤ maxLen := Nat.le_trans h0.1 h0.2.1
  have hl0 : l.length = n := h0.2.2.len
  obtain ⟨K, hK⟩ : ∃ K : Nat, 1 + y % 40 = K := ⟨_, rfl⟩
  obtain ⟨M, hM⟩ : ∃ M : Nat, y % 40 = M := ⟨_, rfl⟩
  have hMt : ((y : Int)).tmod 40 = (M : Int) := by rw [← hM]; exact Int.ofNat_tmod y 40 ▸ rfl
  have hNi : (1 : Int) + (M : Int) = (K : Int) := by omega
  have hwK : IntKind.i64.wrap (K : Int) = (K : Int) := IntWalk.i64_in _ (by omega)
  have hK1 : 1 ≤ K := by omega
  have hK40 : K ≤ 40 := by omega
  have hKr : inR64 (K : Int) := by unfold inR64; omega
  obtain ⟨fm, hfm⟩ : ∃ fm, fewB l 30 = fm := ⟨_, rfl⟩
  have hF : Hid (∀ W, Below w.heap.size w W → Calls Tryd.prog 7 #[.slice A n c, .int .i64 30] W fun e w' => e = .returned (.bool fm) ∧ W = w') := Lib.hid (fun W hW => by
    have h := Few_any A n c 30 W.heap.size l W hn (by decide) (h0.up hW).2.2
    rw [hfm] at h
    exact h)
  cases fm
  · clear h0 hfm hn hl0 hK hM hKr
    go_enter Tryd.func4, Tryd.ntmps4
    go_wp2_with (first
      | (go_at_call 6; refine haw.out.mono ?_; rintro e w1 ⟨rfl, hb1⟩; have hB1 := Lib.hid hb1; clear hb1)
      | (go_at_call 7; refine (hF.out _ hB1.out).mono ?_; rintro e w2 ⟨rfl, rfl⟩))
    go_ret
    exact ⟨rfl, hB1.out⟩
  obtain ⟨k1, k2⟩ := few_partsE hfm
  obtain ⟨mm, hmm⟩ : ∃ mm, mayB l = mm := ⟨_, rfl⟩
  have hMy : Hid (∀ W, Below w.heap.size w W → Calls Tryd.prog 11 #[.slice A n c] W fun e w' => e = .returned (.bool mm) ∧ W = w') := Lib.hid (fun W hW => by
    have h := rMayB_any A n c W.heap.size l W hn (fun s hs => by have := k2 s hs; unfold maxLen; omega) (h0.up hW).2.2
    rw [hmm] at h
    exact h)
  cases mm
  · clear h0 hfm hn hl0 hK hM hKr hmm k1 k2
    go_enter Tryd.func4, Tryd.ntmps4
    go_wp2_with (first
      | (go_at_call 6; refine haw.out.mono ?_; rintro e w1 ⟨rfl, hb1⟩; have hB1 := Lib.hid hb1; clear hb1)
      | (go_at_call 7; refine (hF.out _ hB1.out).mono ?_; rintro e w2 ⟨rfl, hw2⟩; subst hw2)
      | (go_at_call 11; refine (hMy.out _ hB1.out).mono ?_; rintro e w2 ⟨rfl, rfl⟩))
    go_ret
    exact ⟨rfl, hB1.out⟩
  obtain ⟨ft, hft⟩ : ∃ ft, fitsB (K : Int) [l] = ft := ⟨_, rfl⟩
  have hFt : Hid (∀ W, Below w.heap.size w W → Calls Tryd.prog 12 #[.int .i64 (K : Int), .slice (some ⟨W.heap.size, 0, none⟩) 1 1] (W.alloc (.cells #[.slice A n c] 22)) fun e w' => e = .returned (.bool ft) ∧ Below w.heap.size w w') := Lib.hid (fun W hW => by
    have hb := below_alloc hW (.cells #[.slice A n c] 22)
    have hR : RowsT (W.alloc (.cells #[.slice A n c] 22)) (W.alloc (.cells #[.slice A n c] 22)).heap.size (some ⟨W.heap.size, 0, none⟩) 1 [(A, n, c)] [l] := rowsT_of (one_a W _) rfl rfl rfl fun k r ss a b => by
      match k, a, b with
      | 0, a, b => simp at a b; subst a; subst b; exact h0.up hb
      | k + 1, a, b => simp at a
    have h := rFits_any (K : Int) _ 1 1 _ [(A, n, c)] [l] _ (by decide) ⟨by simp, fun f hf => by
      rw [List.mem_singleton.1 hf]
      exact ⟨by omega, fun t ht => by have := k2 t ht; omega⟩⟩ hR
    rw [hft] at h
    refine h.mono ?_
    rintro e w' ⟨r1, q, rfl⟩
    exact ⟨r1, below_drewN hb q⟩)
  cases ft
  · clear h0 hfm hn hl0 hK hM hKr hmm k1 k2 hft
    go_enter Tryd.func4, Tryd.ntmps4
    go_wp2_with (first
      | (go_at_call 6; refine haw.out.mono ?_; rintro e w1 ⟨rfl, hb1⟩; have hB1 := Lib.hid hb1; clear hb1)
      | (go_at_call 7; refine (hF.out _ hB1.out).mono ?_; rintro e w2 ⟨rfl, hw2⟩; subst hw2)
      | (go_at_call 11; refine (hMy.out _ hB1.out).mono ?_; rintro e w2 ⟨rfl, hw2⟩; subst hw2)
      | (go_at_call 12; refine (hFt.out _ hB1.out).mono ?_; rintro e w3 ⟨rfl, hb3⟩; have hB3 := Lib.hid hb3; clear hb3))
    go_ret
    exact ⟨rfl, hB3.out⟩
  have hpb : partB K l := ⟨hmm, fun t ht => by have := (fits_iff.1 hft).2 t (by simpa using ht); omega⟩
  have hx1 : parseM l (K : Int) = (normal [tPc l], 1, 0, 0) := by
    rw [parseM_res l K hK1 (by omega), walk_plain hpb, ← flush_nil]
    rfl
  obtain ⟨O, hO⟩ : ∃ O : Nat, (if openB l = true then l.length + 1 else l.length + 2) = O := ⟨_, rfl⟩
  have hx2 : parseM (markT 60 K [] [32, 49] :: l) (K : Int) = ([], 0, (O : Int), 2) := by
    rw [parseM_res _ K hK1 (by omega), walk_cut hpb, hO]
    rfl
  obtain ⟨mk, hmk⟩ : ∃ mk, markT 60 K [] [32, 49] = mk := ⟨_, rfl⟩
  have hmkl : mk.length ≤ 100 := by
    rw [← hmk]
    unfold markT
    rw [if_neg (by simp [openB])]
    simp
    omega
  have hMk : Hid (∀ W, Calls Tryd.prog 14 #[.string ⟨#[60]⟩, .int .i64 (K : Int), .slice none 0 0, .string ⟨#[32, 49]⟩] W fun e w' => e = .returned (.string (str mk)) ∧ w' = W) := Lib.hid (fun W => by rw [← hmk]; exact rMark_any 60 K none 0 0 0 [] [32, 49] W (by omega) (by decide) (by simp) (by decide) (Strs.nil _ _ _))
  rw [hmk] at hx2
  have hsl : smallL l := ⟨by omega, fun t ht => by have := k2 t ht; omega⟩
  have hsc : smallL (mk :: l) := ⟨by rw [List.length_cons]; omega, fun t ht => by
    rcases List.mem_cons.1 ht with rfl | ht
    · omega
    · have := k2 t ht; omega⟩
  have hP1 := Lib.hid (fun (W : World) (hb : Below w.heap.size w W) => (hx1 ▸ H A n c l (K : Int) W hKr hsl (h0.up hb) : Calls Tryd.prog 8 #[.slice A n c, .int .i64 (K : Int)] W fun e w' => ParseA W w' e (normal [tPc l], 1, 0, 0)))
  have hP2 := Lib.hid (fun (A2 : Option Addr) (n2 c2 : Nat) (W : World) (hT : TxR W W.heap.size (A2, n2, c2) (mk :: l)) => (hx2 ▸ H A2 n2 c2 (mk :: l) (K : Int) W hKr hsc hT : Calls Tryd.prog 8 #[.slice A2 n2 c2, .int .i64 (K : Int)] W fun e w' => ParseA W w' e ([], 0, (O : Int), 2)))
  obtain ⟨one, hone⟩ : ∃ one, normal [tPc l] = one := ⟨_, rfl⟩
  have hNo : Hid (∀ W, Below w.heap.size w W → Calls Tryd.prog 13 #[.slice (some ⟨W.heap.size, 0, none⟩) 1 1] (W.alloc (.cells #[.bool false, .slice A n c, .slice none 0 0, .slice none 0 0] 37)) fun e w' => PcsOut (W.alloc (.cells #[.bool false, .slice A n c, .slice none 0 0, .slice none 0 0] 37)) w' e one) := Lib.hid (fun W hW => by
    rw [← hone]
    have hb := below_alloc hW (.cells #[.bool false, .slice A n c, .slice none 0 0, .slice none 0 0] 37)
    exact rNormal_any _ 1 1 [((A, n, c), (none, 0, 0), (none, 0, 0))] [tPc l] _ (by decide) (by show l.length + 0 ≤ _; omega) (pcs_one (v := ((A, n, c), (none, 0, 0), (none, 0, 0))) (p := tPc l) (one_a W _) (PcR.text (h0.up hb))))
  have hSa := Lib.hid (fun (A1 A2 : Option Addr) (n1 c1 n2 c2 : Nat) (vs vs' : List PcV) (W : World) (k1 : n1 ≤ maxLen) (k2 : n2 ≤ maxLen) (h1 : Pcs W W.heap.size A1 n1 vs one) (h2 : Pcs W W.heap.size A2 n2 vs' one) => pSame_any A1 A2 n1 n2 c1 c2 W.heap.size W.heap.size vs vs' one one W k1 k2 h1 h2)
  rw [decide_eq_true (rfl : one = one)] at hSa
  rw [hone] at hP1
  have hOp : Hid (∀ W, Below w.heap.size w W → Calls Tryd.prog 15 #[.slice A n c] W fun e w' => e = .returned (.bool (openB l)) ∧ W = w') := Lib.hid (fun W hW => rOpen_any A n c W.heap.size l W hn (fun s hs => by have := k2 s hs; unfold maxLen; omega) (h0.up hW).2.2)
  have hA0 : Hid (∀ W, Below w.heap.size w W → Strs W W.heap.size A n l) := Lib.hid (fun W hb => (h0.up hb).2.2)
  have hmax : Hid (1 + n ≤ maxLen ∧ (1 + n) * 16 ≤ 140737488355328) := Lib.hid (by unfold maxLen; omega)
  obtain ⟨N, hN⟩ : ∃ N, 1 + n = N := ⟨_, rfl⟩
  rw [hN] at hmax
  have hNh := Lib.hid hN
  have hNN : (N : Int) + 1 = ((N + 1 : Nat) : Int) := by omega
  obtain ⟨P, hP⟩ : ∃ P : Nat, N + 1 = P := ⟨_, rfl⟩
  rw [hP] at hNN
  have hwP : IntKind.i64.wrap (P : Int) = (P : Int) := IntWalk.i64_in _ (by omega)
  have hPN : (P : Int) - 1 = (N : Int) := by omega
  have hwN : IntKind.i64.wrap (N : Int) = (N : Int) := IntWalk.i64_in _ (by omega)
  obtain ⟨i0, hi, hzz⟩ := Option.map_eq_some_iff.1 infoStr
  simp only [Prod.mk.injEq] at hzz
  obtain ⟨hz0, hz1, hz2⟩ := hzz
  obtain ⟨o, ho⟩ : ∃ o, openB l = o := ⟨_, rfl⟩
  rw [ho] at hOp hO
  have tok1 := trivial
  cases o
  case' false =>
    have hOq : ((O : Int) == (P : Int)) = true := by rw [beq_iff_eq]; rw [if_neg (by simp)] at hO; omega
  case' true =>
    have hOq : ((O : Int) == (N : Int)) = true := by rw [beq_iff_eq]; rw [if_pos rfl] at hO; omega
  all_goals
    clear h0 hfm hn hl0 hK hM hKr hmm k1 k2 hft hpb hx1 hx2 hmk hmkl hsl hsc hone ho hO hN hP
    go_enter Tryd.func4, Tryd.ntmps4
    go_upto_region 6 with (first
      | (go_at_call 6; refine haw.out.mono ?_; rintro e w1 ⟨rfl, hb1⟩; have hB1 := Lib.hid hb1; clear hb1)
      | (go_at_call 7; refine (hF.out _ hB1.out).mono ?_; rintro e w2 ⟨rfl, hw2⟩; subst hw2)
      | (go_at_call 11; refine (hMy.out _ hB1.out).mono ?_; rintro e w2 ⟨rfl, hw2⟩; subst hw2)
      | (go_at_call 12; refine (hFt.out _ hB1.out).mono ?_; rintro e w3 ⟨rfl, hb3⟩; have hB3 := Lib.hid hb3; clear hb3)
      | (go_at_call 8; refine (hP1.out _ hB3.out).mono ?_; rintro e w4 ⟨A4, n4, c4, vs4, rfl, q1, q2, q3, q4⟩; have hP4 := Lib.hid (And.intro (Nat.le_trans q1 q2) q3); have hB4 := Lib.hid (hB3.out.trans (q4.mono hB3.out.size)); clear q1 q2 q3 q4))
    go_upto_region 7 with (go_at_call 13; refine (hNo.out _ hB4.out).mono ?_; rintro e w5 ⟨A5, n5, c5, vs5, rfl, q1, q2, q3, q4⟩; have hq5 := Lib.hid ((below_alloc (Below.refl w4.heap.size w4) _).trans (q4.mono (below_alloc (Below.refl w4.heap.size w4) _).size)); have hP5 := Lib.hid (And.intro (Nat.le_trans q1 q2) q3); have hP4b := Lib.hid (hP4.out.2.up hq5.out); have hB5 := Lib.hid (hB4.out.trans (hq5.out.mono hB4.out.size)); clear q1 q2 q3 q4)
    have hlit := World.ownsRow_lit (e := 9) (base := w5.heap.size) (size := 1) w5 #[.string (str mk)] 1 (Nat.le_refl _) (by decide) rfl
    have hBe : Below w5.heap.size w5 (w5.alloc (.cells #[.string (str mk)] 9)) := below_alloc (Below.refl _ _) _
    have hRe := Lib.hid (hA0.out _ (hB5.out.trans (hBe.mono hB5.out.size)))
    go_wp2_with (first
      | (go_at_call 14; refine (hMk.out _).mono ?_; rintro e wm ⟨rfl, hww⟩; have hws := hww.symm; clear hww; subst hws)
      | (at_builtin; refine wpList_append_reads _ rfl _ _ 22 rfl w5.heap.size 9 i0 (.string ByteArray.empty) 16 Tryd.underlying22 hi hz0 hz1 hz2 rfl _ 1 _ rfl hlit _ A n c _ rfl hRe.out (strs_one _) (by rw [hNh.out]; exact hmax.out.1) (by rw [hNh.out]; exact hmax.out.2) hBe.size ?_; intro v6 w6 hown6 hg6; rw [hNh.out] at hown6; have hq6 := Lib.hid (hBe.grown hg6 hBe.size (fun j e => (hlit.lt j e).1)); have hB6 := Lib.hid (hB5.out.trans (hq6.out.mono hB5.out.size)); obtain ⟨A6, c6, rfl, p1, p2, p3⟩ := own_slice hown6; have hT6 : Hid (TxR w6 w6.heap.size (A6, N, c6) (mk :: l)) := Lib.hid ⟨p1, p2, p3⟩; have hP4c := Lib.hid (hP4b.out.up hq6.out); have hP5c := Lib.hid (hP5.out.2.up hq6.out); clear hg6 hown6 p1 p2 p3 hlit hBe hRe)
      | (go_at_call 8; refine (hP2.out A6 N c6 _ hT6.out).mono ?_; rintro e w7 ⟨A7, n7, c7, vs7, rfl, q1, q2, q3, q4⟩; have hB7 := Lib.hid (hB6.out.trans (q4.mono hB6.out.size)); have hP4d := Lib.hid (hP4c.out.up q4); have hP5d := Lib.hid (hP5c.out.up q4); clear q1 q2 q3 q4 hT6)
      | (go_at_call 15; refine (hOp.out _ hB7.out).mono ?_; rintro e w8 ⟨rfl, hw8⟩; subst hw8)
      | (go_at_call 10; refine (hSa.out A4 A5 n4 c4 n5 c5 vs4 vs5 _ hP4.out.1 hP5.out.1 hP4d.out hP5d.out).mono ?_; rintro e w9 ⟨rfl, q9, rfl⟩))
    go_ret
    exact ⟨rfl, below_drewN hB7.out q9⟩
end
end Go.Proofs.YtcpopnhnihbofaaDoor

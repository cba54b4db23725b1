/- Proved here: what the statement SizeMarks says, by the contracts of package size. -/
import Derived.Test.YtiokgehiighgpaaSzLawB
namespace Go.Proofs.Ytiokgehiighgpaa
open Go.RowKit
set_option linter.unusedVariables false
set_option maxRecDepth 100000

theorem few_txs {files : List Txs} (h : fewT [] files = true) : ∀ f ∈ files, ∀ t ∈ f, t.length ≤ 1000000 := fun f hf t ht => ((few_smallF h).2 f hf).2 t ht
theorem take_marks {k : Nat} (hk : k ≤ 12) : (List.replicate 12 (61 : UInt8)).take k = List.replicate k 61 := by
  rw [List.take_replicate, Nat.min_eq_left hk]

theorem rows_plus {w W : World} {A A' : Option Addr} {n J : Nat} {rows : List Slc} {files : List Txs} {r : Slc} {t : Txs} (hA : RowsT w w.heap.size A n rows files) (hb : Below w.heap.size w W) (hr : Reads W W.heap.size A' J (rows.map slcV ++ [slcV r])) (hT : TxR W W.heap.size r t) : RowsT W W.heap.size A' J (rows ++ [r]) (files ++ [t]) := by
  have hl := hA.2.1
  refine ⟨by rw [List.map_append]; exact hr, by rw [List.length_append, List.length_append, hl]; rfl, fun k r' ss a b => ?_⟩
  rcases Nat.lt_or_ge k rows.length with hk | hk
  · rw [List.getElem?_append_left hk] at a
    rw [List.getElem?_append_left (by omega)] at b
    exact (hA.2.2 k r' ss a b).up hb
  · rw [List.getElem?_append_right hk] at a
    rw [List.getElem?_append_right (by omega), ← hl] at b
    match hkk : k - rows.length, a, b with
    | 0, a, b =>
      simp at a b
      subst a
      subst b
      exact hT
    | q + 1, a, b => simp at a
section
variable (H : SizeOk)
include H

set_option maxHeartbeats 8000000 in
theorem SizeMarks_walk (A : Option Addr) (n c : Nat) (rows : List Slc) (files : List Txs) (s : ByteArray) (y : Nat) (w : World) (h0 : ArgTs w A n c rows files) (hs : s.size ≤ maxLen) (hy : y ≤ 255) :
    Calls Try.prog 6 #[.slice A n c, .string s, .int .u8 y] w fun e w' => e = .returned (.bool true) ∧ Below w.heap.size w w' := by
  obtain ⟨hnc, hcm, hA⟩ := h0
  have haw := Lib.hid (szAwake_any H w)
  obtain ⟨x, rfl⟩ : ∃ x, s = str x := ⟨s.data.toList, (str_of s).symm⟩
  rw [str_size] at hs
  unfold maxLen at hs
  have hss : (str x).size = x.length := str_size x
  obtain ⟨fm, hfm⟩ : ∃ fm, fewT [] files = fm := ⟨_, rfl⟩
  have hF := Lib.hid (fun (W : World) (hb : Below w.heap.size w W) => rFew_any none 0 0 w.heap.size [] A n c w.heap.size rows files W (Nat.zero_le _) (Nat.le_trans hnc hcm) (Strs.nil _ _ _) (hA.below hb))
  rw [hfm] at hF
  cases fm
  · clear hA hfm
    go_enter Try.func6, Try.ntmps6
    go_wp2_with (first
      | (go_at_call 8; refine haw.out.mono ?_; rintro e w1 ⟨rfl, hb1⟩; have hB1 := Lib.hid hb1; clear hb1)
      | (go_at_call 11; refine (hF.out _ hB1.out).mono ?_; rintro e w2 ⟨rfl, rfl⟩))
    go_ret
    exact ⟨rfl, hB1.out⟩
  by_cases hl : (100 : Int) < ((str x).size : Int)
  · clear hA hfm
    go_enter Try.func6, Try.ntmps6
    go_wp2_with (first
      | (go_at_call 8; refine haw.out.mono ?_; rintro e w1 ⟨rfl, hb1⟩; have hB1 := Lib.hid hb1; clear hb1)
      | (go_at_call 11; refine (hF.out _ hB1.out).mono ?_; rintro e w2 ⟨rfl, rfl⟩))
    go_ret
    exact ⟨rfl, hB1.out⟩
  have hx100 : x.length ≤ 100 := by rw [hss] at hl; omega
  have hsm := few_smallF hfm
  have hn6 : n ≤ 6 := by have := (fewT_parts hfm).2.1; have := hA.len; omega
  obtain ⟨M, hM⟩ : ∃ M : Nat, y % 12 = M := ⟨_, rfl⟩
  obtain ⟨K, hK⟩ : ∃ K : Nat, 1 + M = K := ⟨_, rfl⟩
  have hMt : ((y : Int)).tmod 12 = (M : Int) := by rw [← hM]; exact Int.ofNat_tmod y 12 ▸ rfl
  have hM11 : M ≤ 11 := by omega
  have hKi : (1 : Int) + (M : Int) = (K : Int) := by omega
  have hwK : IntKind.i64.wrap (K : Int) = (K : Int) := IntWalk.i64_in _ (by omega)
  have hK12 : Hid (1 ≤ K ∧ K ≤ 12) := Lib.hid (by omega)
  obtain ⟨b, hb⟩ : ∃ b, fitsB (K : Int) files = b := ⟨_, rfl⟩
  have hFi := Lib.hid (fun (W : World) (hW : Below w.heap.size w W) => (H.fits_ok (K : Int) A n c rows files W (by omega) (by omega) hnc hcm hsm (hA.up hW)).mono fun e w' h => (⟨h.1, hW.trans (h.2.mono hW.size)⟩ : _ ∧ Below w.heap.size w w'))
  rw [hb] at hFi
  have hbh := Lib.hid hb
  have htx := Lib.hid (few_txs hfm)
  have hAh := Lib.hid hA
  have hlh := Lib.hid hA.len
  -- the mark, and what is asked of it
  have hmk : ∀ W : World, (Instr.slice 9 (.string ⟨#[61, 61, 61, 61, 61, 61, 61, 61, 61, 61, 61, 61]⟩) none (some (.int .i64 (K : Int))) none).run Try.prog W = .ok (.string (str (List.replicate K 61))) W := fun W => by
    have := slice_str_to (List.replicate 12 61) K (by have := hK12.out; simp; omega) W
    rw [take_marks hK12.out.2] at this
    exact this
  have hms : (str (List.replicate K (61 : UInt8))).size = K := by rw [str_size, List.length_replicate]
  obtain ⟨mk, hmkd⟩ : ∃ mk, List.replicate K (61 : UInt8) = mk := ⟨_, rfl⟩
  have hrun := run_marks (c := 61) (s := x) (by decide) K
  have hfb := fits_begin (k := K) (s := x) (files := files) (c := 61) (by decide)
  rw [hmkd] at hmk hms hrun hfb
  obtain ⟨r, hr⟩ : ∃ r, runN (mk ++ x) = r := ⟨_, rfl⟩
  have hml : (mk ++ x).length ≤ 112 := by rw [List.length_append]; rw [str_size] at hms; have := hK12.out; omega
  have hRm : Hid (∀ W, Below w.heap.size w W → Calls Try.prog 9 #[.string (str mk ++ str x)] W fun e w' => e = .returned (.int .i64 (r : Int)) ∧ Below w.heap.size w w') := Lib.hid (fun W hW => by
    rw [str_app, ← hr]
    exact (H.run_ok (mk ++ x) W (by omega)).mono fun e w' h => ⟨h.1, hW.trans (h.2.mono hW.size)⟩)
  have hrK : (K : Int) ≤ (r : Int) := by rw [hr] at hrun; omega
  have hnsum : ¬ 9223372036854775807 < (str mk).size + (str x).size := by rw [hms, hss]; have := hK12.out; omega
  obtain ⟨i0, hi, hz⟩ := Option.map_eq_some_iff.1 infoTxs
  simp only [Prod.mk.injEq] at hz
  obtain ⟨hz1, hz2, hz3⟩ := hz
  have hle : Hid (0 + n ≤ maxLen ∧ (0 + n) * 24 ≤ 140737488355328 ∧ 0 + n + 1 ≤ maxLen ∧ (0 + n + 1) * 24 ≤ 140737488355328) := Lib.hid (by unfold maxLen; omega)
  obtain ⟨J, hJ⟩ : ∃ J, 0 + n + 1 = J := ⟨_, rfl⟩
  have hJh := Lib.hid hJ
  have hsmJ : Hid (smallF (files ++ [[mk ++ x]])) := Lib.hid (by
    obtain ⟨g1, g2⟩ := hsm
    refine ⟨by have := (fewT_parts hfm).2.1; rw [List.length_append]; simp; omega, fun f hf => ?_⟩
    rcases List.mem_append.1 hf with hf | hf
    · exact g2 f hf
    · rw [List.mem_singleton.1 hf]
      refine ⟨by simp, fun t ht => ?_⟩
      rw [List.mem_singleton.1 ht]; omega)
  have hfbh := Lib.hid hfb
  have t1 := trivial
  have t2 := trivial
  clear hA hfm hb hsm hM hK hr hrun hfb hmkd hml hJ hs hx100
  go_enter Try.func6, Try.ntmps6
  go_wp2_with (first
    | (go_at_call 8; refine haw.out.mono ?_; rintro e w1 ⟨rfl, hb1⟩; have hB1 := Lib.hid hb1; clear hb1)
    | (go_at_call 11; refine (hF.out _ hB1.out).mono ?_; rintro e w2 ⟨rfl, hw2⟩; have hB2 : Hid (Below w.heap.size w w2) := Lib.hid (by rw [hw2]; exact hB1.out); clear hw2))
  go_loopw [9, 10, 11] (fun s9 _ _ wr => ∃ i : Nat, i ≤ n ∧ s9 = .int .i64 i ∧ Hid (Below w.heap.size w wr)) (fun s9 _ _ _ => n - (intOf s9).toNat)
  case atStart => exact ⟨0, Nat.zero_le _, rfl, hB2⟩
  case round =>
    obtain ⟨i, hi2, rfl, hB⟩ := hrel
    obtain ⟨wo, rfl⟩ : ∃ wo : World, wo = wr := ⟨_, rfl⟩
    by_cases hlt : i < n
    · obtain ⟨bk, o, A1, n1, c1, f, rfl, hbk, hf, hr, hc, hnc1, hcm1, hst⟩ := hAh.out.at_ (k := i) hlt
      have i1 : (0 : Int) ≤ (i : Int) := by omega
      have i2 : (i : Int) < (n : Int) := by omega
      have hc' : Hid (∀ W, Below w.heap.size w W → W.cell? ⟨bk, o + i, none⟩ = some (.slice A1 n1 c1)) := Lib.hid (fun W hW => (hW.cell (p := ⟨bk, o + i, none⟩) hbk).trans hc)
      have hfh := Lib.hid hf
      have hsth := Lib.hid hst
      have hn1m : n1 ≤ 9223372036854775807 := by unfold maxLen at hcm1; omega
      clear hf hr hst hc hnc1 hcm1
      go_wp2
      go_loopw [10, 11] (fun s10 _ wr => ∃ j : Nat, j ≤ n1 ∧ s10 = .int .i64 j ∧ Hid (Below w.heap.size w wr)) (fun s10 _ _ => n1 - (intOf s10).toNat)
      case atStart => exact ⟨0, Nat.zero_le _, rfl, hB⟩
      case round =>
        obtain ⟨j, hj, rfl, hBj⟩ := hrel
        obtain ⟨wp, rfl⟩ : ∃ wp : World, wp = wr := ⟨_, rfl⟩
        have hc2 := hc'.out wp hBj.out
        by_cases hlt2 : j < n1
        · obtain ⟨b2, o2, t, rfl, hb2, ht, hct⟩ := (Strs.below hsth.out hBj.out).at_ (k := j) hlt2
          have i3 : (0 : Int) ≤ (j : Int) := by omega
          have i4 : (j : Int) < (n1 : Int) := by omega
          have htl := htx.out f (List.mem_of_getElem? hfh.out) t (List.mem_of_getElem? ht)
          have htm : Hid (t ∈ files.flatten) := Lib.hid (List.mem_flatten.2 ⟨f, List.mem_of_getElem? hfh.out, List.mem_of_getElem? ht⟩)
          have hts : (str t).size = t.length := str_size t
          clear ht
          cases b
          · go_wp2_with (go_at_call 14; refine (hFi.out _ hBj.out).mono ?_; rintro e w4 ⟨rfl, hb4⟩; have hB4 := Lib.hid hb4; clear hb4)
            go_roundw
            case rel => exact ⟨j + 1, by omega, by go_num, hB4⟩
            case measure => simp [intOf]; omega
          · by_cases hK3 : K ≤ t.length
            · have hK4 : (K : Int) ≤ ((str t).size : Int) := by rw [hts]; omega
              have hsl := slice_str_to t K hK3
              have hne : runN (t.take K) ≠ K := by
                rcases fits_mark hbh.out htm.out with h | h
                · exact h
                · omega
              obtain ⟨q, hq⟩ : ∃ q, runN (t.take K) = q := ⟨_, rfl⟩
              have hqK : ((q : Int) == (K : Int)) = false := by rw [beq_eq_false_iff_ne]; rw [hq] at hne; omega
              have hR : Hid (∀ W, Below w.heap.size w W → Calls Try.prog 9 #[.string (str (t.take K))] W fun e w' => e = .returned (.int .i64 (q : Int)) ∧ Below w.heap.size w w') := Lib.hid (fun W hW => by
                rw [← hq]
                exact (H.run_ok (t.take K) W (by rw [List.length_take]; omega)).mono fun e w' h => ⟨h.1, hW.trans (h.2.mono hW.size)⟩)
              clear hne hq hts hK3
              go_wp2_with (first
                | (go_at_call 14; refine (hFi.out _ hBj.out).mono ?_; rintro e w4 ⟨rfl, hb4⟩; have hB4 := Lib.hid hb4; clear hb4)
                | (go_at_call 9; refine (hR.out _ hB4.out).mono ?_; rintro e w5 ⟨rfl, hb5⟩; have hB5 := Lib.hid hb5; clear hb5))
              go_roundw
              case rel => exact ⟨j + 1, by omega, by go_num, hB5⟩
              case measure => simp [intOf]; omega
            · have hK4 : ¬ (K : Int) ≤ ((str t).size : Int) := by rw [hts]; omega
              clear hts hK3
              go_wp2_with (go_at_call 14; refine (hFi.out _ hBj.out).mono ?_; rintro e w4 ⟨rfl, hb4⟩; have hB4 := Lib.hid hb4; clear hb4)
              go_roundw
              case rel => exact ⟨j + 1, by omega, by go_num, hB4⟩
              case measure => simp [intOf]; omega
        · obtain rfl : j = n1 := by omega
          go_wp2
          go_roundw
          case rel => exact ⟨i + 1, by omega, by go_num, hBj⟩
          case measure => simp [intOf]; omega
    · obtain rfl : i = n := by omega
      go_wp2_with (first
        | (go_at_call 9; refine (hRm.out _ hB.out).mono ?_; rintro e w3 ⟨rfl, hb3⟩; have hB3 := Lib.hid hb3; have hR3 := Lib.hid (hAh.out.up (below_alloc hb3 (.cells #[] 34))).1; have hown0 := own_empty w3 w3.heap.size 34 (Nat.le_refl _); have hbe := below_alloc (Below.refl w3.heap.size w3) (.cells #[] 34); clear hb3)
        | (at_builtin; refine wpList_append_readsG _ rfl (.tmp 79) (.tmp 80) 25 rfl w3.heap.size 34 i0 (.slice none 0 0) 24 Try.underlying25 hi hz1 hz2 hz3 rfl _ 0 [] rfl hown0 _ A i c _ rfl hR3.out (slcV_one _) hle.out.1 hle.out.2.1 (by simp) ?_; intro v1 w4 hown1 hg1; have hb4 := hbe.grown hg1 hbe.size (fun q e => (hown0.lt q e).1); have hB4 := Lib.hid (hB3.out.trans (hb4.mono hB3.out.size)); have hz2W := two_a w4 (.cells #[.string (str mk ++ str x)] 9) (.cells #[.slice (some ⟨w4.heap.size, 0, none⟩) 1 1] 34); have hown1W := (hown1.alloc (.cells #[.string (str mk ++ str x)] 9)).alloc (.cells #[.slice (some ⟨w4.heap.size, 0, none⟩) 1 1] 34); obtain ⟨Wn, hWn⟩ : ∃ Wn, Wn = (w4.alloc (.cells #[.string (str mk ++ str x)] 9)).alloc (.cells #[.slice (some ⟨w4.heap.size, 0, none⟩) 1 1] 34) := ⟨_, rfl⟩; have hbW : Below w3.heap.size w3 Wn := (by rw [hWn]; exact below_alloc (below_alloc hb4 _) _); rw [← hWn] at hz2W hown1W; have hT1 : Hid (TxR Wn Wn.heap.size (some ⟨w4.heap.size, 0, none⟩, 1, 1) [mk ++ x]) := Lib.hid (txr_of hz2W.1 (by rw [str_app]; rfl) rfl (by decide)); have hT2 : Hid (Reads Wn Wn.heap.size (some ⟨w4.heap.size + 1, 0, none⟩) 1 [slcV (some ⟨w4.heap.size, 0, none⟩, 1, 1)]) := Lib.hid ⟨rfl, fun _ => ⟨w4.heap.size + 1, 0, rfl, (Array.getElem?_eq_some_iff.1 hz2W.2).1, fun j u hu => by rw [cells_of hz2W.2]; match j, hu with | 0, hu => simpa [slcV] using hu | j + 1, hu => simp at hu⟩⟩; have hnb : Hid (v1.ownBlock ≠ some w4.heap.size) := Lib.hid (fun e => by have := (hown1.lt _ e).2; omega); subst hWn; clear hg1 hz2W)
        | (at_builtin; refine wpList_append_readsG _ rfl (.tmp 81) (.tmp 86) 25 rfl w3.heap.size 34 i0 (.slice none 0 0) 24 Try.underlying25 hi hz1 hz2 hz3 rfl v1 (0 + i) _ rfl hown1W _ _ 1 1 _ rfl hT2.out (slcV_one [(some ⟨w4.heap.size, 0, none⟩, 1, 1)]) hle.out.2.2.1 hle.out.2.2.2 hbW.size ?_; intro v2 w5 hown2 hg2; have hb5 := hbW.grown hg2 hbW.size (fun q e => (hown1W.lt q e).1); have hB5 := Lib.hid (hB3.out.trans (hb5.mono hB3.out.size)); have hT3 := Lib.hid (hT1.out.but (But.of_grown (F := fun q => v1.ownBlock = some q) hg2 fun q e => e) (fun _ q o e => by injection e with e; injection e with e; rw [← e]; exact hnb.out)); rw [hJh.out] at hown2; obtain ⟨A6, c6, rfl, e1, e2, e3⟩ := own_slice hown2; have h6 := Lib.hid (And.intro e1 (And.intro e2 e3)); clear hown1 hown1W hown2 hg2 hown0 hbe hb4 hb5 hbW e1 e2 e3)
        | (go_at_call 14; refine (H.fits_ok (K : Int) A6 J c6 (rows ++ [(some ⟨w4.heap.size, 0, none⟩, 1, 1)]) (files ++ [[mk ++ x]]) w5 (by omega) (by have := hK12.out; omega) h6.out.1 h6.out.2.1 hsmJ.out (rows_plus (r := (some (⟨w4.heap.size, 0, none⟩ : Addr), 1, 1)) hAh.out hB5.out h6.out.2.2 hT3.out)).mono ?_; rintro e w6 ⟨he6, hb6⟩; rw [hfbh.out] at he6; subst he6; have hB6 := Lib.hid (hB5.out.trans (hb6.mono hB5.out.size)); clear hb6))
      go_ret
      exact ⟨rfl, hB6.out⟩
end
end Go.Proofs.Ytiokgehiighgpaa

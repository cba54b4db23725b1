/- Proved here, out of the contracts of package align: the walk of AlignTurns. -/
import Derived.Test.YtijinhhlikhjfaaAlignTurn
import Derived.Test.YtijinhhlikhjfaaAlignLawC
namespace Go.Proofs.Ytijinhhlikhjfaa
open Go.RowKit
set_option linter.unusedVariables false

theorem cell_over (w : World) (v : Value) (t : TypeId) : (w.alloc (.cells #[v] t)).cell? ⟨w.heap.size, 0, none⟩ = some v := by rw [World.cell?_alloc_mark]; rfl

section
variable (H : AlignOk)
include H

set_option maxRecDepth 100000 in
set_option maxHeartbeats 4000000 in
theorem AlignTurns_walk (A : Option Addr) (n c : Nat) (base : List UInt8) (A' : Option Addr) (n' c' : Nat) (rows : List (Option Addr × Nat × Nat)) (sides : List (List UInt8)) (y : Nat) (w : World) (hA : ArgBy w A n c base) (hA' : ArgRB w A' n' c' rows sides) (hy : y ≤ 255) :
    Calls Try.prog 6 #[.slice A n c, .slice A' n' c', .int .u8 y] w fun e w' => e = .returned (.bool true) ∧ Below w.heap.size w w' := by
  have hbl : base.length = n := hA.2.2.len
  have hsl : sides.length = n' := hA'.2.2.len
  obtain ⟨fb, hfb⟩ : ∃ fb : Bool, fb = true ↔ fewD base sides := by
    by_cases h : fewD base sides
    · exact ⟨true, by simp [h]⟩
    · exact ⟨false, by simp [h]⟩
  have hF := Lib.hid (fun (w1 : World) (hb : Below w.heap.size w w1) => Few_any A n c base A' n' c' rows sides w1 (Nat.le_trans hA.1 hA.2.1) (Nat.le_trans hA'.1 hA'.2.1) (hA.2.2.up hb) (hA'.2.2.up hb) fb hfb)
  cases fb
  · clear hA hA' hfb
    go_enter Try.func6, Try.ntmps6
    go_wp2_with fail
    refine (awake_any H _).mono ?_
    rintro e w1 ⟨rfl, hB1⟩
    have hF1 := Lib.hid (hF.out w1 hB1)
    go_wp2_with (go_at_call 9; refine hF1.out.mono ?_; rintro e w' ⟨rfl, rfl⟩)
    go_ret
    exact ⟨rfl, hB1⟩
  obtain ⟨hb30, hs1, hs6, hs30⟩ := hfb.1 rfl
  clear hfb
  have hn6 : 1 ≤ n' ∧ n' ≤ 6 := by omega
  obtain ⟨q1, q2⟩ := hn6
  obtain ⟨nn, hnn⟩ : ∃ nn, y % n' = nn := ⟨_, rfl⟩
  have hnlt : nn < n' := by rw [← hnn]; exact Nat.mod_lt _ (by omega)
  have htm : ((y : Int)).tmod (n' : Int) = (nn : Int) := by rw [← hnn]; rfl
  have hz0 : ((n' : Int) == 0) = false := by simp; omega
  have hc0 : ¬ c' = nn := by have := hA'.1; omega
  obtain ⟨b, o, rfl⟩ : ∃ b o, A' = some ⟨b, o, none⟩ := by
    obtain ⟨b, o, e, _⟩ := hA'.2.2.1.2 (by omega)
    exact ⟨b, o, e⟩
  have hc1 := hA'.1
  have hc2 := hA'.2.1
  have hAh := Lib.hid hA
  have hAh' := Lib.hid hA'
  have hnnh := Lib.hid hnn
  have hslh := Lib.hid hsl
  have hblh := Lib.hid hbl
  have hs30h := Lib.hid hs30
  have hb30h := Lib.hid hb30
  unfold maxLen at hc2
  clear hA hA' hnn hbl hsl hs30 hs1 hs6 hb30
  go_enter Try.func6, Try.ntmps6
  go_wp2_with fail
  refine (awake_any H _).mono ?_
  rintro e w1 ⟨rfl, hB1⟩
  have hF1 := Lib.hid (hF.out w1 hB1)
  have hB1h := Lib.hid hB1
  clear hB1
  go_wp2_with (go_at_call 9; refine hF1.out.mono ?_; rintro e w' ⟨rfl, rfl⟩)
  obtain ⟨i0, hi, hz0', hz1', hz2'⟩ := info_parts infoRow
  have hRw := (hAh'.out.2.2.up hB1h.out).1
  have hrl : rows.length = n' := by have := hAh'.out.2.2.2.1; have := hslh.out; omega
  have hR1 : Reads w1 w1.heap.size (some ⟨b, o + nn, none⟩) (n' - nn) ((rows.drop nn).map slV) := by
    have h := Reads.cutAt hRw (a := nn) (m := n' - nn) (by omega)
    rw [List.take_of_length_le (by simp; omega), ← List.map_drop] at h
    exact h
  have hR2 : Reads w1 w1.heap.size (some ⟨b, o, none⟩) nn ((rows.take nn).map slV) := by
    have h := Reads.cutAt hRw (a := 0) (m := nn) (by omega)
    rw [List.drop_zero, ← List.map_take] at h
    exact h
  have hR1h := Lib.hid hR1
  have hR2h := Lib.hid hR2
  have hrlh := Lib.hid hrl
  have hle : Hid (0 + (n' - nn) ≤ maxLen ∧ (0 + (n' - nn)) * 24 ≤ 140737488355328 ∧ 0 + (n' - nn) + nn ≤ maxLen ∧ (0 + (n' - nn) + nn) * 24 ≤ 140737488355328) := Lib.hid (by unfold maxLen; omega)
  clear hRw hrl hR1 hR2
  have hle1 : nn ≤ n' := by omega
  have hle2 : nn ≤ c' := by omega
  go_cut [9] (fun s9 wx => ∃ A2 c2, s9 = .slice A2 n' c2 ∧ Hid (Reads wx wx.heap.size A2 n' ((rows.drop nn ++ rows.take nn).map slV) ∧ Below w1.heap.size w1 wx))
  case first =>
    go_region_law (first
      | (refine step_append_reads rfl (.tmp 26) (.tmp 29) 23 rfl w1.heap.size 22 i0 (.slice none 0 0) 24 Try.underlying23 hi hz0' hz1' hz2' rfl (.slice (some ⟨w1.heap.size, 0, none⟩) 0 0) 0 [] (by go_simp) (own_empty w1.drew w1.heap.size 22 (Nat.le_refl _)) w1.heap.size (some ⟨b, o + nn, none⟩) (n' - nn) (c' - nn) ((rows.drop nn).map slV) (by go_simp) (hR1h.out.below ((Below.refl _ w1).drew.alloc (Nat.le_refl _) _)) (slV_one _) hle.out.1 hle.out.2.1 (by simp) ?_
         intro v1 w2 hown1 hg1
         have hb2 : Below w1.heap.size w1 w2 := ((Below.refl _ w1).drew.alloc (Nat.le_refl _) _).grown hg1 (by simp) (fun q e => by cases e; exact Nat.le_refl _))
      | (refine step_append_reads rfl (.tmp 30) (.tmp 33) 23 rfl w1.heap.size 22 i0 (.slice none 0 0) 24 Try.underlying23 hi hz0' hz1' hz2' rfl v1 (0 + (n' - nn)) ([] ++ (rows.drop nn).map slV) (by go_simp) hown1 w1.heap.size (some ⟨b, o, none⟩) nn c' ((rows.take nn).map slV) (by go_simp) (hR2h.out.below hb2) (slV_one _) hle.out.2.2.1 hle.out.2.2.2 hb2.size ?_
         intro v2 w3 hown2 hg2
         have hb3 : Below w1.heap.size w1 w3 := hb2.grown hg2 hb2.size (fun q e => (hown1.lt q e).1)
         have hown3 : w3.ownsRow w1.heap.size 22 1 v2 n' ((rows.drop nn ++ rows.take nn).map slV) := by
           have e : 0 + (n' - nn) + nn = n' := by omega
           rw [e, List.nil_append, ← List.map_append] at hown2
           exact hown2))
    all_goals (go_wp2_with fail; go_meet)
    all_goals (obtain ⟨A2, c2, rfl, -, -, hRd⟩ := own_slice hown3; exact ⟨A2, c2, rfl, Lib.hid ⟨hRd, hb3⟩⟩)
  case rest =>
  obtain ⟨A2, c2, rfl, hT⟩ := hcut
  obtain ⟨wt, rfl⟩ : ∃ wt : World, wt = wc := ⟨_, rfl⟩
  have hBt := Lib.hid (hB1h.out.trans (hT.out.2.mono hB1h.out.size))
  have hpt := turnP_lt (k := n') (n := nn) (by omega)
  have hpa := turnP_all (k := n') (n := nn) hnlt
  have hTr : Hid (rows.drop nn ++ rows.take nn = sel (none, 0, 0) (turnP n' nn) rows) := Lib.hid (by
    have h := sel_turn (none, 0, 0) rows (n := nn) (by rw [hrlh.out]; exact hnlt)
    rw [hrlh.out] at h
    exact h)
  have hCa := Lib.hid (fun (W' : World) (hb : Below w.heap.size w W') => cut_any H A n c base (some ⟨b, o, none⟩) n' c' rows sides W' (by have := hb30h.out; have := hblh.out; omega) q1 (by omega) hs30h.out (hAh.out.2.2.up hb) (hAh'.out.2.2.up hb))
  have hCt := Lib.hid (fun (W' : World) (hb : Below wt.heap.size wt W') => cut_any H A n c base A2 n' c2 (sel (none, 0, 0) (turnP n' nn) rows) (sel [] (turnP n' nn) sides) W' (by have := hb30h.out; have := hblh.out; omega) q1 (by omega) (fun s h => hs30h.out s (sel_mem (by rw [hslh.out]; exact hpt) h)) (hAh.out.2.2.up (hBt.out.trans (hb.mono hBt.out.size)))
    (rowsB_sel (hAh'.out.2.2.up (hBt.out.trans (hb.mono hBt.out.size))) hpt (by simp [turnP]) (by
      have h := hT.out.1
      rw [hTr.out] at h
      exact (Reads.below h hb).more hb.size)))
  have hCa1 := Lib.hid (hCa.out wt hBt.out)
  go_upto_region 8 with (go_at_call 13; first
    | ((with_reducible refine hCa1.out.mono ?_); clear hCa1; rintro e w4 ⟨A5, n5, c5, cs, rfl, hcut5, hn5, k1, k2, k3, hb4⟩; have hcut5h := Lib.hid hcut5; have hn5h := Lib.hid hn5; have hB4 := Lib.hid (hBt.out.trans (hb4.mono hBt.out.size)); have hCt1 := Lib.hid (hCt.out w4 hb4); have h5h := Lib.hid (⟨k1, k2, k3⟩ : n5 ≤ c5 ∧ c5 ≤ maxLen ∧ Cks w4 w4.heap.size A5 n5 cs); clear hcut5 hn5 k1 k2 k3)
    | ((with_reducible refine hCt1.out.mono ?_); clear hCt1; rintro e w5 ⟨A6, n6, c6, ds, rfl, hcut6, hn6, k1, k2, k3, hb5⟩; have hcut6h := Lib.hid hcut6; have hn6h := Lib.hid hn6; have hB5 := Lib.hid (hB4.out.trans (hb5.mono hB4.out.size)); have hb5h := Lib.hid hb5; have h6h := Lib.hid (⟨k1, k2, k3⟩ : n6 ≤ c6 ∧ c6 ≤ maxLen ∧ Cks w5 w5.heap.size A6 n6 ds); clear hcut6 hn6 k1 k2 k3 hb5))
  obtain ⟨⟨r1, r2, r3⟩, hr⟩ : ∃ r, rows[nn]? = some r := ⟨rows[nn]'(by rw [hrlh.out]; exact hnlt), List.getElem?_eq_getElem _⟩
  have hRw5 := Lib.hid (hAh'.out.2.2.up hB5.out).1
  have hblt : b < w5.heap.size := by
    obtain ⟨b', o', e, hb', -⟩ := hRw5.out.2 (by omega)
    injection e with e
    injection e with e1 _
    omega
  have cr : w5.cell? ⟨b, o + nn, none⟩ = some (.slice r1 r2 r3) := by
    obtain ⟨b', o', e, hb', hc⟩ := hRw5.out.2 (by omega)
    injection e with e
    injection e with e1 e2
    subst e1
    subst e2
    exact hc nn _ (by rw [List.getElem?_map, hr]; rfl)
  have hmt := moreP_lt (k := n') (n := nn) hnlt
  have hMr : Hid (rows.map slV ++ [slV (r1, r2, r3)] = (sel (none, 0, 0) (moreP n' nn) rows).map slV) := Lib.hid (by
    have h := sel_more (none, 0, 0) rows hr
    rw [hrlh.out] at h
    rw [← h, List.map_append]
    rfl)
  have hCm := Lib.hid (fun (W' : World) (hb : Below w5.heap.size w5 W') (A7 : Option Addr) (c7 : Nat) (hRd : Reads W' W'.heap.size A7 (n' + 1) (rows.map slV ++ [slV (r1, r2, r3)])) => cut_any H A n c base A7 (n' + 1) c7 (sel (none, 0, 0) (moreP n' nn) rows) (sel [] (moreP n' nn) sides) W' (by have := hb30h.out; have := hblh.out; omega) (by omega) (by omega) (fun s h => hs30h.out s (sel_mem (by rw [hslh.out]; exact hmt) h)) (hAh.out.2.2.up (hB5.out.trans (hb.mono hB5.out.size)))
    (rowsB_sel (hAh'.out.2.2.up (hB5.out.trans (hb.mono hB5.out.size))) hmt (by simp [moreP]) (by rw [hMr.out] at hRd; exact hRd)))
  have hle5 : Hid (0 + n' ≤ maxLen ∧ (0 + n') * 24 ≤ 140737488355328 ∧ n' + 1 ≤ maxLen ∧ (n' + 1) * 24 ≤ 140737488355328) := Lib.hid (by unfold maxLen; omega)
  have hrh := Lib.hid hr
  have hlt1 : b < w5.heap.size + 1 := by omega
  have hnlt2 : nn < n' := hnlt
  clear hr hpt hpa hmt
  go_cut [12] (fun s12 wx => ∃ A8 n8 c8 es, s12 = .slice A8 n8 c8 ∧ Hid (IsCut base.length (sizesOf ((sel [] (moreP n' nn) sides).map ints)) (msOf (ints base) ((sel [] (moreP n' nn) sides).map ints)) es ∧ n8 = es.length ∧ n8 ≤ c8 ∧ c8 ≤ maxLen ∧ Cks wx wx.heap.size A8 n8 es ∧ Below w5.heap.size w5 wx))
  case first =>
   as_aux_lemma =>
    go_region_law (first
      | (refine step_append_reads rfl (.tmp 42) (.tmp 43) 23 rfl w5.heap.size 22 i0 (.slice none 0 0) 24 Try.underlying23 hi hz0' hz1' hz2' rfl (.slice (some ⟨w5.heap.size, 0, none⟩) 0 0) 0 [] (by go_simp) (own_empty w5.drew w5.heap.size 22 (Nat.le_refl _)) w5.heap.size (some ⟨b, o, none⟩) n' c' (rows.map slV) (by go_simp) (hRw5.out.below ((Below.refl w5.heap.size w5).drew.alloc (Nat.le_refl _) _)) (slV_one _) hle5.out.1 hle5.out.2.1 (by simp <;> omega) ?_
         intro v1 w2 hown1 hg1
         have hb2 : Below w5.heap.size w5 w2 := (((Below.refl w5.heap.size w5).drew.alloc (Nat.le_refl _) _)).grown hg1 (by simp <;> omega) (fun q e => by cases e; first | exact Nat.le_refl _ | exact Nat.le_succ _)
         have hown1' : w2.ownsRow w5.heap.size 22 1 v1 n' (rows.map slV) := by rw [Nat.zero_add, List.nil_append] at hown1; exact hown1
         have cr2 := (hb2.cell (p := ⟨b, o + nn, none⟩) hblt).trans cr
         skip)
      | (refine step_append_reads rfl (.tmp 42) (.tmp 43) 23 rfl w5.heap.size 22 i0 (.slice none 0 0) 24 Try.underlying23 hi hz0' hz1' hz2' rfl (.slice (some ⟨w5.heap.size, 0, none⟩) 0 0) 0 [] (by go_simp) ((own_empty w5.drew w5.heap.size 22 (Nat.le_refl _)).alloc (.cells #[.slice r1 r2 r3] 22)) w5.heap.size (some ⟨b, o, none⟩) n' c' (rows.map slV) (by go_simp) (hRw5.out.below (((Below.refl w5.heap.size w5).drew.alloc (Nat.le_refl _) _).alloc (by simp) _)) (slV_one _) hle5.out.1 hle5.out.2.1 (by simp <;> omega) ?_
         intro v1 w2 hown1 hg1
         have hb2 : Below w5.heap.size w5 w2 := ((((Below.refl w5.heap.size w5).drew.alloc (Nat.le_refl _) _).alloc (by simp) _)).grown hg1 (by simp <;> omega) (fun q e => by cases e; first | exact Nat.le_refl _ | exact Nat.le_succ _)
         have hown1' : w2.ownsRow w5.heap.size 22 1 v1 n' (rows.map slV) := by rw [Nat.zero_add, List.nil_append] at hown1; exact hown1
         have cr2 := (hb2.cell (p := ⟨b, o + nn, none⟩) hblt).trans cr
         have hceA : w2.cell? ⟨w5.heap.size + 1, 0, none⟩ = some (.slice r1 r2 r3) := (World.cell?_of_block (hg1.block (w5.heap.size + 1) (by simp) (by simp [Value.ownBlock]))).trans (by have h := cell_over (w5.alloc (.cells #[] 22)) (.slice r1 r2 r3) 22; rw [World.size_alloc] at h; exact h))
      | (refine step_append_reads rfl (.tmp 42) (.tmp 43) 23 rfl w5.heap.size 22 i0 (.slice none 0 0) 24 Try.underlying23 hi hz0' hz1' hz2' rfl (.slice (some ⟨w5.heap.size + 1, 0, none⟩) 0 0) 0 [] (by go_simp) (by have h := own_empty (w5.drew.alloc (.cells #[.slice r1 r2 r3] 22)) w5.heap.size 22 (by simp); rw [World.size_alloc] at h; exact h) w5.heap.size (some ⟨b, o, none⟩) n' c' (rows.map slV) (by go_simp) (hRw5.out.below (((Below.refl w5.heap.size w5).drew.alloc (Nat.le_refl _) _).alloc (by simp) _)) (slV_one _) hle5.out.1 hle5.out.2.1 (by simp <;> omega) ?_
         intro v1 w2 hown1 hg1
         have hb2 : Below w5.heap.size w5 w2 := ((((Below.refl w5.heap.size w5).drew.alloc (Nat.le_refl _) _).alloc (by simp) _)).grown hg1 (by simp <;> omega) (fun q e => by cases e; first | exact Nat.le_refl _ | exact Nat.le_succ _)
         have hown1' : w2.ownsRow w5.heap.size 22 1 v1 n' (rows.map slV) := by rw [Nat.zero_add, List.nil_append] at hown1; exact hown1
         have cr2 := (hb2.cell (p := ⟨b, o + nn, none⟩) hblt).trans cr
         have hceB : w2.cell? ⟨w5.heap.size, 0, none⟩ = some (.slice r1 r2 r3) := (World.cell?_of_block (hg1.block w5.heap.size (by simp <;> omega) (by simp [Value.ownBlock]))).trans ((World.cell?_alloc_lt (o := .cells #[] 22) (a := ⟨w5.heap.size, 0, none⟩) (w := w5.alloc (.cells #[.slice r1 r2 r3] 22)) (by simp <;> omega)).trans (cell_over w5 (.slice r1 r2 r3) 22)))
      | (refine step_append_reads rfl (.tmp 44) (.tmp 49) 23 rfl w5.heap.size 22 i0 (.slice none 0 0) 24 Try.underlying23 hi hz0' hz1' hz2' rfl v1 n' (rows.map slV) (by go_simp) (hown1'.alloc (.cells #[.slice r1 r2 r3] 22)) (w2.heap.size + 1) (some ⟨w2.heap.size, 0, none⟩) 1 1 [slV (r1, r2, r3)] (by go_simp) (⟨rfl, fun _ => ⟨w2.heap.size, 0, rfl, by omega, fun j u hu => by rw [Nat.zero_add, World.cell?_alloc_mark]; cases j with | zero => simpa [slV] using hu | succ j => simp at hu⟩⟩) (slV_one [(r1, r2, r3)]) hle5.out.2.2.1 hle5.out.2.2.2 (by have := hb2.size; simp <;> omega) ?_
         intro v2 w3 hown2 hg2
         have hb3 : Below w5.heap.size w5 w3 := (hb2.alloc hb2.size (.cells #[.slice r1 r2 r3] 22)).grown hg2 (by have := hb2.size; simp <;> omega) (fun q e => (hown1'.lt q e).1)
         obtain ⟨A7, c7, rfl, -, -, hRd⟩ := own_slice hown2
         have hCm1 := Lib.hid (hCm.out w3 hb3 A7 c7 hRd))
      | (have hc_ := hceA
         refine step_append_reads rfl (.tmp 44) (.tmp 49) 23 rfl w5.heap.size 22 i0 (.slice none 0 0) 24 Try.underlying23 hi hz0' hz1' hz2' rfl v1 n' (rows.map slV) (by go_simp) hown1' (w2.heap.size + 1) (some ⟨w5.heap.size + 1, 0, none⟩) 1 1 [slV (r1, r2, r3)] (by go_simp) (⟨rfl, fun _ => ⟨w5.heap.size + 1, 0, rfl, by have := hb2.size; have := hg1.size; simp at this; omega, fun j u hu => by rw [Nat.zero_add]; cases j with | zero => rw [hc_]; simpa [slV] using hu | succ j => simp at hu⟩⟩) (slV_one [(r1, r2, r3)]) hle5.out.2.2.1 hle5.out.2.2.2 (by have := hb2.size; simp <;> omega) ?_
         intro v2 w3 hown2 hg2
         have hb3 : Below w5.heap.size w5 w3 := (hb2).grown hg2 (by have := hb2.size; simp <;> omega) (fun q e => (hown1'.lt q e).1)
         obtain ⟨A7, c7, rfl, -, -, hRd⟩ := own_slice hown2
         have hCm1 := Lib.hid (hCm.out w3 hb3 A7 c7 hRd))
      | (have hc_ := hceB
         refine step_append_reads rfl (.tmp 44) (.tmp 49) 23 rfl w5.heap.size 22 i0 (.slice none 0 0) 24 Try.underlying23 hi hz0' hz1' hz2' rfl v1 n' (rows.map slV) (by go_simp) hown1' (w2.heap.size + 1) (some ⟨w5.heap.size, 0, none⟩) 1 1 [slV (r1, r2, r3)] (by go_simp) (⟨rfl, fun _ => ⟨w5.heap.size, 0, rfl, by have := hb2.size; have := hg1.size; simp at this; omega, fun j u hu => by rw [Nat.zero_add]; cases j with | zero => rw [hc_]; simpa [slV] using hu | succ j => simp at hu⟩⟩) (slV_one [(r1, r2, r3)]) hle5.out.2.2.1 hle5.out.2.2.2 (by have := hb2.size; simp <;> omega) ?_
         intro v2 w3 hown2 hg2
         have hb3 : Below w5.heap.size w5 w3 := (hb2).grown hg2 (by have := hb2.size; simp <;> omega) (fun q e => (hown1'.lt q e).1)
         obtain ⟨A7, c7, rfl, -, -, hRd⟩ := own_slice hown2
         have hCm1 := Lib.hid (hCm.out w3 hb3 A7 c7 hRd))
      | (go_simp; go_at_call 13; refine hCm1.out.mono ?_; rintro e w9 ⟨A8, n8, c8, es, rfl, m1, m2, m3, m4, m5, m6⟩; have hm := Lib.hid (⟨m1, m2, m3, m4, m5, hb3.trans (m6.mono hb3.size)⟩ : _ ∧ _ ∧ _ ∧ _ ∧ _ ∧ _); clear m1 m2 m3 m4 m5 m6))
    all_goals (go_wp2_with fail; go_meet)
    all_goals exact ⟨A8, n8, c8, es, rfl, hm⟩
  case rest =>
  obtain ⟨A8, n8, c8, es, rfl, hM⟩ := hcut
  have hds := Lib.hid (cut_picked (p := turnP n' nn) (sides := sides) (by rw [hslh.out]; exact turnP_lt (by omega)) (by rw [hslh.out]; exact turnP_all hnlt) hcut5h.out hcut6h.out)
  have hes := Lib.hid (cut_picked (p := moreP n' nn) (sides := sides) (by rw [hslh.out]; exact moreP_lt hnlt) (by rw [hslh.out]; exact moreP_all) hcut5h.out hM.out.1)
  have e6 : n5 = n6 := by rw [hn6h.out, hds.out, List.length_map]; exact hn5h.out
  have e8 : n5 = n8 := by rw [hM.out.2.1, hes.out, List.length_map]; exact hn5h.out
  subst e6
  subst e8
  have hbc := Lib.hid hM.out.2.2.2.2.2
  have hK5 := Lib.hid (h5h.out.2.2.up (hb5h.out.trans (hbc.out.mono hb5h.out.size)))
  have hK6 := Lib.hid (h6h.out.2.2.up hbc.out)
  have hK8 := Lib.hid hM.out.2.2.2.2.1
  have hBc := Lib.hid (hB5.out.trans (hbc.out.mono hB5.out.size))
  have hszl : Hid ((sizesOf (sides.map ints)).length = n') := Lib.hid (by rw [sizes_len, List.length_map]; exact hslh.out)
  have hm5 := Nat.le_trans h5h.out.1 h5h.out.2.1
  unfold maxLen at hm5
  have hne : ∀ (a b : Int) (W : World), (binOp .neq 36 (.agg #[.int .i64 a, .int .i64 b]) (.agg #[.int .i64 a, .int .i64 b])).run Try.prog W = .ok (.bool false) W := fun a b W => by rw [neq_sp]; simp
  have hkk : ((n' : Int) != (n' : Int)) = false := by simp
  have hn55 : ((n5 : Int) != (n5 : Int)) = false := by simp
  clear hR1h hR2h hle hle5 hTr hCa hCt hCm hMr hRw5 cr hrh hF hF1 hlt1 hblt hM hb30h hs30h
  go_wp2
  go_loopw [13, 14] (fun si _ wr => ∃ i q : Nat, i ≤ n5 ∧ si = .int .i64 i ∧ wr = wc.drewN q) (fun si _ _ => n5 - (intOf si).toNat)
  case atStart => exact ⟨0, 0, Nat.zero_le _, rfl, rfl⟩
  case round =>
   as_aux_lemma =>
    obtain ⟨i, q, hi', rfl, rfl⟩ := hrel
    by_cases hlt : i < n5
    · obtain ⟨b1, o1, ⟨st, ⟨f, t⟩, ss⟩, A1, m1, c1, rfl, hb1, hx1, d1, d2, d3, d4, hmc1, hmm1, hS1⟩ := hK5.out.at_ (k := i) hlt
      obtain ⟨b2, o2, x2, A2', m2, k2, rfl, hb2, hx2, d5, d6, d7, d8, hmc2, hmm2, hS2⟩ := hK6.out.at_ (k := i) hlt
      obtain ⟨b3, o3, x3, A3, m3, k3, rfl, hb3, hx3, d9, d10, d11, d12, hmc3, hmm3, hS3⟩ := hK8.out.at_ (k := i) hlt
      have hx1h := Lib.hid hx1
      rw [hds.out, List.getElem?_map, hx1] at hx2
      rw [hes.out, List.getElem?_map, hx1] at hx3
      obtain rfl : selC (turnP n' nn) (st, (f, t), ss) = x2 := by simpa using hx2
      obtain rfl : selC (moreP n' nn) (st, (f, t), ss) = x3 := by simpa using hx3
      simp only [selC] at d1 d2 d3 d5 d6 d7 d9 d10 d11 hS1 hS2 hS3
      have hsl1 : ss.length = n' := (cov_len hcut5h.out hx1).trans hszl.out
      obtain rfl : n' = m1 := by have := hS1.len; omega
      obtain rfl : n' = m2 := by have := hS2.len; rw [sel_len] at this; simpa [turnP] using this
      have hm3 : n' + 1 = m3 := by have := hS3.len; rw [sel_len] at this; simpa [moreP] using this
      have hw3 : IntKind.i64.wrap ((n' : Int) + 1) = (m3 : Int) := by rw [IntWalk.i64_in _ (by omega)]; omega
      have hkk3 : ((m3 : Int) != (m3 : Int)) = false := by simp
      have hbb : (st != st) = false := by cases st <;> rfl
      have hS1h := Lib.hid hS1
      have hS2h := Lib.hid hS2
      have hS3h := Lib.hid hS3
      have i1 : (0 : Int) ≤ (i : Int) := by omega
      have i2 : (i : Int) < (n5 : Int) := by omega
      clear hx1 hx2 hx3 hS1 hS2 hS3
      go_wp2
      go_quiet (fail)
      obtain ⟨z0, rfl⟩ : ∃ z0, z0 = nq := ⟨_, rfl⟩
      go_wp2
      go_loopw [14] (fun sj wr => ∃ j q : Nat, j ≤ n' ∧ sj = .int .i64 j ∧ wr = wc.drewN q) (fun sj _ => n' - (intOf sj).toNat)
      case atStart => exact ⟨0, q + z0, Nat.zero_le _, rfl, by simp⟩
      case round =>
       as_aux_lemma =>
        obtain ⟨j, qz, hj, rfl, rfl⟩ := hrel
        by_cases hjn : j < n'
        · obtain ⟨R, hR⟩ : ∃ R, (j + nn) % n' = R := ⟨_, rfl⟩
          have hRn : R < n' := by rw [← hR]; exact Nat.mod_lt _ (by omega)
          obtain ⟨M, hMM⟩ : ∃ M, j + nn = M := ⟨_, rfl⟩
          have e1 : IntKind.i64.wrap ((j : Int) + (nn : Int)) = (M : Int) := by rw [IntWalk.i64_in _ (by omega)]; omega
          have e2 : (M : Int).tmod (n' : Int) = (R : Int) := by rw [← hR, hMM]; rfl
          obtain ⟨g1, p1, ⟨s1, s2⟩, rfl, hg1, hsp1, f1, f2⟩ := hS1h.out.at_ (k := R) hRn
          obtain ⟨g1', p1', ⟨u1, u2⟩, hgg, hg1', hsp1', f1', f2'⟩ := hS1h.out.at_ (k := j) hjn
          injection hgg with hgg
          injection hgg with hgg1 hgg2
          subst hgg1
          subst hgg2
          obtain ⟨g2, p2, s', rfl, hg2, hsp2, f3, f4⟩ := hS2h.out.at_ (k := j) hjn
          obtain ⟨g3, p3, u', rfl, hg3, hsp3, f5, f6⟩ := hS3h.out.at_ (k := j) (by omega)
          have hs' : s' = (s1, s2) := by
            unfold sel turnP at hsp2
            rw [List.map_map, List.getElem?_map, List.getElem?_range hjn] at hsp2
            simp only [Option.map_some, Function.comp, hR, hsp1, Option.getD_some] at hsp2
            injection hsp2 with e; exact e.symm
          have hu' : u' = (u1, u2) := by
            unfold sel moreP at hsp3
            rw [List.getElem?_map, List.getElem?_append_left (by simpa using hjn), List.getElem?_range hjn] at hsp3
            simp only [Option.map_some, hsp1', Option.getD_some] at hsp3
            injection hsp3 with e; exact e.symm
          subst hs'
          subst hu'
          simp only at f1 f2 f3 f4 f5 f6 f1' f2'
          have j1 : (0 : Int) ≤ (j : Int) := by omega
          have j2 : (j : Int) < (n' : Int) := by omega
          have j3 : (j : Int) < (m3 : Int) := by omega
          have j4 : (0 : Int) ≤ (R : Int) := by omega
          have j5 : (R : Int) < (n' : Int) := by omega
          clear hsp1 hsp1' hsp2 hsp3 hR hMM
          go_wp2
          go_quiet (fail)
          obtain ⟨z1, rfl⟩ : ∃ z1, z1 = nq := ⟨_, rfl⟩
          go_wp2
          go_roundw
          case rel => exact ⟨j + 1, qz + z1, by omega, by go_num, by simp⟩
          case measure => simp [intOf] <;> omega
        · obtain rfl : j = n' := by omega
          go_wp2
          go_roundw
          case rel => exact ⟨i + 1, qz, by omega, by go_num, rfl⟩
          case measure => simp [intOf] <;> omega
    · obtain rfl : i = n5 := by omega
      go_wp2
      go_ret
      exact ⟨rfl, below_drewN hBc.out _⟩
end
end Go.Proofs.Ytijinhhlikhjfaa

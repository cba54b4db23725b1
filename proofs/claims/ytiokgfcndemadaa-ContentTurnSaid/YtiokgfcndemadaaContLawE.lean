/- Proved here, out of the contracts of package content: the walk of ContentTurn. -/
import Derived.Test.YtiokgfcndemadaaContLawA
import Derived.Test.YtiokgfcndemadaaSteps
import Derived.Deep.RegionLaw
import Derived.BigRegion
import Derived.Deep.CutRange
import Derived.Deep.DeepCutAuto
import Derived.Outline
namespace Go.Proofs.Ytiokgfcndemadaa
open Go.RowKit
set_option linter.unusedVariables false

theorem size_up (w : World) (o : Obj) : (w.alloc o).heap.size = w.heap.size + 1 := by simp
/-- Rows in another turn. -/
theorem rowsT_turn {w : World} {B n nn : Nat} {A A' : Option Addr} {rows : List Slc} {sss : List Txs} (h : RowsT w B A n rows sss) (hr : Reads w B A' n ((rows.drop nn ++ rows.take nn).map slcV)) : RowsT w B A' n (rows.drop nn ++ rows.take nn) (sss.drop nn ++ sss.take nn) := by
  have hl := h.2.1
  refine ⟨hr, by simp [hl], fun k r ss a b => ?_⟩
  rcases Nat.lt_or_ge k (rows.drop nn).length with hk | hk
  · rw [List.getElem?_append_left hk, List.getElem?_drop] at a
    rw [List.getElem?_append_left (by simp at *; omega), List.getElem?_drop] at b
    exact h.2.2 _ r ss a b
  · rw [List.getElem?_append_right hk] at a
    rw [List.getElem?_append_right (by simp at *; omega)] at b
    have e : (sss.drop nn).length = (rows.drop nn).length := by simp [hl]
    rw [e] at b
    rw [List.getElem?_take] at a b
    split at a
    · rename_i hlt
      rw [if_pos hlt] at b
      exact h.2.2 _ r ss a b
    · cases a
/-- Two rows more. -/
theorem rowsT_more {w : World} {B n : Nat} {A A' : Option Addr} {rows : List Slc} {sss : List Txs} {r1 r2 : Slc} {s1 s2 : Txs} (h : RowsT w B A n rows sss) (h1 : TxR w B r1 s1) (h2 : TxR w B r2 s2) (hr : Reads w B A' (n + 2) (rows.map slcV ++ [slcV r1, slcV r2])) : RowsT w B A' (n + 2) (rows ++ [r1, r2]) (sss ++ [s1, s2]) := by
  have hl := h.2.1
  refine ⟨by rw [List.map_append]; exact hr, by simp [hl], fun k r ss a b => ?_⟩
  rcases Nat.lt_or_ge k rows.length with hk | hk
  · rw [List.getElem?_append_left hk] at a
    rw [List.getElem?_append_left (by omega)] at b
    exact h.2.2 _ r ss a b
  · rw [List.getElem?_append_right hk] at a
    rw [List.getElem?_append_right (by omega), ← hl] at b
    match hq : k - rows.length with
    | 0 => rw [hq] at a b; simp at a b; subst a; subst b; exact h1
    | 1 => rw [hq] at a b; simp at a b; subst a; subst b; exact h2
    | j + 2 => rw [hq] at a; simp at a
theorem two_new (w : World) (t : TypeId) (r1 r2 : Slc) (B : Nat) (hB : w.heap.size < B) : Reads (w.alloc (.cells #[slcV r1, slcV r2] t)) B (some ⟨w.heap.size, 0, none⟩) 2 [slcV r1, slcV r2] := by
  refine ⟨rfl, fun _ => ⟨w.heap.size, 0, rfl, hB, fun j u hu => ?_⟩⟩
  rw [World.cell?_alloc_mark, Nat.zero_add]
  simpa using hu

section
variable (H : ContOk)
include H

set_option maxRecDepth 100000 in
set_option maxHeartbeats 4000000 in
theorem ContentTurn_walk (A0 : Option Addr) (n0 c0 : Nat) (base : Txs) (A : Option Addr) (n c : Nat) (rows : List Slc) (parts : List Txs) (y : Nat) (w : World) (h0 : TxR w w.heap.size (A0, n0, c0) base) (h1 : ArgTs w A n c rows parts) (hy : y ≤ 255) :
    Calls Try.prog 6 #[.slice A0 n0 c0, .slice A n c, .int .u8 y] w fun e w' => e = .returned (.bool true) ∧ Below w.heap.size w w' := by
  have hn0 : n0 ≤ maxLen := Nat.le_trans h0.1 h0.2.1
  have hn : n ≤ maxLen := Nat.le_trans h1.1 h1.2.1
  have hpl := h1.2.2.len
  have haw := Lib.hid (awake_any H w)
  obtain ⟨fb, hfb⟩ : ∃ fb, fewT base parts = fb := ⟨_, rfl⟩
  have hF := Lib.hid (fun (W : World) (hb : Below w.heap.size w W) => rFew_any A0 n0 c0 w.heap.size base A n c w.heap.size rows parts W hn0 hn (Strs.below h0.2.2 hb) (h1.2.2.below hb))
  rw [hfb] at hF
  cases fb
  · clear h0 h1 hfb
    go_enter Try.func6, Try.ntmps6
    go_wp2_with (first
      | (go_at_call 8; refine haw.out.mono ?_; rintro e w1 ⟨rfl, hb1⟩)
      | (go_at_call 9; refine (hF.out _ hb1).mono ?_; rintro e w2 ⟨rfl, rfl⟩))
    go_ret
    exact ⟨rfl, hb1⟩
  by_cases hz0 : n = 0
  · subst hz0
    clear h0 h1 hfb
    go_enter Try.func6, Try.ntmps6
    go_wp2_with (first
      | (go_at_call 8; refine haw.out.mono ?_; rintro e w1 ⟨rfl, hb1⟩)
      | (go_at_call 9; refine (hF.out _ hb1).mono ?_; rintro e w2 ⟨rfl, rfl⟩))
    go_ret
    exact ⟨rfl, hb1⟩
  obtain ⟨f1, f2, f3⟩ := fewT_parts hfb
  have hn6 : n ≤ 6 := by omega
  obtain ⟨nn, hnn⟩ : ∃ nn, y % n = nn := ⟨_, rfl⟩
  have hnlt : nn < n := by rw [← hnn]; exact Nat.mod_lt _ (by omega)
  have htm : ((y : Int)).tmod (n : Int) = (nn : Int) := by rw [← hnn]; rfl
  have hzb : ((n : Int) == 0) = false := by simp; omega
  have hcn : ¬ c = nn := by have := h1.1; omega
  obtain ⟨b, o, rfl⟩ : ∃ b o, A = some ⟨b, o, none⟩ := by
    obtain ⟨b, o, e, _⟩ := h1.2.2.1.2 (by omega)
    exact ⟨b, o, e⟩
  have hc1 := h1.1
  have hc2 := h1.2.1
  have hD := Lib.hid (fun (W : World) (hb : Below w.heap.size w W) (A5 : Option Addr) (n5 c5 : Nat) (rs : List Slc) (ps : List Txs) (e1 : n5 ≤ c5) (e2 : c5 ≤ maxLen) (e3 : n5 ≤ 100) (hT : RowsT W W.heap.size A5 n5 rs ps) => H.dif_ok A0 n0 c0 base A5 n5 c5 rs ps W e1 e2 (by omega) (h0.up hb) hT)
  have hK := Lib.hid (fun (W : World) (hb : Below w.heap.size w W) (A5 : Option Addr) (n5 c5 : Nat) (rs : List Slc) (ps : List Txs) (e1 : n5 ≤ c5) (e2 : c5 ≤ maxLen) (e3 : n5 ≤ 100) (hT : RowsT W W.heap.size A5 n5 rs ps) => H.kind_ok A0 n0 c0 base A5 n5 c5 rs ps W e1 e2 (by omega) (h0.up hb) hT)
  have hT0 := Lib.hid (fun (W : World) (hb : Below w.heap.size w W) => h0.up hb)
  have hR := Lib.hid (fun (W : World) (hb : Below w.heap.size w W) => h1.2.2.up hb)
  obtain ⟨i0, hi, hz⟩ := Option.map_eq_some_iff.1 infoTxs
  simp only [Prod.mk.injEq] at hz
  obtain ⟨hz1', hz2', hz3'⟩ := hz
  have hplh := Lib.hid hpl
  have hblt : b < w.heap.size := by
    obtain ⟨b', o', e, hb', _⟩ := h1.2.2.1.2 (by omega)
    injection e with e
    injection e with e
    omega
  have hrl : Hid (rows.length = n) := Lib.hid h1.2.2.rlen
  unfold maxLen at hc2
  clear h0 h1 hfb f1 f2 f3 hpl hnn
  go_enter Try.func6, Try.ntmps6
  go_upto_region 5 with (first
    | (go_at_call 8; refine haw.out.mono ?_; rintro e w1 ⟨rfl, hb1⟩)
    | (go_at_call 9; refine (hF.out _ hb1).mono ?_; rintro e w2 ⟨rfl, rfl⟩))
  obtain ⟨wa, rfl⟩ : ∃ wa : World, wa = w2 := ⟨_, rfl⟩
  have hBa := Lib.hid hb1
  have hRw := (hR.out wa hb1).1
  have hR1 : Reads wa wa.heap.size (some ⟨b, o + nn, none⟩) (n - nn) ((rows.drop nn).map slcV) := by
    have h := Reads.part hRw (a := nn) (m := n - nn) (by omega)
    rw [List.take_of_length_le (by simp; have := hrl.out; omega), ← List.map_drop] at h
    exact h
  have hR2 : Reads wa wa.heap.size (some ⟨b, o, none⟩) nn ((rows.take nn).map slcV) := by
    have h := Reads.part hRw (a := 0) (m := nn) (by omega)
    rw [List.drop_zero, ← List.map_take] at h
    exact h
  have hR1h := Lib.hid hR1
  have hR2h := Lib.hid hR2
  have hle : Hid (0 + (n - nn) ≤ maxLen ∧ (0 + (n - nn)) * 24 ≤ 140737488355328 ∧ 0 + (n - nn) + nn ≤ maxLen ∧ (0 + (n - nn) + nn) * 24 ≤ 140737488355328) := Lib.hid (by unfold maxLen; omega)
  have hle1 : nn ≤ n := by omega
  have hle2 : nn ≤ c := by omega
  clear hRw hR1 hR2 hb1 hF haw
  go_cut [9] (fun s9 wx => ∃ A2 c2, s9 = .slice A2 n c2 ∧ Hid (n ≤ c2 ∧ c2 ≤ maxLen ∧ Reads wx wx.heap.size A2 n ((rows.drop nn ++ rows.take nn).map slcV) ∧ Below wa.heap.size wa wx))
  case first =>
    go_region_law (first
      | (refine appendR_step rfl (.tmp 28) (.tmp 31) 28 rfl wa.heap.size 27 i0 (.slice none 0 0) 24 Try.underlying28 hi hz1' hz2' hz3' rfl (.slice (some ⟨wa.heap.size, 0, none⟩) 0 0) 0 [] (by go_simp) (own_empty wa.drew wa.heap.size 27 (Nat.le_refl _)) wa.heap.size (some ⟨b, o + nn, none⟩) (n - nn) (c - nn) ((rows.drop nn).map slcV) (by go_simp) (hR1h.out.below ((Below.refl _ wa).drew.alloc (Nat.le_refl _) _)) (slcV_one _) hle.out.1 hle.out.2.1 (by simp) ?_
         intro v1 w2 hown1 hg1
         have hb2 : Below wa.heap.size wa w2 := ((Below.refl _ wa).drew.alloc (Nat.le_refl _) _).grown hg1 (by simp) (fun q e => by cases e; exact Nat.le_refl _))
      | (refine appendR_step rfl (.tmp 32) (.tmp 35) 28 rfl wa.heap.size 27 i0 (.slice none 0 0) 24 Try.underlying28 hi hz1' hz2' hz3' rfl v1 (0 + (n - nn)) ([] ++ (rows.drop nn).map slcV) (by go_simp) hown1 wa.heap.size (some ⟨b, o, none⟩) nn c ((rows.take nn).map slcV) (by go_simp) (hR2h.out.below hb2) (slcV_one _) hle.out.2.2.1 hle.out.2.2.2 hb2.size ?_
         intro v2 w3 hown2 hg2
         have hb3 : Below wa.heap.size wa w3 := hb2.grown hg2 hb2.size (fun q e => (hown1.lt q e).1)
         have hown3 : w3.ownsRow wa.heap.size 27 1 v2 n ((rows.drop nn ++ rows.take nn).map slcV) := by
           have e : 0 + (n - nn) + nn = n := by omega
           rw [e, List.nil_append, ← List.map_append] at hown2
           exact hown2))
    all_goals (go_wp2_with fail; go_meet)
    all_goals (obtain ⟨A2, c2, rfl, e1, e2, hRd⟩ := own_slice hown3; exact ⟨A2, c2, rfl, Lib.hid ⟨e1, e2, hRd, hb3⟩⟩)
  case rest =>
  obtain ⟨A2, c2, rfl, hT⟩ := hcut
  obtain ⟨wt, rfl⟩ : ∃ wt : World, wt = wc := ⟨_, rfl⟩
  have hBt := Lib.hid (hBa.out.trans (hT.out.2.2.2.mono hBa.out.size))
  have hTt := Lib.hid (rowsT_turn (hR.out wt hBt.out) hT.out.2.2.1)
  have hTb := Lib.hid (And.intro hT.out.1 hT.out.2.1)
  clear hR1h hR2h hle hT hle1 hle2
  obtain ⟨⟨r1, r2, r3⟩, hr⟩ : ∃ r, rows[nn]? = some r := ⟨rows[nn]'(by rw [hrl.out]; exact hnlt), List.getElem?_eq_getElem _⟩
  obtain ⟨p, hp⟩ : ∃ p, parts[nn]? = some p := ⟨parts[nn]'(by rw [hplh.out]; exact hnlt), List.getElem?_eq_getElem _⟩
  have hRt := Lib.hid (hR.out wt hBt.out).1
  have hrT := Lib.hid (fun (W : World) (hb : Below w.heap.size w W) => (hR.out W hb).2.2 nn _ _ hr hp)
  have hph := Lib.hid hp
  have hbt : b < wt.heap.size := by have := hBt.out.size; omega
  have hbt1 : b < wt.heap.size + 1 := by omega
  have hbt2 : b < wt.heap.size + 1 + 1 := by omega
  have cr : wt.cell? ⟨b, o + nn, none⟩ = some (.slice r1 r2 r3) := by
    obtain ⟨b', o', e, hb', hc⟩ := hRt.out.2 (by omega)
    injection e with e
    injection e with e1 e2
    subst e1
    subst e2
    exact hc nn _ (by rw [List.getElem?_map, hr]; rfl)
  have hle5 : Hid (0 + n ≤ maxLen ∧ (0 + n) * 24 ≤ 140737488355328 ∧ n + 2 ≤ maxLen ∧ (n + 2) * 24 ≤ 140737488355328) := Lib.hid (by unfold maxLen; omega)
  clear hr hp
  go_upto_region 6 with fail
  go_cut [10] (fun s10 wx => ∃ A3 c3, s10 = .slice A3 (n + 2) c3 ∧ Hid (n + 2 ≤ c3 ∧ c3 ≤ maxLen ∧ Reads wx wx.heap.size A3 (n + 2) (rows.map slcV ++ [slcV (r1, r2, r3), slcV (A0, n0, c0)]) ∧ Below wt.heap.size wt wx))
  case first =>
   as_aux_lemma =>
    go_region_law (first
      | (refine appendR_step rfl (.tmp 37) (.tmp 38) 28 rfl wt.heap.size 27 i0 (.slice none 0 0) 24 Try.underlying28 hi hz1' hz2' hz3' rfl (.slice (some ⟨wt.heap.size, 0, none⟩) 0 0) 0 [] (by go_simp) (own_empty wt.drew wt.heap.size 27 (Nat.le_refl _)) wt.heap.size (some ⟨b, o, none⟩) n c (rows.map slcV) (by go_simp) (hRt.out.below ((Below.refl wt.heap.size wt).drew.alloc (Nat.le_refl _) _)) (slcV_one _) hle5.out.1 hle5.out.2.1 (by simp <;> omega) ?_
         intro v1 w2 hown1 hg1
         have hb2 : Below wt.heap.size wt w2 := (((Below.refl wt.heap.size wt).drew.alloc (Nat.le_refl _) _)).grown hg1 (by simp <;> omega) (fun q e => by cases e; first | exact Nat.le_refl _ | exact Nat.le_succ _)
         have hown1' : w2.ownsRow wt.heap.size 27 1 v1 n (rows.map slcV) := by rw [Nat.zero_add, List.nil_append] at hown1; exact hown1
         have cr2 := (hb2.cell (p := ⟨b, o + nn, none⟩) hbt).trans cr
         skip)
      | (refine appendR_step rfl (.tmp 37) (.tmp 38) 28 rfl wt.heap.size 27 i0 (.slice none 0 0) 24 Try.underlying28 hi hz1' hz2' hz3' rfl (.slice (some ⟨wt.heap.size, 0, none⟩) 0 0) 0 [] (by go_simp) ((own_empty wt.drew wt.heap.size 27 (Nat.le_refl _)).alloc (.cells #[.slice r1 r2 r3, .slice A0 n0 c0] 27)) wt.heap.size (some ⟨b, o, none⟩) n c (rows.map slcV) (by go_simp) (hRt.out.below (((Below.refl wt.heap.size wt).drew.alloc (Nat.le_refl _) _).alloc (by simp) _)) (slcV_one _) hle5.out.1 hle5.out.2.1 (by simp <;> omega) ?_
         intro v1 w2 hown1 hg1
         have hb2 : Below wt.heap.size wt w2 := ((((Below.refl wt.heap.size wt).drew.alloc (Nat.le_refl _) _).alloc (by simp) _)).grown hg1 (by simp <;> omega) (fun q e => by cases e; first | exact Nat.le_refl _ | exact Nat.le_succ _)
         have hown1' : w2.ownsRow wt.heap.size 27 1 v1 n (rows.map slcV) := by rw [Nat.zero_add, List.nil_append] at hown1; exact hown1
         have cr2 := (hb2.cell (p := ⟨b, o + nn, none⟩) hbt).trans cr
         have hceA : Reads w2 w2.heap.size (some ⟨wt.heap.size + 1, 0, none⟩) 2 [slcV (r1, r2, r3), slcV (A0, n0, c0)] := (by
           have h := two_new (wt.drew.alloc (.cells #[] 27)) 27 (r1, r2, r3) (A0, n0, c0) ((wt.drew.alloc (.cells #[] 27)).heap.size + 1) (Nat.lt_succ_self _)
           rw [size_up] at h
           refine ⟨h.1, fun hn => ?_⟩
           obtain ⟨b9, o9, e9, hb9, hc9⟩ := h.2 hn
           injection e9 with e9
           injection e9 with e9 e10
           subst e9
           subst e10
           have hs9 := hg1.size
           simp at hs9
           exact ⟨wt.heap.size + 1, 0, rfl, by omega, fun j u hu => (World.cell?_of_block (hg1.block (wt.heap.size + 1) (by simp) (by simp [Value.ownBlock]))).trans (hc9 j u hu)⟩))
      | (refine appendR_step rfl (.tmp 37) (.tmp 38) 28 rfl wt.heap.size 27 i0 (.slice none 0 0) 24 Try.underlying28 hi hz1' hz2' hz3' rfl (.slice (some ⟨wt.heap.size + 1, 0, none⟩) 0 0) 0 [] (by go_simp) (by have h := own_empty (wt.drew.alloc (.cells #[.slice r1 r2 r3, .slice A0 n0 c0] 27)) wt.heap.size 27 (by simp); rw [size_up] at h; exact h) wt.heap.size (some ⟨b, o, none⟩) n c (rows.map slcV) (by go_simp) (hRt.out.below (((Below.refl wt.heap.size wt).drew.alloc (Nat.le_refl _) _).alloc (by simp) _)) (slcV_one _) hle5.out.1 hle5.out.2.1 (by simp <;> omega) ?_
         intro v1 w2 hown1 hg1
         have hb2 : Below wt.heap.size wt w2 := ((((Below.refl wt.heap.size wt).drew.alloc (Nat.le_refl _) _).alloc (by simp) _)).grown hg1 (by simp <;> omega) (fun q e => by cases e; first | exact Nat.le_refl _ | exact Nat.le_succ _)
         have hown1' : w2.ownsRow wt.heap.size 27 1 v1 n (rows.map slcV) := by rw [Nat.zero_add, List.nil_append] at hown1; exact hown1
         have cr2 := (hb2.cell (p := ⟨b, o + nn, none⟩) hbt).trans cr
         have hceB : Reads w2 w2.heap.size (some ⟨wt.heap.size, 0, none⟩) 2 [slcV (r1, r2, r3), slcV (A0, n0, c0)] := (by
           have h := two_new wt.drew 27 (r1, r2, r3) (A0, n0, c0) (wt.heap.size + 1) (Nat.lt_succ_self _)
           refine ⟨h.1, fun hn => ?_⟩
           obtain ⟨b9, o9, e9, hb9, hc9⟩ := h.2 hn
           injection e9 with e9
           injection e9 with e9 e10
           subst e9
           subst e10
           have hs9 := hg1.size
           simp at hs9
           exact ⟨wt.heap.size, 0, rfl, by omega, fun j u hu => (World.cell?_of_block (hg1.block wt.heap.size (by simp <;> omega) (by simp [Value.ownBlock]))).trans ((World.cell?_alloc_lt (o := .cells #[] 27) (a := ⟨wt.heap.size, 0 + j, none⟩) (w := wt.drew.alloc (.cells #[.slice r1 r2 r3, .slice A0 n0 c0] 27)) (by simp <;> omega)).trans (hc9 j u hu))⟩))
      | (refine appendR_step rfl (.tmp 39) (.tmp 45) 28 rfl wt.heap.size 27 i0 (.slice none 0 0) 24 Try.underlying28 hi hz1' hz2' hz3' rfl v1 n (rows.map slcV) (by go_simp) (hown1'.alloc (.cells #[.slice r1 r2 r3, .slice A0 n0 c0] 27)) (w2.heap.size + 1) (some ⟨w2.heap.size, 0, none⟩) 2 2 [slcV (r1, r2, r3), slcV (A0, n0, c0)] (by go_simp) (two_new w2 27 (r1, r2, r3) (A0, n0, c0) _ (Nat.lt_succ_self _)) (slcV_one [(r1, r2, r3), (A0, n0, c0)]) hle5.out.2.2.1 hle5.out.2.2.2 (by have := hb2.size; simp <;> omega) ?_
         intro v2 w3 hown2 hg2
         have hb3 : Below wt.heap.size wt w3 := (hb2.alloc hb2.size (.cells #[.slice r1 r2 r3, .slice A0 n0 c0] 27)).grown hg2 (by have := hb2.size; simp <;> omega) (fun q e => (hown1'.lt q e).1))
      | (have hc_ := hceA
         refine appendR_step rfl (.tmp 39) (.tmp 45) 28 rfl wt.heap.size 27 i0 (.slice none 0 0) 24 Try.underlying28 hi hz1' hz2' hz3' rfl v1 n (rows.map slcV) (by go_simp) hown1' w2.heap.size (some ⟨wt.heap.size + 1, 0, none⟩) 2 2 [slcV (r1, r2, r3), slcV (A0, n0, c0)] (by go_simp) hc_ (slcV_one [(r1, r2, r3), (A0, n0, c0)]) hle5.out.2.2.1 hle5.out.2.2.2 (by have := hb2.size; simp <;> omega) ?_
         intro v2 w3 hown2 hg2
         have hb3 : Below wt.heap.size wt w3 := hb2.grown hg2 (by have := hb2.size; simp <;> omega) (fun q e => (hown1'.lt q e).1))
      | (have hc_ := hceB
         refine appendR_step rfl (.tmp 39) (.tmp 45) 28 rfl wt.heap.size 27 i0 (.slice none 0 0) 24 Try.underlying28 hi hz1' hz2' hz3' rfl v1 n (rows.map slcV) (by go_simp) hown1' w2.heap.size (some ⟨wt.heap.size, 0, none⟩) 2 2 [slcV (r1, r2, r3), slcV (A0, n0, c0)] (by go_simp) hc_ (slcV_one [(r1, r2, r3), (A0, n0, c0)]) hle5.out.2.2.1 hle5.out.2.2.2 (by have := hb2.size; simp <;> omega) ?_
         intro v2 w3 hown2 hg2
         have hb3 : Below wt.heap.size wt w3 := hb2.grown hg2 (by have := hb2.size; simp <;> omega) (fun q e => (hown1'.lt q e).1)))
    all_goals (go_wp2_with fail; go_meet)
    all_goals (obtain ⟨A3, c3, rfl, e1, e2, hRd⟩ := own_slice hown2; exact ⟨A3, c3, rfl, Lib.hid ⟨e1, e2, hRd, hb3⟩⟩)
  case rest =>
  obtain ⟨A3, c3, rfl, hM⟩ := hcut
  obtain ⟨wm, rfl⟩ : ∃ wm : World, wm = wc := ⟨_, rfl⟩
  have hBm := Lib.hid (hBt.out.trans (hM.out.2.2.2.mono hBt.out.size))
  have hMm := Lib.hid (rowsT_more (hR.out wm hBm.out) (hrT.out wm hBm.out) (hT0.out wm hBm.out) hM.out.2.2.1)
  have hMb := Lib.hid (And.intro hM.out.1 hM.out.2.1)
  have hTm := Lib.hid (hTt.out.up hM.out.2.2.2)
  obtain ⟨K, hKv⟩ : ∃ K, kindN base parts = K := ⟨_, rfl⟩
  obtain ⟨d, hd⟩ : ∃ d, (diffs base parts).length = d := ⟨_, rfl⟩
  have hturn : (diffs base (parts.drop nn ++ parts.take nn)).length = d := by rw [← hd]; exact diffs_turn (turn_mem parts nn)
  have hKt : kindN base (parts.drop nn ++ parts.take nn) = K := by rw [← hKv]; unfold kindN; rw [hturn, hd]
  have hmore : diffs base (parts ++ [p, base]) = diffs base parts := diffs_more hph.out
  have hKr : K ≤ 2 := by rw [← hKv]; unfold kindN; omega
  have hd6 : d ≤ 6 := by have := diffs_len base parts; have := hplh.out; omega
  have hfacts := Lib.hid (And.intro hKv (And.intro hd (And.intro hturn (And.intro hKt hmore))))
  have hall := Lib.hid (fun (A1 A2 : Option Addr) (n1 n2 c1 c2 : Nat) (r1 r2 : List Slc) (W : World) (e1 : n1 ≤ c1) (e2 : c1 ≤ maxLen) (e3 : n2 ≤ c2) (e4 : c2 ≤ maxLen) (k1 : RowsT W W.heap.size A1 n1 r1 (diffs base parts)) (k2 : RowsT W W.heap.size A2 n2 r2 (diffs base parts)) => All_any A1 A2 n1 n2 c1 c2 _ _ r1 r2 _ _ W (by omega) (by omega) k1 k2)
  clear hKv hd hturn hKt hmore hM hRt hrT cr hle5
  have hDa := Lib.hid (hD.out wm hBm.out (some ⟨b, o, none⟩) n c rows parts hc1 (by unfold maxLen; omega) (by omega) (hR.out wm hBm.out))
  go_wp2_with (go_at_call 14; refine hDa.out.mono ?_; rintro e w3 ⟨A4, n4, c4, r4, rfl, a1, a2, a3, hb3⟩; have hB3 := Lib.hid (hBm.out.trans (hb3.mono hBm.out.size)); have hn4 : n4 = d := (by have := a3.len; have := hfacts.out.2.1; omega); subst hn4; have ha3 := Lib.hid a3; clear a3)
  have hbm3 := Lib.hid hb3
  have hKa := Lib.hid (hK.out w3 hB3.out A2 n c2 _ _ hTb.out.1 hTb.out.2 (by omega) (hTm.out.up hb3))
  rw [hfacts.out.2.2.2.1] at hKa
  refine hKa.out.mono ?_
  rintro e w4 ⟨rfl, hb4⟩
  have hB4 := Lib.hid (hB3.out.trans (hb4.mono hB3.out.size))
  have hm4 := Lib.hid (hbm3.out.trans (hb4.mono hbm3.out.size))
  have hKb := Lib.hid (hK.out w4 hB4.out (some ⟨b, o, none⟩) n c rows parts hc1 (by unfold maxLen; omega) (by omega) (hR.out w4 hB4.out))
  rw [hfacts.out.1] at hKb
  go_wp2_with fail
  refine hKb.out.mono ?_
  rintro e w5 ⟨rfl, hb5⟩
  have hB5 := Lib.hid (hB4.out.trans (hb5.mono hB4.out.size))
  have hm5 := Lib.hid (hm4.out.trans (hb5.mono hm4.out.size))
  have hDb := Lib.hid (hD.out w5 hB5.out A2 n c2 _ _ hTb.out.1 hTb.out.2 (by omega) (hTm.out.up hm5.out))
  go_wp2_with fail
  refine hDb.out.mono ?_
  rintro e w6 ⟨A6, n6, c6, r6, rfl, b1, b2, b3, hb6⟩
  have hn6d : n6 = n4 := by have := b3.len; have := hfacts.out.2.2.1; omega
  subst hn6d
  have hB6 := Lib.hid (hB5.out.trans (hb6.mono hB5.out.size))
  have hm6 := Lib.hid (hm5.out.trans (hb6.mono hm5.out.size))
  have hDc := Lib.hid (hD.out w6 hB6.out A3 (n + 2) c3 _ _ hMb.out.1 hMb.out.2 (by omega) (hMm.out.up hm6.out))
  rw [hfacts.out.2.2.2.2] at hDc
  have hb46 := Lib.hid (hb4.trans ((hb5.mono hb4.size).trans (hb6.mono (Nat.le_trans hb4.size hb5.size))))
  clear b3 hb4 hb5 hb6 hDb hKa hKb hDa
  go_wp2_with fail
  refine hDc.out.mono ?_
  rintro e w7 ⟨A7, n7, c7, r7, rfl, d1, d2, d3, hb7⟩
  have hB7 := Lib.hid (hB6.out.trans (hb7.mono hB6.out.size))
  have hal := Lib.hid (hall.out A7 A4 n7 n6 c7 c4 r7 r4 w7 d1 d2 a1 a2 d3 (ha3.out.up (hb46.out.trans (hb7.mono hb46.out.size))))
  clear d3 hb7
  go_wp2_with (go_at_call 13; refine hal.out.mono ?_; rintro e w8 ⟨rfl, q, rfl⟩; simp only [decide_true])
  go_ret
  exact ⟨rfl, below_drewN hB7.out q⟩
end
end Go.Proofs.Ytiokgfcndemadaa

/- Proved here: texts joined: ZlLawE. -/
import Derived.Test.YtidfhgocnglnjaaBz13
import Derived.Test.YtidfhgocnglnjaaBz23
import Derived.Test.YtidfhgocnglnjaaBz28
import Derived.Test.YtidfhgocnglnjaaBz39
import Derived.Test.YtidfhgocnglnjaaBz40
/- Proved here: what the statement ZealTurn says, by the contracts of packages zeal and pick. -/
namespace Go.Proofs.Ytidfhgocnglnjaa
open Go.RowKit
set_option linter.unusedVariables false
set_option maxRecDepth 100000

/-- A piece that Trim tells has no more sides. -/
theorem sides_few {p q : Pc} (h : smallP p) (hq : q ∈ trimD p) : q.2.2.2.length ≤ 1000 := by
  cases hc : q.1 with
  | true => exact (conf_small h hq hc).1
  | false =>
    have e : q = tPc q.2.1 := by
      obtain ⟨cf, t, bs, ss⟩ := p
      cases cf with
      | false => exact text_normal (l := [(false, t, bs, ss)]) hq hc
      | true =>
        cases ss with
        | nil => exact text_normal (l := [(true, t, bs, [])]) hq hc
        | cons f ds => exact text_normal (l := trimL bs f (f :: ds)) hq hc
    rw [e]
    simp [tPc]
section
variable (H : ZealOk)
include H

set_option maxHeartbeats 16000000 in
theorem ZealTurn_walk (v : PcV) (p : Pc) (y : Nat) (w : World) (h0 : PcR w w.heap.size v p) (hy : y ≤ 255) :
    Calls Try.prog 7 #[.agg #[.bool p.1, .slice v.1.1 v.1.2.1 v.1.2.2, .slice v.2.1.1 v.2.1.2.1 v.2.1.2.2, .slice v.2.2.1 v.2.2.2.1 v.2.2.2.2], .int .u8 y] w fun e w' => e = .returned (.bool true) ∧ Below w.heap.size w w' := by
  obtain ⟨cf, t, bs, ss⟩ := p
  obtain ⟨⟨A1, n1, c1⟩, ⟨A2, n2, c2⟩, ⟨A3, n3, c3⟩⟩ := v
  dsimp only
  have hns : ss.length = n3 := by obtain ⟨-, -, -, -, rr, h⟩ := h0; exact h.len
  obtain ⟨W0, hW0⟩ : ∃ W0, W0 = w.alloc (.cells #[.bool cf, .slice A1 n1 c1, .slice A2 n2 c2, .slice A3 n3 c3] 25) := ⟨_, rfl⟩
  have k0 : W0.heap[w.heap.size]? = some (pcObj cf ((A1, n1, c1), (A2, n2, c2), (A3, n3, c3))) := by rw [hW0]; exact one_a w _
  have hb0 : Below w.heap.size w W0 := by rw [hW0]; exact below_alloc (Below.refl _ _) _
  have hlt : w.heap.size < W0.heap.size := (Array.getElem?_eq_some_iff.1 k0).1
  have hcells : Hid (∀ W, Below W0.heap.size W0 W → W.cell? ⟨w.heap.size, 0, none⟩ = some (.bool cf) ∧ W.cell? ⟨w.heap.size, 1, none⟩ = some (.slice A1 n1 c1) ∧ W.cell? ⟨w.heap.size, 2, none⟩ = some (.slice A2 n2 c2) ∧ W.cell? ⟨w.heap.size, 3, none⟩ = some (.slice A3 n3 c3)) := Lib.hid (fun W hW => by
    have e := (hW.block _ hlt).trans k0
    obtain ⟨x0, x1, x2, x3, -⟩ := piece_at e
    exact ⟨x0, x1, x2, x3⟩)
  have hlth := Lib.hid hlt
  have haw := Lib.hid (zAwake_any H W0)
  have hW0h := Lib.hid hW0
  have hb0h := Lib.hid hb0
  obtain ⟨f2, hf2⟩ : ∃ f2, fewP [(cf, t, bs, ss)] = f2 := ⟨_, rfl⟩
  have hF2 : Hid (∀ W g, Below W0.heap.size W0 W → W.heap[g]? = some (pcObj cf ((A1, n1, c1), (A2, n2, c2), (A3, n3, c3))) → Calls Try.prog 9 #[.slice (some ⟨g, 0, none⟩) 1 1] W fun e w' => e = .returned (.bool f2) ∧ ∃ q, w' = W.drewN q) := Lib.hid (fun W g hb hg => by
    have := pFew_any (some ⟨g, 0, none⟩) 1 1 W.heap.size _ [(cf, t, bs, ss)] W (by decide) (pcs_one (p := (cf, t, bs, ss)) hg (h0.up (hb0.trans (hb.mono hb0.size))))
    rw [hf2] at this
    exact this)
  have hf2h := Lib.hid hf2
  have h0h := Lib.hid h0
  clear hW0 k0 hb0 hlt hf2 h0
  go_enter Try.func7, Try.ntmps7
  go_upto_region 1 with fail
  rw [← hW0h.out]
  go_upto_region 2 with (go_at_call 8; refine haw.out.mono ?_; rintro e w1 ⟨rfl, hb1⟩; have hB1 := Lib.hid hb1; clear hb1)
  obtain ⟨x0, x1, x2, x3⟩ := hcells.out w1 hB1.out
  obtain ⟨y0, y1, y2, y3⟩ := hcells.out (w1.alloc (pcObj cf ((A1, n1, c1), (A2, n2, c2), (A3, n3, c3)))) (below_alloc hB1.out _)
  have hgo : Hid (∀ q, Below w.heap.size w ((w1.alloc (pcObj cf ((A1, n1, c1), (A2, n2, c2), (A3, n3, c3)))).drewN q)) := Lib.hid (fun q => below_drewN (hb0h.out.trans ((below_alloc hB1.out _).mono hb0h.out.size)) q)
  cases f2
  · go_wp2_with (go_at_call 9; refine (hF2.out _ _ (below_alloc hB1.out _) (Go.Deep.blk_alloc_new _ _)).mono ?_; rintro e w3 ⟨rfl, q3, rfl⟩)
    go_ret
    exact ⟨rfl, hgo.out _⟩
  cases cf
  · go_wp2_with (go_at_call 9; refine (hF2.out _ _ (below_alloc hB1.out _) (Go.Deep.blk_alloc_new _ _)).mono ?_; rintro e w3 ⟨rfl, q3, rfl⟩)
    go_ret
    exact ⟨rfl, hgo.out _⟩
  cases ss with
  | nil =>
    obtain rfl : n3 = 0 := by simpa using hns.symm
    go_wp2_with (go_at_call 9; refine (hF2.out _ _ (below_alloc hB1.out _) (Go.Deep.blk_alloc_new _ _)).mono ?_; rintro e w3 ⟨rfl, q3, rfl⟩)
    go_ret
    exact ⟨rfl, hgo.out _⟩
  | cons f ds =>
    obtain ⟨xs, hxs⟩ : ∃ xs, xs = f :: ds := ⟨_, rfl⟩
    have hn3 : 0 < n3 := by rw [← hns]; simp
    have hnz : ((n3 : Int) == 0) = false := by simp; omega
    obtain ⟨k, hk⟩ : ∃ k, y % n3 = k := ⟨_, rfl⟩
    have hkn : k < n3 := by rw [← hk]; exact Nat.mod_lt _ hn3
    have hkt : ((y : Int)).tmod (n3 : Int) = (k : Int) := by rw [← hk]; exact Int.ofNat_tmod y n3 ▸ rfl
    have hsP : smallP (true, t, bs, f :: ds) := few_one hf2h.out
    have hsPh := Lib.hid hsP
    have hsQ : Hid (smallP (true, t, bs, turnL k (f :: ds))) := Lib.hid (by
      obtain ⟨a1, a2, a3, a4⟩ := hsP
      exact ⟨a1, by dsimp only at a2 ⊢; rw [turnL_len]; exact a2, fun d hd => a3 d ((turnL_mem d).1 hd), a4⟩)
    have htn := Lib.hid (turn_trim (t := t) (bs := bs) (f := f) (ds := ds) (n := k) (by rw [hns]; exact hkn))
    have hnsm : n3 ≤ 1000 := by have := hsP.2.1; dsimp only at this; omega
    have hnsh := Lib.hid hns
    clear hk hsP hns
    go_upto_region 5 with (go_at_call 9; refine (hF2.out _ _ (below_alloc hB1.out _) (Go.Deep.blk_alloc_new _ _)).mono ?_; rintro e w3 ⟨rfl, q3, hw3⟩; have hB3 : Hid (Below W0.heap.size W0 w3) := Lib.hid (by rw [hw3]; exact below_drewN (below_alloc hB1.out _) q3); obtain ⟨z0, z1, z2, z3⟩ := hcells.out w3 hB3.out; clear hw3)
    clear x0 x1 x2 x3 y0 y1 y2 y3 hgo hF2 hW0h haw
    obtain ⟨wq, hwq⟩ : ∃ wq, wq = w3.alloc (.cells #[.bool true, .slice A1 n1 c1, .slice A2 n2 c2, .slice A3 n3 c3] 25) := ⟨_, rfl⟩
    have hbq : Below w3.heap.size w3 wq := by rw [hwq]; exact below_alloc (Below.refl _ _) _
    have gq : wq.heap[w3.heap.size]? = some (pcObj true ((A1, n1, c1), (A2, n2, c2), (A3, n3, c3))) := by rw [hwq]; exact one_a w3 _
    have hBq := Lib.hid (hB3.out.trans (hbq.mono hB3.out.size))
    have hbwq := Lib.hid (hb0h.out.trans (hBq.out.mono hb0h.out.size))
    obtain ⟨-, -, hnc3, hcm3, rr, hR0⟩ := h0h.out
    dsimp only at hnc3 hcm3 hR0
    have hR0h := Lib.hid hR0
    have hRR := hR0.up hbwq.out
    clear hR0
    obtain ⟨Aa, ma, qa, hsa, -, -, ea3, hRa⟩ := rows_from (k := k) hRR hnc3 hcm3 (by omega)
    obtain ⟨Ab, mb, qb, hsb, -, -, eb3, hRb⟩ := rows_to (k := k) hRR hnc3 hcm3 (by omega)
    have hmab : Hid (ma + mb = n3 ∧ ma ≤ 1000 ∧ mb ≤ 1000) := Lib.hid (by omega)
    clear ea3 eb3
    obtain ⟨z0', z1', z2', z3'⟩ := hcells.out wq hBq.out
    have hlq : w.heap.size < wq.heap.size := Nat.lt_of_lt_of_le hlth.out hBq.out.size
    have hwqh := Lib.hid hwq
    have gqh := Lib.hid gq
    have hbqh := Lib.hid hbq
    have hRah := Lib.hid hRa
    have hRbh := Lib.hid hRb
    clear hwq hbq gq hRR hRa hRb
    go_upto_region 6 with fail
    rw [← hwqh.out]
    obtain ⟨i0, hi, hz⟩ := Option.map_eq_some_iff.1 infoTxs
    simp only [Prod.mk.injEq] at hz
    obtain ⟨hz1, hz2, hz3⟩ := hz
    have hS : Hid (∀ W, Below wq.heap.size wq W → W.cell? ⟨w.heap.size, 3, none⟩ = some (.slice A3 n3 c3)) := Lib.hid (fun W hW => (hcells.out W (hBq.out.trans (hW.mono hBq.out.size))).2.2.2)
    have hrefl := Below.refl wq.heap.size wq
    have hlw3 : Hid (w.heap.size < w3.heap.size) := Lib.hid (Nat.lt_of_lt_of_le hlth.out hB3.out.size)
    have hle : Hid (0 + ma ≤ maxLen ∧ (0 + ma) * 24 ≤ 140737488355328 ∧ 0 + ma + mb ≤ maxLen ∧ (0 + ma + mb) * 24 ≤ 140737488355328) := Lib.hid (by have := hmab.out; unfold maxLen; omega)
    have hfz : Hid (∀ W, Below wq.heap.size wq W → W.frozen? ⟨w3.heap.size, 3, none⟩ = false ∧ W.cell? ⟨w3.heap.size, 0, none⟩ = some (.bool true) ∧ W.cell? ⟨w3.heap.size, 1, none⟩ = some (.slice A1 n1 c1) ∧ W.cell? ⟨w3.heap.size, 2, none⟩ = some (.slice A2 n2 c2) ∧ W.cell? ⟨w3.heap.size, 3, none⟩ = some (.slice A3 n3 c3)) := Lib.hid (fun W hW => by
      have e := (hW.block _ (Array.getElem?_eq_some_iff.1 gqh.out).1).trans gqh.out
      obtain ⟨v0, v1, v2, v3, -, -, -, v7⟩ := piece_at e
      exact ⟨v7, v0, v1, v2, v3⟩)
    go_region_held3 (fun wx : World => wx.cell? ⟨w.heap.size, 3, none⟩ = some (.slice A3 n3 c3))
      ((first | exact z3' | exact hst | (refine hS.out _ ?_; repeat (first | assumption | refine below_drew ?_ | refine below_alloc ?_ _))))
      ((first
        | (refine appendR_step rfl (.tmp 36) (.tmp 40) 23 rfl wq.heap.size 22 i0 (.slice none 0 0) 24 Try.underlying23 hi hz1 hz2 hz3 rfl (.slice (some ⟨wq.heap.size, 0, none⟩) 0 0) 0 [] (by go_simp) (own_empty wq wq.heap.size 22 (Nat.le_refl _)) wq.heap.size Aa ma qa ((rr.drop k).map slcV) (by go_simp) (by first | exact hRah.out.1.below (below_drew (below_alloc hrefl _)) | exact hRah.out.1.below (below_alloc (below_drew hrefl) _) | exact hRah.out.1.below (below_alloc hrefl _)) (slcV_one _) hle.out.1 hle.out.2.1 (by simp) ?_; intro v1 w5 hown5 hg5; have hb5 : Below wq.heap.size wq w5 := (by first | exact (below_drew (below_alloc hrefl _)).grown hg5 (by simp) (fun q e => by cases e; exact Nat.le_refl _) | exact (below_alloc (below_drew hrefl) _).grown hg5 (by simp) (fun q e => by cases e; exact Nat.le_refl _)))
        | (refine appendR_step rfl (.tmp 41) (.tmp 45) 23 rfl wq.heap.size 22 i0 (.slice none 0 0) 24 Try.underlying23 hi hz1 hz2 hz3 rfl v1 (0 + ma) ([] ++ (rr.drop k).map slcV) (by go_simp) hown5 wq.heap.size Ab mb qb ((rr.take k).map slcV) (by go_simp) (hRbh.out.1.below hb5) (slcV_one _) hle.out.2.2.1 hle.out.2.2.2 hb5.size ?_; intro v2 w6 hown6' hg6; have hb6 : Below wq.heap.size wq w6 := hb5.grown hg6 hb5.size (fun q e => (hown5.lt q e).1); have hown6 : w6.ownsRow wq.heap.size 22 1 v2 n3 ((rr.drop k ++ rr.take k).map slcV) := (by have e : 0 + ma + mb = n3 := (by have := hmab.out; omega); rw [e, List.nil_append, ← List.map_append] at hown6'; exact hown6'); clear hown6'; obtain ⟨A9, c9, rfl, e91, e92, -⟩ := own_slice hown6; obtain ⟨fz3, g0, g1, g2, g3⟩ := hfz.out w6 hb6; have hst : (w6.setCell ⟨w3.heap.size, 3, none⟩ (.slice A9 n3 c9)).cell? ⟨w.heap.size, 3, none⟩ = some (.slice A3 n3 c3) := ((World.cell?_of_block (w := w6) ((But.setCell (F := fun j => j = w3.heap.size) w6 (p := ⟨w3.heap.size, 3, none⟩) rfl _).block w.heap.size (Nat.lt_of_lt_of_le hlq hb6.size) (fun e => by have := hlw3.out; omega))).trans (hS.out w6 hb6)); have hown6h := Lib.hid hown6; have hb6h := Lib.hid hb6; clear hown5 hown6 hg5 hg6)))
    obtain ⟨w7, hw7⟩ : ∃ w7, w7 = w6.setCell ⟨w3.heap.size, 3, none⟩ (.slice A9 n3 c9) := ⟨_, rfl⟩
    have hB7 : Below w3.heap.size w3 w7 := by rw [hw7]; exact (hbqh.out.trans (hb6h.out.mono hbqh.out.size)).setCell (Nat.le_refl _) _
    have hq7 : w3.heap.size < w7.heap.size := by
      have h1 := (Array.getElem?_eq_some_iff.1 gqh.out).1
      have h2 := hb6h.out.size
      have h3 := (But.setCell (F := fun j => j = w3.heap.size) w6 (p := ⟨w3.heap.size, 3, none⟩) rfl (.slice A9 n3 c9)).size
      rw [hw7]
      omega
    have u0 : w7.cell? ⟨w3.heap.size, 0, none⟩ = some (.bool true) := by rw [hw7]; refine (World.cell?_setCell_other _ _ _ _ ?_).trans g0; simp
    have u1 : w7.cell? ⟨w3.heap.size, 1, none⟩ = some (.slice A1 n1 c1) := by rw [hw7]; refine (World.cell?_setCell_other _ _ _ _ ?_).trans g1; simp
    have u2 : w7.cell? ⟨w3.heap.size, 2, none⟩ = some (.slice A2 n2 c2) := by rw [hw7]; refine (World.cell?_setCell_other _ _ _ _ ?_).trans g2; simp
    have u3 : w7.cell? ⟨w3.heap.size, 3, none⟩ = some (.slice A9 n3 c9) := by rw [hw7]; simp [World.cell?_setCell_same', g3]
    have hBw7 := hbwq.out
    have hB07 := Lib.hid (hB3.out.trans (hB7.mono hB3.out.size))
    have hbw7 := Lib.hid (hb0h.out.trans (hB07.out.mono hb0h.out.size))
    have hown7 : w7.ownsRow wq.heap.size 22 1 (.slice A9 n3 c9) n3 ((rr.drop k ++ rr.take k).map slcV) := by
      rw [hw7]
      refine ownsRow_kept hown6h.out fun q e => (But.setCell (F := fun j => j = w3.heap.size) w6 (p := ⟨w3.heap.size, 3, none⟩) rfl _).block q (hown6h.out.lt q e).2 (fun e2 => ?_)
      have h1 := (hown6h.out.lt q e).1
      have h2 := (Array.getElem?_eq_some_iff.1 gqh.out).1
      omega
    have hQ7 : Hid (PcR w7 w7.heap.size ((A1, n1, c1), (A2, n2, c2), (A9, n3, c9)) (true, t, bs, turnL k (f :: ds))) := Lib.hid (by
      obtain ⟨A', c', e, r1, r2, r3⟩ := own_slice hown7
      injection e with e1 e2 e3
      subst e1
      subst e3
      obtain ⟨p1, p2, -⟩ := h0h.out.up hbw7.out
      have hqw : But (fun j => j = w3.heap.size) wq w7 := (But.of_below (F := fun j => j = w3.heap.size) hb6h.out fun q hq _ => hq).trans (by rw [hw7]; exact But.setCell (F := fun j => j = w3.heap.size) w6 (p := ⟨w3.heap.size, 3, none⟩) rfl _) fun q e => .inl e
      refine ⟨p1, p2, r1, r2, rr.drop k ++ rr.take k, r3, ?_, fun i r ss a b => ?_⟩
      · have h1 := hRah.out.2.1
        have h2 := hRbh.out.2.1
        unfold turnL
        rw [List.length_append, List.length_append]
        omega
      · have h1 := hR0h.out.rlen
        have h2 := hR0h.out.len
        unfold turnL at b
        rcases Nat.lt_or_ge i (n3 - k) with hi | hi
        · rw [List.getElem?_append_left (by rw [List.length_drop]; omega), List.getElem?_drop] at a b
          exact (hR0h.out.2.2 _ r ss a b).up hbw7.out
        · rw [List.getElem?_append_right (by rw [List.length_drop]; omega), List.length_drop, List.getElem?_take] at a b
          rw [h1] at a
          rw [h2] at b
          split at a
          · rename_i hj
            rw [if_pos hj] at b
            exact (hR0h.out.2.2 _ r ss a b).up hbw7.out
          · cases a)
    rw [← hw7]
    clear hw7 hown7 fz3 g0 g1 g2 g3 hst e91 e92 z0 z1 z2 z3 z0' z1' z2' z3' hlq
    have hTp : Hid (Calls Try.prog 11 #[.agg #[.bool true, .slice A1 n1 c1, .slice A2 n2 c2, .slice A3 n3 c3]] w7 fun e w' => PcsLo w7.heap.size w7 w' e (trimD (true, t, bs, f :: ds))) := Lib.hid (H.trim_ok w7.heap.size ((A1, n1, c1), (A2, n2, c2), (A3, n3, c3)) (true, t, bs, f :: ds) w7 (Nat.le_refl _) hsPh.out (h0h.out.up hbw7.out))
    have hTq : Hid (∀ W, Below w7.heap.size w7 W → Calls Try.prog 11 #[.agg #[.bool true, .slice A1 n1 c1, .slice A2 n2 c2, .slice A9 n3 c9]] W fun e w' => PcsLo W.heap.size W w' e (trimD (true, t, bs, turnL k (f :: ds)))) := Lib.hid (fun W hW => H.trim_ok W.heap.size ((A1, n1, c1), (A2, n2, c2), (A9, n3, c9)) (true, t, bs, turnL k (f :: ds)) W (Nat.le_refl _) hsQ.out (hQ7.out.up hW))
    have hl3 := Lib.hid (trimD_sum hsPh.out).2
    have hfew := Lib.hid (fun q (hq : q ∈ trimD (true, t, bs, f :: ds)) => sides_few hsPh.out hq)
    obtain ⟨pa, hpa⟩ : ∃ pa, trimD (true, t, bs, f :: ds) = pa := ⟨_, rfl⟩
    obtain ⟨pb, hpb⟩ : ∃ pb, trimD (true, t, bs, turnL k (f :: ds)) = pb := ⟨_, rfl⟩
    rw [hpa] at hTp hl3 hfew
    rw [hpb] at hTq
    rw [hpa, hpb] at htn
    obtain ⟨z0, z1, z2, z3⟩ := hcells.out w7 hB07.out
    have tok1 := trivial
    clear hpa hpb hQ7 hsQ hwqh gqh hbqh hRah hRbh hmab hle hfz hS hrefl hown6h hb6h hlw3 hB7 hBw7 hbwq hBq hsa hsb hi hz1 hz2 hz3 hnc3 hcm3 hxs
    go_upto_region 9 with (first
      | (go_at_call 11; have _t := tok1; refine hTp.out.mono ?_; rintro e w8 ⟨A5, n5, c5, vs5, rfl, r1, r2, r3, r4⟩; have hP5 := Lib.hid (And.intro (And.intro r1 r2) (r3 w8 (But.refl _ _))); have hb8 := Lib.hid r4; have q0 := (r4.cell (p := ⟨w3.heap.size, 0, none⟩) hq7).trans u0; have q1 := (r4.cell (p := ⟨w3.heap.size, 1, none⟩) hq7).trans u1; have q2 := (r4.cell (p := ⟨w3.heap.size, 2, none⟩) hq7).trans u2; have q3 := (r4.cell (p := ⟨w3.heap.size, 3, none⟩) hq7).trans u3; clear tok1 r1 r2 r3 r4)
      | (go_at_call 11; refine (hTq.out w8 hb8.out).mono ?_; rintro e w9 ⟨A6, n6, c6, vs6, rfl, s1, s2, s3, s4⟩; have hP6 := Lib.hid (s3 w9 (But.refl _ _)); have hP59 := Lib.hid (hP5.out.2.up s4); have hb9 := Lib.hid (hb8.out.trans (s4.mono hb8.out.size)); clear s1 s2 s3 s4))
    obtain rfl : n6 = n5 := by have h1 := hP6.out.len; have h2 := hP5.out.2.len; have h3 := htn.out.1.1; omega
    have hn5 : n6 ≤ 3 := by have h2 := hP5.out.2.len; have := hl3.out; omega
    have hne5 : ((n6 : Int) != (n6 : Int)) = false := by simp
    have hB09 := Lib.hid (hB07.out.trans (hb9.out.mono hB07.out.size))
    have hbw9 := Lib.hid (hb0h.out.trans (hB09.out.mono hb0h.out.size))
    clear hTp hTq q0 q1 q2 q3 u0 u1 u2 u3 z0 z1 z2 z3 hq7
    go_wp2
    go_loopw [10, 11] (fun s10 _ wr => ∃ i : Nat, i ≤ n6 ∧ s10 = .int .i64 i ∧ Hid (Below w9.heap.size w9 wr)) (fun s10 _ _ => n6 - (intOf s10).toNat)
    case atStart => exact ⟨0, Nat.zero_le _, rfl, Lib.hid (Below.refl _ _)⟩
    case round =>
      obtain ⟨i, hi, rfl, hB⟩ := hrel
      obtain ⟨wo, rfl⟩ : ∃ wo : World, wo = wr := ⟨_, rfl⟩
      by_cases hlt : i < n6
      · obtain ⟨b, o, cf, At, nt, ct, Ad, nd, cd, As, ns, cs, t', bs', ss', rfl, hb, -, hp, k1, k2, k3, k4, j1, j2, ⟨j3, j4, r5, j5⟩⟩ := (hP59.out.up hB.out).at_ (k := i) hlt
        obtain ⟨b', o', cf', At', nt', ct', Ad', nd', cd', As', ns', cs', t2, bs2, ss2, rfl, hb', -, hp', k1', k2', k3', k4', j1', j2', ⟨j3', j4', r5', j5'⟩⟩ := (hP6.out.up hB.out).at_ (k := i) hlt
        obtain ⟨e1, e2, e3, e4⟩ := htn.out.1.2 i _ _ hp hp'
        dsimp only at e1 e2 e3 e4
        subst e1
        subst e2
        dsimp only at j3 j4 j5 j3' j4' j5'
        obtain rfl : ns' = ns := by have h1 := j5.len; have h2 := j5'.len; omega
        have hssl := j5.len
        have hns1 : ns' ≤ 1000 := by have := hfew.out _ (List.mem_of_getElem? hp); dsimp only at this; omega
        have i1 : (0 : Int) ≤ (i : Int) := by omega
        have i2 : (i : Int) < (n6 : Int) := by omega
        have hcc : (cf != cf) = false := by cases cf <;> rfl
        have hnn : ((ns' : Int) != (ns' : Int)) = false := by simp
        have hS1 : Hid (∀ z, Calls Try.prog 15 #[.slice At nt ct, .slice At' nt' ct'] (wo.drewN z) fun e w' => e = .returned (.bool true) ∧ ∃ q, w' = (wo.drewN z).drewN q) := Lib.hid (fun z => by
          have := Same_any At At' nt nt' ct ct' _ _ t' t' (wo.drewN z) (Nat.le_trans j1.1 j1.2.1) (Nat.le_trans j1'.1 j1'.2.1) (j1.2.2.drewN z) (j1'.2.2.drewN z)
          rw [decide_eq_true rfl] at this
          exact this)
        have kA : Hid (∀ W, Below wo.heap.size wo W → W.cell? ⟨b, o + i * 4 + 3, none⟩ = some (.slice As ns' cs) ∧ W.cell? ⟨b', o' + i * 4 + 3, none⟩ = some (.slice As' ns' cs')) := Lib.hid (fun W hW => ⟨(hW.cell (p := ⟨b, o + i * 4 + 3, none⟩) hb).trans k4, (hW.cell (p := ⟨b', o' + i * 4 + 3, none⟩) hb').trans k4'⟩)
        have j5h := Lib.hid j5
        have j5h' := Lib.hid j5'
        have e4h := Lib.hid e4
        have hsslh := Lib.hid hssl
        have hnsm : ns' ≤ 9223372036854775807 := by unfold maxLen at j4; omega
        clear hp hp' j1 j2 j1' j2' j5 j5' e3 e4 hssl j3 j3' j4 j4'
        go_wp2
        go_quiet ((go_at_call 15; exact Calls.quiet_of (hS1.out _)))
        obtain ⟨z1, rfl⟩ : ∃ z1, z1 = nq := ⟨_, rfl⟩
        have hBz := Lib.hid (below_drewN (Below.refl wo.heap.size wo) z1)
        clear hS1 k1 k2 k3 k4 k1' k2' k3' k4'
        go_wp2
        go_loopw [11] (fun s11 wr => ∃ j : Nat, j ≤ ns' ∧ s11 = .int .i64 j ∧ Hid (Below wo.heap.size wo wr)) (fun s11 _ => ns' - (intOf s11).toNat)
        case atStart => exact ⟨0, Nat.zero_le _, rfl, hBz⟩
        case round =>
          obtain ⟨j, hj, rfl, hBj⟩ := hrel
          obtain ⟨wp, rfl⟩ : ∃ wp : World, wp = wr := ⟨_, rfl⟩
          obtain ⟨l1, l2⟩ := kA.out wp hBj.out
          by_cases hjn : j < ns'
          · obtain ⟨R, hR⟩ : ∃ R, (j + k) % ns' = R := ⟨_, rfl⟩
            have hRn : R < ns' := by rw [← hR]; exact Nat.mod_lt _ (by omega)
            obtain ⟨M, hMM⟩ : ∃ M, j + k = M := ⟨_, rfl⟩
            have e1 : IntKind.i64.wrap ((j : Int) + (k : Int)) = (M : Int) := by rw [IntWalk.i64_in _ (by omega)]; omega
            have e2 : (M : Int).tmod (ns' : Int) = (R : Int) := by rw [← hR, hMM]; exact Int.ofNat_tmod M ns' ▸ rfl
            have hz0 : ((ns' : Int) == 0) = false := by simp; omega
            obtain ⟨g1, p1, B1, m1, d1, s1, rfl, hg1, hs1, hr1, f1, f2, f3, f4⟩ := (j5h.out.up hBj.out).at_ (k := R) hRn
            obtain ⟨g2, p2, B2, m2, d2, s2, rfl, hg2, hs2, hr2, u1, u2, u3, u4⟩ := (j5h'.out.up hBj.out).at_ (k := j) hjn
            have hss : s2 = s1 := by
              have := e4h.out j (by rw [hsslh.out]; exact hjn)
              rw [hsslh.out, hR, hs1, hs2] at this
              injection this
            subst hss
            have hS2 : Hid (∀ z, Calls Try.prog 15 #[.slice B2 m2 d2, .slice B1 m1 d1] (wp.drewN z) fun e w' => e = .returned (.bool true) ∧ ∃ q, w' = (wp.drewN z).drewN q) := Lib.hid (fun z => by
              have := Same_any B2 B1 m2 m1 d2 d1 _ _ s2 s2 (wp.drewN z) (Nat.le_trans u2 u3) (Nat.le_trans f2 f3) (u4.drewN z) (f4.drewN z)
              rw [decide_eq_true rfl] at this
              exact this)
            have v1 : (0 : Int) ≤ (j : Int) := by omega
            have v2 : (j : Int) < (ns' : Int) := by omega
            have v3 : (0 : Int) ≤ (R : Int) := by omega
            have v4 : (R : Int) < (ns' : Int) := by omega
            clear hs1 hs2 hr1 hr2 f2 f3 f4 u2 u3 u4 hR hMM
            go_wp2
            go_quiet ((go_at_call 15; exact Calls.quiet_of (hS2.out _)))
            obtain ⟨z2, rfl⟩ : ∃ z2, z2 = nq := ⟨_, rfl⟩
            go_wp2
            go_roundw
            case rel => exact ⟨j + 1, by omega, by go_num, Lib.hid (below_drewN hBj.out z2)⟩
            case measure => simp [intOf]; omega
          · obtain rfl : j = ns' := by omega
            have hBn := Lib.hid (hB.out.trans (hBj.out.mono hB.out.size))
            go_wp2
            go_roundw
            case rel => exact ⟨i + 1, by omega, by go_num, hBn⟩
            case measure => simp [intOf]; omega
      · obtain rfl : i = n6 := by omega
        have hBo := Lib.hid (hb9.out.trans (hB.out.mono hb9.out.size))
        have hB0o := Lib.hid (hB09.out.trans (hB.out.mono hB09.out.size))
        have hbwo := Lib.hid (hbw9.out.trans (hB.out.mono hbw9.out.size))
        have hPo := Lib.hid (hP59.out.up hB.out)
        obtain ⟨cl, hcl⟩ : ∃ cl, cleanB pa = cl := ⟨_, rfl⟩
        have hdz : Hid (decide ((diffs f (f :: ds)).length = 0) = cl) := Lib.hid (by rw [← hcl]; exact htn.out.2.symm)
        have hCl : Hid (∀ W, Below wo.heap.size wo W → Calls Try.prog 21 #[.slice A5 i c5] W fun e w' => e = .returned (.bool cl) ∧ Below wo.heap.size wo w') := Lib.hid (fun W hW => by
          rw [← hcl]
          exact (H.clean_ok A5 i c5 vs5 pa W hP5.out.1.1 hP5.out.1.2 (by omega) (hPo.out.up hW)).mono fun e w' h => ⟨h.1, hW.trans (h.2.mono hW.size)⟩)
        obtain ⟨-, -, hnc3, hcm3, rr3, hR3⟩ := h0h.out
        dsimp only at hnc3 hcm3 hR3
        obtain ⟨b3, o3, Af, nf, cf3, f', rfl, hb3, hf3, hr3, hcell3, hncf, hcmf, hstf⟩ := hR3.at_ (k := 0) hn3
        obtain rfl : f' = f := by simpa using hf3.symm
        have hDi : Hid (∀ W, Below wo.heap.size wo W → Calls Try.prog 22 #[.slice Af nf cf3, .slice (some ⟨b3, o3, none⟩) n3 c3] W fun e w' => (∃ A n c, e = .returned (.slice A n c) ∧ (((n : Int) == 0) = cl)) ∧ Below wo.heap.size wo w') := Lib.hid (fun W hW => by
          have hbW := hbwo.out.trans (hW.mono hbwo.out.size)
          refine (rDif_any Af nf cf3 f' _ n3 c3 rr3 (f' :: ds) W (Nat.le_trans hncf hcmf) (by omega) (hstf.up hbW) (hR3.up hbW)).mono ?_
          rintro e w' ⟨A, n, c, rows, h1, -, -, h4, h5⟩
          refine ⟨⟨A, n, c, h1, ?_⟩, hW.trans (h5.mono hW.size)⟩
          have := h4.len
          rw [← hdz.out, this]
          by_cases hn : n = 0 <;> simp [hn])
        have y0 : wo.cell? ⟨b3, o3, none⟩ = some (.slice Af nf cf3) := (hbwo.out.cell (p := ⟨b3, o3, none⟩) hb3).trans hcell3
        obtain ⟨x0, x1, x2, x3⟩ := hcells.out wo hB0o.out
        have hS : Hid (∀ W, Below wo.heap.size wo W → W.cell? ⟨w.heap.size, 3, none⟩ = some (.slice (some ⟨b3, o3, none⟩) n3 c3) ∧ W.cell? ⟨b3, o3, none⟩ = some (.slice Af nf cf3)) := Lib.hid (fun W hW => ⟨(hcells.out W (hB0o.out.trans (hW.mono hB0o.out.size))).2.2.2, ((hbwo.out.trans (hW.mono hbwo.out.size)).cell (p := ⟨b3, o3, none⟩) hb3).trans hcell3⟩)
        have hrefl := Below.refl wo.heap.size wo
        have i3 : (0 : Int) < (n3 : Int) := by omega
        clear hcl hR3 hf3 hr3 hcell3 hncf hcmf hstf hb3 hnc3 hcm3
        go_wp2
        go_region_held3 (fun wx : World => wx.cell? ⟨w.heap.size, 3, none⟩ = some (.slice (some ⟨b3, o3, none⟩) n3 c3) ∧ wx.cell? ⟨b3, o3, none⟩ = some (.slice Af nf cf3))
          ((first | exact ⟨x3, y0⟩ | (refine hS.out _ ?_; repeat (first | assumption | refine below_drew ?_ | refine below_alloc ?_ _))))
          ((first
            | (go_at_call 21; refine (hCl.out _ ?_).mono ?_; (repeat (first | assumption | refine below_drew ?_)); rintro e wu ⟨rfl, hbu⟩)
            | (go_at_call 22; refine (hDi.out _ ?_).mono ?_; (repeat (first | assumption | refine below_drew ?_)); rintro e wv ⟨⟨Av, nv, cv, rfl, hnv⟩, hbv⟩; have hnvh := Lib.hid hnv; clear hnv)))
        all_goals
          go_wp2_with fail
          go_ret
          refine ⟨ret_bool (by rw [hnvh.out]; cases cl <;> rfl), hbwo.out.trans (Below.mono ?_ hbwo.out.size)⟩
          repeat (first | assumption | refine below_drew ?_)
end
end Go.Proofs.Ytidfhgocnglnjaa

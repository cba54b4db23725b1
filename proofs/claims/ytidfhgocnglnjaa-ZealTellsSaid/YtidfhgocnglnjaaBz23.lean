/- Proved here: texts joined: ZlLawB. -/
import Derived.Test.YtidfhgocnglnjaaBz19
import Derived.Test.YtidfhgocnglnjaaBz21
import Derived.Test.YtidfhgocnglnjaaBz22
/- Proved here: what the statement ZealTells says, by the contracts of package zeal. -/
namespace Go.Proofs.Ytidfhgocnglnjaa
open Go.RowKit
set_option linter.unusedVariables false
set_option maxRecDepth 100000

/-- A piece's value. -/
def pcV (cf : Bool) (v : PcV) : Value := .agg #[.bool cf, .slice v.1.1 v.1.2.1 v.1.2.2, .slice v.2.1.1 v.2.1.2.1 v.2.1.2.2, .slice v.2.2.1 v.2.2.2.1 v.2.2.2.2]
theorem few_one {p : Pc} (h : fewP [p] = true) : smallP p := (few_small h).2 p (List.mem_singleton.2 rfl)

section
variable (H : ZealOk)
include H

set_option maxHeartbeats 16000000 in
theorem ZealTells_walk (v : PcV) (p : Pc) (A : Option Addr) (n c : Nat) (vs : List PcV) (ps : List Pc) (w : World) (h0 : PcR w w.heap.size v p) (h1 : ArgPcs w A n c vs ps) :
    Calls Try.prog 3 #[.agg #[.bool p.1, .slice v.1.1 v.1.2.1 v.1.2.2, .slice v.2.1.1 v.2.1.2.1 v.2.1.2.2, .slice v.2.2.1 v.2.2.2.1 v.2.2.2.2], .slice A n c] w fun e w' => e = .returned (.bool true) ∧ Below w.heap.size w w' := by
  obtain ⟨hnc, hcm, hA⟩ := h1
  obtain ⟨cf, t, bs, ss⟩ := p
  obtain ⟨⟨A1, n1, c1⟩, ⟨A2, n2, c2⟩, ⟨A3, n3, c3⟩⟩ := v
  dsimp only
  obtain ⟨W0, hW0⟩ : ∃ W0, W0 = w.alloc (.cells #[.bool cf, .slice A1 n1 c1, .slice A2 n2 c2, .slice A3 n3 c3] 25) := ⟨_, rfl⟩
  have k0 : W0.heap[w.heap.size]? = some (pcObj cf ((A1, n1, c1), (A2, n2, c2), (A3, n3, c3))) := by rw [hW0]; exact one_a w _
  have hb0 : Below w.heap.size w W0 := by rw [hW0]; exact below_alloc (Below.refl _ _) _
  have hlt : w.heap.size < W0.heap.size := (Array.getElem?_eq_some_iff.1 k0).1
  have hcells : Hid (∀ W, Below W0.heap.size W0 W → W.cell? ⟨w.heap.size, 0, none⟩ = some (.bool cf) ∧ W.cell? ⟨w.heap.size, 1, none⟩ = some (.slice A1 n1 c1) ∧ W.cell? ⟨w.heap.size, 2, none⟩ = some (.slice A2 n2 c2) ∧ W.cell? ⟨w.heap.size, 3, none⟩ = some (.slice A3 n3 c3)) := Lib.hid (fun W hW => by
    have e := (hW.block _ hlt).trans k0
    obtain ⟨x0, x1, x2, x3, -⟩ := piece_at e
    exact ⟨x0, x1, x2, x3⟩)
  have haw := Lib.hid (zAwake_any H W0)
  have hW0h := Lib.hid hW0
  have hb0h := Lib.hid hb0
  obtain ⟨f1, hf1⟩ : ∃ f1, fewP ps = f1 := ⟨_, rfl⟩
  obtain ⟨f2, hf2⟩ : ∃ f2, fewP [(cf, t, bs, ss)] = f2 := ⟨_, rfl⟩
  have hF1 : Hid (∀ W, Below W0.heap.size W0 W → Calls Try.prog 9 #[.slice A n c] W fun e w' => e = .returned (.bool f1) ∧ ∃ q, w' = W.drewN q) := Lib.hid (fun W hb => by
    have := pFew_any A n c W.heap.size vs ps W (Nat.le_trans hnc hcm) (hA.up (hb0.trans (hb.mono hb0.size)))
    rw [hf1] at this
    exact this)
  have hF2 : Hid (∀ W g, Below W0.heap.size W0 W → W.heap[g]? = some (pcObj cf ((A1, n1, c1), (A2, n2, c2), (A3, n3, c3))) → Calls Try.prog 9 #[.slice (some ⟨g, 0, none⟩) 1 1] W fun e w' => e = .returned (.bool f2) ∧ ∃ q, w' = W.drewN q) := Lib.hid (fun W g hb hg => by
    have := pFew_any (some ⟨g, 0, none⟩) 1 1 W.heap.size _ [(cf, t, bs, ss)] W (by decide) (pcs_one (p := (cf, t, bs, ss)) hg (h0.up (hb0.trans (hb.mono hb0.size))))
    rw [hf2] at this
    exact this)
  have hf1h := Lib.hid hf1
  have hf2h := Lib.hid hf2
  have hAh := Lib.hid hA
  have h0h := Lib.hid h0
  have tok1 := trivial
  clear hW0 k0 hb0 hlt hf1 hf2 hA h0
  go_enter Try.func3, Try.ntmps3
  go_upto_region 1 with fail
  rw [← hW0h.out]
  cases f1
  · go_wp2_with (first
      | (go_at_call 8; refine haw.out.mono ?_; rintro e w1 ⟨rfl, hb1⟩; have hB1 := Lib.hid hb1; clear hb1)
      | (go_at_call 9; refine (hF1.out _ hB1.out).mono ?_; rintro e w2 ⟨rfl, q2, rfl⟩))
    go_ret
    exact ⟨rfl, below_drewN (hb0h.out.trans (hB1.out.mono hb0h.out.size)) q2⟩
  go_upto_region 2 with (go_at_call 8; refine haw.out.mono ?_; rintro e w1 ⟨rfl, hb1⟩; have hB1 := Lib.hid hb1; clear hb1)
  cases f2
  · go_wp2_with (first
      | (go_at_call 9; have _t := tok1; refine (hF1.out _ hB1.out).mono ?_; rintro e w2 ⟨rfl, q2, hw2⟩; have hB2 : Hid (Below W0.heap.size W0 w2) := Lib.hid (by rw [hw2]; exact below_drewN hB1.out q2); obtain ⟨x0, x1, x2, x3⟩ := hcells.out w2 hB2.out; clear hw2 tok1)
      | (go_at_call 9; refine (hF2.out _ _ (below_alloc hB2.out _) (Go.Deep.blk_alloc_new _ _)).mono ?_; rintro e w3 ⟨rfl, q3, rfl⟩))
    go_ret
    exact ⟨rfl, below_drewN (hb0h.out.trans ((below_alloc hB2.out _).mono hb0h.out.size)) q3⟩
  have hsP : smallP (cf, t, bs, ss) := few_one hf2h.out
  have hsZ : smallZ ps := few_small hf1h.out
  go_upto_region 4 with (first
      | (go_at_call 9; have _t := tok1; refine (hF1.out _ hB1.out).mono ?_; rintro e w2 ⟨rfl, q2, hw2⟩; have hB2 : Hid (Below W0.heap.size W0 w2) := Lib.hid (by rw [hw2]; exact below_drewN hB1.out q2); obtain ⟨x0, x1, x2, x3⟩ := hcells.out w2 hB2.out; clear hw2 tok1)
      | (go_at_call 9; refine (hF2.out _ _ (below_alloc hB2.out _) (Go.Deep.blk_alloc_new _ _)).mono ?_; rintro e w3 ⟨rfl, q3, hw3⟩; have hB3 : Hid (Below W0.heap.size W0 w3) := Lib.hid (by rw [hw3]; exact below_drewN (below_alloc hB2.out _) q3); clear hw3))
  have hbw3 := Lib.hid (hb0h.out.trans (hB3.out.mono hb0h.out.size))
  have hPz : ∀ W, Below w3.heap.size w3 W → PcR W W.heap.size ((A1, n1, c1), (A2, n2, c2), (A3, n3, c3)) (cf, t, bs, ss) := fun W hW => h0h.out.up (hbw3.out.trans (hW.mono hbw3.out.size))
  have hLz : ∀ W, Below w3.heap.size w3 W → Pcs W W.heap.size A n vs ps := fun W hW => hAh.out.up (hbw3.out.trans (hW.mono hbw3.out.size))
  have hTr : Hid (∀ (U W : World), Below U.heap.size U W → Below w3.heap.size w3 W → Calls Try.prog 11 #[.agg #[.bool cf, .slice A1 n1 c1, .slice A2 n2 c2, .slice A3 n3 c3]] W fun e w' => ∃ A n c vs, e = .returned (.slice A n c) ∧ n ≤ maxLen ∧ Pcs w' w'.heap.size A n vs (trimD (cf, t, bs, ss)) ∧ Below U.heap.size U w' ∧ Below w3.heap.size w3 w') := Lib.hid (fun U W hU hW => by
    refine (H.trim_ok W.heap.size ((A1, n1, c1), (A2, n2, c2), (A3, n3, c3)) (cf, t, bs, ss) W (Nat.le_refl _) hsP (hPz W hW)).mono ?_
    rintro e w' ⟨A, n, c, vs, r1, r2, r3, r4, r5⟩
    exact ⟨A, n, c, vs, r1, Nat.le_trans r2 r3, r4 w' (But.refl _ _), hU.trans (r5.mono hU.size), hW.trans (r5.mono hW.size)⟩)
  have hRt : Hid (∀ (U W : World), Below U.heap.size U W → Below w3.heap.size w3 W → Calls Try.prog 12 #[.agg #[.bool cf, .slice A1 n1 c1, .slice A2 n2 c2, .slice A3 n3 c3]] W fun e w' => ∃ A n c vs, e = .returned (.slice A n c) ∧ n ≤ maxLen ∧ Pcs w' w'.heap.size A n vs (trimD (cf, t, bs, ss)) ∧ Below U.heap.size U w' ∧ Below w3.heap.size w3 w') := Lib.hid (fun U W hU hW => by
    refine (rTrim_any W.heap.size ((A1, n1, c1), (A2, n2, c2), (A3, n3, c3)) (cf, t, bs, ss) W (Nat.le_refl _) hsP (hPz W hW)).mono ?_
    rintro e w' ⟨A, n, c, vs, r1, r2, r3, r4, r5⟩
    exact ⟨A, n, c, vs, r1, Nat.le_trans r2 r3, r4 w' (But.refl _ _), hU.trans (r5.mono hU.size), hW.trans (r5.mono hW.size)⟩)
  have hZl : Hid (∀ (U W : World), Below U.heap.size U W → Below w3.heap.size w3 W → Calls Try.prog 13 #[.slice A n c] W fun e w' => ∃ A n c vs, e = .returned (.slice A n c) ∧ n ≤ maxLen ∧ Pcs w' w'.heap.size A n vs (zealD ps) ∧ Below U.heap.size U w' ∧ Below w3.heap.size w3 w') := Lib.hid (fun U W hU hW => by
    refine (H.zeal_ok W.heap.size A n c vs ps W hnc hcm (Nat.le_refl _) hsZ (hLz W hW)).mono ?_
    rintro e w' ⟨A, n, c, vs, r1, r2, r3, r4, r5⟩
    exact ⟨A, n, c, vs, r1, Nat.le_trans r2 r3, r4 w' (But.refl _ _), hU.trans (r5.mono hU.size), hW.trans (r5.mono hW.size)⟩)
  have hRz : Hid (∀ (U W : World), Below U.heap.size U W → Below w3.heap.size w3 W → Calls Try.prog 14 #[.slice A n c] W fun e w' => ∃ A n c vs, e = .returned (.slice A n c) ∧ n ≤ maxLen ∧ Pcs w' w'.heap.size A n vs (zealD ps) ∧ Below U.heap.size U w' ∧ Below w3.heap.size w3 w') := Lib.hid (fun U W hU hW => by
    refine (rZeal_any W.heap.size A n c vs ps W (Nat.le_refl _) hsZ (hLz W hW)).mono ?_
    rintro e w' ⟨A, n, c, vs, r1, r2, r3, r4, r5⟩
    exact ⟨A, n, c, vs, r1, Nat.le_trans r2 r3, r4 w' (But.refl _ _), hU.trans (r5.mono hU.size), hW.trans (r5.mono hW.size)⟩)
  have hSm : Hid (∀ (U W : World) (A A' : Option Addr) (n n' c c' : Nat) (vs vs' : List PcV) (ps : List Pc), n ≤ maxLen → n' ≤ maxLen → Pcs U U.heap.size A n vs ps → Pcs U U.heap.size A' n' vs' ps → Below U.heap.size U W → Below w3.heap.size w3 W → Calls Try.prog 10 #[.slice A n c, .slice A' n' c'] W fun e w' => e = .returned (.bool true) ∧ Below w3.heap.size w3 w') := Lib.hid (fun U W A A' n n' c c' vs vs' ps a b h h' hU hW => by
    have := pSame_any A A' n n' c c' _ _ vs vs' ps ps W a b (h.up hU) (h'.up hU)
    rw [decide_eq_true rfl] at this
    refine this.mono ?_
    rintro e w' ⟨r1, q, rfl⟩
    exact ⟨r1, below_drewN hW q⟩)
  have hS : Hid (∀ W, Below w3.heap.size w3 W → W.cell? ⟨w.heap.size, 0, none⟩ = some (.bool cf) ∧ W.cell? ⟨w.heap.size, 1, none⟩ = some (.slice A1 n1 c1) ∧ W.cell? ⟨w.heap.size, 2, none⟩ = some (.slice A2 n2 c2) ∧ W.cell? ⟨w.heap.size, 3, none⟩ = some (.slice A3 n3 c3)) := Lib.hid (fun W hW => hcells.out W (hB3.out.trans (hW.mono hB3.out.size)))
  have hrefl := Below.refl w3.heap.size w3
  have tok2 := trivial
  clear hPz hLz hsP hsZ x0 x1 x2 x3
  go_wp2
  go_region_held3 (fun wx : World => wx.cell? ⟨w.heap.size, 0, none⟩ = some (.bool cf) ∧ wx.cell? ⟨w.heap.size, 1, none⟩ = some (.slice A1 n1 c1) ∧ wx.cell? ⟨w.heap.size, 2, none⟩ = some (.slice A2 n2 c2) ∧ wx.cell? ⟨w.heap.size, 3, none⟩ = some (.slice A3 n3 c3))
    ((refine hS.out _ ?_; repeat (first | assumption | refine below_drew ?_)))
    ((first
      | (go_at_call 11; refine (hTr.out w3 _ ?_ ?_).mono ?_; (repeat (first | assumption | refine below_drew ?_)); (repeat (first | assumption | refine below_drew ?_)); rintro e w5 ⟨A5, n5, c5, vs5, rfl, hn5, hP5, hu5, hb5⟩)
      | (go_at_call 12; refine (hRt.out w5 _ ?_ ?_).mono ?_; (repeat (first | exact Below.refl _ _ | refine below_drew ?_)); (repeat (first | assumption | refine below_drew ?_)); rintro e w6 ⟨A6, n6, c6, vs6, rfl, hn6, hP6, hu6, hb6⟩)
      | (go_at_call 13; refine (hZl.out w3 _ ?_ ?_).mono ?_; (repeat (first | assumption | refine below_drew ?_)); (repeat (first | assumption | refine below_drew ?_)); rintro e w8 ⟨A8, n8, c8, vs8, rfl, hn8, hP8, hu8, hb8⟩)
      | (go_at_call 14; refine (hRz.out w8 _ ?_ ?_).mono ?_; (repeat (first | exact Below.refl _ _ | refine below_drew ?_)); (repeat (first | assumption | refine below_drew ?_)); rintro e w9 ⟨A9, n9, c9, vs9, rfl, hn9, hP9, hu9, hb9⟩)
      | (go_at_call 10; have _t := tok2; refine (hSm.out w6 _ A5 A6 n5 n6 c5 c6 vs5 vs6 _ hn5 hn6 (hP5.up hu6) hP6 ?_ ?_).mono ?_; (repeat (first | exact Below.refl _ _ | refine below_drew ?_)); (repeat (first | assumption | refine below_drew ?_)); rintro e w7 ⟨rfl, hb7⟩; clear tok2)
      | (go_at_call 10; refine (hSm.out w9 _ A8 A9 n8 n9 c8 c9 vs8 vs9 _ hn8 hn9 (hP8.up hu9) hP9 ?_ ?_).mono ?_; (repeat (first | exact Below.refl _ _ | refine below_drew ?_)); (repeat (first | assumption | refine below_drew ?_)); rintro e w10 ⟨rfl, hb10⟩)))
  go_wp2_with fail
  go_ret
  refine ⟨rfl, hbw3.out.trans (Below.mono ?_ hbw3.out.size)⟩
  repeat (first | assumption | refine below_drew ?_)
end
end Go.Proofs.Ytidfhgocnglnjaa

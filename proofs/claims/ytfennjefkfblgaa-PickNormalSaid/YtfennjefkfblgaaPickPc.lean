/- Proved here: the contract of the document's own answer of layer 7: Piece. -/
import Derived.Test.YtfennjefkfblgaaPickUn
import Derived.Test.YtfennjefkfblgaaContDif
namespace Go.Proofs.Ytfennjefkfblgaa
open Go.RowKit
set_option linter.unusedVariables false

set_option maxRecDepth 100000 in
set_option maxHeartbeats 4000000 in
theorem rPiece_any (A0 : Option Addr) (n0 c0 : Nat) (base : Txs) (A : Option Addr) (n c : Nat) (rows : List Slc) (ps : List Txs) (fav : Int) (un : Bool) (w : World) (hnc : n ≤ c) (hcm : c ≤ maxLen) (hn : n ≤ 1000) (hfav : inR64 fav) (hsm : smallT base ps) (hA0 : TxR w w.heap.size (A0, n0, c0) base) (hA : RowsT w w.heap.size A n rows ps) :
    Calls Try.prog 12 #[.slice A0 n0 c0, .slice A n c, .agg #[.int .i64 fav, .bool un]] w fun e w' => PieceOut w w' e (pieceD base ps fav un) := by
  obtain ⟨W0, hW0⟩ : ∃ W0, W0 = ((w.alloc (.cells #[.int .i64 fav, .bool un] 25)).alloc (.cells #[.bool false, .slice none 0 0, .slice none 0 0, .slice none 0 0] 29)) := ⟨_, rfl⟩
  have hb0 : Below w.heap.size w W0 := by rw [hW0]; exact ((Below.refl _ w).alloc (Nat.le_refl _) _).alloc (by simp) _
  have hD := Lib.hid (rDif_any A0 n0 c0 base A n c rows ps W0 (Nat.le_trans hA0.1 hA0.2.1) (by omega) (hA0.up hb0).2.2 (hA.up hb0))
  have hb0h := Lib.hid hb0
  have hW0h := Lib.hid hW0
  have hA0h := Lib.hid hA0
  have hAh := Lib.hid hA
  have hln := hA.len
  have hlnh := Lib.hid hln
  obtain ⟨p, hp⟩ : ∃ p, pieceD base ps fav un = p := ⟨_, rfl⟩
  have hph := Lib.hid hp
  rw [hp]
  clear hb0 hA0 hA hp
  go_enter Try.func12, Try.ntmps12
  go_upto_region 1 with fail
  rw [← hW0h.out]
  have hW1 : Hid (∀ w1 : World, Below W0.heap.size W0 w1 → w1.heap[w.heap.size]? = some (.cells #[.int .i64 fav, .bool un] 25 (0, 0)) ∧ w1.heap[w.heap.size + 1]? = some (.cells #[.bool false, .slice none 0 0, .slice none 0 0, .slice none 0 0] 29 (0, 0)) ∧ Below w.heap.size w w1) := Lib.hid (fun w1 hb => by
    have hs : W0.heap.size = w.heap.size + 2 := by rw [hW0h.out]; simp
    refine ⟨(hb.block _ (by omega)).trans ?_, (hb.block _ (by omega)).trans ?_, hb0h.out.trans (hb.mono hb0h.out.size)⟩
    · rw [hW0h.out]
      exact (Below.heap_alloc _ _ _ (by simp)).trans (Go.Deep.blk_alloc_new w _)
    · rw [hW0h.out]
      have := Go.Deep.blk_alloc_new (w.alloc (.cells #[.int .i64 fav, .bool un] 25)) (.cells #[.bool false, .slice none 0 0, .slice none 0 0, .slice none 0 0] 29)
      simpa using this)
  clear hW0
  rcases hds : diffs base ps with _ | ⟨d, _ | ⟨d2, ds⟩⟩
  · have hpe : p = tPc base := by rw [← hph.out]; unfold pieceD; rw [hds]
    have hpeh := Lib.hid hpe
    have hdsh := Lib.hid hds
    clear hpe hds
    go_wp2_with (go_at_call 22; refine hD.out.mono ?_; rintro e w1 ⟨A1, n1, c1, rs, rfl, h3, h4, h5, h6⟩; have hn1 := h5.len; rw [hdsh.out] at hn1; have hn1' : 0 = n1 := hn1; subst hn1'; obtain ⟨k0, k1, k2⟩ := hW1.out w1 h6; obtain ⟨e0, e1, e2, e3, z0, z1, z2, z3⟩ := piece_at k1; have k2h := Lib.hid k2; have k1h := Lib.hid k1; clear k1 k2 h6)
    refine bodyPost_ret (v := .agg #[.bool false, .slice A0 n0 c0, .slice none 0 0, .slice none 0 0]) (by simp [results, Try.results12, go_sem, World.cell?_setCell_same', e0, e1, e2, e3]) rfl ?_
    rw [hpeh.out]
    exact piece_done (v := ((A0, n0, c0), (none, 0, 0), (none, 0, 0))) (by omega) k2h.out (fun w' hb' => PcR.text (hA0h.out.old (by omega) k2h.out hb')) _ _ _ _
  · have hpe : p = tPc d := by rw [← hph.out]; unfold pieceD; rw [hds]
    have hpeh := Lib.hid hpe
    have hdsh := Lib.hid hds
    clear hpe hds
    go_wp2_with (go_at_call 22; refine hD.out.mono ?_; rintro e w1 ⟨A1, n1, c1, rs, rfl, h3, h4, h5, h6⟩; have hn1 := h5.len; rw [hdsh.out] at hn1; have hn1' : 1 = n1 := hn1; subst hn1'; obtain ⟨k0, k1, k2⟩ := hW1.out w1 h6; obtain ⟨e0, e1, e2, e3, z0, z1, z2, z3⟩ := piece_at k1; have k2h := Lib.hid k2; have k1h := Lib.hid k1; obtain ⟨b1, o1, A2, n2, c2, dd, rfl, hb1, hdd, -, hcd, hn2, hc2, hS2⟩ := h5.at_ (k := 0) (by omega); rw [hdsh.out] at hdd; have hdd' : d = dd := (by simpa using hdd); subst hdd'; have hcd' : w1.cell? ⟨b1, o1, none⟩ = some (.slice A2 n2 c2) := hcd; have hTd : Hid (TxR w1 w1.heap.size (A2, n2, c2) d) := Lib.hid ⟨hn2, hc2, hS2⟩; clear k1 k2 h6 h5 hdd hS2 hn1)
    refine bodyPost_ret (v := .agg #[.bool false, .slice A2 n2 c2, .slice none 0 0, .slice none 0 0]) (by simp [results, Try.results12, go_sem, World.cell?_setCell_same', e0, e1, e2, e3]) rfl ?_
    rw [hpeh.out]
    exact piece_done (v := ((A2, n2, c2), (none, 0, 0), (none, 0, 0))) (by omega) k2h.out (fun w' hb' => PcR.text (hTd.out.but hb' (hTd.out.apart k1h.out (piece_cells _ _ _ _ _ _ _ _ _ _)))) _ _ _ _
  · have hpe : p = if 1 ≤ fav ∧ fav ≤ ps.length then tPc ((ps[(fav - 1).toNat]?).getD []) else if un = true then tPc (unionT (d :: d2 :: ds)) else cPc base ps := by rw [← hph.out]; unfold pieceD; rw [hds]
    have hpeh := Lib.hid hpe
    have hdsh := Lib.hid hds
    obtain ⟨m, hm⟩ : ∃ m, ds.length + 2 = m := ⟨_, rfl⟩
    have hm2 : 2 ≤ m := by omega
    have e5 : ((m : Int) == 0) = false := by simp; omega
    have e6 : ((m : Int) == 1) = false := by simp; omega
    clear hpe hds
    obtain ⟨q1, q2, q3⟩ := unionT_small hsm (by omega)
    rw [hdsh.out] at q1 q2 q3
    have hml : Hid (m ≤ 1000) := Lib.hid (by have := diffs_len base ps; rw [hdsh.out] at this; simp at this; omega)
    have hu1 := Lib.hid q1
    have hu2 := Lib.hid q2
    have hu3 := Lib.hid q3
    clear q1 q2 q3
    unfold inR64 at hfav
    by_cases hf : 1 ≤ fav ∧ fav ≤ ps.length
    · obtain ⟨k, rfl⟩ : ∃ k : Nat, fav = (k : Int) + 1 := ⟨(fav - 1).toNat, by omega⟩
      have hkn : k < n := by omega
      obtain ⟨b2, o2, A2, n2, c2, x, rfl, hb2, hx, -, hc2, hn2, hc2', hS2⟩ := hAh.out.at_ hkn
      have hpe2 : Hid (p = tPc x) := Lib.hid (by rw [hpeh.out, if_pos hf, show ((k : Int) + 1 - 1).toNat = k by omega, hx]; rfl)
      have hTx : Hid (TxR w w.heap.size (A2, n2, c2) x) := Lib.hid ⟨hn2, hc2', hS2⟩
      have f1 : decide ((0 : Int) < (k : Int) + 1) = true := decide_eq_true (by omega)
      have f2 : decide ((k : Int) + 1 ≤ (n : Int)) = true := decide_eq_true (by omega)
      have i1 : (0 : Int) ≤ (k : Int) := by omega
      have i2 : (k : Int) < (n : Int) := by omega
      clear hf hS2 hx
      go_wp2_with (go_at_call 22; refine hD.out.mono ?_; rintro e w1 ⟨A1, n1, c1, rs, rfl, h3, h4, h5, h6⟩; have hn1 := h5.len; rw [hdsh.out] at hn1; have hn1' : m = n1 := hm.symm.trans hn1; subst hn1'; obtain ⟨k0, k1, k2⟩ := hW1.out w1 h6; obtain ⟨e0, e1, e2, e3, z0, z1, z2, z3⟩ := piece_at k1; have x0 : w1.cell? ⟨w.heap.size, 0, none⟩ = some (.int .i64 ((k : Int) + 1)) := (by rw [cells_of k0]; rfl); have x1 : w1.cell? ⟨w.heap.size, 1, none⟩ = some (.bool un) := (by rw [cells_of k0]; rfl); have k2h := Lib.hid k2; have k1h := Lib.hid k1; have y0 : w1.cell? ⟨b2, o2 + k, none⟩ = some (.slice A2 n2 c2) := ((k2.cell (p := ⟨b2, o2 + k, none⟩) hb2).trans hc2); clear k0 k1 k2 h6 h5 hn1)
      refine bodyPost_ret (v := .agg #[.bool false, .slice A2 n2 c2, .slice none 0 0, .slice none 0 0]) (by simp [results, Try.results12, go_sem, World.cell?_setCell_same', e0, e1, e2, e3]) rfl ?_
      rw [hpe2.out]
      exact piece_done (v := ((A2, n2, c2), (none, 0, 0), (none, 0, 0))) (by omega) k2h.out (fun w' hb' => PcR.text (hTx.out.old (by omega) k2h.out hb')) _ _ _ _
    · have hfh := Lib.hid hf
      by_cases h0 : 0 < fav
      · have h1 : ¬ fav ≤ (n : Int) := by omega
        have f1 : decide ((0 : Int) < fav) = true := by simpa using h0
        have f2 : decide (fav ≤ (n : Int)) = false := by simpa using h1
        clear hf
        cases un
        · have hpe2 : Hid (p = cPc base ps) := Lib.hid (by rw [hpeh.out, if_neg hfh.out, if_neg (by simp)])
          go_wp2_with (go_at_call 22; refine hD.out.mono ?_; rintro e w1 ⟨A1, n1, c1, rs, rfl, h3, h4, h5, h6⟩; have hn1 := h5.len; rw [hdsh.out] at hn1; have hn1' : m = n1 := hm.symm.trans hn1; subst hn1'; obtain ⟨k0, k1, k2⟩ := hW1.out w1 h6; obtain ⟨e0, e1, e2, e3, z0, z1, z2, z3⟩ := piece_at k1; have x0 : w1.cell? ⟨w.heap.size, 0, none⟩ = some (.int .i64 fav) := (by rw [cells_of k0]; rfl); have x1 : w1.cell? ⟨w.heap.size, 1, none⟩ = some (.bool false) := (by rw [cells_of k0]; rfl); have k2h := Lib.hid k2; have k1h := Lib.hid k1; clear k0 k1 k2 h6 h5 hn1)
          refine bodyPost_ret (v := .agg #[.bool true, .slice none 0 0, .slice A0 n0 c0, .slice A n c]) (by simp [results, Try.results12, go_sem, World.cell?_setCell_same', e0, e1, e2, e3]) rfl ?_
          rw [hpe2.out]
          exact piece_done (v := ((none, 0, 0), (A0, n0, c0), (A, n, c))) (by omega) k2h.out (fun w' hb' => PcR.conf (hA0h.out.old (by omega) k2h.out hb') ⟨hnc, hcm, rows, hAh.out.up (k2h.out.trans (hb'.below k2h.out.size (by rintro k rfl; omega)))⟩) _ _ _ _
        · have hpe2 : Hid (p = tPc (unionT (d :: d2 :: ds))) := Lib.hid (by rw [hpeh.out, if_neg hfh.out, if_pos rfl])
          go_wp2_with (first | (go_at_call 22; refine hD.out.mono ?_; rintro e w1 ⟨A1, n1, c1, rs, rfl, h3, h4, h5, h6⟩; have hn1 := h5.len; rw [hdsh.out] at hn1; have hn1' : m = n1 := hm.symm.trans hn1; subst hn1'; obtain ⟨k0, k1, k2⟩ := hW1.out w1 h6; obtain ⟨e0, e1, e2, e3, z0, z1, z2, z3⟩ := piece_at k1; have x0 : w1.cell? ⟨w.heap.size, 0, none⟩ = some (.int .i64 fav) := (by rw [cells_of k0]; rfl); have x1 : w1.cell? ⟨w.heap.size, 1, none⟩ = some (.bool true) := (by rw [cells_of k0]; rfl); have k2h := Lib.hid k2; have k1h := Lib.hid k1; have hU := Lib.hid (rUnion_any A1 m c1 rs (d :: d2 :: ds) w1 (Nat.le_trans hml.out (by decide)) hu1.out hu2.out hu3.out (by rw [← hdsh.out]; exact h5)); clear k0 k1 k2 h6 h5 hn1) | (go_at_call 32; refine hU.out.mono ?_; rintro e w2 ⟨A3, n3, c3, rfl, hT3, hb3⟩; have k3 := Lib.hid ((hb3.block _ (Array.getElem?_eq_some_iff.1 k1h.out).1).trans k1h.out); obtain ⟨e0, e1, e2, e3, z0, z1, z2, z3⟩ := piece_at k3.out; have hT3h := Lib.hid hT3; have hb4 := Lib.hid (k2h.out.trans (hb3.mono k2h.out.size)); clear hT3 hb3))
          refine bodyPost_ret (v := .agg #[.bool false, .slice A3 n3 c3, .slice none 0 0, .slice none 0 0]) (by simp [results, Try.results12, go_sem, World.cell?_setCell_same', e0, e1, e2, e3]) rfl ?_
          rw [hpe2.out]
          exact piece_done (v := ((A3, n3, c3), (none, 0, 0), (none, 0, 0))) (by omega) hb4.out (fun w' hb' => PcR.text (hT3h.out.but hb' (hT3h.out.apart k3.out (piece_cells _ _ _ _ _ _ _ _ _ _)))) _ _ _ _
      · have f1 : decide ((0 : Int) < fav) = false := by simpa using h0
        clear hf
        cases un
        · have hpe2 : Hid (p = cPc base ps) := Lib.hid (by rw [hpeh.out, if_neg hfh.out, if_neg (by simp)])
          go_wp2_with (go_at_call 22; refine hD.out.mono ?_; rintro e w1 ⟨A1, n1, c1, rs, rfl, h3, h4, h5, h6⟩; have hn1 := h5.len; rw [hdsh.out] at hn1; have hn1' : m = n1 := hm.symm.trans hn1; subst hn1'; obtain ⟨k0, k1, k2⟩ := hW1.out w1 h6; obtain ⟨e0, e1, e2, e3, z0, z1, z2, z3⟩ := piece_at k1; have x0 : w1.cell? ⟨w.heap.size, 0, none⟩ = some (.int .i64 fav) := (by rw [cells_of k0]; rfl); have x1 : w1.cell? ⟨w.heap.size, 1, none⟩ = some (.bool false) := (by rw [cells_of k0]; rfl); have k2h := Lib.hid k2; have k1h := Lib.hid k1; clear k0 k1 k2 h6 h5 hn1)
          refine bodyPost_ret (v := .agg #[.bool true, .slice none 0 0, .slice A0 n0 c0, .slice A n c]) (by simp [results, Try.results12, go_sem, World.cell?_setCell_same', e0, e1, e2, e3]) rfl ?_
          rw [hpe2.out]
          exact piece_done (v := ((none, 0, 0), (A0, n0, c0), (A, n, c))) (by omega) k2h.out (fun w' hb' => PcR.conf (hA0h.out.old (by omega) k2h.out hb') ⟨hnc, hcm, rows, hAh.out.up (k2h.out.trans (hb'.below k2h.out.size (by rintro k rfl; omega)))⟩) _ _ _ _
        · have hpe2 : Hid (p = tPc (unionT (d :: d2 :: ds))) := Lib.hid (by rw [hpeh.out, if_neg hfh.out, if_pos rfl])
          go_wp2_with (first | (go_at_call 22; refine hD.out.mono ?_; rintro e w1 ⟨A1, n1, c1, rs, rfl, h3, h4, h5, h6⟩; have hn1 := h5.len; rw [hdsh.out] at hn1; have hn1' : m = n1 := hm.symm.trans hn1; subst hn1'; obtain ⟨k0, k1, k2⟩ := hW1.out w1 h6; obtain ⟨e0, e1, e2, e3, z0, z1, z2, z3⟩ := piece_at k1; have x0 : w1.cell? ⟨w.heap.size, 0, none⟩ = some (.int .i64 fav) := (by rw [cells_of k0]; rfl); have x1 : w1.cell? ⟨w.heap.size, 1, none⟩ = some (.bool true) := (by rw [cells_of k0]; rfl); have k2h := Lib.hid k2; have k1h := Lib.hid k1; have hU := Lib.hid (rUnion_any A1 m c1 rs (d :: d2 :: ds) w1 (Nat.le_trans hml.out (by decide)) hu1.out hu2.out hu3.out (by rw [← hdsh.out]; exact h5)); clear k0 k1 k2 h6 h5 hn1) | (go_at_call 32; refine hU.out.mono ?_; rintro e w2 ⟨A3, n3, c3, rfl, hT3, hb3⟩; have k3 := Lib.hid ((hb3.block _ (Array.getElem?_eq_some_iff.1 k1h.out).1).trans k1h.out); obtain ⟨e0, e1, e2, e3, z0, z1, z2, z3⟩ := piece_at k3.out; have hT3h := Lib.hid hT3; have hb4 := Lib.hid (k2h.out.trans (hb3.mono k2h.out.size)); clear hT3 hb3))
          refine bodyPost_ret (v := .agg #[.bool false, .slice A3 n3 c3, .slice none 0 0, .slice none 0 0]) (by simp [results, Try.results12, go_sem, World.cell?_setCell_same', e0, e1, e2, e3]) rfl ?_
          rw [hpe2.out]
          exact piece_done (v := ((A3, n3, c3), (none, 0, 0), (none, 0, 0))) (by omega) hb4.out (fun w' hb' => PcR.text (hT3h.out.but hb' (hT3h.out.apart k3.out (piece_cells _ _ _ _ _ _ _ _ _ _)))) _ _ _ _
end Go.Proofs.Ytfennjefkfblgaa

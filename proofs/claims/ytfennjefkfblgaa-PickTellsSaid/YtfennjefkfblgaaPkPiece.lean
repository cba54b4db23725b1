/- Proved here: the contract of the landed pick.Piece. -/
import Derived.Test.YtfennjefkfblgaaPkUn2
import Derived.Test.YtfennjefkfblgaaPkConf
import Derived.Test.YtfennjefkfblgaaContDf
import Derived.Test.YtfennjefkfblgaaConPiece
namespace Go.Proofs.Ytfennjefkfblgaa
open Go.RowKit
set_option linter.unusedVariables false

theorem piece_text {w W w1 : World} {L : Nat} {A : Option Addr} {n c : Nat} {xs : Txs} (hL : w.heap.size ≤ L) (hLW : L < W.heap.size) (hbW : Below w.heap.size w W) (hT : TxO W w1 (.slice A n c) xs) (u0 u1 u2 u3 : Value) :
    PieceOut w ((((w1.setCell ⟨L, 0, none⟩ u0).setCell ⟨L, 1, none⟩ u1).setCell ⟨L, 2, none⟩ u2).setCell ⟨L, 3, none⟩ u3) (.returned (.agg #[.bool false, .slice A n c, .slice none 0 0, .slice none 0 0])) (tPc xs) :=
  piece_done (v := ((A, n, c), (none, 0, 0), (none, 0, 0))) hL (hbW.trans (hT.below.mono hbW.size)) (fun w' hb' => PcR.text (hT.stay hb' (by rintro k rfl; exact hLW))) _ _ _ _

set_option maxRecDepth 100000 in
set_option maxHeartbeats 8000000 in
theorem piece_ok : PickPieceOk := by
  intro A0 n0 c0 base A n c rows ps fav un w hnc hcm hn hfav hsm hA0 hA
  obtain ⟨W0, hW0⟩ : ∃ W0, W0 = ((w.alloc (.cells #[.int .i64 fav, .bool un] 25)).alloc (.cells #[.bool false, .slice none 0 0, .slice none 0 0, .slice none 0 0] 29)) := ⟨_, rfl⟩
  have hb0 : Below w.heap.size w W0 := by rw [hW0]; exact ((Below.refl _ w).alloc (Nat.le_refl _) _).alloc (by simp) _
  have hs0 : W0.heap.size = w.heap.size + 2 := by rw [hW0]; simp
  have hD := Lib.hid (dif_any A0 n0 c0 base A n c rows ps W0 (by omega) (hA0.up hb0) (hA.up hb0))
  have hK : Hid (∀ W, Below w.heap.size w W → Calls Try.prog 27 #[.slice A0 n0 c0, .slice A n c] W fun e w' => e = .returned (.int .i64 (kindN base ps)) ∧ Below W.heap.size W w') := Lib.hid (fun W hW => kind_any A0 n0 c0 base A n c rows ps W (by omega) (hA0.up hW) (hA.up hW))
  have hb0h := Lib.hid hb0
  have hs0h := Lib.hid hs0
  have hW0h := Lib.hid hW0
  have hA0h := Lib.hid hA0
  have hAh := Lib.hid hA
  have hsmh := Lib.hid hsm
  have hln := hA.len
  have hlnh := Lib.hid hln
  obtain ⟨p, hp⟩ : ∃ p, pieceD base ps fav un = p := ⟨_, rfl⟩
  have hph := Lib.hid hp
  rw [hp]
  obtain ⟨kd, hkd⟩ : ∃ kd, kindN base ps = kd := ⟨_, rfl⟩
  rw [hkd] at hK
  have hkdh := Lib.hid hkd
  clear hb0 hA0 hA hp hkd
  have hW1 : Hid (∀ w1 : World, Below W0.heap.size W0 w1 → w1.heap[w.heap.size]? = some (.cells #[.int .i64 fav, .bool un] 25 (0, 0)) ∧ w1.heap[w.heap.size + 1]? = some (.cells #[.bool false, .slice none 0 0, .slice none 0 0, .slice none 0 0] 29 (0, 0)) ∧ Below w.heap.size w w1) := Lib.hid (fun w1 hb => by
    have hs : W0.heap.size = w.heap.size + 2 := hs0h.out
    have h2 := two_a w (.cells #[.int .i64 fav, .bool un] 25) (.cells #[.bool false, .slice none 0 0, .slice none 0 0, .slice none 0 0] 29)
    rw [← hW0h.out] at h2
    exact ⟨(hb.block _ (by omega)).trans h2.1, (hb.block _ (by omega)).trans h2.2, hb0h.out.trans (hb.mono hb0h.out.size)⟩)
  have hTx : Hid (∀ (A2 : Option Addr) (n2 c2 : Nat) (xs : Txs) (W : World), n2 ≤ 1000000000 → Strs W W.heap.size A2 n2 xs → Calls Try.prog 28 #[.slice A2 n2 c2] W fun e w' => TextOut W w' e xs) := Lib.hid (fun A2 n2 c2 xs W h1 h2 => text_any A2 n2 c2 W.heap.size xs W h1 (Nat.le_refl _) h2)
  clear hW0 hs0
  go_enter Try.func11, Try.ntmps11
  go_upto_region 1 with fail
  rw [← hW0h.out]
  rcases hds : diffs base ps with _ | ⟨d, _ | ⟨d2, ds⟩⟩
  · have hpe : p = tPc base := by rw [← hph.out]; unfold pieceD; rw [hds]
    have hpeh := Lib.hid hpe
    have hdsh := Lib.hid hds
    obtain rfl : kd = 0 := by have := hkdh.out; unfold kindN at this; rw [hds] at this; exact this.symm
    have hbl : n0 ≤ 1000000000 := by have h1 := hsm.1 base (List.mem_cons_self ..); have h2 := hA0h.out.2.2.len; dsimp only at h2; omega
    have hblh := Lib.hid hbl
    clear hpe hds hbl hsm
    go_wp2_with (first
      | (go_at_call 26; refine hD.out.mono ?_; rintro e w1 ⟨A1, n1, c1, rs, rfl, h3, h4, h5, h6⟩; have hb1 := Lib.hid h6; clear h3 h4 h5 h6)
      | (go_at_call 27; refine (hK.out _ (hW1.out _ hb1.out).2.2).mono ?_; rintro e w2 ⟨rfl, h6⟩; have hb2 := Lib.hid (hb1.out.trans (h6.mono hb1.out.size)); have hT := Lib.hid (hTx.out A0 n0 c0 base w2 hblh.out (hA0h.out.up (hW1.out _ hb2.out).2.2).2.2); clear h6)
      | (go_at_call 28; refine hT.out.mono ?_; rintro e w3 ⟨A3, c3, rfl, hT3⟩; have hT3h := Lib.hid hT3; have k1 := (hW1.out _ (hb2.out.trans (hT3.below.mono hb2.out.size))).2.1; obtain ⟨e0, e1, e2, e3, z0, z1, z2, z3⟩ := piece_at k1; clear hT3 k1))
    refine bodyPost_ret (v := .agg #[.bool false, .slice A3 base.length c3, .slice none 0 0, .slice none 0 0]) (by simp [results, Try.results11, go_sem, World.cell?_setCell_same', e0, e1, e2, e3]) rfl ?_
    rw [hpeh.out]
    exact piece_text (by omega) (by have := hs0h.out; have := hb2.out.size; omega) (hW1.out _ hb2.out).2.2 hT3h.out _ _ _ _
  · have hpe : p = tPc d := by rw [← hph.out]; unfold pieceD; rw [hds]
    have hpeh := Lib.hid hpe
    have hdsh := Lib.hid hds
    obtain rfl : kd = 1 := by have := hkdh.out; unfold kindN at this; rw [hds] at this; exact this.symm
    have hdm := Lib.hid (show d ∈ base :: ps from List.mem_cons_of_mem _ (mem_diffs.1 (show d ∈ diffs base ps by rw [hds]; exact List.mem_singleton.2 rfl)).1)
    clear hpe hds hsm
    go_wp2_with (first
      | (go_at_call 26; refine hD.out.mono ?_; rintro e w1 ⟨A1, n1, c1, rs, rfl, h3, h4, h5, h6⟩; have hn1 := h5.len; rw [hdsh.out] at hn1; have hn1' : 1 = n1 := hn1; subst hn1'; have hb1 := Lib.hid h6; have hR1 := Lib.hid h5; clear h3 h4 h5 h6 hn1)
      | (go_at_call 27; refine (hK.out _ (hW1.out _ hb1.out).2.2).mono ?_; rintro e w2 ⟨rfl, h6⟩; have hb2 := Lib.hid (hb1.out.trans (h6.mono hb1.out.size)); obtain ⟨b1, o1, A2, n2, c2, dd, rfl, hbb1, hdd, -, hcd, hn2, hc2, hS2⟩ := (hR1.out.up h6).at_ (k := 0) (by omega); rw [hdsh.out] at hdd; have hdd' : d = dd := (by simpa using hdd); subst hdd'; have hcd' : w2.cell? ⟨b1, o1, none⟩ = some (.slice A2 n2 c2) := hcd; have hT := Lib.hid (hTx.out A2 n2 c2 d w2 (by have := hsmh.out.1 d hdm.out; have := hS2.len; omega) hS2); clear h6 hdd hcd hS2)
      | (go_at_call 28; refine hT.out.mono ?_; rintro e w3 ⟨A3, c3, rfl, hT3⟩; have hT3h := Lib.hid hT3; have k1 := (hW1.out _ (hb2.out.trans (hT3.below.mono hb2.out.size))).2.1; obtain ⟨e0, e1, e2, e3, z0, z1, z2, z3⟩ := piece_at k1; clear hT3 k1))
    refine bodyPost_ret (v := .agg #[.bool false, .slice A3 d.length c3, .slice none 0 0, .slice none 0 0]) (by simp [results, Try.results11, go_sem, World.cell?_setCell_same', e0, e1, e2, e3]) rfl ?_
    rw [hpeh.out]
    exact piece_text (by omega) (by have := hs0h.out; have := hb2.out.size; omega) (hW1.out _ hb2.out).2.2 hT3h.out _ _ _ _
  · have hpe : p = if 1 ≤ fav ∧ fav ≤ ps.length then tPc ((ps[(fav - 1).toNat]?).getD []) else if un = true then tPc (unionT (d :: d2 :: ds)) else cPc base ps := by rw [← hph.out]; unfold pieceD; rw [hds]
    have hpeh := Lib.hid hpe
    have hdsh := Lib.hid hds
    obtain rfl : kd = 2 := by have := hkdh.out; unfold kindN at this; rw [hds] at this; rw [← this]; show min (ds.length + 1 + 1) 2 = 2; omega
    obtain ⟨q1, q2, q3⟩ := unionT_small hsm (by omega)
    have hun : (unionT (diffs base ps)).length ≤ 999000000 := by
      rw [union_len]
      have h2 : ∀ l : List Txs, (∀ d ∈ l, d.length ≤ 1000000) → l.flatten.length ≤ l.length * 1000000 := by
        intro l
        induction l with
        | nil => simp
        | cons d l ih =>
          intro h
          have := ih fun e he => h e (List.mem_cons_of_mem _ he)
          have := h d (List.mem_cons_self ..)
          rw [List.flatten_cons, List.length_append, List.length_cons]
          omega
      have h3 := h2 _ q1
      have h4 := diffs_len base ps
      omega
    rw [hdsh.out] at q1 q2 q3 hun
    have hqs := Lib.hid (And.intro q1 (And.intro q2 (And.intro q3 hun)))
    have hdl : Hid ((diffs base ps).length ≤ 100) := Lib.hid (by have := diffs_len base ps; omega)
    clear hpe hds hsm q1 q2 q3 hun
    unfold inR64 at hfav
    by_cases hf : 1 ≤ fav ∧ fav ≤ ps.length
    · obtain ⟨k, hk⟩ : ∃ k : Nat, fav = (k : Int) + 1 := ⟨(fav - 1).toNat, by omega⟩
      have hkn : k < n := by omega
      have hSd : Hid (∀ W, Below w.heap.size w W → Calls Try.prog 29 #[.slice A n c, .int .i64 fav] W fun e w' => (∃ A1 n1 c1 x, e = .returned (.tuple #[.slice A1 n1 c1, .bool true]) ∧ ps[k]? = some x ∧ TxR W W.heap.size (A1, n1, c1) x) ∧ w' = W) := Lib.hid (fun W hW => by rw [hk]; exact sideOf_yes A n c k rows ps W.heap.size W (by omega) hkn (hAh.out.up hW))
      have hpe2 : Hid (∀ x, ps[k]? = some x → p = tPc x) := Lib.hid (fun x hx => by rw [hpeh.out, if_pos hf, hk, show ((k : Int) + 1 - 1).toNat = k by omega, hx]; rfl)
      clear hf hk hkn hfav
      go_wp2_with (first
        | (go_at_call 26; refine hD.out.mono ?_; rintro e w1 ⟨A1, n1, c1, rs, rfl, h3, h4, h5, h6⟩; have hb1 := Lib.hid h6; clear h3 h4 h5 h6)
        | (go_at_call 27; refine (hK.out _ (hW1.out _ hb1.out).2.2).mono ?_; rintro e w2 ⟨rfl, h6⟩; have hb2 := Lib.hid (hb1.out.trans (h6.mono hb1.out.size)); have k0 := (hW1.out _ hb2.out).1; have x0 : w2.cell? ⟨w.heap.size, 0, none⟩ = some (.int .i64 fav) := (by rw [cells_of k0]; rfl); clear h6 k0)
        | (go_at_call 29; refine (hSd.out _ (hW1.out _ hb2.out).2.2).mono ?_; rintro e w3 ⟨⟨A2, n2, c2, x, rfl, hx, hTx2⟩, rfl⟩; have hxh := Lib.hid hx; have hT := Lib.hid (hTx.out A2 n2 c2 x w3 (by have := hsmh.out.1 x (List.mem_cons_of_mem _ (List.mem_of_getElem? hx)); have := hTx2.2.2.len; dsimp only at this; omega) hTx2.2.2); clear hx hTx2)
        | (go_at_call 28; refine hT.out.mono ?_; rintro e w4 ⟨A3, c3, rfl, hT3⟩; have hT3h := Lib.hid hT3; have k1 := (hW1.out _ (hb2.out.trans (hT3.below.mono hb2.out.size))).2.1; obtain ⟨e0, e1, e2, e3, z0, z1, z2, z3⟩ := piece_at k1; clear hT3 k1))
      refine bodyPost_ret (v := .agg #[.bool false, .slice A3 x.length c3, .slice none 0 0, .slice none 0 0]) (by simp [results, Try.results11, go_sem, World.cell?_setCell_same', e0, e1, e2, e3]) rfl ?_
      rw [hpe2.out x hxh.out]
      exact piece_text (by omega) (by have := hs0h.out; have := hb2.out.size; omega) (hW1.out _ hb2.out).2.2 hT3h.out _ _ _ _
    · have hSd : Hid (∀ W, Calls Try.prog 29 #[.slice A n c, .int .i64 fav] W fun e w' => e = .returned (.tuple #[.slice none 0 0, .bool false]) ∧ w' = W) := Lib.hid (fun W => sideOf_no A n c fav W (by omega) (by rw [← hlnh.out]; exact hf))
      have hfh := Lib.hid hf
      clear hf hfav
      cases un
      · have hpe2 : Hid (p = cPc base ps) := Lib.hid (by rw [hpeh.out, if_neg hfh.out, if_neg (by simp)])
        have hCf : Hid (∀ W, Below w.heap.size w W → Calls Try.prog 31 #[.slice A0 n0 c0, .slice A n c] W fun e w' => ConfOut W w' e base ps) := Lib.hid (fun W hW => conflict_any A0 n0 c0 base A n c rows ps W (by omega) hsmh.out.1 (hA0h.out.up hW) (hAh.out.up hW))
        go_wp2_with (first
          | (go_at_call 26; refine hD.out.mono ?_; rintro e w1 ⟨A1, n1, c1, rs, rfl, h3, h4, h5, h6⟩; have hb1 := Lib.hid h6; clear h3 h4 h5 h6)
          | (go_at_call 27; refine (hK.out _ (hW1.out _ hb1.out).2.2).mono ?_; rintro e w2 ⟨rfl, h6⟩; have hb2 := Lib.hid (hb1.out.trans (h6.mono hb1.out.size)); have k0 := (hW1.out _ hb2.out).1; have x0 : w2.cell? ⟨w.heap.size, 0, none⟩ = some (.int .i64 fav) := (by rw [cells_of k0]; rfl); have x1 : w2.cell? ⟨w.heap.size, 1, none⟩ = some (.bool false) := (by rw [cells_of k0]; rfl); clear h6 k0)
          | (go_at_call 29; refine (hSd.out _).mono ?_; rintro e w3 ⟨rfl, rfl⟩)
          | (go_at_call 31; refine (hCf.out _ (hW1.out _ hb2.out).2.2).mono ?_; rintro e w4 ⟨Ab, nb, cb, As, ns, cs, rfl, hPc, hb4⟩; have hPch := Lib.hid hPc; have hb4h := Lib.hid hb4; have k1 := (hW1.out _ (hb2.out.trans (hb4.mono hb2.out.size))).2.1; obtain ⟨e0, e1, e2, e3, z0, z1, z2, z3⟩ := piece_at k1; clear hPc hb4 k1))
        refine bodyPost_ret (v := .agg #[.bool true, .slice none 0 0, .slice Ab nb cb, .slice As ns cs]) (by simp [results, Try.results11, go_sem, World.cell?_setCell_same', e0, e1, e2, e3]) rfl ?_
        rw [hpe2.out]
        exact piece_done (v := ((none, 0, 0), (Ab, nb, cb), (As, ns, cs))) (by omega) ((hW1.out _ hb2.out).2.2.trans (hb4h.out.mono (hW1.out _ hb2.out).2.2.size)) (fun w' hb' => hPch.out w' (hb'.more (by rintro k rfl; have := hs0h.out; have := hb2.out.size; omega))) _ _ _ _
      · have hpe2 : Hid (p = tPc (unionT (d :: d2 :: ds))) := Lib.hid (by rw [hpeh.out, if_neg hfh.out, if_pos rfl])
        go_wp2_with (first
          | (go_at_call 26; refine hD.out.mono ?_; rintro e w1 ⟨A1, n1, c1, rs, rfl, h3, h4, h5, h6⟩; have hb1 := Lib.hid h6; have hR1 := Lib.hid h5; clear h3 h4 h5 h6)
          | (go_at_call 27; refine (hK.out _ (hW1.out _ hb1.out).2.2).mono ?_; rintro e w2 ⟨rfl, h6⟩; have hb2 := Lib.hid (hb1.out.trans (h6.mono hb1.out.size)); have k0 := (hW1.out _ hb2.out).1; have x0 : w2.cell? ⟨w.heap.size, 0, none⟩ = some (.int .i64 fav) := (by rw [cells_of k0]; rfl); have x1 : w2.cell? ⟨w.heap.size, 1, none⟩ = some (.bool true) := (by rw [cells_of k0]; rfl); have hR2 := hR1.out.up h6; have hn1 := hR2.len; have hU := Lib.hid (union_any A1 n1 c1 rs (d :: d2 :: ds) w2 (by have := hdl.out; omega) hqs.out.1 hqs.out.2.1 hqs.out.2.2.2 (by rw [← hdsh.out]; exact hR2)); clear h6 k0 hR2 hn1)
          | (go_at_call 29; refine (hSd.out _).mono ?_; rintro e w3 ⟨rfl, rfl⟩)
          | (go_at_call 30; refine hU.out.mono ?_; rintro e w4 ⟨v4, rfl, hT4⟩; obtain ⟨A4, c4, rfl, r1, r2, r3⟩ := own_slice hT4.own; have hb4 := Lib.hid (hb2.out.trans (hT4.below.mono hb2.out.size)); have hT := Lib.hid (hTx.out A4 (unionT (d :: d2 :: ds)).length c4 (unionT (d :: d2 :: ds)) w4 hqs.out.2.2.1 r3); clear hT4 r1 r2 r3)
          | (go_at_call 28; refine hT.out.mono ?_; rintro e w5 ⟨A3, c3, rfl, hT3⟩; have hT3h := Lib.hid hT3; have k1 := (hW1.out _ (hb4.out.trans (hT3.below.mono hb4.out.size))).2.1; obtain ⟨e0, e1, e2, e3, z0, z1, z2, z3⟩ := piece_at k1; clear hT3 k1))
        refine bodyPost_ret (v := .agg #[.bool false, .slice A3 (unionT (d :: d2 :: ds)).length c3, .slice none 0 0, .slice none 0 0]) (by simp [results, Try.results11, go_sem, World.cell?_setCell_same', e0, e1, e2, e3]) rfl ?_
        rw [hpe2.out]
        exact piece_text (by omega) (by have := hs0h.out; have := hb4.out.size; omega) (hW1.out _ hb4.out).2.2 hT3h.out _ _ _ _
end Go.Proofs.Ytfennjefkfblgaa

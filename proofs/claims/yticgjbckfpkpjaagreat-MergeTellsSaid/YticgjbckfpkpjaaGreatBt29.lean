/- Proved here: texts joined: PkPiece, MgPc. -/
import Derived.Test.YticgjbckfpkpjaaGreatBt20
import Derived.Test.YticgjbckfpkpjaaGreatBt26
import Derived.Test.YticgjbckfpkpjaaGreatBt27
import Derived.Test.YticgjbckfpkpjaaGreatBt28
/- Proved here: the contract of the landed pick.Piece. -/
namespace Go.Proofs.YticgjbckfpkpjaaGreat
open Go.RowKit
set_option linter.unusedVariables false

/-- A piece of the call's own, that stands whatever becomes of what lay ahead of it. -/
def PieceOutS (w w' : World) (e : Ending) (p : Pc) : Prop :=
  ∃ v : PcV, e = .returned (.agg #[.bool p.1, .slice v.1.1 v.1.2.1 v.1.2.2, .slice v.2.1.1 v.2.1.2.1 v.2.1.2.2, .slice v.2.2.1 v.2.2.2.1 v.2.2.2.2]) ∧ (∀ w2, But (fun k => k < w.heap.size) w' w2 → PcR w2 w2.heap.size v p) ∧ Below w.heap.size w w'
theorem PieceOutS.out {w w' : World} {e : Ending} {p : Pc} (h : PieceOutS w w' e p) : PieceOut w w' e p := by
  obtain ⟨v, h1, h2, h3⟩ := h
  exact ⟨v, h1, h2 _ (But.refl _ _), h3⟩
theorem piece_doneS {w w1 : World} {L : Nat} {p : Pc} {v : PcV} (hL : w.heap.size ≤ L) (hb : Below w.heap.size w w1) (h : ∀ w', But (fun k => k = L ∨ k < w.heap.size) w1 w' → PcR w' w'.heap.size v p) (u0 u1 u2 u3 : Value) :
    PieceOutS w ((((w1.setCell ⟨L, 0, none⟩ u0).setCell ⟨L, 1, none⟩ u1).setCell ⟨L, 2, none⟩ u2).setCell ⟨L, 3, none⟩ u3) (.returned (.agg #[.bool p.1, .slice v.1.1 v.1.2.1 v.1.2.2, .slice v.2.1.1 v.2.1.2.1 v.2.1.2.2, .slice v.2.2.1 v.2.2.2.1 v.2.2.2.2])) p :=
  ⟨v, rfl, fun w2 h2 => h w2 (((But.piece w1 L u0 u1 u2 u3).more (F' := fun k => k = L ∨ k < w.heap.size) fun k e => .inl e).trans h2 fun k e => .inl (.inr e)), hb.trans ((But.piece w1 L u0 u1 u2 u3).below hb.size (by rintro k rfl; exact hL))⟩
theorem piece_text {w W w1 : World} {L : Nat} {A : Option Addr} {n c : Nat} {xs : Txs} (hL : w.heap.size ≤ L) (hLW : L < W.heap.size) (hbW : Below w.heap.size w W) (hT : TxO W w1 (.slice A n c) xs) (u0 u1 u2 u3 : Value) :
    PieceOutS w ((((w1.setCell ⟨L, 0, none⟩ u0).setCell ⟨L, 1, none⟩ u1).setCell ⟨L, 2, none⟩ u2).setCell ⟨L, 3, none⟩ u3) (.returned (.agg #[.bool false, .slice A n c, .slice none 0 0, .slice none 0 0])) (tPc xs) :=
  piece_doneS (v := ((A, n, c), (none, 0, 0), (none, 0, 0))) hL (hbW.trans (hT.below.mono hbW.size)) (fun w' hb' => PcR.text (hT.stay hb' (by have := hbW.size; rintro k (rfl | h); exact hLW; omega))) _ _ _ _

set_option maxRecDepth 100000 in
set_option maxHeartbeats 8000000 in
theorem piece_okS (A0 : Option Addr) (n0 c0 : Nat) (base : Txs) (A : Option Addr) (n c : Nat) (rows : List Slc) (ps : List Txs) (fav : Int) (un : Bool) (w : World) (hnc : n ≤ c) (hcm : c ≤ maxLen) (hn : n ≤ 100) (hfav : inR64 fav) (hsm : smallT base ps) (hA0 : TxR w w.heap.size (A0, n0, c0) base) (hA : RowsT w w.heap.size A n rows ps) :
    Calls Tryz.prog 100 #[.slice A0 n0 c0, .slice A n c, .agg #[.int .i64 fav, .bool un]] w fun e w' => PieceOutS w w' e (pieceD base ps fav un) := by
  obtain ⟨W0, hW0⟩ : ∃ W0, W0 = ((w.alloc (.cells #[.int .i64 fav, .bool un] 34)).alloc (.cells #[.bool false, .slice none 0 0, .slice none 0 0, .slice none 0 0] 60)) := ⟨_, rfl⟩
  have hb0 : Below w.heap.size w W0 := by rw [hW0]; exact ((Below.refl _ w).alloc (Nat.le_refl _) _).alloc (by simp) _
  have hs0 : W0.heap.size = w.heap.size + 2 := by rw [hW0]; simp
  have hD := Lib.hid (dif_any A0 n0 c0 base A n c rows ps W0 (by omega) (hA0.up hb0) (hA.up hb0))
  have hK : Hid (∀ W, Below w.heap.size w W → Calls Tryz.prog 114 #[.slice A0 n0 c0, .slice A n c] W fun e w' => e = .returned (.int .i64 (kindN base ps)) ∧ Below W.heap.size W w') := Lib.hid (fun W hW => kind_any A0 n0 c0 base A n c rows ps W (by omega) (hA0.up hW) (hA.up hW))
  have hb0h := Lib.hid hb0
  have hs0h := Lib.hid hs0
  have hW0h := Lib.hid hW0
  have hA0h := Lib.hid hA0
  have hAh := Lib.hid hA
  have hsmh := Lib.hid hsm
  have hln := hA.len
  have hlnh := Lib.hid hln
  obtain ⟨p, hp⟩ : ∃ p, pieceD base ps fav un = p := ⟨_, rfl⟩
  have hph := Lib.hid hp
  rw [hp]
  obtain ⟨kd, hkd⟩ : ∃ kd, kindN base ps = kd := ⟨_, rfl⟩
  rw [hkd] at hK
  have hkdh := Lib.hid hkd
  clear hb0 hA0 hA hp hkd
  have hW1 : Hid (∀ w1 : World, Below W0.heap.size W0 w1 → w1.heap[w.heap.size]? = some (.cells #[.int .i64 fav, .bool un] 34 (0, 0)) ∧ w1.heap[w.heap.size + 1]? = some (.cells #[.bool false, .slice none 0 0, .slice none 0 0, .slice none 0 0] 60 (0, 0)) ∧ Below w.heap.size w w1) := Lib.hid (fun w1 hb => by
    have hs : W0.heap.size = w.heap.size + 2 := hs0h.out
    have h2 := two_a w (.cells #[.int .i64 fav, .bool un] 34) (.cells #[.bool false, .slice none 0 0, .slice none 0 0, .slice none 0 0] 60)
    rw [← hW0h.out] at h2
    exact ⟨(hb.block _ (by omega)).trans h2.1, (hb.block _ (by omega)).trans h2.2, hb0h.out.trans (hb.mono hb0h.out.size)⟩)
  have hTx : Hid (∀ (A2 : Option Addr) (n2 c2 : Nat) (xs : Txs) (W : World), n2 ≤ 1000000000 → Strs W W.heap.size A2 n2 xs → Calls Tryz.prog 83 #[.slice A2 n2 c2] W fun e w' => TextOut W w' e xs) := Lib.hid (fun A2 n2 c2 xs W h1 h2 => text_any A2 n2 c2 W.heap.size xs W h1 (Nat.le_refl _) h2)
  clear hW0 hs0
  go_enter Tryz.func100, Tryz.ntmps100
  go_upto_region 1 with fail
  rw [← hW0h.out]
  rcases hds : diffs base ps with _ | ⟨d, _ | ⟨d2, ds⟩⟩
  · have hpe : p = tPc base := by rw [← hph.out]; unfold pieceD; rw [hds]
    have hpeh := Lib.hid hpe
    have hdsh := Lib.hid hds
    obtain rfl : kd = 0 := by have := hkdh.out; unfold kindN at this; rw [hds] at this; exact this.symm
    have hbl : n0 ≤ 1000000000 := by have h1 := hsm.1 base (List.mem_cons_self ..); have h2 := hA0h.out.2.2.len; dsimp only at h2; omega
    have hblh := Lib.hid hbl
    clear hpe hds hbl hsm
    go_wp2_with (first
      | (go_at_call 113; refine hD.out.mono ?_; rintro e w1 ⟨A1, n1, c1, rs, rfl, h3, h4, h5, h6⟩; have hb1 := Lib.hid h6; clear h3 h4 h5 h6)
      | (go_at_call 114; refine (hK.out _ (hW1.out _ hb1.out).2.2).mono ?_; rintro e w2 ⟨rfl, h6⟩; have hb2 := Lib.hid (hb1.out.trans (h6.mono hb1.out.size)); have hT := Lib.hid (hTx.out A0 n0 c0 base w2 hblh.out (hA0h.out.up (hW1.out _ hb2.out).2.2).2.2); clear h6)
      | (go_at_call 83; refine hT.out.mono ?_; rintro e w3 ⟨A3, c3, rfl, hT3⟩; have hT3h := Lib.hid hT3; have k1 := (hW1.out _ (hb2.out.trans (hT3.below.mono hb2.out.size))).2.1; obtain ⟨e0, e1, e2, e3, z0, z1, z2, z3⟩ := piece_at k1; clear hT3 k1))
    refine bodyPost_ret (v := .agg #[.bool false, .slice A3 base.length c3, .slice none 0 0, .slice none 0 0]) (by simp [results, Tryz.results100, go_sem, World.cell?_setCell_same', e0, e1, e2, e3]) rfl ?_
    rw [hpeh.out]
    exact piece_text (by omega) (by have := hs0h.out; have := hb2.out.size; omega) (hW1.out _ hb2.out).2.2 hT3h.out _ _ _ _
  · have hpe : p = tPc d := by rw [← hph.out]; unfold pieceD; rw [hds]
    have hpeh := Lib.hid hpe
    have hdsh := Lib.hid hds
    obtain rfl : kd = 1 := by have := hkdh.out; unfold kindN at this; rw [hds] at this; exact this.symm
    have hdm := Lib.hid (show d ∈ base :: ps from List.mem_cons_of_mem _ (mem_diffs.1 (show d ∈ diffs base ps by rw [hds]; exact List.mem_singleton.2 rfl)).1)
    clear hpe hds hsm
    go_wp2_with (first
      | (go_at_call 113; refine hD.out.mono ?_; rintro e w1 ⟨A1, n1, c1, rs, rfl, h3, h4, h5, h6⟩; have hn1 := h5.len; rw [hdsh.out] at hn1; have hn1' : 1 = n1 := hn1; subst hn1'; have hb1 := Lib.hid h6; have hR1 := Lib.hid h5; clear h3 h4 h5 h6 hn1)
      | (go_at_call 114; refine (hK.out _ (hW1.out _ hb1.out).2.2).mono ?_; rintro e w2 ⟨rfl, h6⟩; have hb2 := Lib.hid (hb1.out.trans (h6.mono hb1.out.size)); obtain ⟨b1, o1, A2, n2, c2, dd, rfl, hbb1, hdd, -, hcd, hn2, hc2, hS2⟩ := (hR1.out.up h6).at_ (k := 0) (by omega); rw [hdsh.out] at hdd; have hdd' : d = dd := (by simpa using hdd); subst hdd'; have hcd' : w2.cell? ⟨b1, o1, none⟩ = some (.slice A2 n2 c2) := hcd; have hT := Lib.hid (hTx.out A2 n2 c2 d w2 (by have := hsmh.out.1 d hdm.out; have := hS2.len; omega) hS2); clear h6 hdd hcd hS2)
      | (go_at_call 83; refine hT.out.mono ?_; rintro e w3 ⟨A3, c3, rfl, hT3⟩; have hT3h := Lib.hid hT3; have k1 := (hW1.out _ (hb2.out.trans (hT3.below.mono hb2.out.size))).2.1; obtain ⟨e0, e1, e2, e3, z0, z1, z2, z3⟩ := piece_at k1; clear hT3 k1))
    refine bodyPost_ret (v := .agg #[.bool false, .slice A3 d.length c3, .slice none 0 0, .slice none 0 0]) (by simp [results, Tryz.results100, go_sem, World.cell?_setCell_same', e0, e1, e2, e3]) rfl ?_
    rw [hpeh.out]
    exact piece_text (by omega) (by have := hs0h.out; have := hb2.out.size; omega) (hW1.out _ hb2.out).2.2 hT3h.out _ _ _ _
  · have hpe : p = if 1 ≤ fav ∧ fav ≤ ps.length then tPc ((ps[(fav - 1).toNat]?).getD []) else if un = true then tPc (unionT (d :: d2 :: ds)) else cPc base ps := by rw [← hph.out]; unfold pieceD; rw [hds]
    have hpeh := Lib.hid hpe
    have hdsh := Lib.hid hds
    obtain rfl : kd = 2 := by have := hkdh.out; unfold kindN at this; rw [hds] at this; rw [← this]; show min (ds.length + 1 + 1) 2 = 2; omega
    obtain ⟨q1, q2, q3⟩ := unionT_small hsm (by omega)
    have hun : (unionT (diffs base ps)).length ≤ 999000000 := by
      rw [union_len]
      have h2 : ∀ l : List Txs, (∀ d ∈ l, d.length ≤ 1000000) → l.flatten.length ≤ l.length * 1000000 := by
        intro l
        induction l with
        | nil => simp
        | cons d l ih =>
          intro h
          have := ih fun e he => h e (List.mem_cons_of_mem _ he)
          have := h d (List.mem_cons_self ..)
          rw [List.flatten_cons, List.length_append, List.length_cons]
          omega
      have h3 := h2 _ q1
      have h4 := diffs_len base ps
      omega
    rw [hdsh.out] at q1 q2 q3 hun
    have hqs := Lib.hid (And.intro q1 (And.intro q2 (And.intro q3 hun)))
    have hdl : Hid ((diffs base ps).length ≤ 100) := Lib.hid (by have := diffs_len base ps; omega)
    clear hpe hds hsm q1 q2 q3 hun
    unfold inR64 at hfav
    by_cases hf : 1 ≤ fav ∧ fav ≤ ps.length
    · obtain ⟨k, hk⟩ : ∃ k : Nat, fav = (k : Int) + 1 := ⟨(fav - 1).toNat, by omega⟩
      have hkn : k < n := by omega
      have hSd : Hid (∀ W, Below w.heap.size w W → Calls Tryz.prog 47 #[.slice A n c, .int .i64 fav] W fun e w' => (∃ A1 n1 c1 x, e = .returned (.tuple #[.slice A1 n1 c1, .bool true]) ∧ ps[k]? = some x ∧ TxR W W.heap.size (A1, n1, c1) x) ∧ w' = W) := Lib.hid (fun W hW => by rw [hk]; exact sideOf_yes A n c k rows ps W.heap.size W (by omega) hkn (hAh.out.up hW))
      have hpe2 : Hid (∀ x, ps[k]? = some x → p = tPc x) := Lib.hid (fun x hx => by rw [hpeh.out, if_pos hf, hk, show ((k : Int) + 1 - 1).toNat = k by omega, hx]; rfl)
      clear hf hk hkn hfav
      go_wp2_with (first
        | (go_at_call 113; refine hD.out.mono ?_; rintro e w1 ⟨A1, n1, c1, rs, rfl, h3, h4, h5, h6⟩; have hb1 := Lib.hid h6; clear h3 h4 h5 h6)
        | (go_at_call 114; refine (hK.out _ (hW1.out _ hb1.out).2.2).mono ?_; rintro e w2 ⟨rfl, h6⟩; have hb2 := Lib.hid (hb1.out.trans (h6.mono hb1.out.size)); have k0 := (hW1.out _ hb2.out).1; have x0 : w2.cell? ⟨w.heap.size, 0, none⟩ = some (.int .i64 fav) := (by rw [cells_of k0]; rfl); clear h6 k0)
        | (go_at_call 47; refine (hSd.out _ (hW1.out _ hb2.out).2.2).mono ?_; rintro e w3 ⟨⟨A2, n2, c2, x, rfl, hx, hTx2⟩, rfl⟩; have hxh := Lib.hid hx; have hT := Lib.hid (hTx.out A2 n2 c2 x w3 (by have := hsmh.out.1 x (List.mem_cons_of_mem _ (List.mem_of_getElem? hx)); have := hTx2.2.2.len; dsimp only at this; omega) hTx2.2.2); clear hx hTx2)
        | (go_at_call 83; refine hT.out.mono ?_; rintro e w4 ⟨A3, c3, rfl, hT3⟩; have hT3h := Lib.hid hT3; have k1 := (hW1.out _ (hb2.out.trans (hT3.below.mono hb2.out.size))).2.1; obtain ⟨e0, e1, e2, e3, z0, z1, z2, z3⟩ := piece_at k1; clear hT3 k1))
      refine bodyPost_ret (v := .agg #[.bool false, .slice A3 x.length c3, .slice none 0 0, .slice none 0 0]) (by simp [results, Tryz.results100, go_sem, World.cell?_setCell_same', e0, e1, e2, e3]) rfl ?_
      rw [hpe2.out x hxh.out]
      exact piece_text (by omega) (by have := hs0h.out; have := hb2.out.size; omega) (hW1.out _ hb2.out).2.2 hT3h.out _ _ _ _
    · have hSd : Hid (∀ W, Calls Tryz.prog 47 #[.slice A n c, .int .i64 fav] W fun e w' => e = .returned (.tuple #[.slice none 0 0, .bool false]) ∧ w' = W) := Lib.hid (fun W => sideOf_no A n c fav W (by omega) (by rw [← hlnh.out]; exact hf))
      have hfh := Lib.hid hf
      clear hf hfav
      cases un
      · have hpe2 : Hid (p = cPc base ps) := Lib.hid (by rw [hpeh.out, if_neg hfh.out, if_neg (by simp)])
        have hCf : Hid (∀ W, Below w.heap.size w W → Calls Tryz.prog 84 #[.slice A0 n0 c0, .slice A n c] W fun e w' => ConfOut W w' e base ps) := Lib.hid (fun W hW => conflict_any A0 n0 c0 base A n c rows ps W (by omega) hsmh.out.1 (hA0h.out.up hW) (hAh.out.up hW))
        go_wp2_with (first
          | (go_at_call 113; refine hD.out.mono ?_; rintro e w1 ⟨A1, n1, c1, rs, rfl, h3, h4, h5, h6⟩; have hb1 := Lib.hid h6; clear h3 h4 h5 h6)
          | (go_at_call 114; refine (hK.out _ (hW1.out _ hb1.out).2.2).mono ?_; rintro e w2 ⟨rfl, h6⟩; have hb2 := Lib.hid (hb1.out.trans (h6.mono hb1.out.size)); have k0 := (hW1.out _ hb2.out).1; have x0 : w2.cell? ⟨w.heap.size, 0, none⟩ = some (.int .i64 fav) := (by rw [cells_of k0]; rfl); have x1 : w2.cell? ⟨w.heap.size, 1, none⟩ = some (.bool false) := (by rw [cells_of k0]; rfl); clear h6 k0)
          | (go_at_call 47; refine (hSd.out _).mono ?_; rintro e w3 ⟨rfl, rfl⟩)
          | (go_at_call 84; refine (hCf.out _ (hW1.out _ hb2.out).2.2).mono ?_; rintro e w4 ⟨Ab, nb, cb, As, ns, cs, rfl, hPc, hb4⟩; have hPch := Lib.hid hPc; have hb4h := Lib.hid hb4; have k1 := (hW1.out _ (hb2.out.trans (hb4.mono hb2.out.size))).2.1; obtain ⟨e0, e1, e2, e3, z0, z1, z2, z3⟩ := piece_at k1; clear hPc hb4 k1))
        refine bodyPost_ret (v := .agg #[.bool true, .slice none 0 0, .slice Ab nb cb, .slice As ns cs]) (by simp [results, Tryz.results100, go_sem, World.cell?_setCell_same', e0, e1, e2, e3]) rfl ?_
        rw [hpe2.out]
        exact piece_doneS (v := ((none, 0, 0), (Ab, nb, cb), (As, ns, cs))) (by omega) ((hW1.out _ hb2.out).2.2.trans (hb4h.out.mono (hW1.out _ hb2.out).2.2.size)) (fun w' hb' => hPch.out w' (hb'.more (by have := hs0h.out; have := hb2.out.size; rintro k (rfl | h); omega; omega))) _ _ _ _
      · have hpe2 : Hid (p = tPc (unionT (d :: d2 :: ds))) := Lib.hid (by rw [hpeh.out, if_neg hfh.out, if_pos rfl])
        go_wp2_with (first
          | (go_at_call 113; refine hD.out.mono ?_; rintro e w1 ⟨A1, n1, c1, rs, rfl, h3, h4, h5, h6⟩; have hb1 := Lib.hid h6; have hR1 := Lib.hid h5; clear h3 h4 h5 h6)
          | (go_at_call 114; refine (hK.out _ (hW1.out _ hb1.out).2.2).mono ?_; rintro e w2 ⟨rfl, h6⟩; have hb2 := Lib.hid (hb1.out.trans (h6.mono hb1.out.size)); have k0 := (hW1.out _ hb2.out).1; have x0 : w2.cell? ⟨w.heap.size, 0, none⟩ = some (.int .i64 fav) := (by rw [cells_of k0]; rfl); have x1 : w2.cell? ⟨w.heap.size, 1, none⟩ = some (.bool true) := (by rw [cells_of k0]; rfl); have hR2 := hR1.out.up h6; have hn1 := hR2.len; have hU := Lib.hid (union_any A1 n1 c1 rs (d :: d2 :: ds) w2 (by have := hdl.out; omega) hqs.out.1 hqs.out.2.1 hqs.out.2.2.2 (by rw [← hdsh.out]; exact hR2)); clear h6 k0 hR2 hn1)
          | (go_at_call 47; refine (hSd.out _).mono ?_; rintro e w3 ⟨rfl, rfl⟩)
          | (go_at_call 115; refine hU.out.mono ?_; rintro e w4 ⟨v4, rfl, hT4⟩; obtain ⟨A4, c4, rfl, r1, r2, r3⟩ := own_slice hT4.own; have hb4 := Lib.hid (hb2.out.trans (hT4.below.mono hb2.out.size)); have hT := Lib.hid (hTx.out A4 (unionT (d :: d2 :: ds)).length c4 (unionT (d :: d2 :: ds)) w4 hqs.out.2.2.1 r3); clear hT4 r1 r2 r3)
          | (go_at_call 83; refine hT.out.mono ?_; rintro e w5 ⟨A3, c3, rfl, hT3⟩; have hT3h := Lib.hid hT3; have k1 := (hW1.out _ (hb4.out.trans (hT3.below.mono hb4.out.size))).2.1; obtain ⟨e0, e1, e2, e3, z0, z1, z2, z3⟩ := piece_at k1; clear hT3 k1))
        refine bodyPost_ret (v := .agg #[.bool false, .slice A3 (unionT (d :: d2 :: ds)).length c3, .slice none 0 0, .slice none 0 0]) (by simp [results, Tryz.results100, go_sem, World.cell?_setCell_same', e0, e1, e2, e3]) rfl ?_
        rw [hpe2.out]
        exact piece_text (by omega) (by have := hs0h.out; have := hb4.out.size; omega) (hW1.out _ hb4.out).2.2 hT3h.out _ _ _ _

theorem piece_ok : PickPieceOk := fun A0 n0 c0 base A n c rows ps fav un w hnc hcm hn hfav hsm hA0 hA => (piece_okS A0 n0 c0 base A n c rows ps fav un w hnc hcm hn hfav hsm hA0 hA).mono fun e w' h => h.out
end Go.Proofs.YticgjbckfpkpjaaGreat
/- Proved here: the contract of the landed merge.piece: what becomes of a chunk, with where it lies. -/
namespace Go.Proofs.YticgjbckfpkpjaaGreat
open Go.RowKit
set_option linter.unusedVariables false
set_option maxRecDepth 100000

/-- A piece's value. -/
def pcA (cf : Bool) (v : PcV) : Value := .agg #[.bool cf, .slice v.1.1 v.1.2.1 v.1.2.2, .slice v.2.1.1 v.2.1.2.1 v.2.1.2.2, .slice v.2.2.1 v.2.2.2.1 v.2.2.2.2]
/-- A piece that a call tells, that stands whatever becomes of blocks from lo up to those that the call made. -/
def PieceK (lo : Nat) (w w' : World) (e : Ending) (p : Pc) : Prop :=
  ∃ v : PcV, e = .returned (pcA p.1 v) ∧ (∀ w2, But (fun k => lo ≤ k ∧ k < w.heap.size) w' w2 → PcR w2 w2.heap.size v p) ∧ Below w.heap.size w w'

theorem threeP (w : World) (o1 o2 o3 : Obj) : (((w.alloc o1).alloc o2).alloc o3).heap.size = w.heap.size + 3 ∧ (((w.alloc o1).alloc o2).alloc o3).heap[w.heap.size]? = some o1 ∧ (((w.alloc o1).alloc o2).alloc o3).heap[w.heap.size + 1]? = some o2 ∧ (((w.alloc o1).alloc o2).alloc o3).heap[w.heap.size + 2]? = some o3 ∧ Below w.heap.size w (((w.alloc o1).alloc o2).alloc o3) := by
  have n1 := Go.Deep.blk_alloc_new w o1
  have n2 := Go.Deep.blk_alloc_new (w.alloc o1) o2
  have n3 := Go.Deep.blk_alloc_new ((w.alloc o1).alloc o2) o3
  simp only [push_size] at n2 n3
  have b2 := Below.heap_alloc (w.alloc o1) o2
  have b3 := Below.heap_alloc ((w.alloc o1).alloc o2) o3
  simp only [push_size] at b2 b3
  refine ⟨by simp, ?_, ?_, n3, ?_⟩
  · exact (b3 _ (by omega)).trans ((b2 _ (by omega)).trans n1)
  · exact (b3 _ (by omega)).trans n2
  · exact (((Below.refl _ w).alloc (Nat.le_refl _) o1).alloc (by simp) o2).alloc (by simp; omega) o3

theorem pieceK_text {lo L : Nat} {w w1 : World} {A : Option Addr} {n c : Nat} {xs : Txs} (hlo : lo ≤ w.heap.size) (hL : w.heap.size ≤ L) (hb : Below w.heap.size w w1) (hT : TxR w1 lo (A, n, c) xs) (u0 u1 u2 u3 : Value) :
    PieceK lo w ((((w1.setCell ⟨L, 0, none⟩ u0).setCell ⟨L, 1, none⟩ u1).setCell ⟨L, 2, none⟩ u2).setCell ⟨L, 3, none⟩ u3) (.returned (.agg #[.bool false, .slice A n c, .slice none 0 0, .slice none 0 0])) (tPc xs) := by
  have hbp := But.piece w1 L u0 u1 u2 u3
  refine ⟨((A, n, c), (none, 0, 0), (none, 0, 0)), rfl, fun w2 h2 => ?_, hb.trans (hbp.below hb.size (by rintro k rfl; exact hL))⟩
  have h3 : But (fun k => lo ≤ k) w1 w2 := (hbp.more (F' := fun k => lo ≤ k) (by rintro k rfl; omega)).trans h2 fun k e => .inl e.1
  have hs := hb.size
  have hs2 := h3.size
  exact PcR.text ((hT.keep fun p hp => World.cell?_of_block (h3.block p.block (by omega) (by omega))).more (by omega))
theorem pieceK_made {lo L : Nat} {w w1 w3 : World} {p : Pc} {v : PcV} (hlo : lo ≤ w.heap.size) (hL : w.heap.size ≤ L) (hL1 : L < w1.heap.size) (hb : Below w.heap.size w w1) (hb3 : Below w1.heap.size w1 w3) (h : ∀ w2, But (fun k => k < w1.heap.size) w3 w2 → PcR w2 w2.heap.size v p) (u0 u1 u2 u3 : Value) :
    PieceK lo w ((((w3.setCell ⟨L, 0, none⟩ u0).setCell ⟨L, 1, none⟩ u1).setCell ⟨L, 2, none⟩ u2).setCell ⟨L, 3, none⟩ u3) (.returned (pcA p.1 v)) p := by
  have hbp := But.piece w3 L u0 u1 u2 u3
  have hs := hb.size
  have hs3 := hb3.size
  refine ⟨v, rfl, fun w2 h2 => h w2 ?_, (hb.trans (hb3.mono hs)).trans (hbp.below (by omega) (by rintro k rfl; exact hL))⟩
  exact (hbp.more (F' := fun k => k < w1.heap.size) (by rintro k rfl; exact hL1)).trans h2 fun k e => .inl (by have := e.2; omega)

set_option maxHeartbeats 4000000 in
theorem pieceM_any (lo : Nat) (st : Bool) (f t : Int) (spans : List Sp) (A1 : Option Addr) (n1 c1 : Nat) (A0 : Option Addr) (n0 c0 : Nat) (base : Txs) (A : Option Addr) (n c : Nat) (rows : List Slc) (sides : List Txs) (fav : Int) (un : Bool) (w : World)
    (hn : n ≤ 100) (hfav : inR64 fav) (hn1 : n1 ≤ maxLen) (hsm : smallM base sides) (hlo : lo ≤ w.heap.size) (hA1 : Spans w w.heap.size A1 n1 spans) (hA0 : TxR w lo (A0, n0, c0) base) (hA : RowsT w w.heap.size A n rows sides)
    (hp : partErr (st, (f, t), spans) base sides = 0 ∧ partBase (st, (f, t), spans) base sides = cutB (st, (f, t), spans) base ∧ partSides (st, (f, t), spans) base sides = cutsP (st, (f, t), spans) sides) :
    Calls Tryz.prog 79 #[.agg #[.bool st, .int .i64 f, .int .i64 t, .slice A1 n1 c1], .slice A0 n0 c0, .slice A n c, .agg #[.int .i64 fav, .bool un]] w fun e w' => PieceK lo w w' e (pcOf base sides fav un (st, (f, t), spans)) := by
  obtain ⟨W0, hW0⟩ : ∃ W0, W0 = (((w.alloc (.cells #[.bool st, .int .i64 f, .int .i64 t, .slice A1 n1 c1] 48)).alloc (.cells #[.int .i64 fav, .bool un] 34)).alloc (.cells #[.bool false, .slice none 0 0, .slice none 0 0, .slice none 0 0] 60)) := ⟨_, rfl⟩
  have h3 := threeP w (.cells #[.bool st, .int .i64 f, .int .i64 t, .slice A1 n1 c1] 48) (.cells #[.int .i64 fav, .bool un] 34) (.cells #[.bool false, .slice none 0 0, .slice none 0 0, .slice none 0 0] 60)
  rw [← hW0] at h3
  obtain ⟨hs0, k0, k1, k2, hb0⟩ := h3
  have hPt := parts_anyB lo st f t spans A1 n1 c1 A0 n0 c0 base A n c rows sides W0 (by omega) hn1 ((hA1.keep fun p hp => hb0.cell hp).more hb0.size) (Nat.le_trans hlo hb0.size) (hA0.below (hb0.mono hlo)) (hA.up hb0)
  rw [hp.1, hp.2.1, hp.2.2] at hPt
  have hPth := Lib.hid hPt
  have d0 : W0.cell? ⟨w.heap.size, 0, none⟩ = some (.bool st) := by rw [cells_of k0]; rfl
  have d1 : W0.cell? ⟨w.heap.size, 1, none⟩ = some (.int .i64 f) := by rw [cells_of k0]; rfl
  have d2 : W0.cell? ⟨w.heap.size, 2, none⟩ = some (.int .i64 t) := by rw [cells_of k0]; rfl
  have d3 : W0.cell? ⟨w.heap.size, 3, none⟩ = some (.slice A1 n1 c1) := by rw [cells_of k0]; rfl
  have hcells : Hid (∀ w1, Below W0.heap.size W0 w1 → w1.cell? ⟨w.heap.size, 0, none⟩ = some (.bool st) ∧ w1.cell? ⟨w.heap.size + 1, 0, none⟩ = some (.int .i64 fav) ∧ w1.cell? ⟨w.heap.size + 1, 1, none⟩ = some (.bool un) ∧ w1.heap[w.heap.size + 2]? = some (.cells #[.bool false, .slice none 0 0, .slice none 0 0, .slice none 0 0] 60 (0, 0)) ∧ Below w.heap.size w w1 ∧ w.heap.size + 3 ≤ w1.heap.size) := Lib.hid fun w1 hb => by
    have e0 := (hb.block w.heap.size (by omega)).trans k0
    have e1 := (hb.block (w.heap.size + 1) (by omega)).trans k1
    have e2 := (hb.block (w.heap.size + 2) (by omega)).trans k2
    exact ⟨by rw [cells_of e0]; rfl, by rw [cells_of e1]; rfl, by rw [cells_of e1]; rfl, e2, hb0.trans (hb.mono hb0.size), by have := hb.size; omega⟩
  have hloh := Lib.hid hlo
  have hW0h := Lib.hid hW0
  have hn2 := Lib.hid (show (cutsP (st, (f, t), spans) sides).length ≤ 100 from by have := cutsP_le (st, (f, t), spans) sides; have := hA.len; omega)
  have hT := Lib.hid (parts_T hsm (st, (f, t), spans))
  obtain ⟨B, hB⟩ : ∃ B, cutB (st, (f, t), spans) base = B := ⟨_, rfl⟩
  obtain ⟨S, hS⟩ : ∃ S, cutsP (st, (f, t), spans) sides = S := ⟨_, rfl⟩
  have hpc : Hid (pcOf base sides fav un (st, (f, t), spans) = if st = true then tPc B else pieceD B S fav un) := Lib.hid (by unfold pcOf; rw [hB, hS])
  rw [hB, hS] at hPth hT
  rw [hS] at hn2
  rw [hpc.out]
  clear hB hS hA hA0 hA1 hp hPt hW0 k0 k1 k2 hs0 hb0 hsm hlo
  go_enter Tryz.func79, Tryz.ntmps79
  go_upto_region 1 with fail
  rw [← hW0h.out]
  cases st
  · go_wp2_with (first
      | (go_at_call 99; refine hPth.out.mono ?_; rintro e w1 ⟨A2, n2, c2, A3, n3, c3, rows3, rfl, hTb, q1, q2, hR3, hb1⟩; obtain ⟨e0, e1, e2, e3, hbw, hsz⟩ := hcells.out w1 hb1; have hlen3 := hR3.len; have hQ := Lib.hid (piece_okS A2 n2 c2 B A3 n3 c3 rows3 S fav un w1 q1 q2 (by have := hn2.out; omega) hfav hT.out (hTb.more (by have := hloh.out; omega)) hR3); have hb1h := Lib.hid hb1; clear hTb hR3 e3 hbw hsz hlen3 hb1)
      | (go_at_call 100; refine hQ.out.mono ?_; rintro e w3 ⟨v, rfl, hst, hb3⟩; have hfin := Lib.hid (And.intro hst hb3); obtain ⟨-, -, -, k2, -, hsz⟩ := hcells.out w3 (hb1h.out.trans (hb3.mono hb1h.out.size)); obtain ⟨z0, z1, z2, z3, f0, f1, f2, f3⟩ := piece_at k2; clear hst hb3 k2))
    refine bodyPost_ret (v := pcA (pieceD B S fav un).1 v) (by simp [pcA, results, Tryz.results79, go_sem, World.cell?_setCell_same', z0, z1, z2, z3]) rfl ?_
    try rw [if_neg (by simp)]
    obtain ⟨-, -, -, -, hbw, hsz1⟩ := hcells.out w1 hb1h.out
    exact pieceK_made hloh.out (by omega) (by omega) hbw hfin.out.2 hfin.out.1 _ _ _ _
  · go_wp2_with (go_at_call 99; refine hPth.out.mono ?_; rintro e w1 ⟨A2, n2, c2, A3, n3, c3, rows3, rfl, hTb, q1, q2, hR3, hb1⟩; obtain ⟨e0, e1, e2, k2, hbw, hsz⟩ := hcells.out w1 hb1; obtain ⟨z0, z1, z2, z3, f0, f1, f2, f3⟩ := piece_at k2; have hTbh := Lib.hid hTb; have hbwh := Lib.hid hbw; clear hTb hR3 hbw k2 hb1)
    refine bodyPost_ret (v := .agg #[.bool false, .slice A2 n2 c2, .slice none 0 0, .slice none 0 0]) (by simp [results, Tryz.results79, go_sem, World.cell?_setCell_same', z0, z1, z2, z3]) rfl ?_
    try rw [if_pos rfl]
    exact pieceK_text hloh.out (by omega) hbwh.out hTbh.out _ _ _ _
end Go.Proofs.YticgjbckfpkpjaaGreat

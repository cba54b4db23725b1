/- Proved here, out of the contracts of package pick: the walk of PickTells. -/
import Derived.Test.YtfennjefkfblgaaPickLawC
namespace Go.Proofs.Ytfennjefkfblgaa
open Go.RowKit
set_option linter.unusedVariables false

section
variable (H : PickOk)
include H

set_option maxRecDepth 100000 in
set_option maxHeartbeats 8000000 in
theorem PickTells_walk (A0 : Option Addr) (n0 c0 : Nat) (base : Txs) (A : Option Addr) (n c : Nat) (rows : List Slc) (parts : List Txs) (fav : Int) (un : Bool) (w : World) (h0 : TxR w w.heap.size (A0, n0, c0) base) (h1 : ArgTs w A n c rows parts) (hfav : inR64 fav) :
    Calls Try.prog 3 #[.slice A0 n0 c0, .slice A n c, .agg #[.int .i64 fav, .bool un]] w fun e w' => e = .returned (.bool true) ∧ Below w.heap.size w w' := by
  have hn0 : n0 ≤ maxLen := Nat.le_trans h0.1 h0.2.1
  have hn : n ≤ maxLen := Nat.le_trans h1.1 h1.2.1
  have hpl := h1.2.2.len
  have haw := Lib.hid (awake_any H (w.alloc (.cells #[.int .i64 fav, .bool un] 25)))
  have hbw : Hid (Below w.heap.size w (w.alloc (.cells #[.int .i64 fav, .bool un] 25))) := Lib.hid ((Below.refl _ w).alloc (Nat.le_refl _) _)
  obtain ⟨fb, hfb⟩ : ∃ fb, fewT base parts = fb := ⟨_, rfl⟩
  have hF := Lib.hid (fun (W : World) (hb : Below w.heap.size w W) => rFew_any A0 n0 c0 w.heap.size base A n c w.heap.size rows parts W hn0 hn (Strs.below h0.2.2 hb) (h1.2.2.below hb))
  rw [hfb] at hF
  cases fb
  · clear h0 h1 hfb
    go_enter Try.func3, Try.ntmps3
    go_wp2_with (first
      | (go_at_call 9; refine haw.out.mono ?_; rintro e w1 ⟨rfl, hb1⟩; have hB1 := hbw.out.trans (hb1.mono hbw.out.size))
      | (go_at_call 10; refine (hF.out _ hB1).mono ?_; rintro e w2 ⟨rfl, rfl⟩))
    go_ret
    exact ⟨rfl, hB1⟩
  · obtain ⟨f1, f2, f3⟩ := fewT_parts hfb
    have hsm := small_few hfb
    have hPc := Lib.hid (fun (W : World) (hb : Below w.heap.size w W) => H.piece_ok A0 n0 c0 base A n c rows parts fav un W h1.1 h1.2.1 (by omega) hfav hsm (h0.up hb) (h1.2.2.up hb))
    have hrP := Lib.hid (fun (W : World) (hb : Below w.heap.size w W) => rPiece_any A0 n0 c0 base A n c rows parts fav un W h1.1 h1.2.1 (by omega) hfav hsm (h0.up hb) (h1.2.2.up hb))
    obtain ⟨p, hp⟩ : ∃ p, pieceD base parts fav un = p := ⟨_, rfl⟩
    rw [hp] at hPc hrP
    have hHow : Hid (∀ W : World, Below (w.heap.size + 1) (w.alloc (.cells #[.int .i64 fav, .bool un] 25)) W → W.cell? ⟨w.heap.size, 0, none⟩ = some (.int .i64 fav) ∧ W.cell? ⟨w.heap.size, 1, none⟩ = some (.bool un)) := Lib.hid (fun W hW => by
      have h := (hW.block w.heap.size (by omega)).trans (Go.Deep.blk_alloc_new w (.cells #[.int .i64 fav, .bool un] 25))
      exact ⟨by rw [cells_of h]; rfl, by rw [cells_of h]; rfl⟩)
    clear h0 h1 hfb f1 f2 f3 hsm hp
    obtain ⟨pf, pr⟩ := p
    go_enter Try.func3, Try.ntmps3
    go_upto_region 6 with (first
      | (go_at_call 9; refine haw.out.mono ?_; rintro e w1 ⟨rfl, hb1⟩; have hB1 := hbw.out.trans (hb1.mono hbw.out.size); have hH1 : Below (w.heap.size + 1) (w.alloc (.cells #[.int .i64 fav, .bool un] 25)) w1 := (by have := hb1; rwa [push_size] at this); obtain ⟨q0, q1⟩ := hHow.out _ hH1)
      | (go_at_call 10; refine (hF.out _ hB1).mono ?_; rintro e w2 ⟨rfl, rfl⟩)
      | (go_at_call 11; refine (hPc.out _ hB1).mono ?_; rintro e w3 ⟨⟨⟨At, nt, ct⟩, ⟨Ab, nb, cb⟩, ⟨As, ns, cs⟩⟩, rfl, hV, hb3⟩; have hB3 := hB1.trans (hb3.mono hB1.size); have hH3 := hH1.trans (hb3.mono (by have := hH1.size; simp at this; omega)); have hVh := Lib.hid hV; have hH4 := hH3.alloc (by have := hH3.size; simp at this; omega) (.cells #[.bool pf, .slice At nt ct, .slice Ab nb cb, .slice As ns cs] 29); obtain ⟨q2, q3⟩ := hHow.out _ hH4; have hB4 := hB3.alloc hB3.size (.cells #[.bool pf, .slice At nt ct, .slice Ab nb cb, .slice As ns cs] 29); clear hV)
      | (go_at_call 12; refine (hrP.out _ hB4).mono ?_; rintro e w5 ⟨⟨⟨Bt, mt, dt⟩, ⟨Bb, mb, db⟩, ⟨Bs, ms, es⟩⟩, rfl, hU, hb5⟩; have hVh2 := Lib.hid ((hVh.out.up ((Below.refl _ w3).alloc (Nat.le_refl _) (.cells #[.bool pf, .slice At nt ct, .slice Ab nb cb, .slice As ns cs] 29))).up hb5); have hUh := Lib.hid hU; have hB5 := hB4.trans (hb5.mono hB4.size); have ha5 : w5.heap[w3.heap.size]? = some (.cells #[.bool pf, .slice At nt ct, .slice Ab nb cb, .slice As ns cs] 29 (0, 0)) := (hb5.block _ (by simp)).trans (Go.Deep.blk_alloc_new w3 _); clear hU))
    have hW5 : Below w5.heap.size w5 (w5.alloc (.cells #[.bool pf, .slice Bt mt dt, .slice Bb mb db, .slice Bs ms es] 29)) := (Below.refl _ _).alloc (Nat.le_refl _) _
    obtain ⟨W5, hW5e⟩ : ∃ W5, W5 = (w5.alloc (.cells #[.bool pf, .slice Bt mt dt, .slice Bb mb db, .slice Bs ms es] 29)) := ⟨_, rfl⟩
    have hbl : W5.heap[w3.heap.size]? = some (.cells #[.bool pf, .slice At nt ct, .slice Ab nb cb, .slice As ns cs] 29 (0, 0)) := by rw [hW5e]; exact (hW5.block _ (Array.getElem?_eq_some_iff.1 ha5).1).trans ha5
    have hbr : W5.heap[w5.heap.size]? = some (.cells #[.bool pf, .slice Bt mt dt, .slice Bb mb db, .slice Bs ms es] 29 (0, 0)) := by rw [hW5e]; exact Go.Deep.blk_alloc_new w5 _
    have hVa : PcR W5 W5.heap.size ((At, nt, ct), (Ab, nb, cb), (As, ns, cs)) (pf, pr) := by rw [hW5e]; exact hVh2.out.up hW5
    have hVb : PcR W5 W5.heap.size ((Bt, mt, dt), (Bb, mb, db), (Bs, ms, es)) (pf, pr) := by rw [hW5e]; exact hUh.out.up hW5
    have hBW : Below w.heap.size w W5 := by rw [hW5e]; exact hB5.trans (hW5.mono hB5.size)
    rw [← hW5e]
    clear hW5e hW5 ha5 hVh hVh2 hUh hB1 hH1 hH3 hH4 hB3 hB4 hB5 hPc hrP hHow haw hF hbw hb1 q0 q1 hb3 q2 q3 hb5
    obtain ⟨La, hLa⟩ : ∃ La, w3.heap.size = La := ⟨_, rfl⟩
    obtain ⟨Lb, hLb⟩ : ∃ Lb, w5.heap.size = Lb := ⟨_, rfl⟩
    rw [hLa] at hbl ⊢
    rw [hLb] at hbr ⊢
    clear hLa hLb
    have hB0 : Below W5.heap.size W5 W5 := Below.refl _ _
    have hS : Hid (∀ W : World, Below W5.heap.size W5 W → (W.cell? ⟨La, 0, none⟩ = some (.bool pf) ∧ W.cell? ⟨La, 1, none⟩ = some (.slice At nt ct) ∧ W.cell? ⟨La, 2, none⟩ = some (.slice Ab nb cb) ∧ W.cell? ⟨La, 3, none⟩ = some (.slice As ns cs) ∧ W.cell? ⟨Lb, 0, none⟩ = some (.bool pf) ∧ W.cell? ⟨Lb, 1, none⟩ = some (.slice Bt mt dt) ∧ W.cell? ⟨Lb, 2, none⟩ = some (.slice Bb mb db) ∧ W.cell? ⟨Lb, 3, none⟩ = some (.slice Bs ms es))) := Lib.hid (fun W hW => by
      obtain ⟨x0, x1, x2, x3, -⟩ := piece_at ((hW.block _ (Array.getElem?_eq_some_iff.1 hbl).1).trans hbl)
      obtain ⟨y0, y1, y2, y3, -⟩ := piece_at ((hW.block _ (Array.getElem?_eq_some_iff.1 hbr).1).trans hbr)
      exact ⟨x0, x1, x2, x3, y0, y1, y2, y3⟩)
    have hSame : Hid (∀ (W : World) (g1 g2 : Nat), Below W5.heap.size W5 W → W.heap[g1]? = some (.cells #[.bool pf, .slice At nt ct, .slice Ab nb cb, .slice As ns cs] 29 (0, 0)) → W.heap[g2]? = some (.cells #[.bool pf, .slice Bt mt dt, .slice Bb mb db, .slice Bs ms es] 29 (0, 0)) → Calls Try.prog 13 #[.slice (some ⟨g1, 0, none⟩) 1 1, .slice (some ⟨g2, 0, none⟩) 1 1] W fun e w' => e = .returned (.bool true) ∧ Below W5.heap.size W5 w') := Lib.hid (fun W g1 g2 hW h1 h2 => by
      have := pSame_any (some ⟨g1, 0, none⟩) (some ⟨g2, 0, none⟩) 1 1 1 1 _ _ _ _ [(pf, pr)] [(pf, pr)] W (by decide) (by decide) (pcs_one (p := (pf, pr)) (v := ((At, nt, ct), (Ab, nb, cb), (As, ns, cs))) h1 (hVa.up hW)) (pcs_one (p := (pf, pr)) (v := ((Bt, mt, dt), (Bb, mb, db), (Bs, ms, es))) h2 (hVb.up hW))
      simp only [decide_true] at this
      exact this.mono fun e w' h => ⟨h.1, by obtain ⟨q, rfl⟩ := h.2; exact below_drewN hW q⟩)
    have hClean : Hid (∀ (W : World) (g : Nat), Below W5.heap.size W5 W → W.heap[g]? = some (.cells #[.bool pf, .slice At nt ct, .slice Ab nb cb, .slice As ns cs] 29 (0, 0)) → Calls Try.prog 14 #[.slice (some ⟨g, 0, none⟩) 1 1] W fun e w' => e = .returned (.bool (!pf)) ∧ Below W5.heap.size W5 w') := Lib.hid (fun W g hW h1 => by
      have := H.clean_ok (some ⟨g, 0, none⟩) 1 1 _ [(pf, pr)] W (Nat.le_refl _) (by decide) (by omega) (pcs_one (p := (pf, pr)) (v := ((At, nt, ct), (Ab, nb, cb), (As, ns, cs))) h1 (hVa.up hW))
      have hc : cleanB [(pf, pr)] = !pf := by simp [cleanB]
      rw [hc] at this
      exact this.mono fun e w' h => ⟨h.1, hW.trans (h.2.mono hW.size)⟩)
    have hBWh := Lib.hid hBW
    clear hBW hVa hVb hbl hbr
    go_region_held3 (fun wx : World => wx.cell? ⟨La, 0, none⟩ = some (.bool pf) ∧ wx.cell? ⟨La, 1, none⟩ = some (.slice At nt ct) ∧ wx.cell? ⟨La, 2, none⟩ = some (.slice Ab nb cb) ∧ wx.cell? ⟨La, 3, none⟩ = some (.slice As ns cs) ∧ wx.cell? ⟨Lb, 0, none⟩ = some (.bool pf) ∧ wx.cell? ⟨Lb, 1, none⟩ = some (.slice Bt mt dt) ∧ wx.cell? ⟨Lb, 2, none⟩ = some (.slice Bb mb db) ∧ wx.cell? ⟨Lb, 3, none⟩ = some (.slice Bs ms es))
      ((refine hS.out _ ?_; repeat (first | assumption | refine below_drew ?_ | refine below_alloc ?_ _)))
      ((first
        | (go_at_call 13; refine (hSame.out _ _ _ ?_ ?_ ?_).mono ?_; (repeat (first | assumption | refine below_drew ?_ | refine below_alloc ?_ _)); (first | exact (two_a _ _ _).1 | exact (two_a _ _ _).2); (first | exact (two_a _ _ _).1 | exact (two_a _ _ _).2); rintro e w7 ⟨rfl, hb7⟩)
        | (go_at_call 14; refine (hClean.out _ _ ?_ ?_).mono ?_; (repeat (first | assumption | refine below_drew ?_ | refine below_alloc ?_ _)); exact one_a _ _; rintro e w8 ⟨rfl, hb8⟩)))
    all_goals
      go_wp2_with fail
      go_ret
      exact ⟨by cases pf <;> first | rfl | simp, hBWh.out.trans (hb8.mono hBWh.out.size)⟩
end
end Go.Proofs.Ytfennjefkfblgaa

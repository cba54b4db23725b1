/- Proved here, out of the contracts of package pick: the walk of PickFavour. -/
import Derived.Test.YtfennjefkfblgaaPickLawD
namespace Go.Proofs.Ytfennjefkfblgaa
open Go.RowKit
set_option linter.unusedVariables false

theorem piece_small {base : Txs} {ps : List Txs} (z : Int) (h : smallT base ps) : (choose [pieceD base ps 0 false] z).length ≤ 1000000 := by
  have e : choose [pieceD base ps 0 false] z = chosen z (pieceD base ps 0 false) := by simp [choose]
  rw [e]
  unfold pieceD
  match hd : diffs base ps with
  | [] => exact h.1 base (List.mem_cons_self ..)
  | [d] => exact h.1 d (List.mem_cons_of_mem _ (mem_diffs.1 (by rw [hd]; simp)).1)
  | d :: e :: l =>
    dsimp only
    rw [if_neg (by omega), if_neg (by simp)]
    unfold chosen cPc
    rw [if_pos rfl]
    split
    · dsimp only
      cases hs : ps[(z - 1).toNat]? with
      | none => simp
      | some s => exact h.1 s (List.mem_cons_of_mem _ (List.mem_of_getElem? hs))
    · simp

section
variable (H : PickOk)
include H

set_option maxRecDepth 100000 in
set_option maxHeartbeats 8000000 in
theorem PickFavour_walk (A0 : Option Addr) (n0 c0 : Nat) (base : Txs) (A : Option Addr) (n c : Nat) (rows : List Slc) (parts : List Txs) (sd : Nat) (w : World) (h0 : TxR w w.heap.size (A0, n0, c0) base) (h1 : ArgTs w A n c rows parts) (hsd : sd ≤ 255) :
    Calls Try.prog 6 #[.slice A0 n0 c0, .slice A n c, .int .u8 sd] w fun e w' => e = .returned (.bool true) ∧ Below w.heap.size w w' := by
  have hn0 : n0 ≤ maxLen := Nat.le_trans h0.1 h0.2.1
  have hn : n ≤ maxLen := Nat.le_trans h1.1 h1.2.1
  have hpl := h1.2.2.len
  have haw := Lib.hid (awake_any H w)
  obtain ⟨fb, hfb⟩ : ∃ fb, fewT base parts = fb := ⟨_, rfl⟩
  have hF := Lib.hid (fun (W : World) (hb : Below w.heap.size w W) => rFew_any A0 n0 c0 w.heap.size base A n c w.heap.size rows parts W hn0 hn (Strs.below h0.2.2 hb) (h1.2.2.below hb))
  rw [hfb] at hF
  cases fb
  · clear h0 h1 hfb
    go_enter Try.func6, Try.ntmps6
    go_wp2_with (first
      | (go_at_call 9; refine haw.out.mono ?_; rintro e w1 ⟨rfl, hb1⟩)
      | (go_at_call 10; refine (hF.out _ hb1).mono ?_; rintro e w2 ⟨rfl, rfl⟩))
    go_ret
    exact ⟨rfl, hb1⟩
  · by_cases hnz : n = 0
    · subst hnz
      clear h0 h1 hfb hpl
      go_enter Try.func6, Try.ntmps6
      go_wp2_with (first
        | (go_at_call 9; refine haw.out.mono ?_; rintro e w1 ⟨rfl, hb1⟩)
        | (go_at_call 10; refine (hF.out _ hb1).mono ?_; rintro e w2 ⟨rfl, rfl⟩))
      go_ret
      exact ⟨rfl, hb1⟩
    · obtain ⟨f1, f2, f3⟩ := fewT_parts hfb
      have hsm := small_few hfb
      obtain ⟨m, hm⟩ : ∃ m, sd % n = m := ⟨_, rfl⟩
      have hmn : m < n := by rw [← hm]; exact Nat.mod_lt _ (by omega)
      have htm : (sd : Int).tmod (n : Int) = (m : Int) := by rw [← hm]; exact (Int.ofNat_tmod sd n).symm
      have hsame := piece_choice (base := base) (ps := parts) (fav := 1 + (m : Int)) (by omega) (by omega)
      have hbnd := piece_small (1 + (m : Int)) hsm
      have hq1 := piece_fav (base := base) (ps := parts) (fav := 1 + (m : Int)) (by omega) (by omega) false
      have hP0 := Lib.hid (fun (W : World) (hb : Below w.heap.size w W) => H.piece_ok A0 n0 c0 base A n c rows parts 0 false W h1.1 h1.2.1 (by omega) (by unfold inR64; omega) hsm (h0.up hb) (h1.2.2.up hb))
      have hP1 := Lib.hid (fun (W : World) (hb : Below w.heap.size w W) => H.piece_ok A0 n0 c0 base A n c rows parts (1 + (m : Int)) false W h1.1 h1.2.1 (by omega) (by unfold inR64; omega) hsm (h0.up hb) (h1.2.2.up hb))
      obtain ⟨p, hp⟩ : ∃ p, pieceD base parts 0 false = p := ⟨_, rfl⟩
      obtain ⟨⟨q1, q2, q3, q4⟩, hq⟩ : ∃ q, pieceD base parts (1 + (m : Int)) false = q := ⟨_, rfl⟩
      rw [hp] at hP0 hsame hbnd
      rw [hq] at hP1 hsame hq1
      dsimp only at hsame hq1
      subst hq1
      have hin := Lib.hid (show inR64 (1 + (m : Int)) by unfold inR64; omega)
      have e0 : ((n : Int) == 0) = false := by simp; omega
      have e1 : IntKind.i64.wrap (1 + (m : Int)) = 1 + (m : Int) := IntWalk.i64_in _ (by omega)
      have hz : (n : Int) ≠ 0 := by omega
      clear h0 h1 hfb f1 f2 f3 hsm hp hq hm
      obtain ⟨pf, pr⟩ := p
      go_enter Try.func6, Try.ntmps6
      go_upto_region 7 with (first
        | (go_at_call 9; refine haw.out.mono ?_; rintro e w1 ⟨rfl, hb1⟩; have tok0 : True := trivial)
        | (go_at_call 10; refine (hF.out _ hb1).mono ?_; rintro e w2 ⟨rfl, rfl⟩)
        | (have _t := tok0; clear tok0; go_at_call 11; refine (hP0.out _ hb1).mono ?_; rintro e w3 ⟨⟨⟨At, nt, ct⟩, ⟨Ab, nb, cb⟩, ⟨As, ns, cs⟩⟩, rfl, hV, hb3⟩; have hVh := Lib.hid hV; have hB3 := hb1.trans (hb3.mono hb1.size); have hB4 := hB3.alloc hB3.size (.cells #[.bool pf, .slice At nt ct, .slice Ab nb cb, .slice As ns cs] 29); clear hV)
        | (go_at_call 11; refine (hP1.out _ hB4).mono ?_; rintro e w5 ⟨⟨⟨Bt, mt, dt⟩, ⟨Bb, mb, db⟩, ⟨Bs, ms, es⟩⟩, rfl, hU, hb5⟩; have hVh2 := Lib.hid ((hVh.out.up ((Below.refl _ w3).alloc (Nat.le_refl _) (.cells #[.bool pf, .slice At nt ct, .slice Ab nb cb, .slice As ns cs] 29))).up hb5); have hUh := Lib.hid hU; have hB5 := hB4.trans (hb5.mono hB4.size); have ha5 : w5.heap[w3.heap.size]? = some (.cells #[.bool pf, .slice At nt ct, .slice Ab nb cb, .slice As ns cs] 29 (0, 0)) := (hb5.block _ (by simp)).trans (Go.Deep.blk_alloc_new w3 _); clear hU))
      have hW5 : Below w5.heap.size w5 (w5.alloc (.cells #[.bool false, .slice Bt mt dt, .slice Bb mb db, .slice Bs ms es] 29)) := (Below.refl _ _).alloc (Nat.le_refl _) _
      obtain ⟨W5, hW5e⟩ : ∃ W5, W5 = (w5.alloc (.cells #[.bool false, .slice Bt mt dt, .slice Bb mb db, .slice Bs ms es] 29)) := ⟨_, rfl⟩
      have hbl : W5.heap[w3.heap.size]? = some (.cells #[.bool pf, .slice At nt ct, .slice Ab nb cb, .slice As ns cs] 29 (0, 0)) := by rw [hW5e]; exact (hW5.block _ (Array.getElem?_eq_some_iff.1 ha5).1).trans ha5
      have hbr : W5.heap[w5.heap.size]? = some (.cells #[.bool false, .slice Bt mt dt, .slice Bb mb db, .slice Bs ms es] 29 (0, 0)) := by rw [hW5e]; exact Go.Deep.blk_alloc_new w5 _
      have hVa : PcR W5 W5.heap.size ((At, nt, ct), (Ab, nb, cb), (As, ns, cs)) (pf, pr) := by rw [hW5e]; exact hVh2.out.up hW5
      have hVb : PcR W5 W5.heap.size ((Bt, mt, dt), (Bb, mb, db), (Bs, ms, es)) (false, q2, q3, q4) := by rw [hW5e]; exact hUh.out.up hW5
      have hBW : Below w.heap.size w W5 := by rw [hW5e]; exact hB5.trans (hW5.mono hB5.size)
      rw [← hW5e]
      clear hW5e hW5 ha5 hVh hVh2 hUh hB3 hB4 hB5 hP0 hP1 haw hF hb1 hb3 hb5
      obtain ⟨La, hLa⟩ : ∃ La, w3.heap.size = La := ⟨_, rfl⟩
      obtain ⟨Lb, hLb⟩ : ∃ Lb, w5.heap.size = Lb := ⟨_, rfl⟩
      rw [hLa] at hbl ⊢
      rw [hLb] at hbr ⊢
      clear hLa hLb
      have hB0 : Below W5.heap.size W5 W5 := Below.refl _ _
      have hS : Hid (∀ W : World, Below W5.heap.size W5 W → (W.cell? ⟨La, 0, none⟩ = some (.bool pf) ∧ W.cell? ⟨La, 1, none⟩ = some (.slice At nt ct) ∧ W.cell? ⟨La, 2, none⟩ = some (.slice Ab nb cb) ∧ W.cell? ⟨La, 3, none⟩ = some (.slice As ns cs) ∧ W.cell? ⟨Lb, 0, none⟩ = some (.bool false) ∧ W.cell? ⟨Lb, 1, none⟩ = some (.slice Bt mt dt))) := Lib.hid (fun W hW => by
        obtain ⟨x0, x1, x2, x3, -⟩ := piece_at ((hW.block _ (Array.getElem?_eq_some_iff.1 hbl).1).trans hbl)
        obtain ⟨y0, y1, -⟩ := piece_at ((hW.block _ (Array.getElem?_eq_some_iff.1 hbr).1).trans hbr)
        exact ⟨x0, x1, x2, x3, y0, y1⟩)
      have hCh : Hid (∀ (W : World) (g : Nat), Below W5.heap.size W5 W → W.heap[g]? = some (.cells #[.bool pf, .slice At nt ct, .slice Ab nb cb, .slice As ns cs] 29 (0, 0)) → Calls Try.prog 19 #[.slice (some ⟨g, 0, none⟩) 1 1, .int .i64 (1 + (m : Int))] W fun e w' => ∃ A3 n3 c3, e = .returned (.slice A3 n3 c3) ∧ TxR w' w'.heap.size (A3, n3, c3) q2 ∧ Below W5.heap.size W5 w') := Lib.hid (fun W g hW h1 => by
        have := H.choose_ok (some ⟨g, 0, none⟩) 1 1 _ [(pf, pr)] (1 + (m : Int)) W (Nat.le_refl _) (by decide) (by decide) hin.out hbnd (pcs_one (p := (pf, pr)) (v := ((At, nt, ct), (Ab, nb, cb), (As, ns, cs))) h1 (hVa.up hW))
        rw [hsame] at this
        exact this.mono fun e w' ⟨A3, n3, c3, k1, k2, k3⟩ => ⟨A3, n3, c3, k1, k2, hW.trans (k3.mono hW.size)⟩)
      have hSm : Hid (∀ (W : World) (A3 : Option Addr) (n3 c3 : Nat), Below W5.heap.size W5 W → TxR W W.heap.size (A3, n3, c3) q2 → Calls Try.prog 20 #[.slice A3 n3 c3, .slice Bt mt dt] W fun e w' => e = .returned (.bool true) ∧ Below W5.heap.size W5 w') := Lib.hid (fun W A3 n3 c3 hW h1 => by
        have h2 := (hVb.up hW).1
        have := Same_any A3 Bt n3 mt c3 dt _ _ q2 q2 W (Nat.le_trans h1.1 h1.2.1) (Nat.le_trans h2.1 h2.2.1) h1.2.2 h2.2.2
        simp only [decide_true] at this
        exact this.mono fun e w' h => ⟨h.1, by obtain ⟨q, rfl⟩ := h.2; exact below_drewN hW q⟩)
      have hBWh := Lib.hid hBW
      clear hBW hVa hVb hbl hbr hsame hbnd
      go_region_held3 (fun wx : World => wx.cell? ⟨La, 0, none⟩ = some (.bool pf) ∧ wx.cell? ⟨La, 1, none⟩ = some (.slice At nt ct) ∧ wx.cell? ⟨La, 2, none⟩ = some (.slice Ab nb cb) ∧ wx.cell? ⟨La, 3, none⟩ = some (.slice As ns cs) ∧ wx.cell? ⟨Lb, 0, none⟩ = some (.bool false) ∧ wx.cell? ⟨Lb, 1, none⟩ = some (.slice Bt mt dt))
        ((refine hS.out _ ?_; repeat (first | assumption | refine below_drew ?_ | refine below_alloc ?_ _)))
        ((first
          | (go_at_call 19; refine (hCh.out _ _ ?_ ?_).mono ?_; (repeat (first | assumption | refine below_drew ?_ | refine below_alloc ?_ _)); exact one_a _ _; rintro e w7 ⟨A3, n3, c3, rfl, hT7, hb7⟩)
          | (go_at_call 20; refine (hSm.out _ A3 n3 c3 hb7 hT7).mono ?_; rintro e w8 ⟨rfl, hb8⟩)))
      all_goals
        go_wp2_with fail
        go_ret
        exact ⟨rfl, hBWh.out.trans (hb8.mono hBWh.out.size)⟩
end
end Go.Proofs.Ytfennjefkfblgaa

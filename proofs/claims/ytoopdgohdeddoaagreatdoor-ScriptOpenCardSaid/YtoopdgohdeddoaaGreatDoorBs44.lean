/- Proved here: texts joined: ScrLawE. -/
import Derived.Test.YtoopdgohdeddoaaGreatDoorBs10
import Derived.Test.YtoopdgohdeddoaaGreatDoorBs19
import Derived.Test.YtoopdgohdeddoaaGreatDoorBs23
import Derived.Test.YtoopdgohdeddoaaGreatDoorBs42
import Derived.Test.YtoopdgohdeddoaaGreatDoorBs43
import Derived.RegionTactic
import Derived.Deep.RegionHeld3
/- Proved here: what the statement ScriptOpen says, by the contract of package script. -/
namespace Go.Proofs.YtoopdgohdeddoaaGreatDoor
open Go.RowKit
set_option linter.unusedVariables false
set_option maxRecDepth 100000

section
variable (H : ScriptOk)
include H

set_option maxHeartbeats 8000000 in
theorem ScriptOpen_walk (y : Nat) (A0 : Option Addr) (n0 c0 : Nat) (a : Txs) (A1 : Option Addr) (n1 c1 : Nat) (b : Txs) (A2 : Option Addr) (n2 c2 : Nat) (c : Txs) (w : World) (hy : y ≤ 255)
    (h0 : TxR w w.heap.size (A0, n0, c0) a) (h1 : TxR w w.heap.size (A1, n1, c1) b) (h2 : TxR w w.heap.size (A2, n2, c2) c) :
    Calls Tryz.prog 6 #[.int .u8 (y : Int), .agg #[.slice A0 n0 c0, .slice A1 n1 c1, .slice A2 n2 c2]] w fun e w' => e = .returned (.bool true) ∧ Below w.heap.size w w' := by
  obtain ⟨W1, hW1⟩ : ∃ W1, W1 = w.alloc (.cells #[.slice A0 n0 c0, .slice A1 n1 c1, .slice A2 n2 c2] 23) := ⟨_, rfl⟩
  have hb1 : Below w.heap.size w W1 := by rw [hW1]; exact (Below.refl _ _).alloc (Nat.le_refl _) _
  have k1 : W1.heap[w.heap.size]? = some (.cells #[.slice A0 n0 c0, .slice A1 n1 c1, .slice A2 n2 c2] 23 (0, 0)) := by rw [hW1]; exact Go.Deep.blk_alloc_new w _
  have haw := Lib.hid (scrAwake_any H W1)
  have hlt : w.heap.size < W1.heap.size := (Array.getElem?_eq_some_iff.1 k1).1
  have hC : Hid (∀ x1, Below W1.heap.size W1 x1 → (w.heap.size < x1.heap.size ∧ Below w.heap.size w x1) ∧ x1.cell? ⟨w.heap.size, 0, none⟩ = some (.slice A0 n0 c0) ∧ x1.cell? ⟨w.heap.size, 1, none⟩ = some (.slice A1 n1 c1) ∧ x1.cell? ⟨w.heap.size, 2, none⟩ = some (.slice A2 n2 c2)) := Lib.hid (fun x1 hb => by
    have e1 := (hb.block _ hlt).trans k1
    exact ⟨⟨(Array.getElem?_eq_some_iff.1 e1).1, hb1.trans (hb.mono hb1.size)⟩, by rw [cells_of e1]; rfl, by rw [cells_of e1]; rfl, by rw [cells_of e1]; rfl⟩)
  obtain ⟨F, hF⟩ : ∃ F, fewS a b c = F := ⟨_, rfl⟩
  have hFw := Lib.hid (fun (W : World) (hW : Below w.heap.size w W) => rsFew_any A0 n0 c0 a A1 n1 c1 b A2 n2 c2 c W (h0.up hW) (h1.up hW) (h2.up hW))
  rw [hF] at hFw
  rw [hW1] at haw hC
  obtain ⟨P, hP⟩ : ∃ P : Nat, y % 7 = P := ⟨_, rfl⟩
  have hPt : ((y : Int)).tmod 7 = (P : Int) := by rw [← hP]; exact Int.ofNat_tmod y 7 ▸ rfl
  by_cases hgo : F = true ∧ P ≠ 6
  rotate_left
  · clear h0 h1 h2 hF hb1 k1 hlt hW1 hP
    rcases (by revert hgo; cases F <;> simp : F = false ∨ (F = true ∧ P = 6)) with rfl | ⟨rfl, rfl⟩
    all_goals
     clear hgo
     go_enter Tryz.func6, Tryz.ntmps6
     go_wp2_with (first
       | (go_at_call 8; refine haw.out.mono ?_; rintro e x1 ⟨rfl, hb⟩; obtain ⟨hB1x, q0, q1, q2⟩ := hC.out x1 hb; have hB1 := Lib.hid hB1x.2; clear hb hB1x)
       | (go_at_call 14; refine (hFw.out _ hB1.out).mono ?_; rintro e x2 ⟨rfl, hb2⟩; have hB2 := Lib.hid (hB1.out.trans (hb2.mono hB1.out.size)); clear hb2))
     go_ret
     exact ⟨rfl, hB2.out⟩
  · obtain ⟨rfl, hP6⟩ := hgo
    obtain ⟨sa, sb, sc, hw⟩ := fewS_is hF
    have hk : knownB (flagC y) = true := by rw [flag_known, hP]; simpa using hP6
    have heo := err_open hk hw
    obtain ⟨-, -, g1, g2, -, -⟩ := wrong_none hw
    have tm := shut_open a (g2 a (by simp))
    have to_ := shut_open b g1
    have ty := shut_open c (g2 c (by simp))
    have hsub : ∀ (l : Txs) (s : Tx), s ∈ shutL l → s ∈ l := fun l s hs => by
      unfold shutL at hs
      split at hs
      · exact (List.dropLast_sublist l).subset hs
      · exact hs
    have za : smallS (shutL a) := ⟨by have := sa.1; have := tm.2.2; omega, fun s hs => sa.2 s (hsub a s hs)⟩
    have zb : smallS (shutL b) := ⟨by have := sb.1; have := to_.2.2; omega, fun s hs => sb.2 s (hsub b s hs)⟩
    have zc : smallS (shutL c) := ⟨by have := sc.1; have := ty.2.2; omega, fun s hs => sc.2 s (hsub c s hs)⟩
    have hS1 := Lib.hid (fun (W : World) (hW : Below w.heap.size w W) => H (flagC y) A0 n0 c0 a A1 n1 c1 b A2 n2 c2 c true W sa sb sc (h0.up hW) (h1.up hW) (h2.up hW))
    have hS2 : Hid (∀ (B0 : Option Addr) (m0 k0 : Nat) (B1 : Option Addr) (m1 k1 : Nat) (B2 : Option Addr) (m2 k2 : Nat) (W : World), TxR W W.heap.size (B0, m0, k0) (shutL a) → TxR W W.heap.size (B1, m1, k1) (shutL b) → TxR W W.heap.size (B2, m2, k2) (shutL c) →
        Calls Tryz.prog 10 #[.int .u8 ((flagC y).toNat : Int), .slice B0 m0 k0, .slice B1 m1 k1, .slice B2 m2 k2, .bool true] W fun e w' => ∃ A n k, e = .returned (.tuple #[.slice A n k, .int .i64 0]) ∧ Below W.heap.size W w') := Lib.hid (fun B0 m0 k0 B1 m1 k1 B2 m2 k2 W t0 t1 t2 => (H (flagC y) B0 m0 k0 (shutL a) B1 m1 k1 (shutL b) B2 m2 k2 (shutL c) true W za zb zc t0 t1 t2).mono (by
      rintro e w' ⟨A, n, k, er, x, rfl, p, q, r⟩
      have e0 := q.1.trans heo.2.2
      subst e0
      exact ⟨A, n, k, rfl, r⟩))
    have hfl := Lib.hid (fun W : World => flag_any y W hy)
    have hTa := Lib.hid (fun (W : World) (hW : Below w.heap.size w W) => And.intro (h0.up hW) (fun s (hs : s ∈ a) => Nat.le_trans (sa.2 s hs) (show 100 ≤ maxLen by decide)))
    have hTb := Lib.hid (fun (W : World) (hW : Below w.heap.size w W) => And.intro (h1.up hW) (fun s (hs : s ∈ b) => Nat.le_trans (sb.2 s hs) (show 100 ≤ maxLen by decide)))
    have hTc := Lib.hid (fun (W : World) (hW : Below w.heap.size w W) => And.intro (h2.up hW) (fun s (hs : s ∈ c) => Nat.le_trans (sc.2 s hs) (show 100 ≤ maxLen by decide)))
    have hCl : Hid (∀ (A : Option Addr) (n k : Nat) (l : Txs) (W : World), (TxR W W.heap.size (A, n, k) l ∧ ∀ s ∈ l, s.length ≤ maxLen) → Calls Tryz.prog 17 #[.slice A n k] W fun e w' => (∃ A' n' c', e = .returned (.slice A' n' c') ∧ TxR W W.heap.size (A', n', c') (shutL l)) ∧ w' = W) := Lib.hid (fun A n k l W h => rClosed_any A n k l W h.2 h.1)
    obtain ⟨om, hom⟩ : ∃ p, openB a = p := ⟨_, rfl⟩
    obtain ⟨oo, hoo⟩ : ∃ p, openB b = p := ⟨_, rfl⟩
    obtain ⟨oy, hoy⟩ : ∃ p, openB c = p := ⟨_, rfl⟩
    have hOm := Lib.hid (fun (W : World) (hW : Below w.heap.size w W) => hom ▸ rOpen_any A0 n0 c0 W.heap.size a W (Nat.le_trans h0.1 h0.2.1) (fun s hs => Nat.le_trans (sa.2 s hs) (by decide)) (h0.up hW).2.2)
    have hOo := Lib.hid (fun (W : World) (hW : Below w.heap.size w W) => hoo ▸ rOpen_any A1 n1 c1 W.heap.size b W (Nat.le_trans h1.1 h1.2.1) (fun s hs => Nat.le_trans (sb.2 s hs) (by decide)) (h1.up hW).2.2)
    have hOy := Lib.hid (fun (W : World) (hW : Below w.heap.size w W) => hoy ▸ rOpen_any A2 n2 c2 W.heap.size c W (Nat.le_trans h2.1 h2.2.1) (fun s hs => Nat.le_trans (sc.2 s hs) (by decide)) (h2.up hW).2.2)
    rw [hom, hoo, hoy] at heo
    have heoh := Lib.hid heo
    have hPn : ((P : Int) == 6) = false := by rw [beq_eq_false_iff_ne]; omega
    have hst : Hid (∀ W W', (w.heap.size < W.heap.size ∧ W.cell? ⟨w.heap.size, 0, none⟩ = some (.slice A0 n0 c0) ∧ W.cell? ⟨w.heap.size, 1, none⟩ = some (.slice A1 n1 c1) ∧ W.cell? ⟨w.heap.size, 2, none⟩ = some (.slice A2 n2 c2)) → Below W.heap.size W W' → (w.heap.size < W'.heap.size ∧ W'.cell? ⟨w.heap.size, 0, none⟩ = some (.slice A0 n0 c0) ∧ W'.cell? ⟨w.heap.size, 1, none⟩ = some (.slice A1 n1 c1) ∧ W'.cell? ⟨w.heap.size, 2, none⟩ = some (.slice A2 n2 c2))) := Lib.hid (fun W W' h hb => ⟨Nat.lt_of_lt_of_le h.1 hb.size, (hb.cell (p := ⟨w.heap.size, 0, none⟩) h.1).trans h.2.1, (hb.cell (p := ⟨w.heap.size, 1, none⟩) h.1).trans h.2.2.1, (hb.cell (p := ⟨w.heap.size, 2, none⟩) h.1).trans h.2.2.2⟩)
    clear h0 h1 h2 hF hb1 k1 hlt hW1 sa sb sc H hy hom hoo hoy hk hw g1 g2 tm to_ ty za zb zc hsub heo hP hP6
    cases om
    all_goals
     cases oo
     all_goals
      cases oy
    all_goals
      go_enter Tryz.func6, Tryz.ntmps6
      go_upto_region 5 with (first
        | (go_at_call 8; refine haw.out.mono ?_; rintro e x1 ⟨rfl, hb⟩; obtain ⟨hB1x, q0, q1, q2⟩ := hC.out x1 hb; have hB1 := Lib.hid hB1x.2; have hq1 := Lib.hid (And.intro hB1x.1 (And.intro q0 (And.intro q1 q2))); clear hb hB1x)
        | (go_at_call 14; refine (hFw.out _ hB1.out).mono ?_; rintro e x2 ⟨rfl, hb2⟩; have hB2 := Lib.hid (hB1.out.trans (hb2.mono hB1.out.size)); have hq2 := Lib.hid (hst.out _ _ hq1.out hb2); obtain ⟨-, q0, q1, q2⟩ := hq2.out; clear hb2)
        | (go_at_call 15; refine (hOm.out _ hB2.out).mono ?_; rintro e w4 ⟨rfl, hww⟩; subst hww; clear hOm)
        | (go_at_call 15; refine (hOo.out _ hB2.out).mono ?_; rintro e w4 ⟨rfl, hww⟩; subst hww; clear hOo)
        | (go_at_call 15; refine (hOy.out _ hB2.out).mono ?_; rintro e w4 ⟨rfl, hww⟩; subst hww; clear hOy))
      clear q0 q1 q2
      obtain ⟨hltx, q0, q1, q2⟩ := hq2.out
      have hBd := Lib.hid (below_drewN hB2.out 1)
      go_region_held3 (fun wx : World => wx.cell? ⟨w.heap.size, 0, none⟩ = some (.slice A0 n0 c0) ∧ wx.cell? ⟨w.heap.size, 1, none⟩ = some (.slice A1 n1 c1) ∧ wx.cell? ⟨w.heap.size, 2, none⟩ = some (.slice A2 n2 c2))
        (first
          | exact ⟨q0, q1, q2⟩
          | exact ⟨(hb4.cell (p := ⟨w.heap.size, 0, none⟩) hltx).trans q0, (hb4.cell (p := ⟨w.heap.size, 1, none⟩) hltx).trans q1, (hb4.cell (p := ⟨w.heap.size, 2, none⟩) hltx).trans q2⟩)
        (first
          | (go_at_call 11; refine (hfl.out _).mono ?_; rintro e w2 ⟨rfl, hww⟩; have hws := hww.symm; clear hww; subst hws)
          | (go_at_call 10; refine (hS1.out _ (by first | exact hB2.out | exact hBd.out)).mono ?_; rintro e x3 ⟨A3, n3, c3, er, x, rfl, p3, s3, hb4⟩; have hs3 := Lib.hid (And.intro p3 s3); have hB3 : Hid (Below w.heap.size w x3) := Lib.hid (by first | exact hB2.out.trans (hb4.mono hB2.out.size) | exact hBd.out.trans (hb4.mono hBd.out.size)); clear p3 s3))
      rename_i hHeld
      obtain ⟨r0, r1, r2⟩ := hHeld
      have hlt3 : w.heap.size < x3.heap.size := Nat.lt_of_lt_of_le hltx hb4.size
      have hB3d := Lib.hid (below_drewN hB3.out 1)
      clear q0 q1 q2 hb4
      go_upto_region 6 with fail
      go_region_held3 (fun wx : World => wx.cell? ⟨w.heap.size, 0, none⟩ = some (.slice A0 n0 c0) ∧ wx.cell? ⟨w.heap.size, 1, none⟩ = some (.slice A1 n1 c1) ∧ wx.cell? ⟨w.heap.size, 2, none⟩ = some (.slice A2 n2 c2))
        (first
          | exact ⟨r0, r1, r2⟩
          | exact ⟨(hb6.cell (p := ⟨w.heap.size, 0, none⟩) hlt3).trans r0, (hb6.cell (p := ⟨w.heap.size, 1, none⟩) hlt3).trans r1, (hb6.cell (p := ⟨w.heap.size, 2, none⟩) hlt3).trans r2⟩)
        (first
          | (go_at_call 11; refine (hfl.out _).mono ?_; rintro e w4 ⟨rfl, hww⟩; have hws := hww.symm; clear hww; subst hws)
          | (go_at_call 17; refine (hCl.out _ _ _ _ _ (by first | exact hTa.out _ hB3.out | exact hTb.out _ hB3.out | exact hTc.out _ hB3.out | exact hTa.out _ hB3d.out | exact hTb.out _ hB3d.out | exact hTc.out _ hB3d.out)).mono ?_; rintro e w4 ⟨⟨B0, m0, k0, rfl, t0⟩, hww⟩; have hws := hww.symm; clear hww; subst hws)
          | (go_at_call 10; refine (hS2.out _ _ _ _ _ _ _ _ _ _ (by assumption) (by assumption) (by assumption)).mono ?_; rintro e x6 ⟨A6, n6, c6, rfl, hb6⟩; have hB6 : Hid (Below w.heap.size w x6) := Lib.hid (by first | exact hB3.out.trans (hb6.mono hB3.out.size) | exact hB3d.out.trans (hb6.mono hB3d.out.size))))
      clear r0 r1 r2
      have hn3 : Hid (x.length = n3) := Lib.hid hs3.out.1.2.2.len
      have her : Hid (er = errS (flagC y) a b c) := Lib.hid hs3.out.2.1
      first
        | (obtain rfl : er = 5 := her.out.trans (heoh.out.1.2 rfl)
           go_wp2
           go_ret
           exact ⟨rfl, hB6.out⟩)
        | (obtain rfl : er = 0 := her.out.trans (heoh.out.2.1.2 rfl)
           have h2n : 2 ≤ n3 := by rw [← hn3.out]; exact script_two hs3.out.2 rfl
           have h2i : (2 : Int) ≤ (n3 : Int) := by omega
           go_wp2
           go_ret
           exact ⟨rfl, hB6.out⟩)
end
end Go.Proofs.YtoopdgohdeddoaaGreatDoor

/- Proved here: texts joined: ScrLawB. -/
import Derived.Test.YtoopdgohdeddoaaGreatDoorBs10
import Derived.Test.YtoopdgohdeddoaaGreatDoorBs42
import Derived.RegionTactic
import Derived.Deep.RegionHeld3
/- Proved here: what the statement ScriptParts says, by the contract of package script. -/
namespace Go.Proofs.YtoopdgohdeddoaaGreatDoor
open Go.RowKit
set_option linter.unusedVariables false
set_option maxRecDepth 100000

section
variable (H : ScriptOk)
include H

set_option maxHeartbeats 8000000 in
theorem ScriptParts_walk (A0 : Option Addr) (n0 c0 : Nat) (a : Txs) (A1 : Option Addr) (n1 c1 : Nat) (b : Txs) (A2 : Option Addr) (n2 c2 : Nat) (c : Txs) (w : World)
    (h0 : TxR w w.heap.size (A0, n0, c0) a) (h1 : TxR w w.heap.size (A1, n1, c1) b) (h2 : TxR w w.heap.size (A2, n2, c2) c) :
    Calls Tryz.prog 7 #[.agg #[.slice A0 n0 c0, .slice A1 n1 c1, .slice A2 n2 c2]] w fun e w' => e = .returned (.bool true) ∧ Below w.heap.size w w' := by
  obtain ⟨W1, hW1⟩ : ∃ W1, W1 = w.alloc (.cells #[.slice A0 n0 c0, .slice A1 n1 c1, .slice A2 n2 c2] 23) := ⟨_, rfl⟩
  have hb1 : Below w.heap.size w W1 := by rw [hW1]; exact (Below.refl _ _).alloc (Nat.le_refl _) _
  have k1 : W1.heap[w.heap.size]? = some (.cells #[.slice A0 n0 c0, .slice A1 n1 c1, .slice A2 n2 c2] 23 (0, 0)) := by rw [hW1]; exact Go.Deep.blk_alloc_new w _
  have haw := Lib.hid (scrAwake_any H W1)
  have hlt : w.heap.size < W1.heap.size := (Array.getElem?_eq_some_iff.1 k1).1
  have hC : Hid (∀ x1, Below W1.heap.size W1 x1 → (w.heap.size < x1.heap.size ∧ Below w.heap.size w x1) ∧ x1.cell? ⟨w.heap.size, 0, none⟩ = some (.slice A0 n0 c0) ∧ x1.cell? ⟨w.heap.size, 1, none⟩ = some (.slice A1 n1 c1) ∧ x1.cell? ⟨w.heap.size, 2, none⟩ = some (.slice A2 n2 c2)) := Lib.hid (fun x1 hb => by
    have e1 := (hb.block _ hlt).trans k1
    exact ⟨⟨(Array.getElem?_eq_some_iff.1 e1).1, hb1.trans (hb.mono hb1.size)⟩, by rw [cells_of e1]; rfl, by rw [cells_of e1]; rfl, by rw [cells_of e1]; rfl⟩)
  obtain ⟨F, hF⟩ : ∃ F, fewS a b c = F := ⟨_, rfl⟩
  have hFw := Lib.hid (fun (W : World) (hW : Below w.heap.size w W) => rsFew_any A0 n0 c0 a A1 n1 c1 b A2 n2 c2 c W (h0.up hW) (h1.up hW) (h2.up hW))
  rw [hF] at hFw
  rw [hW1] at haw hC
  cases F
  · clear h0 h1 h2 hF hb1 k1 hlt hW1
    go_enter Tryz.func7, Tryz.ntmps7
    go_wp2_with (first
      | (go_at_call 8; refine haw.out.mono ?_; rintro e x1 ⟨rfl, hb⟩; obtain ⟨hB1x, q0, q1, q2⟩ := hC.out x1 hb; have hB1 := Lib.hid hB1x.2; clear hb hB1x)
      | (go_at_call 14; refine (hFw.out _ hB1.out).mono ?_; rintro e x2 ⟨rfl, hb2⟩; have hB2 := Lib.hid (hB1.out.trans (hb2.mono hB1.out.size)); clear hb2))
    go_ret
    exact ⟨rfl, hB2.out⟩
  · obtain ⟨sa, sb, sc, -⟩ := fewS_is hF
    have hS := Lib.hid (fun (f : UInt8) (W : World) (hW : Below w.heap.size w W) => H f A0 n0 c0 a A1 n1 c1 b A2 n2 c2 c false W sa sb sc (h0.up hW) (h1.up hW) (h2.up hW))
    have hS1 := Lib.hid (fun (W : World) (hW : Below w.heap.size w W) => hS.out 101 W hW)
    have hS2 := Lib.hid (fun (W : World) (hW : Below w.heap.size w W) => hS.out 120 W hW)
    have hS3 := Lib.hid (fun (W : World) (hW : Below w.heap.size w W) => hS.out 51 W hW)
    have hst : Hid (∀ W W', (w.heap.size < W.heap.size ∧ W.cell? ⟨w.heap.size, 0, none⟩ = some (.slice A0 n0 c0) ∧ W.cell? ⟨w.heap.size, 1, none⟩ = some (.slice A1 n1 c1) ∧ W.cell? ⟨w.heap.size, 2, none⟩ = some (.slice A2 n2 c2)) → Below W.heap.size W W' → (w.heap.size < W'.heap.size ∧ W'.cell? ⟨w.heap.size, 0, none⟩ = some (.slice A0 n0 c0) ∧ W'.cell? ⟨w.heap.size, 1, none⟩ = some (.slice A1 n1 c1) ∧ W'.cell? ⟨w.heap.size, 2, none⟩ = some (.slice A2 n2 c2))) := Lib.hid (fun W W' h hb => ⟨Nat.lt_of_lt_of_le h.1 hb.size, (hb.cell (p := ⟨w.heap.size, 0, none⟩) h.1).trans h.2.1, (hb.cell (p := ⟨w.heap.size, 1, none⟩) h.1).trans h.2.2.1, (hb.cell (p := ⟨w.heap.size, 2, none⟩) h.1).trans h.2.2.2⟩)
    clear h0 h1 h2 hF hb1 k1 hlt hW1 sa sb sc hS
    go_enter Tryz.func7, Tryz.ntmps7
    go_upto_region 7 with (first
      | (go_at_call 8; refine haw.out.mono ?_; rintro e x1 ⟨rfl, hb⟩; obtain ⟨hB1x, q0, q1, q2⟩ := hC.out x1 hb; have hB1 := Lib.hid hB1x.2; have hq1 := Lib.hid (And.intro hB1x.1 (And.intro q0 (And.intro q1 q2))); clear hb hB1x)
      | (go_at_call 14; refine (hFw.out _ hB1.out).mono ?_; rintro e x2 ⟨rfl, hb2⟩; have hB2 := Lib.hid (hB1.out.trans (hb2.mono hB1.out.size)); have hq2 := Lib.hid (hst.out _ _ hq1.out hb2); obtain ⟨-, q0, q1, q2⟩ := hq2.out; clear hb2)
      | (go_at_call 10; refine (hS1.out _ hB2.out).mono ?_; rintro e x3 ⟨A3, n3, c3, e3, xa, rfl, p3, s3, hb3⟩; have hB3 := Lib.hid (hB2.out.trans (hb3.mono hB2.out.size)); have hq3 := Lib.hid (hst.out _ _ hq2.out hb3); obtain ⟨-, q0, q1, q2⟩ := hq3.out; have hs3 := Lib.hid (And.intro p3 s3); clear hb3 p3 s3 hS1)
      | (go_at_call 10; refine (hS2.out _ hB3.out).mono ?_; rintro e x4 ⟨A4, n4, c4, e4, xb, rfl, p4, s4, hb4⟩; have hB4 := Lib.hid (hB3.out.trans (hb4.mono hB3.out.size)); have hq4 := Lib.hid (hst.out _ _ hq3.out hb4); obtain ⟨-, q0, q1, q2⟩ := hq4.out; have hs4 := Lib.hid (And.intro p4 s4); clear hb4 p4 s4 hS2)
      | (go_at_call 10; refine (hS3.out _ hB4.out).mono ?_; rintro e x5 ⟨A5, n5, c5, e5, xc, rfl, p5, s5, hb5⟩; have hB5 := Lib.hid (hB4.out.trans (hb5.mono hB4.out.size)); have hs5 := Lib.hid (And.intro p5 s5); clear hb5 p5 s5 hS3))
    obtain ⟨r1, r2, r3⟩ := script_sum hs3.out.2 hs4.out.2 hs5.out.2
    have m3 : xa.length = n3 := hs3.out.1.2.2.len
    have m4 : xb.length = n4 := hs4.out.1.2.2.len
    have m5 : xc.length = n5 := hs5.out.1.2.2.len
    have m6 := Nat.le_trans hs3.out.1.1 hs3.out.1.2.1
    dsimp only at m3 m4 m5 m6
    unfold maxLen at m6
    rw [m3, m4, m5] at r3
    subst r3
    subst r1
    subst r2
    have hw : IntKind.i64.wrap ((n4 : Int) + (n5 : Int)) = ((n4 + n5 : Nat) : Int) := by rw [IntWalk.i64_in _ (by omega)]; omega
    go_wp2
    go_ret
    exact ⟨rfl, hB5.out⟩
end
end Go.Proofs.YtoopdgohdeddoaaGreatDoor

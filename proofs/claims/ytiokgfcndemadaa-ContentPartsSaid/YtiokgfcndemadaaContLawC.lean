/- Proved here, out of the contracts of package content: the walk of ContentParts. -/
import Derived.Test.YtiokgfcndemadaaContLawA
namespace Go.Proofs.Ytiokgfcndemadaa
open Go.RowKit
set_option linter.unusedVariables false

/-- A chunk that came in. -/
def ArgCk (w : World) (A : Option Addr) (n c : Nat) (ss : List Sp) : Prop := n ≤ c ∧ c ≤ maxLen ∧ Spans w w.heap.size A n ss
theorem PtIn.all {w wr : World} {c : Ck} {A : Option Addr} {n k : Nat} (h : PtIn w wr c A n k) : wr.cell? ⟨w.heap.size, 0, none⟩ = some (.bool c.1) ∧ wr.cell? ⟨w.heap.size, 1, none⟩ = some (.int .i64 c.2.1.1) ∧ wr.cell? ⟨w.heap.size, 2, none⟩ = some (.int .i64 c.2.1.2) ∧ wr.cell? ⟨w.heap.size, 3, none⟩ = some (.slice A n k) :=
  ⟨by rw [cells_of h.box]; rfl, h.at_.1, h.at_.2.1, h.at_.2.2.1⟩
theorem Spans.up {w w' : World} {A : Option Addr} {n : Nat} {ss : List Sp} (h : Spans w w.heap.size A n ss) (hb : Below w.heap.size w w') : Spans w' w'.heap.size A n ss := (h.keep fun _ hp => hb.cell hp).more hb.size

section
variable (H : ContOk)
include H

set_option maxRecDepth 100000 in
set_option maxHeartbeats 2000000 in
theorem ContentParts_walk (st : Bool) (f t : Int) (A1 : Option Addr) (n1 c1 : Nat) (spans : List Sp) (A0 : Option Addr) (n0 c0 : Nat) (base : Txs) (A : Option Addr) (n c : Nat) (rows : List Slc) (sides : List Txs) (w : World) (hc : ArgCk w A1 n1 c1 spans) (h0 : TxR w w.heap.size (A0, n0, c0) base) (h1 : ArgTs w A n c rows sides) :
    Calls Try.prog 3 #[.agg #[.bool st, .int .i64 f, .int .i64 t, .slice A1 n1 c1], .slice A0 n0 c0, .slice A n c] w fun e w' => e = .returned (.bool true) ∧ Below w.heap.size w w' := by
  have hn0 : n0 ≤ maxLen := Nat.le_trans h0.1 h0.2.1
  have hn : n ≤ maxLen := Nat.le_trans h1.1 h1.2.1
  have hn1 : n1 ≤ maxLen := Nat.le_trans hc.1 hc.2.1
  have hpl := h1.2.2.len
  have hst : PtIn w (w.alloc (.cells #[.bool st, .int .i64 f, .int .i64 t, .slice A1 n1 c1] 26)) (st, (f, t), spans) A1 n1 c1 := ⟨Go.Deep.blk_alloc_new w _, (Below.refl _ _).alloc (Nat.le_refl _) _⟩
  have hsth := Lib.hid hst
  have haw := Lib.hid (awake_any H (w.alloc (.cells #[.bool st, .int .i64 f, .int .i64 t, .slice A1 n1 c1] 26)))
  obtain ⟨fb, hfb⟩ : ∃ fb, fewT base sides = fb := ⟨_, rfl⟩
  have hF := Lib.hid (fun (W : World) (hb : Below w.heap.size w W) => rFew_any A0 n0 c0 w.heap.size base A n c w.heap.size rows sides W hn0 hn (Strs.below h0.2.2 hb) (h1.2.2.below hb))
  rw [hfb] at hF
  unfold maxLen at hn1
  cases fb
  · clear h0 h1 hfb hst
    go_enter Try.func3, Try.ntmps3
    go_wp2_with (first
      | (go_at_call 8; refine haw.out.mono ?_; rintro e w1 ⟨rfl, hb1⟩; have hP1 := Lib.hid (hsth.out.up hb1))
      | (go_at_call 9; refine (hF.out _ hP1.out.below).mono ?_; rintro e w2 ⟨rfl, rfl⟩))
    go_ret
    exact ⟨rfl, hP1.out.below⟩
  · obtain ⟨f1, f2, f3⟩ := fewT_parts hfb
    have hn6 : n ≤ 6 := by omega
    by_cases h6 : 6 < n1
    · have h6' : decide ((6 : Int) < (n1 : Int)) = true := by simp; omega
      clear h0 h1 hfb hst f1 f2 f3
      go_enter Try.func3, Try.ntmps3
      go_wp2_with (first
        | (go_at_call 8; refine haw.out.mono ?_; rintro e w1 ⟨rfl, hb1⟩; have hP1 := Lib.hid (hsth.out.up hb1); obtain ⟨-, -, -, d3⟩ := hP1.out.all)
        | (go_at_call 9; refine (hF.out _ hP1.out.below).mono ?_; rintro e w2 ⟨rfl, rfl⟩))
      go_ret
      exact ⟨rfl, hP1.out.below⟩
    · have h6' : decide ((6 : Int) < (n1 : Int)) = false := by simp; omega
      obtain ⟨er, her⟩ : ∃ er, partErr (st, (f, t), spans) base sides = er := ⟨_, rfl⟩
      obtain ⟨bs, hbs⟩ : ∃ bs, partBase (st, (f, t), spans) base sides = bs := ⟨_, rfl⟩
      obtain ⟨ps, hps⟩ : ∃ ps, partSides (st, (f, t), spans) base sides = ps := ⟨_, rfl⟩
      have hP := Lib.hid (fun (W : World) (hb : Below w.heap.size w W) => H.parts_ok st f t spans A1 n1 c1 A0 n0 c0 base A n c rows sides W h1.1 h1.2.1 (by omega) hc.1 hc.2.1 (hc.2.2.up hb) (h0.up hb) (h1.2.2.up hb))
      have hrP := Lib.hid (fun (W : World) (hb : Below w.heap.size w W) => rParts_any st f t spans A1 n1 c1 A0 n0 c0 base A n c rows sides W (by omega) (by unfold maxLen; omega) (hc.2.2.up hb) (h0.up hb) (h1.2.2.up hb))
      rw [her, hbs, hps] at hP hrP
      clear h0 h1 hfb hst f1 f2 f3 her hbs hps hc
      go_enter Try.func3, Try.ntmps3
      go_wp2_with (first
        | (go_at_call 8; refine haw.out.mono ?_; rintro e w1 ⟨rfl, hb1⟩; have hP1 := Lib.hid (hsth.out.up hb1); obtain ⟨d0, d1, d2, d3⟩ := hP1.out.all; dsimp only at d0 d1 d2)
        | (go_at_call 9; refine (hF.out _ hP1.out.below).mono ?_; rintro e w2 ⟨rfl, rfl⟩)
        | (go_at_call 10; refine (hP.out _ hP1.out.below).mono ?_; rintro e w3 ⟨B1, m1, k1, B2, m2, k2, r2, rfl, a1, a2, a3, a4, hb3⟩; have hB3 := hP1.out.below.trans (hb3.mono hP1.out.below.size); have hP3 := Lib.hid (hP1.out.up ⟨hb3.os, hb3.tape, hb3.output, hb3.size, fun q hq => hb3.block q hq⟩); obtain ⟨g0, g1, g2, g3⟩ := hP3.out.all; dsimp only at g0 g1 g2)
        | (go_at_call 11; refine (hrP.out _ hB3).mono ?_; rintro e w4 ⟨B3, m3, k3, B4, m4, k4, r4, rfl, b1, b2, b3, b4, hb4⟩; have hB4 := hB3.trans (hb4.mono hB3.size); have hSm := Lib.hid (Same_any B1 B3 m1 m3 k1 k3 _ _ bs bs w4 (Nat.le_trans a1.1 a1.2.1) (Nat.le_trans b1.1 b1.2.1) (a1.up hb4).2.2 b1.2.2); have hAl := Lib.hid (fun q => All_any B2 B4 m2 m4 k2 k4 _ _ r2 r4 ps ps (w4.drewN q) (Nat.le_trans a2 a3) (Nat.le_trans b2 b3) ((a4.up hb4).drewN q) (b4.drewN q)))
        | (go_at_call 12; refine hSm.out.mono ?_; rintro e w5 ⟨rfl, q, rfl⟩; simp only [decide_true])
        | (go_at_call 13; refine (hAl.out q).mono ?_; rintro e w6 ⟨rfl, q2, rfl⟩; simp only [decide_true]))
      go_ret
      exact ⟨rfl, below_drewN hB4 (q + q2)⟩
end
end Go.Proofs.Ytiokgfcndemadaa

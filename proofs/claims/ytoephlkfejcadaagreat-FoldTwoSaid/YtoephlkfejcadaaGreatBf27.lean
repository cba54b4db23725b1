/- Proved here: texts joined: FoldMore, FoldLawA, ContFns, ContAsk, RowF. -/
import Derived.Test.YtoephlkfejcadaaGreatBf04
import Derived.Test.YtoephlkfejcadaaGreatBf08
import Derived.Test.YtoephlkfejcadaaGreatBf19
import Derived.Test.YtoephlkfejcadaaGreatBf20
import Derived.Test.YtoephlkfejcadaaGreatBf26
import Derived.RangeFuncBox
import Derived.Test.YtoephlkfejcadaaGreatChecked
import Derived.Deep.OwnRows
/- Proved here, without conditions: of one side, of two sides, and of one more, as Octopus tells it. -/
namespace Go.Proofs.YtoephlkfejcadaaGreat
open Go.RowKit
set_option linter.unusedVariables false

section
variable {base text s one two : Txs} {rest sides : List Txs} {er k n : Int} {ps qs : List Pc}
theorem may_few {base : Txs} {sides : List Txs} (h : (fewM base sides && decide (wrongN base sides = 0)) = true) : fewM base sides = true ∧ wrongN base sides = 0 := by
  rw [Bool.and_eq_true, decide_eq_true_eq] at h
  exact h
theorem few_lone (h : fewM base [one, two] = true) (hw : wrongN base [one, two] = 0) : fewM base [one] = true ∧ wrongN base [one] = 0 := by
  obtain ⟨v1, v2, v3, v4, v5, v6⟩ := wrong_none hw
  refine ⟨?_, wrong_zero (by simp) (by simp) v3 (fun d hd => v4 d (by simp at hd; simp [hd])) v5 fun d hd => v6 d (by simp at hd; simp [hd])⟩
  unfold fewM at h ⊢
  simp only [Bool.and_eq_true, decide_eq_true_eq, List.all_eq_true] at h ⊢
  exact ⟨⟨h.1.1, by simp⟩, fun d hd => h.2 d (by simp at hd; simp [hd])⟩
theorem octs_lone (hw : wrongN base [one] = 0) (ho : OctsTo base [one] er k ps) : er = 0 ∧ k = 1 ∧ ps = normal [tPc one] := by
  have h2 : OctsTo base [one] 0 1 (normal [tPc one]) := by
    unfold OctsTo
    rw [if_neg (by rw [hw]; simp)]
    exact ⟨one, [], rfl, .done one 1⟩
  exact ho.one h2
theorem octs_pair (h : fewM base [one, two] = true) (hw : wrongN base [one, two] = 0) (ho : OctsTo base [one, two] er k qs) (hm : MergesTo base [one, two] 0 false 0 ps) : er = 0 ∧ qs = ps ∧ (k = 2 ↔ cleanB ps = true) ∧ (k = 1 ↔ cleanB ps = false) := by
  unfold OctsTo at ho
  rw [if_neg (by rw [hw]; simp)] at ho
  obtain ⟨s, rest, e, hF⟩ := ho
  injection e with e1 e2
  subst e1
  subst e2
  exact octs_two (FewG.start h hw).1 hF hm
theorem few_less (h : fewM base (sides ++ [one]) = true) (hn : sides ≠ []) (hw : wrongN base (sides ++ [one]) = 0) : fewM base sides = true ∧ wrongN base sides = 0 := by
  obtain ⟨v1, v2, v3, v4, v5, v6⟩ := wrong_none hw
  rw [List.length_append] at v2
  have h1 : 1 ≤ sides.length := by cases sides with | nil => exact absurd rfl hn | cons => simp
  refine ⟨?_, wrong_zero h1 (by omega) v3 (fun d hd => v4 d (List.mem_append_left _ hd)) v5 fun d hd => v6 d (List.mem_append_left _ hd)⟩
  obtain ⟨u1, -, -, -⟩ := fewM_small h
  rw [List.length_append, List.length_singleton] at u1
  unfold fewM at h ⊢
  rw [List.take_of_length_le (by rw [List.length_append, List.length_singleton]; omega)] at h
  rw [List.take_of_length_le (by omega)]
  simp only [Bool.and_eq_true, decide_eq_true_eq, List.all_eq_true] at h ⊢
  exact ⟨⟨h.1.1, by omega⟩, fun d hd => h.2 d (List.mem_append_left _ hd)⟩
/-- One side more, behind what isn't clean. -/
theorem octs_more (h : fewM base sides = true) (hw : wrongN base sides = 0) (hw2 : wrongN base (sides ++ [one]) = 0) (ho : OctsTo base sides 0 k ps) (hc : cleanB ps = false) : OctsTo base (sides ++ [one]) 0 k ps := by
  unfold OctsTo at ho ⊢
  rw [if_neg (by rw [hw]; simp)] at ho
  rw [if_neg (by rw [hw2]; simp)]
  obtain ⟨s, rest, rfl, hF⟩ := ho
  exact ⟨s, rest ++ [one], rfl, hF.more (FewG.start h hw).1 hc⟩
theorem Folds.last (h : Folds base text rest n er k qs) (hf : FewG base text (rest ++ [one])) (hc : cleanB qs = true) : FewG base (choose qs 0) [one] := by
  induction h with
  | done text n => rw [choose_text]; exact hf
  | bad hm he => exact absurd (FewG.step hf hm).1 he
  | stop hm hc2 => rw [hc2] at hc; cases hc
  | goes hm hc2 hr ih => exact ih ((FewG.step hf hm).2 hc2).1 hc
/-- One side more, behind what is clean: what there is, and that side, are few. -/
theorem octs_last (h2 : fewM base (sides ++ [one]) = true) (hw : wrongN base sides = 0) (hw2 : wrongN base (sides ++ [one]) = 0) (ho : OctsTo base sides er k ps) (hc : cleanB ps = true) : FewG base (choose ps 0) [one] := by
  unfold OctsTo at ho
  rw [if_neg (by rw [hw]; simp)] at ho
  obtain ⟨s, rest, rfl, hF⟩ := ho
  exact hF.last (FewG.start h2 hw2) hc
theorem octs_most (h : fewM base sides = true) (hw : wrongN base sides = 0) (h2 : fewM base (sides ++ [one]) = true) (hw2 : wrongN base (sides ++ [one]) = 0) (ho : OctsTo base sides er k ps) (hc : cleanB ps = true) {er' er2 k2 : Int} {rs : List Pc} (hm : MergesTo base [choose ps 0, one] 0 false er' qs) (ho2 : OctsTo base (sides ++ [one]) er2 k2 rs) : rs = qs := by
  unfold OctsTo at ho
  rw [if_neg (by rw [hw]; simp)] at ho
  obtain ⟨s, rest, rfl, hF⟩ := ho
  obtain ⟨-, k', hk⟩ := hF.most (FewG.start h hw).1 hc hm (FewG.start h2 hw2).1
  have h3 : OctsTo base (s :: rest ++ [one]) 0 k' qs := by
    unfold OctsTo
    rw [if_neg (by rw [hw2]; simp)]
    exact ⟨s, rest ++ [one], rfl, hk⟩
  exact (ho2.one h3).2.2
end
end Go.Proofs.YtoephlkfejcadaaGreat
/- Proved here: what the statements FoldTells and FoldStops say, by the contracts of packages fold and pick. -/
namespace Go.Proofs.YtoephlkfejcadaaGreat
open Go.RowKit
set_option linter.unusedVariables false
set_option maxRecDepth 100000

section
variable (H : FoldOk)
include H

set_option maxHeartbeats 4000000 in
theorem FoldTells_walk (A0 : Option Addr) (n0 c0 : Nat) (base : Txs) (A : Option Addr) (n c : Nat) (rows : List Slc) (sides : List Txs) (w : World) (h0 : TxR w w.heap.size (A0, n0, c0) base) (h1 : n ≤ c ∧ c ≤ maxLen ∧ RowsT w w.heap.size A n rows sides) :
    Calls Tryz.prog 3 #[.slice A0 n0 c0, .slice A n c] w fun e w' => e = .returned (.bool true) ∧ Below w.heap.size w w' := by
  have haw := Lib.hid (fAwake_any H w)
  obtain ⟨fm, hfm⟩ : ∃ fm, fewM base sides = fm := ⟨_, rfl⟩
  have hF := Lib.hid (fun (W : World) (hb : Below w.heap.size w W) => mFew_any A0 n0 c0 W.heap.size base A n c W.heap.size rows sides W (Nat.le_trans h0.1 h0.2.1) (Nat.le_trans h1.1 h1.2.1) (h0.up hb).2.2 (h1.2.2.up hb))
  rw [hfm] at hF
  cases fm
  · clear h0 h1 hfm
    go_enter Tryz.func3, Tryz.ntmps3
    go_wp2_with (first
      | (go_at_call 7; refine haw.out.mono ?_; rintro e w1 ⟨rfl, hb1⟩; have hB1 := Lib.hid hb1; clear hb1)
      | (go_at_call 8; refine (hF.out _ hB1.out).mono ?_; rintro e w2 ⟨rfl, rfl⟩))
    go_ret
    exact ⟨rfl, hB1.out⟩
  have hO := Lib.hid (fun (W : World) (hb : Below w.heap.size w W) => H.oct_ok A0 n0 c0 base A n c rows sides W h1.1 h1.2.1 hfm (h0.up hb) (h1.2.2.up hb))
  have hR := Lib.hid (fun (W : World) (hb : Below w.heap.size w W) => rOcts_any A0 n0 c0 base A n c rows sides W h1.1 h1.2.1 hfm (h0.up hb) (h1.2.2.up hb))
  clear h0 h1 hfm
  go_enter Tryz.func3, Tryz.ntmps3
  go_wp2_with (first
    | (go_at_call 7; refine haw.out.mono ?_; rintro e w1 ⟨rfl, hb1⟩; have hB1 := Lib.hid hb1; clear hb1)
    | (go_at_call 8; refine (hF.out _ hB1.out).mono ?_; rintro e w2 ⟨rfl, rfl⟩)
    | (go_at_call 9; refine (hO.out _ hB1.out).mono ?_; rintro e w3 ⟨er, k, A1, n1, c1, vs1, ps1, rfl, q1, q2, q3, q4, q5⟩; have hq1 := Lib.hid (And.intro (Nat.le_trans q1 q2) q3); have hO1 := Lib.hid q4; have hB3 := Lib.hid (hB1.out.trans (q5.mono hB1.out.size)); clear q1 q2 q3 q4 q5)
    | (go_at_call 10; refine (hR.out _ hB3.out).mono ?_; rintro e w4 ⟨er2, k2, A2, n2, c2, vs2, ps2, rfl, q1, q2, q3, q4, q5⟩; obtain ⟨rfl, rfl, rfl⟩ := hO1.out.one q4; have hS := Lib.hid (pSame_any A1 A2 n1 n2 c1 c2 w4.heap.size w4.heap.size vs1 vs2 ps1 ps1 w4 hq1.out.1 (Nat.le_trans q1 q2) (hq1.out.2.up q5) q3); rw [show decide (ps1 = ps1) = true from decide_eq_true rfl] at hS; have hB4 := Lib.hid (hB3.out.trans (q5.mono hB3.out.size)); clear q1 q2 q3 q4 q5)
    | (go_at_call 11; refine hS.out.mono ?_; rintro e w5 ⟨rfl, z5, rfl⟩))
  go_ret
  exact ⟨rfl, below_drewN hB4.out z5⟩

set_option maxHeartbeats 4000000 in
theorem FoldStops_walk (A0 : Option Addr) (n0 c0 : Nat) (base : Txs) (A : Option Addr) (n c : Nat) (rows : List Slc) (sides : List Txs) (w : World) (h0 : TxR w w.heap.size (A0, n0, c0) base) (h1 : n ≤ c ∧ c ≤ maxLen ∧ RowsT w w.heap.size A n rows sides) :
    Calls Tryz.prog 6 #[.slice A0 n0 c0, .slice A n c] w fun e w' => e = .returned (.bool true) ∧ Below w.heap.size w w' := by
  have haw := Lib.hid (fAwake_any H w)
  have hl := h1.2.2.len
  obtain ⟨fm, hfm⟩ : ∃ fm, (fewM base sides && decide (wrongN base sides = 0)) = fm := ⟨_, rfl⟩
  have hF := Lib.hid (fun (W : World) (hb : Below w.heap.size w W) => mMay_any A0 n0 c0 base A n c W.heap.size rows sides W (Nat.le_trans h0.1 h0.2.1) (Nat.le_trans h1.1 h1.2.1) (h0.up hb).2.2 (h1.2.2.up hb))
  rw [hfm] at hF
  cases fm
  · clear h0 h1 hfm
    go_enter Tryz.func6, Tryz.ntmps6
    go_wp2_with (first
      | (go_at_call 7; refine haw.out.mono ?_; rintro e w1 ⟨rfl, hb1⟩; have hB1 := Lib.hid hb1; clear hb1)
      | (go_at_call 12; refine (hF.out _ hB1.out).mono ?_; rintro e w2 ⟨rfl, rfl⟩))
    go_ret
    exact ⟨rfl, hB1.out⟩
  obtain ⟨hfew, hwr⟩ := may_few hfm
  have hO : Hid (∀ (W : World), Below w.heap.size w W → Calls Tryz.prog 9 #[.slice A0 n0 c0, .slice A n c] W fun e w' => ∃ (k : Int) (A1 : Option Addr) (n1 c1 : Nat) (vs : List PcV) (ps : List Pc), e = .returned (.tuple #[.slice A1 n1 c1, .int .i64 k, .int .i64 0]) ∧ (n1 ≤ c1 ∧ c1 ≤ maxLen ∧ n1 ≤ 10000 ∧ (∀ z, (choose ps z).length ≤ 1000000) ∧ Pcs w' w'.heap.size A1 n1 vs ps) ∧ OctsTo base sides 0 k ps ∧ (1 ≤ k ∧ k ≤ n ∧ (k = n ↔ cleanB ps = true) ∧ (cleanB ps = true → mayB (choose ps 0) = true ∧ ps = normal [tPc (choose ps 0)])) ∧ Below w.heap.size w w') := Lib.hid (fun W hb => by
    refine (H.oct_ok A0 n0 c0 base A n c rows sides W h1.1 h1.2.1 hfew (h0.up hb) (h1.2.2.up hb)).mono ?_
    rintro e w' ⟨er, k, A1, n1, c1, vs, ps, rfl, q1, q2, q3, q4, q5⟩
    obtain ⟨rfl, r2, r3, r4, r5⟩ := octs_few hfew hwr q4
    obtain ⟨s1, s2⟩ := octs_size hfew q4
    rw [hl] at r3 r4
    exact ⟨k, A1, n1, c1, vs, ps, rfl, ⟨q1, q2, by have := q3.len; omega, s2, q3⟩, q4, ⟨r2, r3, r4, r5⟩, hb.trans (q5.mono hb.size)⟩)
  have hClean : Hid (∀ (A1 : Option Addr) (n1 c1 : Nat) (vs : List PcV) (ps : List Pc) (W V : World), (n1 ≤ c1 ∧ c1 ≤ maxLen ∧ n1 ≤ 10000 ∧ (∀ z, (choose ps z).length ≤ 1000000) ∧ Pcs W W.heap.size A1 n1 vs ps) → Below W.heap.size W V → Calls Tryz.prog 14 #[.slice A1 n1 c1] V fun e w' => e = .returned (.bool (cleanB ps)) ∧ Below V.heap.size V w') := Lib.hid (fun A1 n1 c1 vs ps W V h hV => H.clean_ok A1 n1 c1 vs ps V h.1 h.2.1 h.2.2.1 (h.2.2.2.2.up hV))
  have hCh : Hid (∀ (A1 : Option Addr) (n1 c1 : Nat) (vs : List PcV) (ps : List Pc) (W V : World), (n1 ≤ c1 ∧ c1 ≤ maxLen ∧ n1 ≤ 10000 ∧ (∀ z, (choose ps z).length ≤ 1000000) ∧ Pcs W W.heap.size A1 n1 vs ps) → Below W.heap.size W V → Calls Tryz.prog 16 #[.slice A1 n1 c1, .int .i64 0] V fun e w' => TxsOut V w' e (choose ps 0)) := Lib.hid (fun A1 n1 c1 vs ps W V h hV => H.choose_ok A1 n1 c1 vs ps 0 V h.1 h.2.1 h.2.2.1 (by unfold inR64; omega) (h.2.2.2.1 0) (h.2.2.2.2.up hV))
  have hlh := Lib.hid hl
  have hfh := Lib.hid (And.intro hfew hwr)
  clear h0 h1 hfm hfew hwr hl
  go_enter Tryz.func6, Tryz.ntmps6
  go_upto_region 5 with (first
    | (go_at_call 7; refine haw.out.mono ?_; rintro e w1 ⟨rfl, hb1⟩; have hB1 := Lib.hid hb1; clear hb1)
    | (go_at_call 12; refine (hF.out _ hB1.out).mono ?_; rintro e w2 ⟨rfl, rfl⟩)
    | (go_at_call 9; refine (hO.out _ hB1.out).mono ?_; rintro e w3 ⟨k, A1, n1, c1, vs1, ps1, rfl, q1, q2, q3, q4⟩; have hq1 := Lib.hid q1; have hO1 := Lib.hid q2; have hk1 := Lib.hid q3; have hB3 := Lib.hid q4; clear q1 q2 q3 q4))
  obtain ⟨k1, k2, k3, k4⟩ := hk1.out
  obtain ⟨K, rfl⟩ : ∃ K : Nat, k = K := ⟨k.toNat, by omega⟩
  obtain ⟨cl, hcl⟩ : ∃ cl, cleanB ps1 = cl := ⟨_, rfl⟩
  have hCl := hClean.out A1 n1 c1 vs1 ps1 w3
  rw [hcl] at hCl k3 k4
  have hClh := Lib.hid hCl
  clear hCl hk1
  have tok1 := trivial
  cases cl
  · have hkn : ((K : Int) == (n : Int)) = false := by
      have : ¬ (K : Int) = n := fun e => by have := k3.1 e; cases this
      simpa using this
    clear k3 k4
    go_wp2_with (first
      | (go_at_call 14; have _t := tok1; refine (hClh.out w3 hq1.out (Below.refl _ _)).mono ?_; rintro e w4 ⟨rfl, hb4⟩; have hB4 := Lib.hid hb4; clear hb4 tok1)
      | (go_at_call 14; refine (hClh.out _ hq1.out hB4.out).mono ?_; rintro e w5 ⟨rfl, hb5⟩; have hB5 := Lib.hid (hB4.out.trans (hb5.mono hB4.out.size)); clear hb5))
    go_ret
    exact ⟨rfl, hB3.out.trans (hB5.out.mono hB3.out.size)⟩
  · have hkn : K = n := by have := k3.2 rfl; omega
    subst hkn
    obtain ⟨hmy, hps⟩ := k4 rfl
    have hmx : Hid (∀ s ∈ choose ps1 0, s.length ≤ maxLen) := Lib.hid (octs_bytes hfh.out.1 hfh.out.2 hO1.out hcl 0)
    have hMy : Hid (∀ (A1 : Option Addr) (n1 c1 : Nat) (W : World), TxR W W.heap.size (A1, n1, c1) (choose ps1 0) → Calls Tryz.prog 17 #[.slice A1 n1 c1] W fun e w' => e = .returned (.bool true) ∧ W = w') := Lib.hid (fun A1 n1 c1 W hT => by
      have := rMayB_any A1 n1 c1 W.heap.size _ W (Nat.le_trans hT.1 hT.2.1) hmx.out hT.2.2
      rw [hmy] at this
      exact this)
    clear k3 k4 hmy hps hcl
    go_wp2_with (first
      | (go_at_call 14; have _t := tok1; refine (hClh.out w3 hq1.out (Below.refl _ _)).mono ?_; rintro e w4 ⟨rfl, hb4⟩; have hB4 := Lib.hid hb4; clear hb4 tok1)
      | (go_at_call 14; refine (hClh.out _ hq1.out hB4.out).mono ?_; rintro e w5 ⟨rfl, hb5⟩; have hB5 := Lib.hid (hB4.out.trans (hb5.mono hB4.out.size)); clear hb5)
      | (go_at_call 16; refine (hCh.out _ _ _ _ _ _ _ hq1.out hB5.out).mono ?_; rintro e w6 ⟨A6, n6, c6, rfl, r1, r2⟩; have hT6 := Lib.hid r1; have hB6 := Lib.hid (hB5.out.trans (r2.mono hB5.out.size)); clear r1 r2)
      | (go_at_call 17; refine (hMy.out _ _ _ _ hT6.out).mono ?_; rintro e w7 ⟨rfl, rfl⟩))
    go_ret
    exact ⟨rfl, hB3.out.trans (hB6.out.mono hB3.out.size)⟩
end
end Go.Proofs.YtoephlkfejcadaaGreat
/- Proved here: contracts of small functions of the landed package content: isSpan, cut. -/
namespace Go.Proofs.YtoephlkfejcadaaGreat
open Go.RowKit
set_option linter.unusedVariables false

set_option maxHeartbeats 800000 in
theorem isSpan_any (a b : Int) (n : Nat) (w : World) (hn : n ≤ maxLen) :
    Calls Tryz.prog 105 #[.agg #[.int .i64 a, .int .i64 b], .int .i64 n] w fun e w' => e = .returned (.bool (inB (a, b) n)) ∧ Below w.heap.size w w' := by
  have hb : Below w.heap.size w (w.alloc (.cells #[.int .i64 a, .int .i64 b] 88)) := (Below.refl _ _).alloc (Nat.le_refl _) _
  have hbh := Lib.hid hb
  obtain ⟨r, hr⟩ : ∃ r, inB (a, b) n = r := ⟨_, rfl⟩
  have hrh := Lib.hid hr
  rw [hr]
  clear hb hr
  unfold maxLen at hn
  by_cases h1 : 0 ≤ a
  · by_cases h2 : a ≤ b
    · by_cases h3 : b ≤ n
      · have hrt : r = true := by rw [← hrh.out]; unfold inB; simp [h1, h2, h3]
        subst hrt
        have d1 : decide (0 ≤ a) = true := by simpa using h1
        have d2 : decide (a ≤ b) = true := by simpa using h2
        have d3 : decide (b ≤ (n : Int)) = true := by simpa using h3
        go_enter Tryz.func105, Tryz.ntmps105
        go_wp2
        go_ret
        exact ⟨rfl, hbh.out⟩
      · have hrt : r = false := by rw [← hrh.out]; unfold inB; simp [h3]
        subst hrt
        have d1 : decide (0 ≤ a) = true := by simpa using h1
        have d2 : decide (a ≤ b) = true := by simpa using h2
        have d3 : decide (b ≤ (n : Int)) = false := by simpa using h3
        go_enter Tryz.func105, Tryz.ntmps105
        go_wp2
        go_ret
        exact ⟨rfl, hbh.out⟩
    · have hrt : r = false := by rw [← hrh.out]; unfold inB; simp [h2]
      subst hrt
      have d1 : decide (0 ≤ a) = true := by simpa using h1
      have d2 : decide (a ≤ b) = false := by simpa using h2
      go_enter Tryz.func105, Tryz.ntmps105
      go_wp2
      go_ret
      exact ⟨rfl, hbh.out⟩
  · have hrt : r = false := by rw [← hrh.out]; unfold inB; simp [h1]
    subst hrt
    have d1 : decide (0 ≤ a) = false := by simpa using h1
    go_enter Tryz.func105, Tryz.ntmps105
    go_wp2
    go_ret
    exact ⟨rfl, hbh.out⟩

set_option maxRecDepth 100000 in
/-- A part of texts, cut by three indices. -/
theorem slice3_txs {w : World} {B n c : Nat} {A : Option Addr} {ss : Txs} {f t : Int} (h : TxR w B (A, n, c) ss) (h0 : 0 ≤ f) (h1 : f ≤ t) (h2 : t ≤ n) :
    ∃ A' m, (∀ W : World, (Instr.slice 22 (.slice A n c) (some (.int .i64 f)) (some (.int .i64 t)) (some (.int .i64 t))).run Tryz.prog W = .ok (.slice A' m m) W) ∧ TxR w B (A', m, m) (cutL ss f t) := by
  obtain ⟨e1, e2, e3⟩ := h
  dsimp only at e1 e2 e3
  have hl := e3.len
  have hm : t.toNat - f.toNat = (t - f).toNat := by omega
  refine ⟨(if t.toNat = f.toNat then A else A.map (·.add f.toNat)), t.toNat - f.toNat, fun W => ?_, Nat.le_refl _, ?_, ?_⟩
  · rw [run_slice_lhm (P := Tryz.prog) W 22 A n c Tryz.underlying22 .i64 .i64 .i64 f t t h0 h1 (Int.le_refl _) (by omega)]
    go_simp
  · show t.toNat - f.toNat ≤ maxLen
    omega
  · show Reads _ _ _ (t.toNat - f.toNat) _
    refine ⟨by rw [List.length_map, cutL_len h0 h1 (by omega)]; omega, fun hn => ?_⟩
    obtain ⟨b, o, rfl, hb, hc⟩ := e3.2 (by omega)
    rw [if_neg (by omega)]
    refine ⟨b, o + f.toNat, ?_, hb, fun j u hu => ?_⟩
    · simp only [Option.map_some]
      unfold Addr.add
      split
      · rename_i h
        rw [h]; rfl
      · rfl
    · rw [Nat.add_assoc]
      refine hc _ u ?_
      have hj := (List.getElem?_eq_some_iff.1 hu).1
      rw [List.length_map, cutL_len h0 h1 (by omega)] at hj
      rw [← hu, List.getElem?_map, List.getElem?_map]
      unfold cutL
      rw [List.getElem?_take, if_pos hj, List.getElem?_drop]

set_option maxHeartbeats 800000 in
theorem cut_any (A : Option Addr) (n c B : Nat) (ss : Txs) (f t : Int) (w : World) (hA : TxR w B (A, n, c) ss) (h0 : 0 ≤ f) (h1 : f ≤ t) (h2 : t ≤ n) :
    Calls Tryz.prog 106 #[.slice A n c, .agg #[.int .i64 f, .int .i64 t]] w fun e w' => ∃ A' m, e = .returned (.slice A' m m) ∧ TxR w B (A', m, m) (cutL ss f t) ∧ Below w.heap.size w w' := by
  have hb : Below w.heap.size w (w.alloc (.cells #[.int .i64 f, .int .i64 t] 88)) := (Below.refl _ _).alloc (Nat.le_refl _) _
  obtain ⟨A', m, hs, hT⟩ := slice3_txs hA h0 h1 h2
  have hbh := Lib.hid hb
  have hTh := Lib.hid hT
  have h1h := Lib.hid h1
  have h2h := Lib.hid h2
  clear hb hT hA h1 h2 h0
  go_enter Tryz.func106, Tryz.ntmps106
  go_wp2
  go_ret
  exact ⟨A', m, rfl, hTh.out, hbh.out⟩

end Go.Proofs.YtoephlkfejcadaaGreat
/- Proved here: the contract of the closure with which the landed package content asks a span, and Parts, as the laws of layer 6 ask it. -/
namespace Go.Proofs.YtoephlkfejcadaaGreat
open Go.RowKit
set_option linter.unusedVariables false

/-- The texts in a span; none, if it is no span of them. -/
def askT (ss : Txs) (s : Sp) : Txs := if inB s ss.length then cutT ss s else []

set_option maxRecDepth 100000 in
set_option maxHeartbeats 1000000 in
theorem ask_any (L : Nat) (ok : Bool) (A : Option Addr) (n c B : Nat) (ss : Txs) (a b : Int) (w : World) (hA : TxR w B (A, n, c) ss) (hBw : B ≤ w.heap.size) (hLB : B ≤ L) (hL : Boxed w L 4 (.bool ok)) :
    Calls Tryz.prog 104 #[.slice A n c, .agg #[.int .i64 a, .int .i64 b], .pointer (some ⟨L, 0, none⟩)] w fun e w' => ∃ A' m, e = .returned (.slice A' m m) ∧ TxR w B (A', m, m) (askT ss (a, b)) ∧ Boxed w' L 4 (.bool (ok && inB (a, b) n)) ∧ But (fun k => k = L) w w' := by
  have hn : n ≤ maxLen := Nat.le_trans hA.1 hA.2.1
  have hl : ss.length = n := hA.2.2.len
  have hb1 : Below w.heap.size w (w.alloc (.cells #[.int .i64 a, .int .i64 b] 88)) := (Below.refl _ _).alloc (Nat.le_refl _) _
  have hS := isSpan_any a b n (w.alloc (.cells #[.int .i64 a, .int .i64 b] 88)) hn
  have hbox : Boxed (w.alloc (.cells #[.int .i64 a, .int .i64 b] 88)) L 4 (.bool ok) := (hb1.block _ hL.lt).trans hL
  have hLlt := hL.lt
  have hs0 : (w.alloc (.cells #[.int .i64 a, .int .i64 b] 88)).heap[w.heap.size]? = some (.cells #[.int .i64 a, .int .i64 b] 88 (0, 0)) := Go.Deep.blk_alloc_new w _
  have hz0 : w.heap.size < (w.alloc (.cells #[.int .i64 a, .int .i64 b] 88)).heap.size := by simp
  obtain ⟨r, hr⟩ : ∃ r, inB (a, b) n = r := ⟨_, rfl⟩
  have hrh := Lib.hid hr
  have hlh := Lib.hid hl
  rw [hr] at hS ⊢
  have hbh := Lib.hid hb1
  have hSh := Lib.hid hS
  have hboxh := Lib.hid hbox
  have hs0h := Lib.hid hs0
  have hz0h := Lib.hid hz0
  have hAh := Lib.hid hA
  clear hA hL hS hb1 hr hbox hs0 hl hz0
  cases r
  · have heq : askT ss (a, b) = [] := by unfold askT; rw [hlh.out, hrh.out]; rfl
    have heqh := Lib.hid heq
    have hand : (ok && false) = false := by simp
    have handh := Lib.hid hand
    clear heq hand
    go_enter Tryz.func104, Tryz.ntmps104
    go_wp2_with (go_at_call 105; refine hSh.out.mono ?_; rintro e w1 ⟨rfl, hb2⟩; have hbx1 : Boxed w1 L 4 (.bool ok) := ((hb2.block _ hboxh.out.lt).trans hboxh.out); have d1 := hbx1.cell; have d2 := hbx1.frozen; have hb2h := Lib.hid hb2; have hbx := Lib.hid hbx1; clear hb2 hbx1)
    go_ret
    refine ⟨.none, 0, rfl, ?_, ?_, ?_⟩
    · rw [heqh.out]; exact TxR.nil _ _
    · rw [handh.out]
      show (w1.setCell ⟨L, 0, none⟩ (.bool false)).heap[L]? = _
      simp [World.setCell, Array.getElem?_modify, show w1.heap[L]? = _ from hbx.out]
    · exact (But.of_below (F := fun k => k = L) (hbh.out.trans (hb2h.out.mono (Nat.le_of_lt hz0h.out))) fun k hk _ => hk).trans (But.setCell (F := fun k => k = L) w1 (p := ⟨L, 0, none⟩) rfl _) fun k e => .inl e
  · have hin := inB_parts hrh.out
    obtain ⟨i1, i2, i3⟩ := hin
    dsimp only at i1 i2 i3
    have heq : askT ss (a, b) = cutL ss a b := by unfold askT; rw [hlh.out, hrh.out]; rfl
    have heqh := Lib.hid heq
    have hand : (ok && true) = ok := by simp
    have handh := Lib.hid hand
    have hC : Hid (∀ W : World, Below w.heap.size w W → Calls Tryz.prog 106 #[.slice A n c, .agg #[.int .i64 a, .int .i64 b]] W fun e w' => ∃ A' m, e = .returned (.slice A' m m) ∧ TxR W B (A', m, m) (cutL ss a b) ∧ Below W.heap.size W w') :=
      Lib.hid fun W hW => cut_any A n c B ss a b W (hAh.out.below (hW.mono hBw)) i1 i2 i3
    clear heq hand i1 i2 i3
    go_enter Tryz.func104, Tryz.ntmps104
    go_wp2_with (first
      | (go_at_call 105; refine hSh.out.mono ?_; rintro e w1 ⟨rfl, hb2⟩; have hb3 := Lib.hid (hbh.out.trans (hb2.mono (Nat.le_of_lt hz0h.out))); have e1 : w1.heap[w.heap.size]? = _ := ((hb2.block _ hz0h.out).trans hs0h.out); have e2 : w1.cell? ⟨w.heap.size, 0, none⟩ = some (.int .i64 a) := (by rw [cells_of e1]; rfl); have e3 : w1.cell? ⟨w.heap.size, 1, none⟩ = some (.int .i64 b) := (by rw [cells_of e1]; rfl); have hbx := Lib.hid (show Boxed w1 L 4 (.bool ok) from (hb2.block _ hboxh.out.lt).trans hboxh.out); clear hb2 e1)
      | (go_at_call 106; refine (hC.out _ hb3.out).mono ?_; rintro e w2 ⟨A2, m2, rfl, hT2, hb4⟩; have hT3 := Lib.hid hT2; have hb5 := Lib.hid hb4; clear hT2 hb4))
    go_ret
    refine ⟨A2, m2, rfl, ?_, ?_, ?_⟩
    · rw [heqh.out]
      exact hT3.out.keep fun p hp => (hb3.out.cell (p := p) (by omega)).symm
    · rw [handh.out]
      exact (hb5.out.block _ hbx.out.lt).trans hbx.out
    · exact But.of_below (F := fun k => k = L) (hb3.out.trans (hb5.out.mono hb3.out.size)) fun k hk _ => hk
end Go.Proofs.YtoephlkfejcadaaGreat
/- Proved here, without conditions: a new slice of slices of texts, and its cells as they are set one by one. -/
namespace Go.Proofs.YtoephlkfejcadaaGreat
open Go.RowKit
set_option linter.unusedVariables false

theorem make_rows (n : Nat) (hn : n ≤ 1000000) (w : World) : (Instr.makeSlice 23 (.int .i64 (n : Int)) (.int .i64 (n : Int))).run Tryz.prog w = .ok (.slice (some ⟨w.heap.size, 0, none⟩) n n) (w.alloc (.cells (madeCells #[.slice none 0 0] n) 22)) := by
  obtain ⟨i, hi, hzz⟩ := Option.map_eq_some_iff.1 infoTxs
  simp only [Prod.mk.injEq] at hzz
  obtain ⟨hz, hs, hb⟩ := hzz
  have := run_make (P := Tryz.prog) w 23 22 i (.slice none 0 0) Tryz.underlying23 hi hz .i64 .i64 n n (by omega) (Int.le_refl _) (by rw [hb]; omega) (by omega)
  simp only [Int.toNat_natCast, hs, Nat.mul_one] at this
  exact this

/-- The cells of parts, as far as they are asked. -/
def rowF (rs : List Slc) (i : Nat) : Value := slcV (rs.getD i (none, 0, 0))
theorem rowF_set {w : World} {G n k : Nat} {rs : List Slc} {r : Slc} (h : w.rowIs G 22 n (rowF rs)) (hk : rs.length = k) : (w.setCell ⟨G, k, none⟩ (slcV r)).rowIs G 22 n (rowF (rs ++ [r])) := by
  refine (h.set k _).congr fun i hi => ?_
  unfold rowF
  subst hk
  by_cases e : i = rs.length
  · subst e
    simp
  · rw [if_neg e]
    congr 1
    rw [List.getD_eq_getElem?_getD, List.getD_eq_getElem?_getD]
    rcases Nat.lt_or_ge i rs.length with h1 | h1
    · rw [List.getElem?_append_left h1]
    · rw [List.getElem?_eq_none h1, List.getElem?_eq_none (by simp; omega)]

end Go.Proofs.YtoephlkfejcadaaGreat

/- Proved here: texts joined: FoldLawC. -/
import Derived.Test.YtoephlkfejcadaaGreatBf46
/- Proved here: what the statement FoldGoes says, by the contracts of packages fold, merge and pick. -/
namespace Go.Proofs.YtoephlkfejcadaaGreat
open Go.RowKit
set_option linter.unusedVariables false
set_option maxRecDepth 100000

/-- One row more. -/
theorem rowsT_one {w : World} {B n : Nat} {A A' : Option Addr} {rows : List Slc} {sss : List Txs} {r1 : Slc} {s1 : Txs} (h : RowsT w B A n rows sss) (h1 : TxR w B r1 s1) (hr : Reads w B A' (n + 1) (rows.map slcV ++ [slcV r1])) : RowsT w B A' (n + 1) (rows ++ [r1]) (sss ++ [s1]) := by
  have hl := h.2.1
  refine ⟨by rw [List.map_append]; exact hr, by simp [hl], fun k r ss a b => ?_⟩
  rcases Nat.lt_or_ge k rows.length with hk | hk
  · rw [List.getElem?_append_left hk] at a
    rw [List.getElem?_append_left (by omega)] at b
    exact h.2.2 _ r ss a b
  · rw [List.getElem?_append_right hk] at a
    rw [List.getElem?_append_right (by omega), ← hl] at b
    match hq : k - rows.length with
    | 0 => rw [hq] at a b; simp at a b; subst a; subst b; exact h1
    | j + 1 => rw [hq] at a; simp at a

section
variable (H : FoldOk)
include H

set_option maxHeartbeats 8000000 in
theorem FoldGoes_walk (A0 : Option Addr) (n0 c0 : Nat) (base : Txs) (A : Option Addr) (n c : Nat) (rows : List Slc) (sides : List Txs) (A1 : Option Addr) (n1 c1 : Nat) (one : Txs) (w : World) (h0 : TxR w w.heap.size (A0, n0, c0) base) (hs : n ≤ c ∧ c ≤ maxLen ∧ RowsT w w.heap.size A n rows sides) (hsz : n * 24 ≤ 140737488351232) (h1 : TxR w w.heap.size (A1, n1, c1) one) :
    Calls Tryz.prog 5 #[.slice A0 n0 c0, .slice A n c, .slice A1 n1 c1] w fun e w' => e = .returned (.bool true) ∧ Below w.heap.size w w' := by
  have haw := Lib.hid (fAwake_any H w)
  have hl := hs.2.2.len
  obtain ⟨i0, hi, hzz⟩ := Option.map_eq_some_iff.1 infoTxs
  simp only [Prod.mk.injEq] at hzz
  obtain ⟨hz0, hz1, hz2⟩ := hzz
  have hmax : Hid (0 + n ≤ maxLen ∧ (0 + n) * 24 ≤ 140737488355328 ∧ 0 + n + 1 ≤ maxLen ∧ (0 + n + 1) * 24 ≤ 140737488355328) := Lib.hid (by unfold maxLen; omega)
  have hsh := Lib.hid hs
  have h0h := Lib.hid h0
  have h1h := Lib.hid h1
  have hlh := Lib.hid hl
  have tok1 := trivial
  clear hs h0 h1 hsz hl
  go_enter Tryz.func5, Tryz.ntmps5
  go_upto_region 3 with (first
    | (go_at_call 7; refine haw.out.mono ?_; rintro e w1 ⟨rfl, hb1⟩; have hB1 := Lib.hid hb1; have hown := own_empty w1 w1.heap.size 22 (Nat.le_refl _); have hrd := (hsh.out.2.2.up hb1).1.below ((Below.refl w1.heap.size w1).alloc (Nat.le_refl _) (.cells #[] 22)); clear hb1)
    | (at_builtin; have _t := tok1; refine wpList_append_reads _ rfl _ _ 23 rfl w1.heap.size 22 i0 (.slice none 0 0) 24 Tryz.underlying23 hi hz0 hz1 hz2 rfl _ 0 [] rfl hown w1.heap.size A n c (rows.map slcV) rfl hrd (slcV_one _) hmax.out.1 hmax.out.2.1 (by simp) ?_; intro v1 w2 hown1 hg1; have hb2 : Below w1.heap.size w1 w2 := ((Below.refl w1.heap.size w1).alloc (Nat.le_refl _) _).grown hg1 (by simp) (fun g e => (hown.lt g e).1); have hsz2 := hb2.size; clear tok1 hg1 hown hrd)
    | (at_builtin; refine wpList_append_own_at _ rfl _ _ 23 rfl w1.heap.size 22 i0 (.slice none 0 0) 1 24 Tryz.underlying23 hi hz0 hz1 hz2 rfl (by decide) v1 (0 + n) _ rfl (hown1.alloc _) ⟨w2.heap.size, 0, none⟩ 1 1 [.slice A1 n1 c1] rfl rfl (cell_one_new _ _ _) (by simp [Value.oneCell']) hmax.out.2.2.1 hmax.out.2.2.2 (by simp; omega) ?_; intro v2 w3 hown2 hg2 hnil2 hloc2; have hb3 : Below w1.heap.size w1 w3 := (hb2.alloc hsz2 _).grown hg2 (by simp; omega) (fun g e => (hown1.lt g e).1); have hB3 := Lib.hid (hB1.out.trans (hb3.mono hB1.out.size)); obtain ⟨N, hN⟩ : ∃ N, 0 + n + 1 = N := ⟨_, rfl⟩; rw [hN] at hown2; have hsl := own_slice hown2; obtain ⟨A5, c5, rfl, l1, l2, l3⟩ := hsl; have hNh := Lib.hid hN; clear hN; clear hg2 hnil2 hloc2 hown2 hown1 hb2 hb3 hsz2))
  have hR3 : Hid (RowsT w3 w3.heap.size A5 N (rows ++ [(A1, n1, c1)]) (sides ++ [one])) := Lib.hid (by
    have e : N = n + 1 := by have := hNh.out; omega
    subst e
    rw [List.nil_append] at l3
    exact rowsT_one (hsh.out.2.2.up hB3.out) (h1h.out.up hB3.out) l3)
  have hN2 := Lib.hid (And.intro l1 l2)
  have hsn : Hid (1 ≤ n → sides ≠ []) := Lib.hid (fun h e => by have := hlh.out; rw [e] at this; simp at this; omega)
  clear l1 l2 l3
  obtain ⟨f1, hf1⟩ : ∃ f1, (fewM base sides && decide (wrongN base sides = 0)) = f1 := ⟨_, rfl⟩
  obtain ⟨f2, hf2⟩ : ∃ f2, (fewM base (sides ++ [one]) && decide (wrongN base (sides ++ [one]) = 0)) = f2 := ⟨_, rfl⟩
  have hM1 := mMay_any A0 n0 c0 base A n c w3.heap.size rows sides w3 (Nat.le_trans h0h.out.1 h0h.out.2.1) (Nat.le_trans hsh.out.1 hsh.out.2.1) (h0h.out.up hB3.out).2.2 (hsh.out.2.2.up hB3.out)
  have hM2 := mMay_any A0 n0 c0 base A5 N c5 w3.heap.size _ (sides ++ [one]) w3 (Nat.le_trans h0h.out.1 h0h.out.2.1) (Nat.le_trans hN2.out.1 hN2.out.2) (h0h.out.up hB3.out).2.2 hR3.out
  rw [hf1] at hM1
  rw [hf2] at hM2
  have hM1h := Lib.hid hM1
  have hM2h := Lib.hid hM2
  have hf1h := Lib.hid hf1
  have hf2h := Lib.hid hf2
  have tok2 := trivial
  have tok3 := trivial
  clear hM1 hM2 hf1 hf2
  cases f1
  · go_wp2_with (go_at_call 12; refine hM1h.out.mono ?_; rintro e w4 ⟨rfl, rfl⟩)
    go_ret
    exact ⟨rfl, hB3.out⟩
  cases f2
  · go_wp2_with (first
      | (go_at_call 12; have _t := tok2; refine hM1h.out.mono ?_; rintro e w4 ⟨rfl, rfl⟩; clear tok2)
      | (go_at_call 12; refine hM2h.out.mono ?_; rintro e w4 ⟨rfl, rfl⟩))
    go_ret
    exact ⟨rfl, hB3.out⟩
  have hfw1 := Lib.hid (may_few hf1h.out)
  have hfw2 := Lib.hid (may_few hf2h.out)
  have hO1 : Hid (∀ (W : World), Below w3.heap.size w3 W → Calls Tryz.prog 9 #[.slice A0 n0 c0, .slice A n c] W fun e w' => ∃ (k : Int) (A1 : Option Addr) (n1 c1 : Nat) (vs : List PcV) (ps : List Pc), e = .returned (.tuple #[.slice A1 n1 c1, .int .i64 k, .int .i64 0]) ∧ (n1 ≤ c1 ∧ c1 ≤ maxLen ∧ n1 ≤ 10000 ∧ (∀ z, (choose ps z).length ≤ 1000000) ∧ Pcs w' w'.heap.size A1 n1 vs ps) ∧ OctsTo base sides 0 k ps ∧ (k = n ↔ cleanB ps = true) ∧ Below w3.heap.size w3 w') := Lib.hid (fun W hb => by
    have hbw := hB3.out.trans (hb.mono hB3.out.size)
    refine (H.oct_ok A0 n0 c0 base A n c rows sides W hsh.out.1 hsh.out.2.1 hfw1.out.1 (h0h.out.up hbw) (hsh.out.2.2.up hbw)).mono ?_
    rintro e w' ⟨er, k, A1, n1, c1, vs, ps, rfl, q1, q2, q3, q4, q5⟩
    obtain ⟨rfl, r2, r3, r4, r5⟩ := octs_few hfw1.out.1 hfw1.out.2 q4
    obtain ⟨s1, s2⟩ := octs_size hfw1.out.1 q4
    rw [hlh.out] at r4
    exact ⟨k, A1, n1, c1, vs, ps, rfl, ⟨q1, q2, by have := q3.len; omega, s2, q3⟩, q4, r4, hb.trans (q5.mono hb.size)⟩)
  have hO2 : Hid (∀ (W : World), Below w3.heap.size w3 W → Calls Tryz.prog 9 #[.slice A0 n0 c0, .slice A5 N c5] W fun e w' => ∃ (k : Int) (A1 : Option Addr) (n1 c1 : Nat) (vs : List PcV) (ps : List Pc), e = .returned (.tuple #[.slice A1 n1 c1, .int .i64 k, .int .i64 0]) ∧ (n1 ≤ c1 ∧ c1 ≤ maxLen ∧ Pcs w' w'.heap.size A1 n1 vs ps) ∧ OctsTo base (sides ++ [one]) 0 k ps ∧ Below W.heap.size W w' ∧ Below w3.heap.size w3 w') := Lib.hid (fun W hb => by
    refine (H.oct_ok A0 n0 c0 base A5 N c5 _ (sides ++ [one]) W hN2.out.1 hN2.out.2 hfw2.out.1 ((h0h.out.up hB3.out).up hb) (hR3.out.up hb)).mono ?_
    rintro e w' ⟨er, k, A1, n1, c1, vs, ps, rfl, q1, q2, q3, q4, q5⟩
    obtain ⟨rfl, -⟩ := octs_few hfw2.out.1 hfw2.out.2 q4
    exact ⟨k, A1, n1, c1, vs, ps, rfl, ⟨q1, q2, q3⟩, q4, q5, hb.trans (q5.mono hb.size)⟩)
  have hPs : Hid (∀ (A A' : Option Addr) (n n' c c' : Nat) (vs vs' : List PcV) (ps : List Pc) (W : World), n ≤ maxLen → n' ≤ maxLen → Pcs W W.heap.size A n vs ps → Pcs W W.heap.size A' n' vs' ps → Calls Tryz.prog 11 #[.slice A n c, .slice A' n' c'] W fun e w' => e = .returned (.bool true) ∧ ∃ q, w' = W.drewN q) := Lib.hid (fun A A' n n' c c' vs vs' ps W a b h h' => by
    have := pSame_any A A' n n' c c' _ _ vs vs' ps ps W a b h h'
    rw [show decide (ps = ps) = true from decide_eq_true rfl] at this
    exact this)
  go_upto_region 7 with (first
    | (go_at_call 12; have _t := tok2; refine hM1h.out.mono ?_; rintro e w4 ⟨rfl, rfl⟩; clear tok2)
    | (go_at_call 12; refine hM2h.out.mono ?_; rintro e w4 ⟨rfl, rfl⟩)
    | (go_at_call 9; have _t := tok3; refine (hO1.out _ (Below.refl _ _)).mono ?_; rintro e w5 ⟨k1, A6, n6, c6, vs6, ps6, rfl, q1, q2, q3, q4⟩; have hq6 := Lib.hid q1; have hOc6 := Lib.hid q2; have hk6 := Lib.hid q3; have hB5 := Lib.hid q4; clear tok3 q1 q2 q3 q4)
    | (go_at_call 9; refine (hO2.out _ hB5.out).mono ?_; rintro e w6 ⟨k2, A7, n7, c7, vs7, ps7, rfl, q1, q2, q3, q4⟩; have hq7 := Lib.hid q1; have hOc7 := Lib.hid q2; have hP6 := Lib.hid (hq6.out.2.2.2.2.up q3); have hB6 := Lib.hid q4; clear q1 q2 q3 q4))
  have hCl := H.clean_ok A6 n6 c6 vs6 ps6 w6 hq6.out.1 hq6.out.2.1 hq6.out.2.2.1 hP6.out
  obtain ⟨cl, hcl⟩ : ∃ cl, cleanB ps6 = cl := ⟨_, rfl⟩
  rw [hcl] at hCl
  have hClh := Lib.hid hCl
  have hk := hk6.out
  rw [hcl] at hk
  have hclh := Lib.hid hcl
  clear hCl hcl hk6
  have hbw6 := Lib.hid (hB3.out.trans (hB6.out.mono hB3.out.size))
  cases cl
  · have hsame := (octs_more hfw1.out.1 hfw1.out.2 hfw2.out.2 hOc6.out hclh.out).one hOc7.out
    obtain ⟨-, e2, e3⟩ := hsame
    subst e2
    subst e3
    clear hk
    go_wp2_with (first
      | (go_at_call 14; refine hClh.out.mono ?_; rintro e w7 ⟨rfl, hb7⟩; have hb7h := Lib.hid hb7; clear hb7)
      | (go_at_call 11; refine (hPs.out _ _ _ _ _ _ _ _ _ _ (Nat.le_trans hq6.out.1 hq6.out.2.1) (Nat.le_trans hq7.out.1 hq7.out.2.1) (hP6.out.up hb7h.out) (hq7.out.2.2.up hb7h.out)).mono ?_; rintro e w8 ⟨rfl, z8, rfl⟩))
    go_ret
    exact ⟨rfl, below_drewN (hbw6.out.trans (hb7h.out.mono hbw6.out.size)) z8⟩
  · obtain rfl : k1 = n := hk.2 rfl
    clear hk
    have hG := Lib.hid (octs_last hfw2.out.1 hfw1.out.2 hfw2.out.2 hOc6.out hclh.out)
    have hCh : Hid (∀ (W : World), Below w6.heap.size w6 W → Calls Tryz.prog 16 #[.slice A6 n6 c6, .int .i64 0] W fun e w' => TxsOut W w' e (choose ps6 0)) := Lib.hid (fun W hW => H.choose_ok A6 n6 c6 vs6 ps6 0 W hq6.out.1 hq6.out.2.1 hq6.out.2.2.1 (by unfold inR64; omega) (hq6.out.2.2.2.1 0) (hP6.out.up hW))
    have hMg : Hid (∀ (A8 : Option Addr) (n8 c8 : Nat) (W V : World), Below w6.heap.size w6 W → TxR W W.heap.size (A8, n8, c8) (choose ps6 0) → Below W.heap.size W V → V.heap[W.heap.size]? = some (.cells #[.slice A8 n8 c8, .slice A1 n1 c1] 22 (0, 0)) → Calls Tryz.prog 13 #[.slice A0 n0 c0, .slice (some ⟨W.heap.size, 0, none⟩) 2 2, .agg #[.int .i64 0, .bool false]] V fun e w' => TwoOut V w' e base (choose ps6 0) one) := Lib.hid (fun A8 n8 c8 W V hW hT hV hg => by
      have hbw := hbw6.out.trans (hW.mono hbw6.out.size)
      exact lTwo_call H hG.out (h0h.out.up hbw) hT (h1h.out.up hbw) hV hg)
    have hmost : Hid (∀ qs, MergesTo base [choose ps6 0, one] 0 false 0 qs → ps7 = qs) := Lib.hid (fun qs hm => octs_most hfw1.out.1 hfw1.out.2 hfw2.out.1 hfw2.out.2 hOc6.out hclh.out hm hOc7.out)
    go_wp2_with (first
      | (go_at_call 14; refine hClh.out.mono ?_; rintro e w7 ⟨rfl, hb7⟩; have hb7h := Lib.hid hb7; clear hb7)
      | (go_at_call 16; refine (hCh.out _ hb7h.out).mono ?_; rintro e w8 ⟨A8, n8, c8, rfl, r1, r2⟩; have hT8 := Lib.hid r1; have hB8 := Lib.hid (hb7h.out.trans (r2.mono hb7h.out.size)); clear r1 r2)
      | (go_at_call 13; refine (hMg.out _ _ _ _ _ hB8.out hT8.out ((Below.refl _ _).alloc (Nat.le_refl _) _) (Go.Deep.blk_alloc_new _ _)).mono ?_; rintro e w9 ⟨A9, n9, c9, vs9, ps9, rfl, q1, q2, q3⟩; have hps := hmost.out _ q2; subst hps; have hq9 := Lib.hid q1; have hB9 := Lib.hid ((below_alloc hB8.out _).trans (q3.mono (below_alloc hB8.out _).size)); clear q1 q2 q3)
      | (go_at_call 11; refine (hPs.out _ _ _ _ _ _ _ _ _ _ (Nat.le_trans hq7.out.1 hq7.out.2.1) (Nat.le_trans hq9.out.1 hq9.out.2.1) (hq7.out.2.2.up hB9.out) hq9.out.2.2.2.2).mono ?_; rintro e w10 ⟨rfl, z10, rfl⟩))
    go_ret
    exact ⟨rfl, below_drewN (hbw6.out.trans (hB9.out.mono hbw6.out.size)) z10⟩
end
end Go.Proofs.YtoephlkfejcadaaGreat

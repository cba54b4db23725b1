/- Proved here: what the statements SizeMore and SizeMarks say, by the contracts of package size. -/
import Derived.Test.YtiokgehiighgpaaSzLawA
import Derived.Test.YtiokgehiighgpaaSteps
import Derived.Laws.Strings3
namespace Go.Proofs.Ytiokgehiighgpaa
open Go.RowKit
set_option linter.unusedVariables false
set_option maxRecDepth 100000

theorem small_app {a b : List Txs} (ha : fewT [] a = true) (hb : fewT [] b = true) : smallF (a ++ b) := by
  obtain ⟨-, h1, -⟩ := fewT_parts ha
  obtain ⟨-, h2, -⟩ := fewT_parts hb
  refine ⟨by rw [List.length_append]; omega, fun f hf => ?_⟩
  rcases List.mem_append.1 hf with hf | hf
  · exact (few_smallF ha).2 f hf
  · exact (few_smallF hb).2 f hf
theorem str_app (a b : Tx) : str a ++ str b = str (a ++ b) := by
  apply ByteArray.ext
  simp [str]
theorem str_take (t : Tx) (k : Nat) (hk : k ≤ t.length) : (str t).extract 0 k = str (t.take k) := by
  apply ByteArray.ext
  simp [str, ByteArray.extract, ByteArray.copySlice, hk]
theorem slice_str_to (t : Tx) (k : Nat) (hk : k ≤ t.length) (W : World) : (Instr.slice 9 (.string (str t)) none (some (.int .i64 (k : Int))) none).run Try.prog W = .ok (.string (str (t.take k))) W := by
  rw [run_slice_string_h (P := Try.prog) W 9 (str t) Try.underlying9 .i64 (k : Int) (by omega) (by rw [str_size]; omega), Int.toNat_natCast, str_take t k hk]

section
variable (H : SizeOk)
include H

set_option maxHeartbeats 4000000 in
theorem SizeMore_walk (A : Option Addr) (n c : Nat) (rows : List Slc) (xs : List Txs) (A' : Option Addr) (n' c' : Nat) (rows' : List Slc) (ys : List Txs) (w : World) (h0 : ArgTs w A n c rows xs) (h1 : ArgTs w A' n' c' rows' ys) :
    Calls Try.prog 7 #[.slice A n c, .slice A' n' c'] w fun e w' => e = .returned (.bool true) ∧ Below w.heap.size w w' := by
  obtain ⟨hnc, hcm, hA⟩ := h0
  obtain ⟨hnc', hcm', hA'⟩ := h1
  have haw := Lib.hid (szAwake_any H w)
  obtain ⟨f1, hf1⟩ : ∃ fm, fewT [] xs = fm := ⟨_, rfl⟩
  obtain ⟨f2, hf2⟩ : ∃ fm, fewT [] ys = fm := ⟨_, rfl⟩
  have hF1 := Lib.hid (fun (W : World) (hb : Below w.heap.size w W) => rFew_any none 0 0 w.heap.size [] A n c w.heap.size rows xs W (Nat.zero_le _) (Nat.le_trans hnc hcm) (Strs.nil _ _ _) (hA.below hb))
  have hF2 := Lib.hid (fun (W : World) (hb : Below w.heap.size w W) => rFew_any none 0 0 w.heap.size [] A' n' c' w.heap.size rows' ys W (Nat.zero_le _) (Nat.le_trans hnc' hcm') (Strs.nil _ _ _) (hA'.below hb))
  rw [hf1] at hF1
  rw [hf2] at hF2
  have t1 := trivial
  cases f1
  · clear hA hA' hf1 hf2 hF2
    go_enter Try.func7, Try.ntmps7
    go_wp2_with (first
      | (go_at_call 8; refine haw.out.mono ?_; rintro e w1 ⟨rfl, hb1⟩; have hB1 := Lib.hid hb1; clear hb1)
      | (go_at_call 11; refine (hF1.out _ hB1.out).mono ?_; rintro e w2 ⟨rfl, rfl⟩))
    go_ret
    exact ⟨rfl, hB1.out⟩
  cases f2
  · clear hA hA' hf1 hf2
    go_enter Try.func7, Try.ntmps7
    go_wp2_with (first
      | (go_at_call 8; refine haw.out.mono ?_; rintro e w1 ⟨rfl, hb1⟩; have hB1 := Lib.hid hb1; clear hb1)
      | (go_at_call 11; have _t := t1; refine (hF1.out _ hB1.out).mono ?_; rintro e w2 ⟨rfl, hw2⟩; have hB2 : Hid (Below w.heap.size w w2) := Lib.hid (by rw [hw2]; exact hB1.out); clear t1 hw2)
      | (go_at_call 11; refine (hF2.out _ hB2.out).mono ?_; rintro e w3 ⟨rfl, rfl⟩))
    go_ret
    exact ⟨rfl, hB2.out⟩
  have hsa := few_smallF hf1
  have hsb := few_smallF hf2
  have hsab := Lib.hid (small_app hf1 hf2)
  have hna : n ≤ 6 := by have := (fewT_parts hf1).2.1; have := hA.len; omega
  have hnb : n' ≤ 6 := by have := (fewT_parts hf2).2.1; have := hA'.len; omega
  obtain ⟨Na, hNa⟩ : ∃ N, autoN xs = N := ⟨_, rfl⟩
  obtain ⟨Nb, hNb⟩ : ∃ N, autoN ys = N := ⟨_, rfl⟩
  obtain ⟨M, hM⟩ : ∃ M, max Na Nb = M := ⟨_, rfl⟩
  have hmore : Hid (autoN (xs ++ ys) = M) := Lib.hid (by rw [auto_more, hNa, hNb, hM])
  have hmx : (if Na < Nb then (Nb : Int) else (Na : Int)) = (M : Int) := by split <;> omega
  have hAu := Lib.hid (fun (W : World) (hb : Below w.heap.size w W) => (H.auto_ok A n c rows xs W hnc hcm hsa (hA.up hb)).mono fun e w' h => (⟨h.1, hb.trans (h.2.mono hb.size)⟩ : _ ∧ Below w.heap.size w w'))
  have hAu' := Lib.hid (fun (W : World) (hb : Below w.heap.size w W) => (H.auto_ok A' n' c' rows' ys W hnc' hcm' hsb (hA'.up hb)).mono fun e w' h => (⟨h.1, hb.trans (h.2.mono hb.size)⟩ : _ ∧ Below w.heap.size w w'))
  rw [hNa] at hAu
  rw [hNb] at hAu'
  obtain ⟨i0, hi, hz⟩ := Option.map_eq_some_iff.1 infoTxs
  simp only [Prod.mk.injEq] at hz
  obtain ⟨hz1, hz2, hz3⟩ := hz
  have hle : Hid (0 + n ≤ maxLen ∧ (0 + n) * 24 ≤ 140737488355328 ∧ 0 + n + n' ≤ maxLen ∧ (0 + n + n') * 24 ≤ 140737488355328) := Lib.hid (by unfold maxLen; omega)
  have hAh := Lib.hid hA
  have hAh' := Lib.hid hA'
  obtain ⟨K, hK⟩ : ∃ K, 0 + n + n' = K := ⟨_, rfl⟩
  have hKh := Lib.hid hK
  have t2 := trivial
  have t3 := trivial
  clear hA hA' hf1 hf2 hsa hsb hNa hNb hM hK
  go_enter Try.func7, Try.ntmps7
  go_wp2_with (first
    | (go_at_call 8; refine haw.out.mono ?_; rintro e w1 ⟨rfl, hb1⟩; have hB1 := Lib.hid hb1; clear hb1)
    | (go_at_call 11; have _t := t1; refine (hF1.out _ hB1.out).mono ?_; rintro e w2 ⟨rfl, hw2⟩; have hB2 : Hid (Below w.heap.size w w2) := Lib.hid (by rw [hw2]; exact hB1.out); clear t1 hw2)
    | (go_at_call 11; refine (hF2.out _ hB2.out).mono ?_; rintro e w3 ⟨rfl, hw3⟩; have hB3 : Hid (Below w.heap.size w w3) := Lib.hid (by rw [hw3]; exact hB2.out); have hR3 := Lib.hid (hAh.out.up (below_alloc hB3.out (.cells #[] 34))).1; have hown0 := own_empty w3 w3.heap.size 34 (Nat.le_refl _); have hbe := below_alloc (Below.refl w3.heap.size w3) (.cells #[] 34); clear hw3)
    | (at_builtin; refine wpList_append_reads _ rfl (.tmp 17) (.tmp 18) 25 rfl w3.heap.size 34 i0 (.slice none 0 0) 24 Try.underlying25 hi hz1 hz2 hz3 rfl _ 0 [] rfl hown0 _ A n c _ rfl hR3.out (slcV_one _) hle.out.1 hle.out.2.1 (by simp) ?_; intro v1 w4 hown1 hg1; have hb4 := hbe.grown hg1 hbe.size (fun q e => (hown0.lt q e).1); have hB4 := Lib.hid (hB3.out.trans (hb4.mono hB3.out.size)); have hR4 := Lib.hid (hAh'.out.up hB4.out).1; clear hg1)
    | (at_builtin; refine wpList_append_reads _ rfl (.tmp 19) (.tmp 20) 25 rfl w3.heap.size 34 i0 (.slice none 0 0) 24 Try.underlying25 hi hz1 hz2 hz3 rfl v1 (0 + n) _ rfl hown1 _ A' n' c' _ rfl hR4.out (slcV_one _) hle.out.2.2.1 hle.out.2.2.2 hb4.size ?_; intro v2 w5 hown2 hg2; have hb5 := hb4.grown hg2 hb4.size (fun q e => (hown1.lt q e).1); have hB5 := Lib.hid (hB3.out.trans (hb5.mono hB3.out.size)); rw [hKh.out] at hown2; obtain ⟨A6, c6, rfl, e1, e2, e3⟩ := own_slice hown2; have h6 := Lib.hid (And.intro e1 (And.intro e2 e3)); clear hown1 hown2 hg2 hown0 hbe hb4 hb5 e1 e2 e3; have hT6 : Hid (RowsT w5 w5.heap.size A6 K (rows ++ rows') (xs ++ ys)) := Lib.hid ⟨(by rw [List.map_append]; exact h6.out.2.2), (by rw [List.length_append, List.length_append, hAh.out.2.1, hAh'.out.2.1]), (fun k r ss a b => by
        have hl := hAh.out.2.1
        rcases Nat.lt_or_ge k rows.length with hk | hk
        · rw [List.getElem?_append_left hk] at a
          rw [List.getElem?_append_left (by omega)] at b
          exact (hAh.out.2.2 k r ss a b).up hB5.out
        · rw [List.getElem?_append_right hk] at a
          rw [List.getElem?_append_right (by omega), ← hl] at b
          exact (hAh'.out.2.2 _ r ss a b).up hB5.out)⟩)
    | (go_at_call 12; have _t := t2; refine (H.auto_ok A6 K c6 _ _ w5 h6.out.1 h6.out.2.1 hsab.out hT6.out).mono ?_; rintro e w6 ⟨he6, hb6⟩; rw [hmore.out] at he6; subst he6; have hB6 := Lib.hid (hB5.out.trans (hb6.mono hB5.out.size)); clear hb6 t2)
    | (go_at_call 12; have _t := t3; refine (hAu.out _ hB6.out).mono ?_; rintro e w7 ⟨rfl, hb7⟩; have hB7 := Lib.hid hb7; clear hb7 t3)
    | (go_at_call 12; refine (hAu'.out _ hB7.out).mono ?_; rintro e w8 ⟨rfl, hb8⟩; have hB8 := Lib.hid hb8; clear hb8))
  go_ret
  exact ⟨ret_bool (by simp), hB8.out⟩
end
end Go.Proofs.Ytiokgehiighgpaa

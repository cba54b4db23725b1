/- Proved here: what the statement DotsBack says, by the contracts of package dots. -/
import Derived.Test.YtoamkfegjhailaaDtAwk
import Derived.Test.YtoamkfegjhailaaDtRef2
import Derived.Test.YtoamkfegjhailaaDtLawA
namespace Go.Proofs.Ytoamkfegjhailaa
open Go.RowKit
set_option linter.unusedVariables false
set_option maxRecDepth 100000

theorem small_two {a b : Txs} (ha : a.length ≤ 40 ∧ ∀ s ∈ a, s.length ≤ 1000) (hb : b.length ≤ 40 ∧ ∀ s ∈ b, s.length ≤ 1000) : smallD (a ++ b) := by
  refine ⟨by rw [List.length_append]; omega, fun s hs => ?_⟩
  rcases List.mem_append.1 hs with h | h
  · have := ha.2 s h; omega
  · have := hb.2 s h; omega
theorem few30 {l : Txs} (h : fewB l 30 = true) : l.length ≤ 30 ∧ ∀ t ∈ l, t.length ≤ 100 := by
  unfold fewB at h
  rw [Bool.and_eq_true, decide_eq_true_eq] at h
  refine ⟨h.1, fun t ht => ?_⟩
  have h2 := h.2
  rw [List.take_of_length_le (by omega), List.all_eq_true] at h2
  simpa using h2 t ht
theorem block30 {l : Txs} (h : l.length ≤ 30 ∧ ∀ t ∈ l, t.length ≤ 100) : (blockD l).length ≤ 40 ∧ ∀ s ∈ blockD l, s.length ≤ 1000 := by
  refine ⟨by rw [block_len]; omega, fun s hs2 => ?_⟩
  unfold blockD at hs2
  rcases List.mem_append.1 hs2 with h1 | h1
  · obtain ⟨t, ht, rfl⟩ := List.mem_map.1 h1
    have := dotT_len t
    have := h.2 t ht
    omega
  · rw [List.mem_singleton.1 h1]
    simp [endD]

section
variable (H : DotsOk)
include H

set_option maxHeartbeats 8000000 in
theorem DotsBack_walk (A : Option Addr) (n c : Nat) (l : Txs) (A' : Option Addr) (n' c' : Nat) (more : Txs) (w : World) (h0 : TxR w w.heap.size (A, n, c) l) (h1 : TxR w w.heap.size (A', n', c') more) :
    Calls Try.prog 5 #[.slice A n c, .slice A' n' c'] w fun e w' => e = .returned (.bool true) ∧ Below w.heap.size w w' := by
  have haw := Lib.hid (dtAwake_any H w)
  obtain ⟨fm, hfm⟩ : ∃ fm, fewB l 30 = fm := ⟨_, rfl⟩
  obtain ⟨fn, hfn⟩ : ∃ fm, fewB more 30 = fm := ⟨_, rfl⟩
  have hF : Hid (∀ W, Below w.heap.size w W → Calls Try.prog 9 #[.slice A n c, .int .i64 30] W fun e w' => e = .returned (.bool fm) ∧ W = w') := Lib.hid (fun W hW => by rw [← hfm]; exact Few_any A n c 30 W.heap.size l W (Nat.le_trans h0.1 h0.2.1) (by decide) (h0.up hW).2.2)
  have hF2 : Hid (∀ W, Below w.heap.size w W → Calls Try.prog 9 #[.slice A' n' c', .int .i64 30] W fun e w' => e = .returned (.bool fn) ∧ W = w') := Lib.hid (fun W hW => by rw [← hfn]; exact Few_any A' n' c' 30 W.heap.size more W (Nat.le_trans h1.1 h1.2.1) (by decide) (h1.up hW).2.2)
  have tok1 := trivial
  by_cases hff : fm = true ∧ fn = true
  rotate_left
  · clear h0 h1 hfm hfn
    cases fm <;> cases fn
    rotate_left 3
    · exact absurd ⟨rfl, rfl⟩ hff
    all_goals
      clear hff
      go_enter Try.func5, Try.ntmps5
      go_wp2_with (first
        | (go_at_call 8; refine haw.out.mono ?_; rintro e w1 ⟨rfl, hb1⟩; have hB1 := Lib.hid hb1; clear hb1)
        | (go_at_call 9; have _t := tok1; refine (hF.out _ hB1.out).mono ?_; rintro e w2 ⟨rfl, hww⟩; have hws := hww.symm; clear hww; subst hws; have tok2 := trivial; clear tok1)
        | (go_at_call 9; have _t := tok2; refine (hF2.out _ hB1.out).mono ?_; rintro e w2 ⟨rfl, hww⟩; have hws := hww.symm; clear hww; subst hws; clear tok2))
      go_ret
      exact ⟨rfl, hB1.out⟩
  obtain ⟨rfl, rfl⟩ := hff
  have x0 := few30 hfm
  have x1 := few30 hfn
  have y0 := few_D hfm (by decide)
  have y2 := small_two (b := more) (block30 x0) ⟨by omega, fun s hs => by have := x1.2 s hs; omega⟩
  have y3 : smallD (l.map dotT) := ⟨by rw [List.length_map]; omega, fun s hs => by
    obtain ⟨t, ht, rfl⟩ := List.mem_map.1 hs
    have := dotT_len t
    have := x0.2 t ht
    omega⟩
  obtain ⟨o, ho⟩ : ∃ o, dottedB l = o := ⟨_, rfl⟩
  have hC1 : Hid (∀ W, Below w.heap.size w W → Calls Try.prog 10 #[.slice A n c] W fun e w' => TxsB W w' e (blockD l, o)) := Lib.hid (fun W hW => by rw [← ho]; exact H.block_ok A n c l W y0 (h0.up hW))
  have hC2 : Hid (∀ A n c W, TxR W W.heap.size (A, n, c) (blockD l ++ more) → Calls Try.prog 16 #[.slice A n c] W fun e w' => TxsN W w' e (l.map dotT, l.length + 1)) := Lib.hid (fun A n c W h => by rw [← block_back (l := l) (more := more)]; exact H.unblock_ok A n c _ W y2 h)
  have hC3 : Hid (∀ A n c W, TxR W W.heap.size (A, n, c) (l.map dotT) → Calls Try.prog 11 #[.slice A n c] W fun e w' => TxsB W w' e (l, o)) := Lib.hid (fun A n c W h => by
    have := H.strip_ok A n c _ W y3 h
    rw [strip_dots, dots_some, ho] at this
    exact this)
  have hln := h0.2.2.len
  dsimp only at hln
  rw [hln] at hC2
  have hT0 := Lib.hid (fun (W : World) (hb : Below w.heap.size w W) => h0.up hb)
  have hT1 := Lib.hid (fun (W : World) (hb : Below w.heap.size w W) => h1.up hb)
  have hnone : Hid (o = false → l.map dotT = l) := Lib.hid (fun h => (dots_none (by rw [ho, h])).1)
  have hn30 : n ≤ 30 := by rw [← hln]; exact x0.1
  have hn31 : n' ≤ 30 := by have := h1.2.2.len; dsimp only at this; rw [← this]; exact x1.1
  have hbl : Hid ((blockD l).length = n + 1) := Lib.hid (by rw [block_len, hln])
  obtain ⟨n1, hn1⟩ : ∃ n1, n + 1 = n1 := ⟨_, rfl⟩
  rw [hn1] at hC2 hbl
  have e1 : (n : Int) + 1 = (n1 : Int) := by omega
  have e2 : IntKind.i64.wrap ((n : Int) + 1) = (n1 : Int) := by rw [e1]; exact IntWalk.i64_in _ (by omega)
  have e3 : IntKind.i64.wrap (n1 : Int) = (n1 : Int) := IntWalk.i64_in _ (by omega)
  obtain ⟨i0, hi, hzz⟩ := Option.map_eq_some_iff.1 infoStr
  simp only [Prod.mk.injEq] at hzz
  obtain ⟨hz0, hz1, hz2⟩ := hzz
  have hmax : Hid ((0 + n1 ≤ maxLen ∧ (0 + n1) * 16 ≤ 140737488355328) ∧ (n1 + n' ≤ maxLen ∧ (n1 + n') * 16 ≤ 140737488355328)) := Lib.hid ⟨⟨by unfold maxLen; omega, by omega⟩, by unfold maxLen; omega, by omega⟩
  have hSm := Lib.hid same_T
  obtain ⟨BL, hBL⟩ : ∃ BL, blockD l = BL := ⟨_, rfl⟩
  obtain ⟨DL, hDL⟩ : ∃ DL, l.map dotT = DL := ⟨_, rfl⟩
  rw [hBL] at hC1 hC2 hbl
  rw [hDL] at hC2 hC3 hnone
  clear h0 h1 hfm hfn x0 x1 y0 y2 y3 ho hln hn1 hBL hDL hn30 hn31
  go_enter Try.func5, Try.ntmps5
  go_upto_region 5 with (first
    | (go_at_call 8; refine haw.out.mono ?_; rintro e w1 ⟨rfl, hb1⟩; have hB1 := Lib.hid hb1; clear hb1)
    | (go_at_call 9; have _t := tok1; refine (hF.out _ hB1.out).mono ?_; rintro e w2 ⟨rfl, hww⟩; have hws := hww.symm; clear hww; subst hws; have tok2 := trivial; clear tok1)
    | (go_at_call 9; have _t := tok2; refine (hF2.out _ hB1.out).mono ?_; rintro e w2 ⟨rfl, hww⟩; have hws := hww.symm; clear hww; subst hws; clear tok2)
    | (go_at_call 10; refine (hC1.out _ hB1.out).mono ?_; rintro e w3 ⟨A3, n3, c3, rfl, p3, q3⟩; have hP3 := Lib.hid p3; have hB3 := Lib.hid (hB1.out.trans (q3.mono hB1.out.size)); clear p3 q3))
  obtain rfl : n3 = n1 := by have := hP3.out.2.2.len; dsimp only at this; rw [hbl.out] at this; exact this.symm
  have hw0 := own_empty w3 w3.heap.size 9 (Nat.le_refl _)
  have hBe := below_alloc (Below.refl w3.heap.size w3) (.cells #[] 9)
  have hR3 := Lib.hid ((hP3.out.up hBe).2.2)
  have tokA := trivial
  go_upto_region 7 with (first
    | (at_builtin; have _t := tokA; refine wpList_append_reads _ rfl _ _ 22 rfl w3.heap.size 9 i0 (.string ByteArray.empty) 16 Try.underlying22 hi hz0 hz1 hz2 rfl _ 0 [] rfl hw0 _ A3 n3 c3 _ rfl hR3.out (strs_one _) hmax.out.1.1 hmax.out.1.2 hBe.size ?_; intro v4 w4 hown4 hg4; rw [Nat.zero_add, List.nil_append] at hown4; have hB4 := Lib.hid (hBe.grown hg4 hBe.size (fun j e => (hw0.lt j e).1)); have hRf := Lib.hid (hT1.out _ (hB3.out.trans (hB4.out.mono hB3.out.size))).2.2; have hs4 := hB4.out.size; have tokB := trivial; clear tokA hg4)
    | (at_builtin; have _t := tokB; refine wpList_append_reads _ rfl _ _ 22 rfl w3.heap.size 9 i0 (.string ByteArray.empty) 16 Try.underlying22 hi hz0 hz1 hz2 rfl v4 n3 _ rfl hown4 _ A' n' c' _ rfl hRf.out (strs_one _) hmax.out.2.1 hmax.out.2.2 hs4 ?_; intro v5 w5 hown5 hg5; have hB5 := Lib.hid (hB4.out.grown hg5 hs4 (fun j e => (hown4.lt j e).1)); obtain ⟨A5, c5, rfl, p1, p2, p3⟩ := own_slice hown5; have hT5 : Hid (TxR w5 w5.heap.size (A5, n3 + n', c5) (BL ++ more)) := Lib.hid ⟨p1, p2, by unfold Strs; rw [List.map_append]; exact p3⟩; have hB5w := Lib.hid (hB3.out.trans (hB5.out.mono hB3.out.size)); clear tokB hg5 hown5 hown4 p1 p2 p3)
    | (go_at_call 16; refine (hC2.out _ _ _ _ hT5.out).mono ?_; rintro e w6 ⟨A6, n6, c6, rfl, p6, q6⟩; have hP6 := Lib.hid p6; have hB6 := Lib.hid (hB5w.out.trans (q6.mono hB5w.out.size)); clear p6 q6)
    | (go_at_call 11; refine (hC3.out _ _ _ _ hP6.out).mono ?_; rintro e w7 ⟨A7, n7, c7, rfl, p7, q7⟩; have hP7 := Lib.hid p7; have hP67 := Lib.hid (hP6.out.up q7); have hB7 := Lib.hid (hB6.out.trans (q7.mono hB6.out.size)); clear p7 q7))
  have hTl := Lib.hid (hT0.out _ hB7.out)
  clear hw0 hs4
  cases o
  · have hP8 : Hid (TxR w7 w7.heap.size (A6, n6, c6) l) := Lib.hid (by have h7 := hP67.out; rw [hnone.out rfl] at h7; exact h7)
    go_wp2_with (go_at_call 13; refine (hSm.out _ _ _ _ _ _ _ _ hP8.out hTl.out).mono ?_; rintro e w8 ⟨rfl, q8⟩; have hB8 := Lib.hid (hB7.out.trans (q8.mono hB7.out.size)); clear q8)
    go_ret
    exact ⟨rfl, hB8.out⟩
  · go_wp2_with (go_at_call 13; refine (hSm.out _ _ _ _ _ _ _ _ hP7.out hTl.out).mono ?_; rintro e w8 ⟨rfl, q8⟩; have hB8 := Lib.hid (hB7.out.trans (q8.mono hB7.out.size)); clear q8)
    go_ret
    exact ⟨rfl, hB8.out⟩
end
end Go.Proofs.Ytoamkfegjhailaa

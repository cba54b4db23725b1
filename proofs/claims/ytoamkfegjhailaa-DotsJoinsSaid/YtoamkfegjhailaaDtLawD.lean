/- Proved here: what the statement DotsJoins says, by the contracts of package dots. -/
import Derived.Test.YtoamkfegjhailaaDtAwk
import Derived.Test.YtoamkfegjhailaaDtRef2
import Derived.Test.YtoamkfegjhailaaDtLawA
import Derived.Test.YtoamkfegjhailaaDtLawB
namespace Go.Proofs.Ytoamkfegjhailaa
open Go.RowKit
set_option linter.unusedVariables false
set_option maxRecDepth 100000

section
variable (H : DotsOk)
include H

set_option maxHeartbeats 8000000 in
theorem DotsJoins_walk (A : Option Addr) (n c : Nat) (a : Txs) (A' : Option Addr) (n' c' : Nat) (b : Txs) (w : World) (h0 : TxR w w.heap.size (A, n, c) a) (h1 : TxR w w.heap.size (A', n', c') b) :
    Calls Try.prog 7 #[.slice A n c, .slice A' n' c'] w fun e w' => e = .returned (.bool true) ∧ Below w.heap.size w w' := by
  have haw := Lib.hid (dtAwake_any H w)
  obtain ⟨fm, hfm⟩ : ∃ fm, fewB a 30 = fm := ⟨_, rfl⟩
  obtain ⟨fn, hfn⟩ : ∃ fm, fewB b 30 = fm := ⟨_, rfl⟩
  have hF : Hid (∀ W, Below w.heap.size w W → Calls Try.prog 9 #[.slice A n c, .int .i64 30] W fun e w' => e = .returned (.bool fm) ∧ W = w') := Lib.hid (fun W hW => by rw [← hfm]; exact Few_any A n c 30 W.heap.size a W (Nat.le_trans h0.1 h0.2.1) (by decide) (h0.up hW).2.2)
  have hF2 : Hid (∀ W, Below w.heap.size w W → Calls Try.prog 9 #[.slice A' n' c', .int .i64 30] W fun e w' => e = .returned (.bool fn) ∧ W = w') := Lib.hid (fun W hW => by rw [← hfn]; exact Few_any A' n' c' 30 W.heap.size b W (Nat.le_trans h1.1 h1.2.1) (by decide) (h1.up hW).2.2)
  have tok1 := trivial
  by_cases hff : fm = true ∧ fn = true
  rotate_left
  · clear h0 h1 hfm hfn
    cases fm <;> cases fn
    rotate_left 3
    · exact absurd ⟨rfl, rfl⟩ hff
    all_goals
      clear hff
      go_enter Try.func7, Try.ntmps7
      go_wp2_with (first
        | (go_at_call 8; refine haw.out.mono ?_; rintro e w1 ⟨rfl, hb1⟩; have hB1 := Lib.hid hb1; clear hb1)
        | (go_at_call 9; have _t := tok1; refine (hF.out _ hB1.out).mono ?_; rintro e w2 ⟨rfl, hww⟩; have hws := hww.symm; clear hww; subst hws; have tok2 := trivial; clear tok1)
        | (go_at_call 9; have _t := tok2; refine (hF2.out _ hB1.out).mono ?_; rintro e w2 ⟨rfl, hww⟩; have hws := hww.symm; clear hww; subst hws; clear tok2))
      go_ret
      exact ⟨rfl, hB1.out⟩
  obtain ⟨rfl, rfl⟩ := hff
  have x0 := few30 hfm
  have x1 := few30 hfn
  have y0 := few_D hfm (by decide)
  have y1 := few_D hfn (by decide)
  have y2 := small_two (a := a) (b := b) ⟨by omega, fun s hs => by have := x0.2 s hs; omega⟩ ⟨by omega, fun s hs => by have := x1.2 s hs; omega⟩
  obtain ⟨o, ho⟩ : ∃ o, dottedB a = o := ⟨_, rfl⟩
  obtain ⟨o', ho'⟩ : ∃ o, dottedB b = o := ⟨_, rfl⟩
  have hj := block_join (a := a) (b := b)
  rw [ho, ho'] at hj
  have hC1 : Hid (∀ W, Below w.heap.size w W → Calls Try.prog 10 #[.slice A n c] W fun e w' => TxsB W w' e (blockD a, o)) := Lib.hid (fun W hW => by rw [← ho]; exact H.block_ok A n c a W y0 (h0.up hW))
  have hC2 : Hid (∀ W, Below w.heap.size w W → Calls Try.prog 10 #[.slice A' n' c'] W fun e w' => TxsB W w' e (blockD b, o')) := Lib.hid (fun W hW => by rw [← ho']; exact H.block_ok A' n' c' b W y1 (h1.up hW))
  have hC3 : Hid (∀ A n c W, TxR W W.heap.size (A, n, c) (a ++ b) → Calls Try.prog 10 #[.slice A n c] W fun e w' => TxsB W w' e (blockD (a ++ b), o || o')) := Lib.hid (fun A n c W h => by
    have := H.block_ok A n c _ W y2 h
    rw [hj.2] at this
    exact this)
  have hla := h0.2.2.len
  have hlb := h1.2.2.len
  dsimp only at hla hlb
  have hT0 := Lib.hid (fun (W : World) (hb : Below w.heap.size w W) => h0.up hb)
  have hT1 := Lib.hid (fun (W : World) (hb : Below w.heap.size w W) => h1.up hb)
  have hn30 : n ≤ 30 := by rw [← hla]; exact x0.1
  have hn31 : n' ≤ 30 := by rw [← hlb]; exact x1.1
  have hbl : Hid ((blockD a).length = n + 1 ∧ (blockD b).length = n' + 1 ∧ blockD (a ++ b) = (blockD a).take n ++ blockD b) := Lib.hid ⟨by rw [block_len, hla], by rw [block_len, hlb], by rw [hj.1, block_len, hla]; rfl⟩
  obtain ⟨n1, hn1⟩ : ∃ n1, n + 1 = n1 := ⟨_, rfl⟩
  have e1 : (n1 : Int) - 1 = (n : Int) := by omega
  have e2 : IntKind.i64.wrap ((n1 : Int) - 1) = (n : Int) := by rw [e1]; exact IntWalk.i64_in _ (by omega)
  have e3 : IntKind.i64.wrap (n : Int) = (n : Int) := IntWalk.i64_in _ (by omega)
  have e0 : ((n1 : Int) == 0) = false := by simp; omega
  obtain ⟨i0, hi, hzz⟩ := Option.map_eq_some_iff.1 infoStr
  simp only [Prod.mk.injEq] at hzz
  obtain ⟨hz0, hz1, hz2⟩ := hzz
  have hmax : Hid ((0 + n ≤ maxLen ∧ (0 + n) * 16 ≤ 140737488355328) ∧ (n + n' ≤ maxLen ∧ (n + n') * 16 ≤ 140737488355328) ∧ (n + (n' + 1) ≤ maxLen ∧ (n + (n' + 1)) * 16 ≤ 140737488355328)) := Lib.hid ⟨⟨by unfold maxLen; omega, by omega⟩, ⟨by unfold maxLen; omega, by omega⟩, by unfold maxLen; omega, by omega⟩
  have hSm := Lib.hid same_T
  obtain ⟨XA, hXA⟩ : ∃ X, blockD a = X := ⟨_, rfl⟩
  obtain ⟨XB, hXB⟩ : ∃ X, blockD b = X := ⟨_, rfl⟩
  obtain ⟨XC, hXC⟩ : ∃ X, blockD (a ++ b) = X := ⟨_, rfl⟩
  rw [hXA] at hC1
  rw [hXB] at hC2
  rw [hXC] at hC3
  rw [hXA, hXB, hXC] at hbl
  have hn1h := Lib.hid hn1
  clear h0 h1 hfm hfn x0 x1 y0 y1 y2 ho ho' hla hlb hn1 hXA hXB hXC hj hn30 hn31
  cases o <;> cases o'
  all_goals
    go_enter Try.func7, Try.ntmps7
    go_upto_region 5 with (first
      | (go_at_call 8; refine haw.out.mono ?_; rintro e w1 ⟨rfl, hb1⟩; have hB1 := Lib.hid hb1; clear hb1)
      | (go_at_call 9; have _t := tok1; refine (hF.out _ hB1.out).mono ?_; rintro e w2 ⟨rfl, hww⟩; have hws := hww.symm; clear hww; subst hws; have tok2 := trivial; clear tok1)
      | (go_at_call 9; have _t := tok2; refine (hF2.out _ hB1.out).mono ?_; rintro e w2 ⟨rfl, hww⟩; have hws := hww.symm; clear hww; subst hws; clear tok2)
      | (go_at_call 10; refine (hC1.out _ hB1.out).mono ?_; rintro e w3 ⟨A3, n3, c3, rfl, p3, q3⟩; have hP3 := Lib.hid p3; have hB3 := Lib.hid (hB1.out.trans (q3.mono hB1.out.size)); clear p3 q3))
    obtain rfl : n3 = n1 := by have := hP3.out.2.2.len; dsimp only at this; rw [hbl.out.1, hn1h.out] at this; exact this.symm
    go_upto_region 6 with (go_at_call 10; refine (hC2.out _ hB3.out).mono ?_; rintro e w4 ⟨A4, n4, c4, rfl, p4, q4⟩; have hP4 := Lib.hid p4; have hP34 := Lib.hid (hP3.out.up q4); have hB4 := Lib.hid (hB3.out.trans (q4.mono hB3.out.size)); clear p4 q4)
    obtain rfl : n4 = n' + 1 := by have := hP4.out.2.2.len; dsimp only at this; rw [hbl.out.2.1] at this; exact this.symm
    have hw0 := own_empty w4 w4.heap.size 9 (Nat.le_refl _)
    have hBe := below_alloc (Below.refl w4.heap.size w4) (.cells #[] 9)
    have hR4 := Lib.hid (hT0.out _ (hB4.out.trans (hBe.mono hB4.out.size))).2.2
    have tokA := trivial
    go_upto_region 9 with (first
      | (at_builtin; have _t := tokA; refine wpList_append_reads _ rfl _ _ 22 rfl w4.heap.size 9 i0 (.string ByteArray.empty) 16 Try.underlying22 hi hz0 hz1 hz2 rfl _ 0 [] rfl hw0 _ A n c _ rfl hR4.out (strs_one _) hmax.out.1.1 hmax.out.1.2 hBe.size ?_; intro v5 w5 hown5 hg5; rw [Nat.zero_add, List.nil_append] at hown5; have hB5 := Lib.hid (hBe.grown hg5 hBe.size (fun j e => (hw0.lt j e).1)); have hRf := Lib.hid (hT1.out _ (hB4.out.trans (hB5.out.mono hB4.out.size))).2.2; have hs5 := hB5.out.size; have tokB := trivial; clear tokA hg5)
      | (at_builtin; have _t := tokB; refine wpList_append_reads _ rfl _ _ 22 rfl w4.heap.size 9 i0 (.string ByteArray.empty) 16 Try.underlying22 hi hz0 hz1 hz2 rfl v5 n _ rfl hown5 _ A' n' c' _ rfl hRf.out (strs_one _) hmax.out.2.1.1 hmax.out.2.1.2 hs5 ?_; intro v6 w6 hown6 hg6; have hB6 := Lib.hid (hB5.out.grown hg6 hs5 (fun j e => (hown5.lt j e).1)); obtain ⟨A6, c6, rfl, p1, p2, p3⟩ := own_slice hown6; have hT6 : Hid (TxR w6 w6.heap.size (A6, n + n', c6) (a ++ b)) := Lib.hid ⟨p1, p2, by unfold Strs; rw [List.map_append]; exact p3⟩; clear tokB hg6 hown6 hown5 p1 p2 p3)
      | (go_at_call 10; refine (hC3.out _ _ _ _ hT6.out).mono ?_; rintro e w7 ⟨A7, n7, c7, rfl, p7, q7⟩; have hP7 := Lib.hid p7; have hB67 := Lib.hid (hB6.out.trans (q7.mono hB6.out.size)); have hB7 := Lib.hid (hB4.out.trans (hB67.out.mono hB4.out.size)); clear p7 q7))
    have hP37 := hP34.out.up hB67.out
    have hP47 := hP4.out.up hB67.out
    obtain ⟨As, ms, qs, hsl, hTs, hms⟩ := slice_to (k := n) hP37 (by have := hn1h.out; omega)
    subst hms
    have hw8 := own_empty w7 w7.heap.size 9 (Nat.le_refl _)
    have hBe8 := below_alloc (Below.refl w7.heap.size w7) (.cells #[] 9)
    have hR8 := Lib.hid (hTs.up hBe8).2.2
    have hP4h := Lib.hid hP47
    have hsl' : ∀ W : World, (Instr.slice 22 (.slice A3 n3 c3) none (some (.int .i64 (ms : Int))) none).run Try.prog W = .ok (.slice As ms qs) W := hsl
    have tokC := trivial
    clear hP37 hP47 hTs hsl hs5 hw0
    go_wp2_with (first
      | (at_builtin; have _t := tokC; refine wpList_append_readsG _ rfl (.tmp 55) (.tmp 60) 22 rfl w7.heap.size 9 i0 (.string ByteArray.empty) 16 Try.underlying22 hi hz0 hz1 hz2 rfl _ 0 [] rfl hw8 _ As ms qs _ rfl hR8.out (strs_one _) hmax.out.1.1 hmax.out.1.2 hBe8.size ?_; intro v8 w8 hown8 hg8; rw [Nat.zero_add, List.nil_append] at hown8; have hB8 := Lib.hid (hBe8.grown hg8 hBe8.size (fun j e => (hw8.lt j e).1)); have hP48 := Lib.hid (hP4h.out.up hB8.out).2.2; have hP78 := Lib.hid (hP7.out.up hB8.out); have hs8 := hB8.out.size; have tokD := trivial; clear tokC hg8)
      | (at_builtin; have _t := tokD; refine wpList_append_readsG _ rfl (.tmp 61) (.tmp 62) 22 rfl w7.heap.size 9 i0 (.string ByteArray.empty) 16 Try.underlying22 hi hz0 hz1 hz2 rfl v8 ms _ rfl hown8 _ A4 (n' + 1) c4 _ rfl hP48.out (strs_one _) hmax.out.2.2.1 hmax.out.2.2.2 hs8 ?_; intro v9 w9 hown9 hg9; have hB9 := Lib.hid (hB8.out.grown hg9 hs8 (fun j e => (hown8.lt j e).1)); obtain ⟨A9, c9, rfl, p1, p2, p3⟩ := own_slice hown9; have hT9 : Hid (TxR w9 w9.heap.size (A9, ms + (n' + 1), c9) XC) := Lib.hid ⟨p1, p2, by rw [hbl.out.2.2]; unfold Strs; rw [List.map_append]; exact p3⟩; have hP79 := Lib.hid (hP7.out.up hB9.out); have hB9w := Lib.hid (hB7.out.trans (hB9.out.mono hB7.out.size)); clear tokD hg9 hown9 hown8 p1 p2 p3)
      | (go_at_call 13; refine (hSm.out _ _ _ _ _ _ _ _ hP79.out hT9.out).mono ?_; rintro e w10 ⟨rfl, q10⟩; have hB10 := Lib.hid (hB9w.out.trans (q10.mono hB9w.out.size)); clear q10))
    go_ret
    exact ⟨rfl, hB10.out⟩
end
end Go.Proofs.Ytoamkfegjhailaa

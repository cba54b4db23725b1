/- Proved here: texts joined: EdLawB. -/
import Derived.Test.YtdfpifipkchmnaaDoorBc18
import Derived.Test.YtdfpifipkchmnaaDoorBc20
import Derived.Test.YtdfpifipkchmnaaDoorBc47
/- Proved here: what the statement EdJoins says, by the contract of ed.Run. -/
namespace Go.Proofs.YtdfpifipkchmnaaDoor
open Go.RowKit
set_option linter.unusedVariables false
set_option maxRecDepth 100000

section
variable (H : EdRunOk)
include H
set_option maxHeartbeats 16000000 in
theorem EdJoins_walk (Aa : Option Addr) (na ca : Nat) (a : Txs) (Ab : Option Addr) (nb cb : Nat) (b : Txs) (A : Option Addr) (n c : Nat) (file : Txs) (w : World) (h0 : TxR w w.heap.size (Aa, na, ca) a) (h1 : TxR w w.heap.size (Ab, nb, cb) b) (h2 : TxR w w.heap.size (A, n, c) file) :
    Calls Tryd.prog 4 #[.slice Aa na ca, .slice Ab nb cb, .slice A n c] w fun e w' => e = .returned (.bool true) ∧ Below w.heap.size w w' := by
  have haw := Lib.hid (edAwake_any H w)
  obtain ⟨fm, hfm⟩ : ∃ fm, fewB a 30 = fm := ⟨_, rfl⟩
  obtain ⟨fn, hfn⟩ : ∃ fm, fewB b 30 = fm := ⟨_, rfl⟩
  obtain ⟨fo, hfo⟩ : ∃ fm, fewB file 20 = fm := ⟨_, rfl⟩
  have hF := Lib.hid (few_call Aa na ca 30 a w (by decide) h0 fm hfm)
  have hF2 := Lib.hid (few_call Ab nb cb 30 b w (by decide) h1 fn hfn)
  have hF3 := Lib.hid (few_call A n c 20 file w (by decide) h2 fo hfo)
  have tok1 := trivial
  by_cases hff : fm = true ∧ fn = true ∧ fo = true
  rotate_left
  · clear h0 h1 h2 hfm hfn hfo H
    have hways : fm = false ∨ (fm = true ∧ fn = false) ∨ (fm = true ∧ fn = true ∧ fo = false) := by cases fm <;> cases fn <;> cases fo <;> simp_all
    clear hff
    rcases hways with rfl | ⟨rfl, rfl⟩ | ⟨rfl, rfl, rfl⟩
    all_goals
      go_enter Tryd.func4, Tryd.ntmps4
      go_wp2_with (first
        | (go_at_call 5; refine haw.out.mono ?_; rintro e w1 ⟨rfl, hb1⟩; have hB1 := Lib.hid hb1; clear hb1)
        | (go_at_call 6; have _t := tok1; refine (hF.out _ hB1.out).mono ?_; rintro e w2 ⟨rfl, hww⟩; have hws := hww.symm; clear hww; subst hws; have tok2 := trivial; clear tok1)
        | (go_at_call 6; have _t := tok2; refine (hF2.out _ hB1.out).mono ?_; rintro e w2 ⟨rfl, hww⟩; have hws := hww.symm; clear hww; subst hws; have tok3 := trivial; clear tok2)
        | (go_at_call 6; have _t := tok3; refine (hF3.out _ hB1.out).mono ?_; rintro e w2 ⟨rfl, hww⟩; have hws := hww.symm; clear hww; subst hws; clear tok3))
      go_ret
      exact ⟨rfl, hB1.out⟩
  obtain ⟨rfl, rfl, rfl⟩ := hff
  have x0 := few_E hfm (by decide)
  have x1 := few_E hfn (by decide)
  have x2 := few_E hfo (by decide)
  have l0 := fewK hfm (by decide)
  have l1 := fewK hfn (by decide)
  have l2 := fewK hfo (by decide)
  have hal : a.length = na := h0.2.2.len
  have hbl : b.length = nb := h1.2.2.len
  have x3 : smallE (a ++ b) := ⟨by rw [List.length_append]; omega, fun s hs => by
    rcases List.mem_append.1 hs with h | h
    · exact x0.2 s h
    · exact x1.2 s h⟩
  have h0h := Lib.hid h0
  have h1h := Lib.hid h1
  obtain ⟨F, S, Ln, E, hR⟩ : ∃ F S Ln E, edR a file = (F, S, Ln, E) := ⟨_, _, _, _, rfl⟩
  have hFs : smallE F := by
    have h3 := edR_up (X := 100) l2.2 l0.2 hR
    exact ⟨by omega, fun s hs => by have := h3.2 s hs; omega⟩
  obtain ⟨X, T, Lm, G, hR2⟩ : ∃ X T Lm G, edR b F = (X, T, Lm, G) := ⟨_, _, _, _, rfl⟩
  obtain ⟨Y, U, Lo, K, hR3⟩ : ∃ Y U Lo K, edR (a ++ b) file = (Y, U, Lo, K) := ⟨_, _, _, _, rfl⟩
  have hC1 := Lib.hid (fun (W : World) (hW : Below w.heap.size w W) => hR ▸ H Aa na ca a A n c file W x0 x2 (h0.up hW) (h2.up hW))
  have hC2 := Lib.hid (fun (A3 : Option Addr) (n3 c3 : Nat) (W : World) (hW : Below w.heap.size w W) (hT : TxR W W.heap.size (A3, n3, c3) F) => hR2 ▸ H Ab nb cb b A3 n3 c3 F W x1 hFs (h1.up hW) hT)
  have hC3 := Lib.hid (fun (A3 : Option Addr) (n3 c3 : Nat) (W : World) (hW : Below w.heap.size w W) (hT : TxR W W.heap.size (A3, n3, c3) (a ++ b)) => hR3 ▸ H A3 n3 c3 (a ++ b) A n c file W x3 x2 hT (h2.up hW))
  have hBt := Lib.hid (fun (W : World) (hW : Below w.heap.size w W) => sBoth_any Aa na ca a Ab nb cb b W (by omega) (by omega) (h0.up hW) (h1.up hW))
  have hjoin : Hid ((∀ t ∈ a, t ≠ [113, 10]) → E = 0 → (G ≠ 0 → K = G ∧ Lo = Lm + na) ∧ (G = 0 → K = 0 ∧ Y = X ∧ U = if b = [] ∨ b.head? = some [113, 10] then S else T)) := Lib.hid (fun hq hE => by
    subst hE
    have hl0 : Ln = 0 := by have := (edR_may hR).2 rfl; exact this.1
    subst hl0
    have h := edR_join hR hq X T Lm G hR2
    rw [hR3] at h
    refine ⟨fun hG => ?_, fun hG => ?_⟩
    · obtain ⟨y, t, e⟩ := h.1 hG
      simp only [Prod.mk.injEq] at e
      exact ⟨e.2.2.2, by rw [e.2.2.1, hal]⟩
    · have e := h.2 hG
      simp only [Prod.mk.injEq] at e
      exact ⟨e.2.2.2, e.1, e.2.1⟩)
  have hLm : Hid (Lm ≤ 1000) := Lib.hid (by
    by_cases hG : G = 0
    · have := (edR_may hR2).2 hG; omega
    · have := ((edR_may hR2).1 hG).2.2.1; omega)
  have hna : Hid (na ≤ 30) := Lib.hid (by omega)
  have halh := Lib.hid hal
  have hblh := Lib.hid hbl
  clear h0 h1 h2 hfm hfn hfo H x0 x1 x2 x3 l0 l1 l2 hal hbl hR hR2 hR3 hFs
  go_enter Tryd.func4, Tryd.ntmps4
  go_wp2_with (first
    | (go_at_call 5; refine haw.out.mono ?_; rintro e w1 ⟨rfl, hb1⟩; have hB1 := Lib.hid hb1; clear hb1)
    | (go_at_call 6; have _t := tok1; refine (hF.out _ hB1.out).mono ?_; rintro e w2 ⟨rfl, hww⟩; have hws := hww.symm; clear hww; subst hws; have tok2 := trivial; clear tok1)
    | (go_at_call 6; have _t := tok2; refine (hF2.out _ hB1.out).mono ?_; rintro e w2 ⟨rfl, hww⟩; have hws := hww.symm; clear hww; subst hws; have tok3 := trivial; clear tok2)
    | (go_at_call 6; have _t := tok3; refine (hF3.out _ hB1.out).mono ?_; rintro e w2 ⟨rfl, hww⟩; have hws := hww.symm; clear hww; subst hws; clear tok3))
  go_loopw [8] (fun s8 wr => ∃ k : Nat, k ≤ na ∧ s8 = .int .i64 k ∧ Hid (∀ t ∈ a.take k, t ≠ [113, 10]) ∧ Hid (Below w.heap.size w wr)) (fun s8 _ => na - (intOf s8).toNat)
  case atStart => exact ⟨0, Nat.zero_le _, rfl, Lib.hid (by simp), hB1⟩
  case round =>
    obtain ⟨k, hk, rfl, hq, hB⟩ := hrel
    have tokL := trivial
    by_cases hlt : k < na
    · obtain ⟨bk, o, t, rfl, hbk, ht, hc0⟩ := Strs.at_ h0h.out.2.2 (k := k) hlt
      have xt := (hB.out.cell (p := ⟨bk, o + k, none⟩) hbk).trans hc0
      obtain ⟨S0, hS0⟩ : ∃ S, str t = S := ⟨_, rfl⟩
      rw [hS0] at xt
      have he : (S0.toList == [113, 10]) = decide (t = [113, 10]) := by
        rw [← hS0, Lib.toList_data, str_data, Bool.eq_iff_iff, beq_iff_eq, decide_eq_true_eq]
      by_cases hte : t = [113, 10]
      · have he2 : (S0.toList == [113, 10]) = true := by rw [he, decide_eq_true hte]
        clear he hte ht hc0 hS0 hbk
        go_wp2
        go_ret
        exact ⟨rfl, hB.out⟩
      · have he2 : (S0.toList == [113, 10]) = false := by rw [he, decide_eq_false hte]
        have hq2 : Hid (∀ t ∈ a.take (k + 1), t ≠ [113, 10]) := Lib.hid (by
          rw [take_at ht]
          intro u hu
          rcases List.mem_append.1 hu with h | h
          · exact hq.out u h
          · rw [List.mem_singleton.1 h]; exact hte)
        have e88 : IntKind.i64.wrap ((k : Int) + 1) = (k : Int) + 1 := IntWalk.i64_in _ (by have := hna.out; omega)
        clear he hte ht hc0 hS0 hbk hq
        go_wp2
        go_roundw
        case rel => exact ⟨k + 1, by omega, by go_num, hq2, hB⟩
        case measure => simp [intOf]; omega
    · obtain rfl : k = na := by omega
      have hq3 : ∀ t ∈ a, t ≠ [113, 10] := by have := hq.out; rw [List.take_of_length_le (by rw [halh.out]; exact Nat.le_refl _)] at this; exact this
      have hj := hjoin.out hq3
      clear hjoin hq3 hq
      by_cases hE : E = 0
      · subst hE
        obtain ⟨j1, j2⟩ := hj rfl
        clear hj
        by_cases hG : G = 0
        · subst hG
          obtain ⟨rfl, rfl, hU⟩ := j2 rfl
          clear j1 j2
          by_cases hb0 : nb = 0
          · subst hb0
            have hbn : b = [] := List.eq_nil_of_length_eq_zero hblh.out
            rw [if_pos (.inl hbn)] at hU
            subst hU
            clear hbn hlt hk
            cases U
            all_goals
              go_wp2_with (first
            | (go_at_call 7; have _t := tokL; refine (hC1.out _ hB.out).mono ?_; rintro e w3 ⟨A3, n3, c3, rfl, p3, q3⟩; have hP3 := Lib.hid p3; have hB3 := Lib.hid (hB.out.trans (q3.mono hB.out.size)); have tokM := trivial; clear p3 q3 tokL)
            | (go_at_call 7; have _t := tokM; refine (hC2.out _ _ _ _ hB3.out hP3.out).mono ?_; rintro e w4 ⟨A4, n4, c4, rfl, p4, q4⟩; have hP4 := Lib.hid p4; have hB4 := Lib.hid (hB3.out.trans (q4.mono hB3.out.size)); have tokN := trivial; clear p4 q4 tokM)
            | (go_at_call 10; refine (hBt.out _ hB4.out).mono ?_; rintro e w5 ⟨A5, n5, c5, rfl, p5, q5⟩; have hP5 := Lib.hid p5; have hP4b := Lib.hid (hP4.out.up q5); have hB5 := Lib.hid (hB4.out.trans (q5.mono hB4.out.size)); clear p5 q5)
            | (go_at_call 7; have _t := tokN; refine (hC3.out _ _ _ _ hB5.out hP5.out).mono ?_; rintro e w6 ⟨A6, n6, c6, rfl, p6, q6⟩; have hP6 := Lib.hid p6; have hP4c := Lib.hid (hP4b.out.up q6); have hB6 := Lib.hid (hB5.out.trans (q6.mono hB5.out.size)); clear p6 q6 tokN)
            | (go_at_call 11; refine (Same_any A4 A6 n4 n6 c4 c6 w6.heap.size w6.heap.size Y Y w6 (Nat.le_trans hP4c.out.1 hP4c.out.2.1) (Nat.le_trans hP6.out.1 hP6.out.2.1) hP4c.out.2.2 hP6.out.2.2).mono ?_; rintro e w7 ⟨rfl, q, rfl⟩; rw [decide_eq_true (rfl : Y = Y)]))
              go_ret
              exact ⟨rfl, below_drewN hB6.out q⟩
          · obtain ⟨bb, ob, tb, rfl, hbb, htb, hcb⟩ := Strs.at_ h1h.out.2.2 (k := 0) (show 0 < nb by omega)
            rw [Nat.add_zero] at hcb
            have hnb0 : ((nb : Int) == 0) = false := by rw [beq_eq_false_iff_ne]; omega
            have hnb1 : (0 : Int) < (nb : Int) := by omega
            have hcell := Lib.hid (fun (V : World) (hV : Below w.heap.size w V) => (hV.cell (p := ⟨bb, ob, none⟩) hbb).trans hcb)
            have hbne : b ≠ [] := fun e => by rw [e] at htb; cases htb
            have hhd : b.head? = some tb := by rw [List.head?_eq_getElem?]; exact htb
            rw [hhd] at hU
            obtain ⟨S0, hS0⟩ : ∃ S, str tb = S := ⟨_, rfl⟩
            have he : (S0.toList == [113, 10]) = decide (tb = [113, 10]) := by
              rw [← hS0, Lib.toList_data, str_data, Bool.eq_iff_iff, beq_iff_eq, decide_eq_true_eq]
            rw [hS0] at hcell
            by_cases hte : tb = [113, 10]
            · have he2 : (S0.toList == [113, 10]) = true := by rw [he, decide_eq_true hte]
              rw [if_pos (.inr (by rw [hte]))] at hU
              subst hU
              clear he hte hhd hbne htb hcb hbb hS0 hb0 hlt hk
              cases U
              all_goals
                go_wp2_with (first
            | (go_at_call 7; have _t := tokL; refine (hC1.out _ hB.out).mono ?_; rintro e w3 ⟨A3, n3, c3, rfl, p3, q3⟩; have hP3 := Lib.hid p3; have hB3 := Lib.hid (hB.out.trans (q3.mono hB.out.size)); have tokM := trivial; clear p3 q3 tokL)
            | (go_at_call 7; have _t := tokM; refine (hC2.out _ _ _ _ hB3.out hP3.out).mono ?_; rintro e w4 ⟨A4, n4, c4, rfl, p4, q4⟩; have hP4 := Lib.hid p4; have hB4 := Lib.hid (hB3.out.trans (q4.mono hB3.out.size)); have tokN := trivial; clear p4 q4 tokM)
            | (go_at_call 10; refine (hBt.out _ hB4.out).mono ?_; rintro e w5 ⟨A5, n5, c5, rfl, p5, q5⟩; have hP5 := Lib.hid p5; have hP4b := Lib.hid (hP4.out.up q5); have hB5 := Lib.hid (hB4.out.trans (q5.mono hB4.out.size)); clear p5 q5)
            | (go_at_call 7; have _t := tokN; refine (hC3.out _ _ _ _ hB5.out hP5.out).mono ?_; rintro e w6 ⟨A6, n6, c6, rfl, p6, q6⟩; have hP6 := Lib.hid p6; have hP4c := Lib.hid (hP4b.out.up q6); have hB6 := Lib.hid (hB5.out.trans (q6.mono hB5.out.size)); have xb := hcell.out _ hB6.out; clear p6 q6 tokN)
            | (go_at_call 11; refine (Same_any A4 A6 n4 n6 c4 c6 w6.heap.size w6.heap.size Y Y w6 (Nat.le_trans hP4c.out.1 hP4c.out.2.1) (Nat.le_trans hP6.out.1 hP6.out.2.1) hP4c.out.2.2 hP6.out.2.2).mono ?_; rintro e w7 ⟨rfl, q, rfl⟩; rw [decide_eq_true (rfl : Y = Y)]))
                go_ret
                exact ⟨rfl, below_drewN hB6.out q⟩
            · have he2 : (S0.toList == [113, 10]) = false := by rw [he, decide_eq_false hte]
              rw [if_neg (by rintro (h | h); exact hbne h; injection h with h; exact hte h)] at hU
              subst hU
              clear he hte hhd hbne htb hcb hbb hS0 hb0 hlt hk
              cases U
              all_goals
                go_wp2_with (first
            | (go_at_call 7; have _t := tokL; refine (hC1.out _ hB.out).mono ?_; rintro e w3 ⟨A3, n3, c3, rfl, p3, q3⟩; have hP3 := Lib.hid p3; have hB3 := Lib.hid (hB.out.trans (q3.mono hB.out.size)); have tokM := trivial; clear p3 q3 tokL)
            | (go_at_call 7; have _t := tokM; refine (hC2.out _ _ _ _ hB3.out hP3.out).mono ?_; rintro e w4 ⟨A4, n4, c4, rfl, p4, q4⟩; have hP4 := Lib.hid p4; have hB4 := Lib.hid (hB3.out.trans (q4.mono hB3.out.size)); have tokN := trivial; clear p4 q4 tokM)
            | (go_at_call 10; refine (hBt.out _ hB4.out).mono ?_; rintro e w5 ⟨A5, n5, c5, rfl, p5, q5⟩; have hP5 := Lib.hid p5; have hP4b := Lib.hid (hP4.out.up q5); have hB5 := Lib.hid (hB4.out.trans (q5.mono hB4.out.size)); clear p5 q5)
            | (go_at_call 7; have _t := tokN; refine (hC3.out _ _ _ _ hB5.out hP5.out).mono ?_; rintro e w6 ⟨A6, n6, c6, rfl, p6, q6⟩; have hP6 := Lib.hid p6; have hP4c := Lib.hid (hP4b.out.up q6); have hB6 := Lib.hid (hB5.out.trans (q6.mono hB5.out.size)); have xb := hcell.out _ hB6.out; clear p6 q6 tokN)
            | (go_at_call 11; refine (Same_any A4 A6 n4 n6 c4 c6 w6.heap.size w6.heap.size Y Y w6 (Nat.le_trans hP4c.out.1 hP4c.out.2.1) (Nat.le_trans hP6.out.1 hP6.out.2.1) hP4c.out.2.2 hP6.out.2.2).mono ?_; rintro e w7 ⟨rfl, q, rfl⟩; rw [decide_eq_true (rfl : Y = Y)]))
                go_ret
                exact ⟨rfl, below_drewN hB6.out q⟩
        · obtain ⟨rfl, rfl⟩ := j1 hG
          clear j1 j2
          have t0 : ((K : Int) != 0) = true := by simp; omega
          obtain ⟨Q, hQ⟩ : ∃ Q, Lm + k = Q := ⟨_, rfl⟩
          have hn3 := hna.out
          have hl3 := hLm.out
          have e9 : (Lm : Int) + (k : Int) = (Q : Int) := by omega
          have e8 : IntKind.i64.wrap (Q : Int) = (Q : Int) := IntWalk.i64_in _ (by omega)
          rw [hQ] at hC3
          clear hG hQ hn3 hl3 hlt hk
          go_wp2_with (first
            | (go_at_call 7; have _t := tokL; refine (hC1.out _ hB.out).mono ?_; rintro e w3 ⟨A3, n3, c3, rfl, p3, q3⟩; have hP3 := Lib.hid p3; have hB3 := Lib.hid (hB.out.trans (q3.mono hB.out.size)); have tokM := trivial; clear p3 q3 tokL)
            | (go_at_call 7; have _t := tokM; refine (hC2.out _ _ _ _ hB3.out hP3.out).mono ?_; rintro e w4 ⟨A4, n4, c4, rfl, p4, q4⟩; have hP4 := Lib.hid p4; have hB4 := Lib.hid (hB3.out.trans (q4.mono hB3.out.size)); have tokN := trivial; clear p4 q4 tokM)
            | (go_at_call 10; refine (hBt.out _ hB4.out).mono ?_; rintro e w5 ⟨A5, n5, c5, rfl, p5, q5⟩; have hP5 := Lib.hid p5; have hB5 := Lib.hid (hB4.out.trans (q5.mono hB4.out.size)); clear p5 q5)
            | (go_at_call 7; have _t := tokN; refine (hC3.out _ _ _ _ hB5.out hP5.out).mono ?_; rintro e w6 ⟨A6, n6, c6, rfl, p6, q6⟩; have hP6 := Lib.hid p6; have hB6 := Lib.hid (hB5.out.trans (q6.mono hB5.out.size)); clear p6 q6 tokN))
          go_ret
          exact ⟨rfl, hB6.out⟩
      · have t0 : ((E : Int) != 0) = true := by simp; omega
        clear hj hE
        go_wp2_with (go_at_call 7; refine (hC1.out _ hB.out).mono ?_; rintro e w3 ⟨A3, n3, c3, rfl, p3, q3⟩; have hB3 := Lib.hid (hB.out.trans (q3.mono hB.out.size)); clear p3 q3)
        go_ret
        exact ⟨rfl, hB3.out⟩
end
end Go.Proofs.YtdfpifipkchmnaaDoor

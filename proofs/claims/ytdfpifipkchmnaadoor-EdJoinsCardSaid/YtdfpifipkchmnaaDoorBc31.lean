/- Proved here: texts joined: DtUn, EdHd. -/
import Derived.Test.YtdfpifipkchmnaaDoorBc24
import Derived.Test.YtdfpifipkchmnaaDoorBc25
import Derived.Test.YtdfpifipkchmnaaDoorBc30
import Derived.Deep.DeepCutAuto
import Derived.Deep.RegionLaw
/- Proved here: the contract of the landed dots.Unblock. -/
namespace Go.Proofs.YtdfpifipkchmnaaDoor
open Go.RowKit
set_option linter.unusedVariables false
set_option maxRecDepth 100000

set_option maxHeartbeats 2000000 in
theorem unblock_own (A : Option Addr) (n c : Nat) (l : Txs) (w : World) (hsm : smallD l) (hA : TxR w w.heap.size (A, n, c) l) :
    Calls Tryd.prog 51 #[.slice A n c] w fun e w' => ∃ v, e = .returned (.tuple #[v, .int .i64 ((unblockD [] 0 l).2 : Int)]) ∧ TxO w w' v (unblockD [] 0 l).1 := by
  have hl := hA.2.2.len
  dsimp only at hl
  have hn : n ≤ 100000 := by rw [← hl]; exact hsm.1
  have hAh := Lib.hid hA
  have hlh := Lib.hid hl
  have hb0 := Lib.hid (Below.refl w.heap.size w)
  obtain ⟨RR, hRR⟩ : ∃ RR, unblockD [] 0 l = RR := ⟨_, rfl⟩
  rw [hRR]
  have hRh : Hid (RR = unblockD (l.take 0) 0 (l.drop 0)) := Lib.hid hRR.symm
  clear hA hl hsm hRR
  go_enter Tryd.func51, Tryd.ntmps51
  go_wp2
  go_loop [4, 7] (fun _ i => ∃ k : Nat, k ≤ n ∧ i = .int .i64 k ∧ Hid (RR = unblockD (l.take k) k (l.drop k))) (fun _ i => n - (intOf i).toNat)
  case atStart => exact ⟨0, Nat.zero_le _, rfl, hRh⟩
  case round =>
    obtain ⟨k, hk, rfl, hm⟩ := hrel
    clear hRh
    by_cases hlt : k < n
    · obtain ⟨b, o, t, rfl, hb, ht, hc⟩ := Strs.at_ hAh.out.2.2 (k := k) hlt
      have hst := unblock_step l k t ht
      obtain ⟨S, hS⟩ : ∃ S, str t = S := ⟨_, rfl⟩
      rw [hS] at hc
      have he : (S.toList == [46, 10]) = decide (t = endD) := by
        rw [← hS, Lib.toList_data, str_data, Bool.eq_iff_iff, beq_iff_eq, decide_eq_true_eq]
        rfl
      by_cases hte : t = endD
      · have he2 : (S.toList == [46, 10]) = true := by rw [he, decide_eq_true hte]
        rw [if_pos hte] at hst
        have hRR : Hid (RR = (l.take k, k + 1)) := Lib.hid (by rw [hm.out, hst])
        obtain ⟨A', m', q', hsl, hT', hm'⟩ := slice_to (k := k) hAh.out (by omega)
        have hC := Lib.hid (cloneT_any A' m' q' w.heap.size (l.take k) w (by omega) (Nat.le_refl _) hT'.2.2)
        have hTh := Lib.hid hT'
        have hmh := Lib.hid hm'
        clear he hte hst hm ht hT' hS hm'
        go_wp2_with (go_at_call 14; refine hC.out.mono ?_; rintro e w1 ⟨v, rfl, hv⟩; have hvh := Lib.hid hv; clear hv)
        go_ret2
        rw [hRR.out]
        exact ⟨v, by simp, hvh.out⟩
      · have he2 : (S.toList == [46, 10]) = false := by rw [he, decide_eq_false hte]
        rw [if_neg hte] at hst
        have hm2 : Hid (RR = unblockD (l.take (k + 1)) (k + 1) (l.drop (k + 1))) := Lib.hid (by rw [hm.out, hst])
        clear he hte hst hm ht hS
        go_wp2
        go_round
        case rel => exact ⟨k + 1, by omega, by go_num, hm2⟩
        case measure => simp [intOf]; omega
    · obtain rfl : k = n := by omega
      have hRR : Hid (RR = ([], 0)) := Lib.hid (by
        rw [hm.out, List.drop_of_length_le (by rw [hlh.out]; exact Nat.le_refl _)]
        cases l.take k <;> rfl)
      clear hm
      go_wp2
      go_ret2
      rw [hRR.out]
      exact ⟨.slice none 0 0, rfl, World.ownsRow_nil _ _ _ _, hb0.out⟩
theorem unblock_anyL : DotUnblockOk := fun A n c l w hsm hA => (unblock_own A n c l w hsm hA).mono fun e w' h => by
  obtain ⟨v, rfl, hT⟩ := h
  obtain ⟨A2, n2, c2, e2, h2, h3⟩ := hT.out
  injection e2 with e2
  subst e2
  exact ⟨A2, n2, c2, rfl, h2, h3⟩

end Go.Proofs.YtdfpifipkchmnaaDoor
/- Proved here: the landed editor's handed: the text that is handed over behind a command. -/
namespace Go.Proofs.YtdfpifipkchmnaaDoor
open Go.RowKit
set_option linter.unusedVariables false
set_option maxRecDepth 100000

section
variable {B0 E r K : Nat} {w : World} {As : Option Addr} {ns cs : Nat} {fv : Value} {script file text : Txs} {wr ov : Bool}
theorem unb_small {acc l : Txs} (hs : smallD l) : (unblockD [] 0 l).1.length ≤ 100000 ∧ ∀ t ∈ (unblockD [] 0 l).1, t.length ≤ 1000000 := by
  have hm := (unblock_le (l := l) (acc := []) (i := 0)).2
  refine ⟨?_, fun t ht => (hm t ht).elim (fun h => by cases h) fun h => hs.2 t h⟩
  have key : ∀ (l acc : Txs) (i : Nat), (unblockD acc i l).1.length ≤ acc.length + l.length := by
    intro l
    induction l with
    | nil => intro acc i; simp [unblockD]
    | cons t l ih =>
      intro acc i
      unfold unblockD
      split
      · simp
      · have := ih (acc ++ [t]) (i + 1)
        simp only [List.length_append, List.length_cons, List.length_nil] at this ⊢
        omega
  have h1 := hs.1
  have h2 := key l [] 0
  simp only [List.length_nil] at h2
  omega
theorem small_drop {l : Txs} (h : smallD l) (k : Nat) : smallD (l.drop k) := ⟨by rw [List.length_drop]; have := h.1; omega, fun s hs => h.2 s (List.mem_of_mem_drop hs)⟩

set_option maxHeartbeats 4000000 in
theorem handed_none (h : EdI B0 w E (As, ns, cs) fv script (r : Int) file wr ov) (hs : smallD script) (hr : r ≤ script.length) (hu : (unblockD [] 0 (script.drop r)).2 = 0) :
    Calls Tryd.prog 38 #[.pointer (some ⟨E, 0, none⟩)] w fun e w' => e = .panicked (WR ((script.length : Int) + 1) 2) ∧ Below w.heap.size w w' := by
  have hd : EdI B0 w.drew E (As, ns, cs) fv script (r : Int) file wr ov := h.up (below_drew (Below.refl _ _))
  have hsl := h.scr.2.2.len
  dsimp only at hsl
  obtain ⟨A', m, q, hslc, hT, hm⟩ := slice_from (k := r) hd.scr (by omega)
  have hlt := h.lt
  have hlow := h.low
  have hU := unblock_own A' m q (script.drop r) w.drew (small_drop hs r) (hT.more (by show B0 ≤ w.heap.size; omega))
  rw [hu, show ((0 : Nat) : Int) = 0 from rfl] at hU
  have hUh := Lib.hid hU
  obtain ⟨x0, x1, -, -, -⟩ := hd.cells
  have hdh := Lib.hid hd
  have hslh := Lib.hid hsl
  have hmx : Hid ((ns : Int) + 1 ≤ 1000000) := Lib.hid (by have := hs.1; omega)
  have hb := Lib.hid (below_drew (Below.refl w.heap.size w))
  clear hU hT hs hr hu h hd hsl
  go_enter Tryd.func38, Tryd.ntmps38
  go_upto_region 1 with fail
  go_region_law (go_simp; go_at_call 51; refine hUh.out.mono ?_; rintro e w1 ⟨v, rfl, hT⟩; have hB1 := Lib.hid hT.below; clear hT)
  all_goals
    obtain ⟨y0, -, -, -, -⟩ := (hdh.out.up hB1.out).cells
    have hmx2 := hmx.out
    have w2 : IntKind.i64.wrap ((ns : Int) + 1) = (ns : Int) + 1 := by rw [IntKind.wrap_i64]; omega
    go_wp2
    exact ⟨rfl, by rw [hslh.out]; rfl, hb.out.trans (hB1.out.mono hb.out.size)⟩
/-- The text is not lines, or is open. -/
theorem mem_len {l : Txs} (h : ∀ t ∈ l, t.length ≤ 1000000) : ∀ t ∈ l, t.length ≤ maxLen := fun t ht => by have := h t ht; unfold maxLen; omega

set_option maxHeartbeats 4000000 in
theorem handed_bad (h : EdI B0 w E (As, ns, cs) fv script (r : Int) file wr ov) (hs : smallD script) (hr : r ≤ script.length) (hu : (unblockD [] 0 (script.drop r)).2 ≠ 0) (hbad : (mayB (unblockD [] 0 (script.drop r)).1 && !openB (unblockD [] 0 (script.drop r)).1) = false) :
    Calls Tryd.prog 38 #[.pointer (some ⟨E, 0, none⟩)] w fun e w' => e = .panicked (WR (r : Int) 2) ∧ Below w.heap.size w w' := by
  have hd : EdI B0 w.drew E (As, ns, cs) fv script (r : Int) file wr ov := h.up (below_drew (Below.refl _ _))
  have hsl := h.scr.2.2.len
  dsimp only at hsl
  obtain ⟨A', m, q, hslc, hT, hm⟩ := slice_from (k := r) hd.scr (by omega)
  have hlt := h.lt
  have hlow := h.low
  have hU := unblock_own A' m q (script.drop r) w.drew (small_drop hs r) (hT.more (by show B0 ≤ w.heap.size; omega))
  obtain ⟨hq1, hq2⟩ := unb_small (acc := []) (small_drop hs r)
  obtain ⟨X, hX⟩ : ∃ X, unblockD [] 0 (script.drop r) = X := ⟨_, rfl⟩
  rw [hX] at hU hu hbad hq1 hq2
  obtain ⟨text, K⟩ := X
  dsimp only at hU hu hbad hq1 hq2
  have hUh := Lib.hid hU
  obtain ⟨x0, x1, -, -, -⟩ := hd.cells
  have hdh := Lib.hid hd
  have hK0 : ((K : Int) == 0) = false := by rw [beq_eq_false_iff_ne]; omega
  have hb := Lib.hid (below_drew (Below.refl w.heap.size w))
  have hq := Lib.hid (And.intro hq1 hq2)
  have hbh := Lib.hid hbad
  clear hU hT hs hr h hd hsl hX hq1 hq2 hbad
  go_enter Tryd.func38, Tryd.ntmps38
  go_upto_region 1 with fail
  go_region_law (go_simp; go_at_call 51; refine hUh.out.mono ?_; rintro e w1 ⟨v, rfl, hT⟩; obtain ⟨A2, n2, c2, e2, hR2, hB2⟩ := hT.out; injection e2 with e2; subst e2; have hB1 := Lib.hid hT.below; have hRh := Lib.hid hR2; clear hT hR2 hB2)
  all_goals
    have hE1 := hdh.out.up hB1.out
    have hn2 := hRh.out.2.2.len
    have hen := Lib.hid (edEnded_any A2 n2 c2 text w1 (by dsimp only at hn2; have := hq.out.1; unfold maxLen; omega) (mem_len hq.out.2) hRh.out)
    rw [hbh.out] at hen
    have hmb := Lib.hid (must_bad E 2 (r : Int) w1 hE1.cells.2.1)
    clear hE1 hn2
    go_wp2_with (first
      | (go_at_call 12; refine hen.out.mono ?_; rintro e w' ⟨rfl, rfl⟩)
      | (go_at_call 22; refine hmb.out.mono ?_; rintro e w' ⟨rfl, rfl⟩))
    exact ⟨rfl, rfl, hb.out.trans (hB1.out.mono hb.out.size)⟩

set_option maxHeartbeats 4000000 in
theorem handed_ok (h : EdI B0 w E (As, ns, cs) fv script (r : Int) file wr ov) (hs : smallD script) (hr : r ≤ script.length) (hX : unblockD [] 0 (script.drop r) = (text, K)) (hu : K ≠ 0) (hok : (mayB text && !openB text) = true) :
    Calls Tryd.prog 38 #[.pointer (some ⟨E, 0, none⟩)] w fun e w' => ∃ v, e = .returned v ∧ EdI B0 w' E (As, ns, cs) fv script ((r + K : Nat) : Int) file wr ov ∧ w'.ownsRow w.heap.size 9 1 v text.length (txC text) ∧ But (fun j => j = E) w w' := by
  have hd : EdI B0 w.drew E (As, ns, cs) fv script (r : Int) file wr ov := h.up (below_drew (Below.refl _ _))
  have hsl := h.scr.2.2.len
  dsimp only at hsl
  obtain ⟨A', m, q, hslc, hT, hm⟩ := slice_from (k := r) hd.scr (by omega)
  have hlt := h.lt
  have hlow := h.low
  have hU := unblock_own A' m q (script.drop r) w.drew (small_drop hs r) (hT.more (by show B0 ≤ w.heap.size; omega))
  obtain ⟨hq1, hq2⟩ := unb_small (acc := []) (small_drop hs r)
  have hK1 := (unblock_le (l := script.drop r) (acc := []) (i := 0)).1
  rw [hX] at hU hq1 hq2 hK1
  dsimp only at hU hq1 hq2 hK1
  have hUh := Lib.hid hU
  obtain ⟨x0, x1, -, -, -⟩ := hd.cells
  have hdh := Lib.hid hd
  have hK0 : ((K : Int) == 0) = false := by rw [beq_eq_false_iff_ne]; omega
  have hrK : Hid ((r : Int) + (K : Int) ≤ 1000000 ∧ (r : Int) + (K : Int) = ((r + K : Nat) : Int)) := Lib.hid (by have := hs.1; rw [List.length_drop] at hK1; exact ⟨by omega, by omega⟩)
  have hb := Lib.hid (below_drew (Below.refl w.heap.size w))
  have hq := Lib.hid (And.intro hq1 hq2)
  have hbh := Lib.hid hok
  clear hU hT hs hr h hd hsl hX hq1 hq2 hok hK1
  go_enter Tryd.func38, Tryd.ntmps38
  go_upto_region 1 with fail
  go_region_law (go_simp; go_at_call 51; refine hUh.out.mono ?_; rintro e w1 ⟨v, rfl, hT⟩; obtain ⟨A2, n2, c2, e2, hR2, hB2⟩ := hT.out; injection e2 with e2; subst e2; have hB1 := Lib.hid hT; have hRh := Lib.hid hR2; clear hT hR2 hB2)
  all_goals
    have hE1 := hdh.out.up hB1.out.below
    have hn2 := hRh.out.2.2.len
    have hen := Lib.hid (edEnded_any A2 n2 c2 text w1 (by dsimp only at hn2; have := hq.out.1; unfold maxLen; omega) (mem_len hq.out.2) hRh.out)
    rw [hbh.out] at hen
    have hmb := Lib.hid (must_ok E 2 w1)
    obtain ⟨-, y1, -, -, -⟩ := hE1.cells
    have y2 := hE1.free 1
    have hfin := Lib.hid (hE1.setRd ((r : Int) + (K : Int)))
    have hown := hB1.out.own
    have hown2 : Hid ((w1.setCell ⟨E, 1, none⟩ (.int .i64 ((r : Int) + (K : Int)))).ownsRow w.heap.size 9 1 (.slice A2 n2 c2) text.length (txC text)) := Lib.hid (ownsRow_kept hown fun k e => Below.heap_setCell _ _ _ _ (fun e2 => by have := (hown.lt k e).1; have h3 : k = E := e2; have h4 : w.drew.heap.size = w.heap.size := rfl; omega))
    have hbt : Hid (But (fun j => j = E) w (w1.setCell ⟨E, 1, none⟩ (.int .i64 ((r : Int) + (K : Int))))) := Lib.hid (((But.of_below (F := fun j => j = E) (hb.out.trans (hB1.out.below.mono hb.out.size)) fun k hk _ => hk)).trans (But.setB (F := fun j => j = E) rfl 1 _) fun k e => .inl e)
    have hlim := hrK.out.1
    have ww : IntKind.i64.wrap ((r : Int) + (K : Int)) = (r : Int) + (K : Int) := by rw [IntKind.wrap_i64]; omega
    clear hE1 hn2 hown
    go_wp2_with (first
      | (go_at_call 12; refine hen.out.mono ?_; rintro e w' ⟨rfl, hww⟩; have hws := hww.symm; clear hww; subst hws)
      | (go_at_call 22; refine hmb.out.mono ?_; rintro e w' ⟨rfl, hww⟩; have hws := hww.symm; clear hww; subst hws))
    go_ret
    refine ⟨_, rfl, ?_, hown2.out, hbt.out⟩
    rw [← hrK.out.2]
    exact hfin.out
end
end Go.Proofs.YtdfpifipkchmnaaDoor

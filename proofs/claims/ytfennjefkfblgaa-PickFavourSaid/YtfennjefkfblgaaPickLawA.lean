/- Proved here, out of the contracts of package pick: the walks of PickSame and PickChooses. -/
import Derived.Test.YtfennjefkfblgaaPickOk
namespace Go.Proofs.Ytfennjefkfblgaa
open Go.RowKit
set_option linter.unusedVariables false

/-- Pieces that came in. -/
def ArgPcs (w : World) (A : Option Addr) (n c : Nat) (vs : List PcV) (ps : List Pc) : Prop := n ≤ c ∧ c ≤ maxLen ∧ Pcs w w.heap.size A n vs ps

theorem fewP1_text {p : Pc} (h : fewP1 p = true) : p.2.1.length ≤ 20 := by
  unfold fewP1 at h
  rw [Bool.and_eq_true] at h
  exact fewB_len h.1
theorem fewP1_side {p : Pc} (h : fewP1 p = true) : ∀ s ∈ p.2.2.2, s.length ≤ 20 := by
  unfold fewP1 at h
  rw [Bool.and_eq_true] at h
  exact fun s hs => (fewT_parts h.2).2.2 s hs
theorem chosen_few {p : Pc} (z : Int) (h : fewP1 p = true) : (chosen z p).length ≤ 20 := by
  unfold chosen
  split
  · split
    · cases hs : p.2.2.2[(z - 1).toNat]? with
      | none => simp
      | some s => exact fewP1_side h s (List.mem_of_getElem? hs)
    · simp
  · exact fewP1_text h
theorem choose_few (z : Int) : ∀ {ps : List Pc}, (∀ p ∈ ps, fewP1 p = true) → (choose ps z).length ≤ ps.length * 20
  | [], _ => by simp [choose]
  | p :: ps, h => by
    have h1 := choose_few z (ps := ps) fun q hq => h q (List.mem_cons_of_mem _ hq)
    have h2 := chosen_few z (h p (List.mem_cons_self ..))
    unfold choose at h1 ⊢
    rw [List.flatMap_cons, List.length_append, List.length_cons]
    omega
theorem smallN_few {ps : List Pc} (h : ∀ p ∈ ps, fewP1 p = true) : smallN ps := by
  intro p hp
  have h1 := h p hp
  unfold fewP1 at h1
  rw [Bool.and_eq_true] at h1
  obtain ⟨a1, a2, a3⟩ := fewT_parts h1.2
  refine ⟨by omega, fun d hd => ?_⟩
  rcases List.mem_cons.1 hd with rfl | hd
  · omega
  · have := a3 d hd
    omega
theorem sumT_few : ∀ {ps : List Pc}, (∀ p ∈ ps, fewP1 p = true) → sumT ps ≤ ps.length * 20
  | [], _ => by simp [sumT]
  | p :: ps, h => by
    have h1 := sumT_few (ps := ps) fun q hq => h q (List.mem_cons_of_mem _ hq)
    have h2 := fewP1_text (h p (List.mem_cons_self ..))
    rw [sumT_cons, List.length_cons]
    omega
theorem joinT_len (t : Txs) : ∀ r : List Pc, (joinT t r).length ≤ r.length + 1
  | [] => by by_cases h : t = [] <;> simp [joinT, h]
  | (false, x, b, s) :: r => by simp [joinT]
  | (true, x, b, s) :: r => by by_cases h : t = [] <;> simp [joinT, h]
theorem normal_len : ∀ ps : List Pc, (normal ps).length ≤ ps.length
  | [] => by simp [normal]
  | (true, _, b, s) :: l => by simpa [normal] using normal_len l
  | (false, t, _, _) :: l => by
    have h1 := normal_len l
    have h2 := joinT_len t (normal l)
    rw [normal, List.length_cons]
    omega
section
variable (H : PickOk)
include H

set_option maxRecDepth 100000 in
set_option maxHeartbeats 2000000 in
theorem PickSame_walk (A : Option Addr) (n c : Nat) (vs : List PcV) (xs : List Pc) (A' : Option Addr) (n' c' : Nat) (vs' : List PcV) (ys : List Pc) (w : World) (h0 : ArgPcs w A n c vs xs) (h1 : ArgPcs w A' n' c' vs' ys) :
    Calls Try.prog 8 #[.slice A n c, .slice A' n' c'] w fun e w' => e = .returned (.bool true) ∧ Below w.heap.size w w' := by
  have hn : n ≤ maxLen := Nat.le_trans h0.1 h0.2.1
  have hn' : n' ≤ maxLen := Nat.le_trans h1.1 h1.2.1
  have haw := Lib.hid (awake_any H w)
  obtain ⟨fa, hfa⟩ : ∃ fa, fewP xs = fa := ⟨_, rfl⟩
  obtain ⟨fb, hfb⟩ : ∃ fb, fewP ys = fb := ⟨_, rfl⟩
  have hFa := Lib.hid (fun (W : World) (hb : Below w.heap.size w W) => (pFew_any A n c w.heap.size vs xs W hn (h0.2.2.below hb)).mono fun e w' (h : _ ∧ ∃ q, w' = W.drewN q) => show e = .returned (.bool (fewP xs)) ∧ Below w.heap.size w w' from ⟨h.1, by obtain ⟨q, rfl⟩ := h.2; exact below_drewN hb q⟩)
  have hFb := Lib.hid (fun (W : World) (hb : Below w.heap.size w W) => (pFew_any A' n' c' w.heap.size vs' ys W hn' (h1.2.2.below hb)).mono fun e w' (h : _ ∧ ∃ q, w' = W.drewN q) => show e = .returned (.bool (fewP ys)) ∧ Below w.heap.size w w' from ⟨h.1, by obtain ⟨q, rfl⟩ := h.2; exact below_drewN hb q⟩)
  rw [hfa] at hFa
  rw [hfb] at hFb
  have harms : fa = true → fb = true → Hid (∀ (W : World), Below w.heap.size w W → Calls Try.prog 24 #[.slice A n c, .slice A' n' c'] W fun e w' => e = .returned (.bool (decide (xs = ys))) ∧ Below w.heap.size w w') ∧
      Hid (∀ (W : World), Below w.heap.size w W → Calls Try.prog 24 #[.slice A n c, .slice A n c] W fun e w' => e = .returned (.bool (decide (xs = xs))) ∧ Below w.heap.size w w') ∧
      Hid (∀ (W : World), Below w.heap.size w W → Calls Try.prog 13 #[.slice A n c, .slice A' n' c'] W fun e w' => e = .returned (.bool (decide (xs = ys))) ∧ Below w.heap.size w w') := by
    intro ha hb
    have l0 := (fewP_parts (hfa.trans ha)).1
    have l1 := (fewP_parts (hfb.trans hb)).1
    have k0 := h0.2.2.len
    have k1 := h1.2.2.len
    refine ⟨Lib.hid fun W hW => (H.same_ok A A' n n' c c' vs vs' xs ys W h0.1 h0.2.1 (by omega) h1.1 h1.2.1 (by omega) (h0.2.2.up hW) (h1.2.2.up hW)).mono fun e w' h => ⟨h.1, hW.trans (h.2.mono hW.size)⟩,
      Lib.hid fun W hW => (H.same_ok A A n n c c vs vs xs xs W h0.1 h0.2.1 (by omega) h0.1 h0.2.1 (by omega) (h0.2.2.up hW) (h0.2.2.up hW)).mono fun e w' h => ⟨h.1, hW.trans (h.2.mono hW.size)⟩,
      Lib.hid fun W hW => (pSame_any A A' n n' c c' _ _ vs vs' xs ys W hn hn' (h0.2.2.up hW) (h1.2.2.up hW)).mono fun e w' h => ⟨h.1, by obtain ⟨q, rfl⟩ := h.2; exact below_drewN hW q⟩⟩
  obtain ⟨d, hd⟩ : ∃ d, decide (xs = ys) = d := ⟨_, rfl⟩
  simp only [decide_true, hd] at harms
  clear h0 h1 hfa hfb hd hn hn'
  cases fa
  · clear harms hFb
    go_enter Try.func8, Try.ntmps8
    go_wp2_with (first
      | (go_at_call 9; refine haw.out.mono ?_; rintro e w1 ⟨rfl, hb1⟩)
      | (go_at_call 15; refine (hFa.out _ (by assumption)).mono ?_; rintro e w2 ⟨rfl, hb2⟩))
    go_ret
    exact ⟨rfl, hb2⟩
  · cases fb
    · clear harms
      go_enter Try.func8, Try.ntmps8
      go_wp2_with (first
        | (go_at_call 9; refine haw.out.mono ?_; rintro e w1 ⟨rfl, hb1⟩; have tok0 : True := trivial)
        | (have _t := tok0; clear tok0; go_at_call 15; refine (hFa.out _ hb1).mono ?_; rintro e w2 ⟨rfl, hb2⟩)
        | (go_at_call 15; refine (hFb.out _ hb2).mono ?_; rintro e w3 ⟨rfl, hb3⟩))
      go_ret
      exact ⟨rfl, hb3⟩
    · obtain ⟨hs1, hs2, hs3⟩ := harms rfl rfl
      clear harms
      go_enter Try.func8, Try.ntmps8
      go_wp2_with (first
        | (go_at_call 9; refine haw.out.mono ?_; rintro e w1 ⟨rfl, hb1⟩; have tok0 : True := trivial)
        | (have _t := tok0; clear tok0; go_at_call 15; refine (hFa.out _ hb1).mono ?_; rintro e w2 ⟨rfl, hb2⟩)
        | (go_at_call 15; refine (hFb.out _ hb2).mono ?_; rintro e w3 ⟨rfl, hb3⟩; have tok1 : True := trivial)
        | (have _t := tok1; clear tok1; go_at_call 24; refine (hs1.out _ hb3).mono ?_; rintro e w4 ⟨rfl, hb4⟩)
        | (go_at_call 13; refine (hs3.out _ hb4).mono ?_; rintro e w5 ⟨rfl, hb5⟩)
        | (go_at_call 24; refine (hs2.out _ hb5).mono ?_; rintro e w6 ⟨rfl, hb6⟩))
      go_ret
      exact ⟨by first | rfl | simp, hb6⟩

set_option maxRecDepth 100000 in
set_option maxHeartbeats 2000000 in
theorem PickChooses_walk (A : Option Addr) (n c : Nat) (vs : List PcV) (ps : List Pc) (z : Int) (w : World) (h0 : ArgPcs w A n c vs ps) (hz : inR64 z) :
    Calls Try.prog 5 #[.slice A n c, .int .i64 z] w fun e w' => e = .returned (.bool true) ∧ Below w.heap.size w w' := by
  have hn : n ≤ maxLen := Nat.le_trans h0.1 h0.2.1
  have haw := Lib.hid (awake_any H w)
  obtain ⟨fa, hfa⟩ : ∃ fa, fewP ps = fa := ⟨_, rfl⟩
  have hFa := Lib.hid (fun (W : World) (hb : Below w.heap.size w W) => (pFew_any A n c w.heap.size vs ps W hn (h0.2.2.below hb)).mono fun e w' (h : _ ∧ ∃ q, w' = W.drewN q) => show e = .returned (.bool (fewP ps)) ∧ Below w.heap.size w w' from ⟨h.1, by obtain ⟨q, rfl⟩ := h.2; exact below_drewN hb q⟩)
  rw [hfa] at hFa
  cases fa
  · clear h0 hn
    go_enter Try.func5, Try.ntmps5
    go_wp2_with (first
      | (go_at_call 9; refine haw.out.mono ?_; rintro e w1 ⟨rfl, hb1⟩)
      | (go_at_call 15; refine (hFa.out _ (by assumption)).mono ?_; rintro e w2 ⟨rfl, hb2⟩))
    go_ret
    exact ⟨rfl, hb2⟩
  · obtain ⟨l0, l1⟩ := fewP_parts hfa
    have k0 := h0.2.2.len
    have c1 := choose_few z l1
    have c2 := sumT_few l1
    have c3 := normal_len ps
    have hCh := Lib.hid (fun (W : World) (hb : Below w.heap.size w W) => H.choose_ok A n c vs ps z W h0.1 h0.2.1 (by omega) hz (by omega) (h0.2.2.up hb))
    have hrC := Lib.hid (fun (W : World) (hb : Below w.heap.size w W) => rChoose_any A n c vs ps z W hn hz (by omega) (h0.2.2.up hb))
    have hNm := Lib.hid (fun (W : World) (hb : Below w.heap.size w W) => H.normal_ok A n c vs ps W h0.1 h0.2.1 (by omega) (by omega) (smallN_few l1) (h0.2.2.up hb))
    have hCn := Lib.hid (fun (A3 : Option Addr) (n3 c3 : Nat) (vs3 : List PcV) (W : World) (e1 : n3 ≤ c3) (e2 : c3 ≤ maxLen) (h : Pcs W W.heap.size A3 n3 vs3 (normal ps)) => H.choose_ok A3 n3 c3 vs3 (normal ps) z W e1 e2 (by have := h.len; omega) hz (by rw [choose_normal]; omega) h)
    rw [choose_normal] at hCn
    obtain ⟨ch, hch⟩ : ∃ ch, choose ps z = ch := ⟨_, rfl⟩
    rw [hch] at hCh hrC hCn
    have hSm := Lib.hid (fun (A1 A2 : Option Addr) (n1 n2 c1 c2 : Nat) (W : World) (e1 : TxR W W.heap.size (A1, n1, c1) ch) (e2 : TxR W W.heap.size (A2, n2, c2) ch) => Same_any A1 A2 n1 n2 c1 c2 _ _ ch ch W (Nat.le_trans e1.1 e1.2.1) (Nat.le_trans e2.1 e2.2.1) e1.2.2 e2.2.2)
    clear h0 hn hfa l0 l1 k0 c1 c2 c3 hch
    go_enter Try.func5, Try.ntmps5
    go_wp2_with (first
      | (go_at_call 9; refine haw.out.mono ?_; rintro e w1 ⟨rfl, hb1⟩; have tok0 : True := trivial)
      | (go_at_call 15; refine (hFa.out _ (by assumption)).mono ?_; rintro e w2 ⟨rfl, hb2⟩)
      | (have _t := tok0; clear tok0; go_at_call 19; refine (hCh.out _ hb2).mono ?_; rintro e w3 ⟨A1, n1, c1, rfl, hT1, hb3⟩; have hB3 := hb2.trans (hb3.mono hb2.size); have tok1 : True := trivial)
      | (go_at_call 21; refine (hrC.out _ hB3).mono ?_; rintro e w4 ⟨A2, n2, c2, rfl, hT2, hb4⟩; have hT1' := hT1.up hb4; have hB4 := hB3.trans (hb4.mono hB3.size))
      | (have _t := tok1; clear tok1; go_at_call 20; refine (hSm.out A1 A2 n1 n2 c1 c2 _ hT1' hT2).mono ?_; rintro e w5 ⟨rfl, hw5⟩; simp only [decide_true]; have hb5 : Below w4.heap.size w4 w5 := (by obtain ⟨q, rfl⟩ := hw5; exact below_drewN (Below.refl _ _) q); have hT3 := hT1'.up hb5; have hB5 := hB4.trans (hb5.mono hB4.size); clear hw5)
      | (go_at_call 16; refine (hNm.out _ hB5).mono ?_; rintro e w6 ⟨A3, n3, c3, vs3, rfl, k1, k2, k3, hb6⟩; have hT4 := hT3.up hb6; have hB6 := hB5.trans (hb6.mono hB5.size))
      | (go_at_call 19; refine (hCn.out A3 n3 c3 vs3 _ k1 k2 k3).mono ?_; rintro e w7 ⟨A4, n4, c4, rfl, hT5, hb7⟩; have hT6 := hT4.up hb7; have hB7 := hB6.trans (hb7.mono hB6.size))
      | (go_at_call 20; refine (hSm.out A4 A1 n4 n1 c4 c1 _ hT5 hT6).mono ?_; rintro e w8 ⟨rfl, hw8⟩; simp only [decide_true]; have hB8 : Below w.heap.size w w8 := (by obtain ⟨q, rfl⟩ := hw8; exact below_drewN hB7 q); clear hw8))
    go_ret
    exact ⟨rfl, hB8⟩
end
end Go.Proofs.Ytfennjefkfblgaa

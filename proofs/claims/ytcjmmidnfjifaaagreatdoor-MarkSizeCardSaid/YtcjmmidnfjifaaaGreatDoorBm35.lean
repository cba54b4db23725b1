/- Proved here: texts joined: PkSame. -/
import Derived.Test.YtcjmmidnfjifaaaGreatDoorBm12
import Derived.Test.YtcjmmidnfjifaaaGreatDoorBm34
import Derived.Deep.DeepCutAuto
import Derived.Outline
/- Proved here: the contract of the landed pick.Same. -/
namespace Go.Proofs.YtcjmmidnfjifaaaGreatDoor
open Go.RowKit
set_option linter.unusedVariables false

theorem same_no' {α : Type} [DecidableEq α] {xs ys : List α} {k : Nat} {x y : α} (hx : xs[k]? = some x) (hy : ys[k]? = some y) (h : decide (x = y) = false) : false = decide (xs = ys) := by
  rw [eq_comm, decide_eq_false_iff_not]
  rintro rfl
  rw [hx] at hy
  injection hy with hy
  simp [hy] at h
theorem same_yes' {α : Type} [DecidableEq α] {xs ys : List α} {k : Nat} {x y : α} (hq : xs.take k = ys.take k) (hx : xs[k]? = some x) (hy : ys[k]? = some y) (h : decide (x = y) = true) : xs.take (k + 1) = ys.take (k + 1) := by
  rw [take_at hx, take_at hy, hq, of_decide_eq_true h]
theorem eql_bool (a b : Bool) (W : World) : (binOp .eql 4 (.bool a) (.bool b)).run Tryz.prog W = .ok (.bool (a == b)) W := by
  cases a <;> cases b <;> go_simp

set_option maxRecDepth 100000 in
set_option maxHeartbeats 1000000 in
theorem equalRows_any (A A' : Option Addr) (n n' c c' B B' : Nat) (rows rows' : List Slc) (xs ys : List Txs) (w : World) (hn : n ≤ maxLen) (hn' : n' ≤ maxLen) (hA : RowsT w B A n rows xs) (hA' : RowsT w B' A' n' rows' ys) :
    Calls Tryz.prog 81 #[.slice A n c, .slice A' n' c', .func (.func 80) #[] #[]] w fun e w' => e = .returned (.bool (decide (xs = ys))) ∧ ∃ k, w' = w.drewN k := by
  have hl := hA.len
  have hl' := hA'.len
  unfold maxLen at hn hn'
  by_cases hnn : n = n'
  rotate_left
  · have hne : (((n : Int) != (n' : Int))) = true := by simp; omega
    go_enter Tryz.func81, Tryz.ntmps81
    go_wp2
    go_ret
    exact ⟨ret_bool (by rw [eq_comm, decide_eq_false_iff_not]; rintro rfl; omega), 0, rfl⟩
  subst hnn
  have hne : (((n : Int) != (n : Int))) = false := by simp
  have hAh := Lib.hid hA
  have hAh' := Lib.hid hA'
  clear hA hA'
  go_enter Tryz.func81, Tryz.ntmps81
  go_wp2
  go_loopw [7, 8, 9, 17] (fun _ _ _ i wr => ∃ k : Nat, k ≤ n ∧ i = .int .i64 k ∧ Hid (xs.take k = ys.take k) ∧ Hid (∃ q, wr = w.drewN q)) (fun _ _ _ i _ => n - (intOf i).toNat)
  case atStart => exact ⟨0, Nat.zero_le _, rfl, Lib.hid rfl, Lib.hid ⟨0, rfl⟩⟩
  case round =>
    obtain ⟨k, hk, rfl, hq, hw⟩ := hrel
    obtain ⟨wo, rfl⟩ : ∃ wo : World, wo = wr := ⟨_, rfl⟩
    by_cases hlt : k < n
    · have hdr : Hid (∀ j, ∃ q, wo.drewN j = w.drewN q) := Lib.hid (fun j => by obtain ⟨q, rfl⟩ := hw.out; exact ⟨_, World.drewN_drewN _ _ _⟩)
      obtain ⟨b, o, A1, n1, c1, x, rfl, hb, hx, -, hc, hnc, hcm, hS⟩ := ((show RowsT wo B A n rows xs by obtain ⟨q, rfl⟩ := hw.out; exact hAh.out.drewN q)).at_ (k := k) hlt
      obtain ⟨b', o', A1', n1', c1', y, rfl, hb', hy, -, hc', hnc', hcm', hS'⟩ := ((show RowsT wo B' A' n rows' ys by obtain ⟨q, rfl⟩ := hw.out; exact hAh'.out.drewN q)).at_ (k := k) hlt
      have i1 : (0 : Int) ≤ (k : Int) := by omega
      have i2 : (k : Int) < (n : Int) := by omega
      have hE := equal_any A1 A1' n1 n1' c1 c1' B B' x y wo (Nat.le_trans hnc hcm) (Nat.le_trans hnc' hcm') hS hS'
      obtain ⟨r, hr⟩ : ∃ r, decide (x = y) = r := ⟨_, rfl⟩
      rw [hr] at hE
      have hEh := Lib.hid hE
      have hxy := Lib.hid (And.intro hx (And.intro hy hr))
      clear hE hx hy hr hS hS' hnc hcm hnc' hcm'
      cases r
      · go_wp2_with (go_at_call 80; refine hEh.out.mono ?_; rintro e w1 ⟨rfl, q1, rfl⟩)
        go_ret
        exact ⟨ret_bool (same_no' hxy.out.1 hxy.out.2.1 hxy.out.2.2), hdr.out _⟩
      · go_wp2_with (go_at_call 80; refine hEh.out.mono ?_; rintro e w1 ⟨rfl, q1, rfl⟩)
        go_roundw
        case rel => exact ⟨k + 1, by omega, by go_num, Lib.hid (same_yes' hq.out hxy.out.1 hxy.out.2.1 hxy.out.2.2), Lib.hid (hdr.out q1)⟩
        case measure => simp [intOf]; omega
    · go_wp2
      go_ret
      exact ⟨ret_bool (by rw [eq_comm, decide_eq_true_iff]; have := hq.out; rwa [List.take_of_length_le (by omega), List.take_of_length_le (by omega)] at this), hw.out⟩

set_option maxRecDepth 100000 in
set_option maxHeartbeats 4000000 in
theorem samePiece_any (At Ab As At' Ab' As' : Option Addr) (nt ct nb cb ns cs nt' ct' nb' cb' ns' cs' : Nat) (cf cf' : Bool) (t bs t' bs' : Txs) (ss ss' : List Txs) (w : World) (hx : PcR w w.heap.size ((At, nt, ct), (Ab, nb, cb), (As, ns, cs)) (cf, t, bs, ss)) (hy : PcR w w.heap.size ((At', nt', ct'), (Ab', nb', cb'), (As', ns', cs')) (cf', t', bs', ss')) :
    Calls Tryz.prog 62 #[.agg #[.bool cf, .slice At nt ct, .slice Ab nb cb, .slice As ns cs], .agg #[.bool cf', .slice At' nt' ct', .slice Ab' nb' cb', .slice As' ns' cs']] w
      fun e w' => e = .returned (.bool (decide (((cf, t, bs, ss) : Pc) = (cf', t', bs', ss')))) ∧ Below w.heap.size w w' := by
  obtain ⟨W0, hW0⟩ : ∃ W0, W0 = (w.alloc (.cells #[.bool cf, .slice At nt ct, .slice Ab nb cb, .slice As ns cs] 36)).alloc (.cells #[.bool cf', .slice At' nt' ct', .slice Ab' nb' cb', .slice As' ns' cs'] 36) := ⟨_, rfl⟩
  have hb0 : Below w.heap.size w W0 := by rw [hW0]; exact ((Below.refl _ w).alloc (Nat.le_refl _) _).alloc (by simp) _
  have hX := hx.up hb0
  have hY := hy.up hb0
  obtain ⟨j1, j2, j3, j4, rr, j5⟩ := hX
  obtain ⟨j1', j2', j3', j4', rr', j5'⟩ := hY
  obtain ⟨f0, hf0⟩ : ∃ f0, (cf == cf') = f0 := ⟨_, rfl⟩
  obtain ⟨f1, hf1⟩ : ∃ f1, decide (t = t') = f1 := ⟨_, rfl⟩
  obtain ⟨f2, hf2⟩ : ∃ f2, decide (bs = bs') = f2 := ⟨_, rfl⟩
  obtain ⟨f3, hf3⟩ : ∃ f3, decide (ss = ss') = f3 := ⟨_, rfl⟩
  have hres : decide (((cf, t, bs, ss) : Pc) = (cf', t', bs', ss')) = (f0 && f1 && f2 && f3) := by
    rw [← hf0, ← hf1, ← hf2, ← hf3, Bool.eq_iff_iff]
    simp [Prod.ext_iff, and_assoc]
  have hcell : Hid (∀ W, (∃ j, W = W0.drewN j) → (W.cell? ⟨w.heap.size, 1, none⟩ = some (.slice At nt ct) ∧ W.cell? ⟨w.heap.size, 2, none⟩ = some (.slice Ab nb cb) ∧ W.cell? ⟨w.heap.size, 3, none⟩ = some (.slice As ns cs)) ∧ W.cell? ⟨w.heap.size + 1, 1, none⟩ = some (.slice At' nt' ct') ∧ W.cell? ⟨w.heap.size + 1, 2, none⟩ = some (.slice Ab' nb' cb') ∧ W.cell? ⟨w.heap.size + 1, 3, none⟩ = some (.slice As' ns' cs')) := Lib.hid (fun W hW => by
    obtain ⟨j, rfl⟩ := hW
    have h1 := two_a w (.cells #[.bool cf, .slice At nt ct, .slice Ab nb cb, .slice As ns cs] 36) (.cells #[.bool cf', .slice At' nt' ct', .slice Ab' nb' cb', .slice As' ns' cs'] 36)
    rw [← hW0] at h1
    exact ⟨⟨(cells_of h1.1 1).trans rfl, (cells_of h1.1 2).trans rfl, (cells_of h1.1 3).trans rfl⟩, (cells_of h1.2 1).trans rfl, (cells_of h1.2 2).trans rfl, (cells_of h1.2 3).trans rfl⟩)
  have hc0 : W0.cell? ⟨w.heap.size, 0, none⟩ = some (.bool cf) := by
    have h1 := two_a w (.cells #[.bool cf, .slice At nt ct, .slice Ab nb cb, .slice As ns cs] 36) (.cells #[.bool cf', .slice At' nt' ct', .slice Ab' nb' cb', .slice As' ns' cs'] 36)
    rw [← hW0] at h1
    exact (cells_of h1.1 0).trans rfl
  have hc1 : W0.cell? ⟨w.heap.size + 1, 0, none⟩ = some (.bool cf') := by
    have h1 := two_a w (.cells #[.bool cf, .slice At nt ct, .slice Ab nb cb, .slice As ns cs] 36) (.cells #[.bool cf', .slice At' nt' ct', .slice Ab' nb' cb', .slice As' ns' cs'] 36)
    rw [← hW0] at h1
    exact (cells_of h1.2 0).trans rfl
  have hdd : ∀ (j : Nat) (w' : World), (∃ k, w' = (W0.drewN j).drewN k) → ∃ k, w' = W0.drewN k := fun j w' h => by obtain ⟨k, rfl⟩ := h; exact ⟨_, World.drewN_drewN _ _ _⟩
  have hF1 : Hid (∀ W, (∃ j, W = W0.drewN j) → Calls Tryz.prog 80 #[.slice At nt ct, .slice At' nt' ct'] W fun e w' => e = .returned (.bool f1) ∧ ∃ q, w' = W0.drewN q) := Lib.hid (fun W hW => by
    obtain ⟨j, rfl⟩ := hW
    rw [← hf1]; exact (equal_any At At' nt nt' ct ct' _ _ t t' _ (Nat.le_trans j1.1 j1.2.1) (Nat.le_trans j1'.1 j1'.2.1) (j1.2.2.drewN j) (j1'.2.2.drewN j)).mono fun e w' h => ⟨h.1, hdd j w' h.2⟩)
  have hF2 : Hid (∀ W, (∃ j, W = W0.drewN j) → Calls Tryz.prog 80 #[.slice Ab nb cb, .slice Ab' nb' cb'] W fun e w' => e = .returned (.bool f2) ∧ ∃ q, w' = W0.drewN q) := Lib.hid (fun W hW => by
    obtain ⟨j, rfl⟩ := hW
    rw [← hf2]; exact (equal_any Ab Ab' nb nb' cb cb' _ _ bs bs' _ (Nat.le_trans j2.1 j2.2.1) (Nat.le_trans j2'.1 j2'.2.1) (j2.2.2.drewN j) (j2'.2.2.drewN j)).mono fun e w' h => ⟨h.1, hdd j w' h.2⟩)
  have hF3 : Hid (∀ W, (∃ j, W = W0.drewN j) → Calls Tryz.prog 81 #[.slice As ns cs, .slice As' ns' cs', .func (.func 80) #[] #[]] W fun e w' => e = .returned (.bool f3) ∧ ∃ q, w' = W0.drewN q) := Lib.hid (fun W hW => by
    obtain ⟨j, rfl⟩ := hW
    rw [← hf3]; exact (equalRows_any As As' ns ns' cs cs' _ _ rr rr' ss ss' _ (Nat.le_trans j3 j4) (Nat.le_trans j3' j4') (j5.drewN j) (j5'.drewN j)).mono fun e w' h => ⟨h.1, hdd j w' h.2⟩)
  have hfin : Hid (∀ W, (∃ j, W = W0.drewN j) → Below w.heap.size w W) := Lib.hid (fun W hW => by obtain ⟨j, rfl⟩ := hW; exact below_drewN hb0 j)
  have heql : ∀ W : World, (binOp .eql 4 (.bool cf) (.bool cf')).run Tryz.prog W = .ok (.bool f0) W := fun W => by rw [eql_bool, hf0]
  have hW0h := Lib.hid hW0
  rw [hres]
  clear hx hy hb0 hW0 j1 j2 j3 j4 j5 j1' j2' j3' j4' j5' hf0 hf1 hf2 hf3 hres hdd
  go_enter Tryz.func62, Tryz.ntmps62
  go_upto_region 1 with fail
  rw [← hW0h.out]
  cases f0
  · go_wp2
    go_ret
    exact ⟨rfl, hfin.out _ ⟨0, rfl⟩⟩
  · obtain ⟨⟨x1, -, -⟩, x2, -, -⟩ := hcell.out W0 ⟨0, rfl⟩
    have hK1 := Lib.hid (hF1.out W0 ⟨0, rfl⟩)
    cases f1
    · go_wp2_with (go_at_call 80; refine hK1.out.mono ?_; rintro e w1 ⟨rfl, hw1⟩; have hw1h := Lib.hid hw1; clear hw1)
      go_ret
      exact ⟨rfl, hfin.out _ hw1h.out⟩
    · have tok1 := trivial
      cases f2
      · go_wp2_with (first
          | (go_at_call 80; have _t := tok1; refine hK1.out.mono ?_; rintro e w1 ⟨rfl, hw1⟩; obtain ⟨⟨-, y1, -⟩, -, y2, -⟩ := hcell.out w1 hw1; have hK2 := Lib.hid (hF2.out w1 hw1); clear hw1 tok1 x1 x2 hc0 hc1)
          | (go_at_call 80; refine hK2.out.mono ?_; rintro e w2 ⟨rfl, hw2⟩; have hw2h := Lib.hid hw2; clear hw2))
        go_ret
        exact ⟨rfl, hfin.out _ hw2h.out⟩
      · cases f3
        · go_wp2_with (first
            | (go_at_call 80; have _t := tok1; refine hK1.out.mono ?_; rintro e w1 ⟨rfl, hw1⟩; obtain ⟨⟨-, y1, -⟩, -, y2, -⟩ := hcell.out w1 hw1; have hK2 := Lib.hid (hF2.out w1 hw1); clear hw1 tok1 x1 x2 hc0 hc1)
            | (go_at_call 80; refine hK2.out.mono ?_; rintro e w2 ⟨rfl, hw2⟩; obtain ⟨⟨-, -, z1⟩, -, -, z2⟩ := hcell.out w2 hw2; have hK3 := Lib.hid (hF3.out w2 hw2); clear hw2 y1 y2)
            | (go_at_call 81; refine hK3.out.mono ?_; rintro e w3 ⟨rfl, hw3⟩; have hw3h := Lib.hid hw3; clear hw3))
          go_ret
          exact ⟨rfl, hfin.out _ hw3h.out⟩
        · go_wp2_with (first
            | (go_at_call 80; have _t := tok1; refine hK1.out.mono ?_; rintro e w1 ⟨rfl, hw1⟩; obtain ⟨⟨-, y1, -⟩, -, y2, -⟩ := hcell.out w1 hw1; have hK2 := Lib.hid (hF2.out w1 hw1); clear hw1 tok1 x1 x2 hc0 hc1)
            | (go_at_call 80; refine hK2.out.mono ?_; rintro e w2 ⟨rfl, hw2⟩; obtain ⟨⟨-, -, z1⟩, -, -, z2⟩ := hcell.out w2 hw2; have hK3 := Lib.hid (hF3.out w2 hw2); clear hw2 y1 y2)
            | (go_at_call 81; refine hK3.out.mono ?_; rintro e w3 ⟨rfl, hw3⟩; have hw3h := Lib.hid hw3; clear hw3))
          go_ret
          exact ⟨rfl, hfin.out _ hw3h.out⟩

set_option maxRecDepth 100000 in
set_option maxHeartbeats 4000000 in
theorem equalPcs_any (A A' : Option Addr) (n n' c c' : Nat) (vs vs' : List PcV) (xs ys : List Pc) (w : World) (hn : n ≤ maxLen) (hn' : n' ≤ maxLen) (hA : Pcs w w.heap.size A n vs xs) (hA' : Pcs w w.heap.size A' n' vs' ys) :
    Calls Tryz.prog 61 #[.slice A n c, .slice A' n' c', .func (.func 62) #[] #[]] w fun e w' => e = .returned (.bool (decide (xs = ys))) ∧ Below w.heap.size w w' := by
  have hl := hA.len
  have hl' := hA'.len
  unfold maxLen at hn hn'
  by_cases hnn : n = n'
  rotate_left
  · have hne : (((n : Int) != (n' : Int))) = true := by simp; omega
    clear hA hA'
    go_enter Tryz.func61, Tryz.ntmps61
    go_wp2
    go_ret
    exact ⟨ret_bool (by rw [eq_comm, decide_eq_false_iff_not]; rintro rfl; omega), Below.refl _ _⟩
  subst hnn
  have hne : (((n : Int) != (n : Int))) = false := by simp
  have hAh := Lib.hid hA
  have hAh' := Lib.hid hA'
  clear hA hA'
  go_enter Tryz.func61, Tryz.ntmps61
  go_wp2
  go_loopw [7, 8, 9, 17] (fun _ _ _ i wr => ∃ k : Nat, k ≤ n ∧ i = .int .i64 k ∧ Hid (xs.take k = ys.take k) ∧ Hid (Below w.heap.size w wr)) (fun _ _ _ i _ => n - (intOf i).toNat)
  case atStart => exact ⟨0, Nat.zero_le _, rfl, Lib.hid rfl, Lib.hid (Below.refl _ _)⟩
  case round =>
    obtain ⟨k, hk, rfl, hq, hw⟩ := hrel
    obtain ⟨wo, rfl⟩ : ∃ wo : World, wo = wr := ⟨_, rfl⟩
    by_cases hlt : k < n
    · have hAo := hAh.out.below hw.out
      have hAo' := hAh'.out.below hw.out
      obtain ⟨b, o, cf, At, nt, ct, Ab, nb, cb, As, ns, cs, t, bs, ss, rfl, hb, hv, hp, k1, k2, k3, k4, j⟩ := hAo.at_ (k := k) hlt
      obtain ⟨b', o', cf', At', nt', ct', Ab', nb', cb', As', ns', cs', t', bs', ss', rfl, hb', hv', hp', k1', k2', k3', k4', j'⟩ := hAo'.at_ (k := k) hlt
      have i1 : (0 : Int) ≤ (k : Int) := by omega
      have i2 : (k : Int) < (n : Int) := by omega
      have hsz := hw.out.size
      have hb2 : b < wo.heap.size := by omega
      have hb2' : b' < wo.heap.size := by omega
      have hS : Hid (∀ W, Below wo.heap.size wo W → Calls Tryz.prog 62 #[.agg #[.bool cf, .slice At nt ct, .slice Ab nb cb, .slice As ns cs], .agg #[.bool cf', .slice At' nt' ct', .slice Ab' nb' cb', .slice As' ns' cs']] W
          fun e w' => e = .returned (.bool (decide (((cf, t, bs, ss) : Pc) = (cf', t', bs', ss')))) ∧ Below w.heap.size w w') := Lib.hid (fun W hW =>
        (samePiece_any At Ab As At' Ab' As' nt ct nb cb ns cs nt' ct' nb' cb' ns' cs' cf cf' t bs t' bs' ss ss' W (PcR.up (PcR.more j hsz) hW) (PcR.up (PcR.more j' hsz) hW)).mono fun e w' h => ⟨h.1, hw.out.trans ((hW.trans (h.2.mono hW.size)).mono hsz)⟩)
      obtain ⟨r, hr⟩ : ∃ r, decide (((cf, t, bs, ss) : Pc) = (cf', t', bs', ss')) = r := ⟨_, rfl⟩
      rw [hr] at hS
      have hxy := Lib.hid (And.intro hp (And.intro hp' hr))
      clear hp hp' hr j j' hv hv' hAo hAo'
      cases r
      · go_wp2_with (go_at_call 62; refine (hS.out _ (below_alloc (below_alloc (Below.refl _ _) _) _)).mono ?_; rintro e w1 ⟨rfl, hb1⟩; have hb1h := Lib.hid hb1; clear hb1)
        go_ret
        exact ⟨ret_bool (same_no' hxy.out.1 hxy.out.2.1 hxy.out.2.2), hb1h.out⟩
      · go_wp2_with (go_at_call 62; refine (hS.out _ (below_alloc (below_alloc (Below.refl _ _) _) _)).mono ?_; rintro e w1 ⟨rfl, hb1⟩; have hb1h := Lib.hid hb1; clear hb1)
        go_roundw
        case rel => exact ⟨k + 1, by omega, by go_num, Lib.hid (same_yes' hq.out hxy.out.1 hxy.out.2.1 hxy.out.2.2), hb1h⟩
        case measure => simp [intOf]; omega
    · go_wp2
      go_ret
      exact ⟨ret_bool (by rw [eq_comm, decide_eq_true_iff]; have := hq.out; rwa [List.take_of_length_le (by omega), List.take_of_length_le (by omega)] at this), hw.out⟩

set_option maxHeartbeats 800000 in
theorem same_ok : PickSameOk := by
  intro A A' n n' c c' vs vs' xs ys w h1 h2 h3 h4 h5 h6 h7 h8
  have hE := Lib.hid (equalPcs_any A A' n n' c c' vs vs' xs ys w (Nat.le_trans h1 h2) (Nat.le_trans h4 h5) h7 h8)
  obtain ⟨r, hr⟩ : ∃ r, decide (xs = ys) = r := ⟨_, rfl⟩
  rw [hr] at hE ⊢
  clear h1 h2 h3 h4 h5 h6 h7 h8 hr
  go_enter Tryz.func42, Tryz.ntmps42
  go_wp2_with (go_at_call 61; refine hE.out.mono ?_; rintro e w1 ⟨rfl, hb1⟩; have hb1h := Lib.hid hb1; clear hb1)
  go_ret
  exact ⟨rfl, hb1h.out⟩
end Go.Proofs.YtcjmmidnfjifaaaGreatDoor

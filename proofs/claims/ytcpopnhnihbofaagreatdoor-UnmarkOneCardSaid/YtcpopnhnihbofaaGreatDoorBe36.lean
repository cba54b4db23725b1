/- Proved here: texts joined: PkSame, PkNm. -/
import Derived.Test.YtcpopnhnihbofaaGreatDoorBe13
import Derived.Test.YtcpopnhnihbofaaGreatDoorBe17
import Derived.Test.YtcpopnhnihbofaaGreatDoorBe23
import Derived.Test.YtcpopnhnihbofaaGreatDoorBe32
import Derived.Test.YtcpopnhnihbofaaGreatDoorBe35
import Derived.Deep.DeepCutAuto
import Derived.Outline
/- Proved here: the contract of the landed pick.Same. -/
namespace Go.Proofs.YtcpopnhnihbofaaGreatDoor
open Go.RowKit
set_option linter.unusedVariables false

theorem same_no' {α : Type} [DecidableEq α] {xs ys : List α} {k : Nat} {x y : α} (hx : xs[k]? = some x) (hy : ys[k]? = some y) (h : decide (x = y) = false) : false = decide (xs = ys) := by
  rw [eq_comm, decide_eq_false_iff_not]
  rintro rfl
  rw [hx] at hy
  injection hy with hy
  simp [hy] at h
theorem same_yes' {α : Type} [DecidableEq α] {xs ys : List α} {k : Nat} {x y : α} (hq : xs.take k = ys.take k) (hx : xs[k]? = some x) (hy : ys[k]? = some y) (h : decide (x = y) = true) : xs.take (k + 1) = ys.take (k + 1) := by
  rw [take_at hx, take_at hy, hq, of_decide_eq_true h]
theorem eql_bool (a b : Bool) (W : World) : (binOp .eql 4 (.bool a) (.bool b)).run Tryz.prog W = .ok (.bool (a == b)) W := by
  cases a <;> cases b <;> go_simp

set_option maxRecDepth 100000 in
set_option maxHeartbeats 1000000 in
theorem equalRows_any (A A' : Option Addr) (n n' c c' B B' : Nat) (rows rows' : List Slc) (xs ys : List Txs) (w : World) (hn : n ≤ maxLen) (hn' : n' ≤ maxLen) (hA : RowsT w B A n rows xs) (hA' : RowsT w B' A' n' rows' ys) :
    Calls Tryz.prog 93 #[.slice A n c, .slice A' n' c', .func (.func 92) #[] #[]] w fun e w' => e = .returned (.bool (decide (xs = ys))) ∧ ∃ k, w' = w.drewN k := by
  have hl := hA.len
  have hl' := hA'.len
  unfold maxLen at hn hn'
  by_cases hnn : n = n'
  rotate_left
  · have hne : (((n : Int) != (n' : Int))) = true := by simp; omega
    go_enter Tryz.func93, Tryz.ntmps93
    go_wp2
    go_ret
    exact ⟨ret_bool (by rw [eq_comm, decide_eq_false_iff_not]; rintro rfl; omega), 0, rfl⟩
  subst hnn
  have hne : (((n : Int) != (n : Int))) = false := by simp
  have hAh := Lib.hid hA
  have hAh' := Lib.hid hA'
  clear hA hA'
  go_enter Tryz.func93, Tryz.ntmps93
  go_wp2
  go_loopw [7, 8, 9, 17] (fun _ _ _ i wr => ∃ k : Nat, k ≤ n ∧ i = .int .i64 k ∧ Hid (xs.take k = ys.take k) ∧ Hid (∃ q, wr = w.drewN q)) (fun _ _ _ i _ => n - (intOf i).toNat)
  case atStart => exact ⟨0, Nat.zero_le _, rfl, Lib.hid rfl, Lib.hid ⟨0, rfl⟩⟩
  case round =>
    obtain ⟨k, hk, rfl, hq, hw⟩ := hrel
    obtain ⟨wo, rfl⟩ : ∃ wo : World, wo = wr := ⟨_, rfl⟩
    by_cases hlt : k < n
    · have hdr : Hid (∀ j, ∃ q, wo.drewN j = w.drewN q) := Lib.hid (fun j => by obtain ⟨q, rfl⟩ := hw.out; exact ⟨_, World.drewN_drewN _ _ _⟩)
      obtain ⟨b, o, A1, n1, c1, x, rfl, hb, hx, -, hc, hnc, hcm, hS⟩ := ((show RowsT wo B A n rows xs by obtain ⟨q, rfl⟩ := hw.out; exact hAh.out.drewN q)).at_ (k := k) hlt
      obtain ⟨b', o', A1', n1', c1', y, rfl, hb', hy, -, hc', hnc', hcm', hS'⟩ := ((show RowsT wo B' A' n rows' ys by obtain ⟨q, rfl⟩ := hw.out; exact hAh'.out.drewN q)).at_ (k := k) hlt
      have i1 : (0 : Int) ≤ (k : Int) := by omega
      have i2 : (k : Int) < (n : Int) := by omega
      have hE := equal_any A1 A1' n1 n1' c1 c1' B B' x y wo (Nat.le_trans hnc hcm) (Nat.le_trans hnc' hcm') hS hS'
      obtain ⟨r, hr⟩ : ∃ r, decide (x = y) = r := ⟨_, rfl⟩
      rw [hr] at hE
      have hEh := Lib.hid hE
      have hxy := Lib.hid (And.intro hx (And.intro hy hr))
      clear hE hx hy hr hS hS' hnc hcm hnc' hcm'
      cases r
      · go_wp2_with (go_at_call 92; refine hEh.out.mono ?_; rintro e w1 ⟨rfl, q1, rfl⟩)
        go_ret
        exact ⟨ret_bool (same_no' hxy.out.1 hxy.out.2.1 hxy.out.2.2), hdr.out _⟩
      · go_wp2_with (go_at_call 92; refine hEh.out.mono ?_; rintro e w1 ⟨rfl, q1, rfl⟩)
        go_roundw
        case rel => exact ⟨k + 1, by omega, by go_num, Lib.hid (same_yes' hq.out hxy.out.1 hxy.out.2.1 hxy.out.2.2), Lib.hid (hdr.out q1)⟩
        case measure => simp [intOf]; omega
    · go_wp2
      go_ret
      exact ⟨ret_bool (by rw [eq_comm, decide_eq_true_iff]; have := hq.out; rwa [List.take_of_length_le (by omega), List.take_of_length_le (by omega)] at this), hw.out⟩

set_option maxRecDepth 100000 in
set_option maxHeartbeats 4000000 in
theorem samePiece_any (At Ab As At' Ab' As' : Option Addr) (nt ct nb cb ns cs nt' ct' nb' cb' ns' cs' : Nat) (cf cf' : Bool) (t bs t' bs' : Txs) (ss ss' : List Txs) (w : World) (hx : PcR w w.heap.size ((At, nt, ct), (Ab, nb, cb), (As, ns, cs)) (cf, t, bs, ss)) (hy : PcR w w.heap.size ((At', nt', ct'), (Ab', nb', cb'), (As', ns', cs')) (cf', t', bs', ss')) :
    Calls Tryz.prog 69 #[.agg #[.bool cf, .slice At nt ct, .slice Ab nb cb, .slice As ns cs], .agg #[.bool cf', .slice At' nt' ct', .slice Ab' nb' cb', .slice As' ns' cs']] w
      fun e w' => e = .returned (.bool (decide (((cf, t, bs, ss) : Pc) = (cf', t', bs', ss')))) ∧ Below w.heap.size w w' := by
  obtain ⟨W0, hW0⟩ : ∃ W0, W0 = (w.alloc (.cells #[.bool cf, .slice At nt ct, .slice Ab nb cb, .slice As ns cs] 40)).alloc (.cells #[.bool cf', .slice At' nt' ct', .slice Ab' nb' cb', .slice As' ns' cs'] 40) := ⟨_, rfl⟩
  have hb0 : Below w.heap.size w W0 := by rw [hW0]; exact ((Below.refl _ w).alloc (Nat.le_refl _) _).alloc (by simp) _
  have hX := hx.up hb0
  have hY := hy.up hb0
  obtain ⟨j1, j2, j3, j4, rr, j5⟩ := hX
  obtain ⟨j1', j2', j3', j4', rr', j5'⟩ := hY
  obtain ⟨f0, hf0⟩ : ∃ f0, (cf == cf') = f0 := ⟨_, rfl⟩
  obtain ⟨f1, hf1⟩ : ∃ f1, decide (t = t') = f1 := ⟨_, rfl⟩
  obtain ⟨f2, hf2⟩ : ∃ f2, decide (bs = bs') = f2 := ⟨_, rfl⟩
  obtain ⟨f3, hf3⟩ : ∃ f3, decide (ss = ss') = f3 := ⟨_, rfl⟩
  have hres : decide (((cf, t, bs, ss) : Pc) = (cf', t', bs', ss')) = (f0 && f1 && f2 && f3) := by
    rw [← hf0, ← hf1, ← hf2, ← hf3, Bool.eq_iff_iff]
    simp [Prod.ext_iff, and_assoc]
  have hcell : Hid (∀ W, (∃ j, W = W0.drewN j) → (W.cell? ⟨w.heap.size, 1, none⟩ = some (.slice At nt ct) ∧ W.cell? ⟨w.heap.size, 2, none⟩ = some (.slice Ab nb cb) ∧ W.cell? ⟨w.heap.size, 3, none⟩ = some (.slice As ns cs)) ∧ W.cell? ⟨w.heap.size + 1, 1, none⟩ = some (.slice At' nt' ct') ∧ W.cell? ⟨w.heap.size + 1, 2, none⟩ = some (.slice Ab' nb' cb') ∧ W.cell? ⟨w.heap.size + 1, 3, none⟩ = some (.slice As' ns' cs')) := Lib.hid (fun W hW => by
    obtain ⟨j, rfl⟩ := hW
    have h1 := two_a w (.cells #[.bool cf, .slice At nt ct, .slice Ab nb cb, .slice As ns cs] 40) (.cells #[.bool cf', .slice At' nt' ct', .slice Ab' nb' cb', .slice As' ns' cs'] 40)
    rw [← hW0] at h1
    exact ⟨⟨(cells_of h1.1 1).trans rfl, (cells_of h1.1 2).trans rfl, (cells_of h1.1 3).trans rfl⟩, (cells_of h1.2 1).trans rfl, (cells_of h1.2 2).trans rfl, (cells_of h1.2 3).trans rfl⟩)
  have hc0 : W0.cell? ⟨w.heap.size, 0, none⟩ = some (.bool cf) := by
    have h1 := two_a w (.cells #[.bool cf, .slice At nt ct, .slice Ab nb cb, .slice As ns cs] 40) (.cells #[.bool cf', .slice At' nt' ct', .slice Ab' nb' cb', .slice As' ns' cs'] 40)
    rw [← hW0] at h1
    exact (cells_of h1.1 0).trans rfl
  have hc1 : W0.cell? ⟨w.heap.size + 1, 0, none⟩ = some (.bool cf') := by
    have h1 := two_a w (.cells #[.bool cf, .slice At nt ct, .slice Ab nb cb, .slice As ns cs] 40) (.cells #[.bool cf', .slice At' nt' ct', .slice Ab' nb' cb', .slice As' ns' cs'] 40)
    rw [← hW0] at h1
    exact (cells_of h1.2 0).trans rfl
  have hdd : ∀ (j : Nat) (w' : World), (∃ k, w' = (W0.drewN j).drewN k) → ∃ k, w' = W0.drewN k := fun j w' h => by obtain ⟨k, rfl⟩ := h; exact ⟨_, World.drewN_drewN _ _ _⟩
  have hF1 : Hid (∀ W, (∃ j, W = W0.drewN j) → Calls Tryz.prog 92 #[.slice At nt ct, .slice At' nt' ct'] W fun e w' => e = .returned (.bool f1) ∧ ∃ q, w' = W0.drewN q) := Lib.hid (fun W hW => by
    obtain ⟨j, rfl⟩ := hW
    rw [← hf1]; exact (equal_any At At' nt nt' ct ct' _ _ t t' _ (Nat.le_trans j1.1 j1.2.1) (Nat.le_trans j1'.1 j1'.2.1) (j1.2.2.drewN j) (j1'.2.2.drewN j)).mono fun e w' h => ⟨h.1, hdd j w' h.2⟩)
  have hF2 : Hid (∀ W, (∃ j, W = W0.drewN j) → Calls Tryz.prog 92 #[.slice Ab nb cb, .slice Ab' nb' cb'] W fun e w' => e = .returned (.bool f2) ∧ ∃ q, w' = W0.drewN q) := Lib.hid (fun W hW => by
    obtain ⟨j, rfl⟩ := hW
    rw [← hf2]; exact (equal_any Ab Ab' nb nb' cb cb' _ _ bs bs' _ (Nat.le_trans j2.1 j2.2.1) (Nat.le_trans j2'.1 j2'.2.1) (j2.2.2.drewN j) (j2'.2.2.drewN j)).mono fun e w' h => ⟨h.1, hdd j w' h.2⟩)
  have hF3 : Hid (∀ W, (∃ j, W = W0.drewN j) → Calls Tryz.prog 93 #[.slice As ns cs, .slice As' ns' cs', .func (.func 92) #[] #[]] W fun e w' => e = .returned (.bool f3) ∧ ∃ q, w' = W0.drewN q) := Lib.hid (fun W hW => by
    obtain ⟨j, rfl⟩ := hW
    rw [← hf3]; exact (equalRows_any As As' ns ns' cs cs' _ _ rr rr' ss ss' _ (Nat.le_trans j3 j4) (Nat.le_trans j3' j4') (j5.drewN j) (j5'.drewN j)).mono fun e w' h => ⟨h.1, hdd j w' h.2⟩)
  have hfin : Hid (∀ W, (∃ j, W = W0.drewN j) → Below w.heap.size w W) := Lib.hid (fun W hW => by obtain ⟨j, rfl⟩ := hW; exact below_drewN hb0 j)
  have heql : ∀ W : World, (binOp .eql 4 (.bool cf) (.bool cf')).run Tryz.prog W = .ok (.bool f0) W := fun W => by rw [eql_bool, hf0]
  have hW0h := Lib.hid hW0
  rw [hres]
  clear hx hy hb0 hW0 j1 j2 j3 j4 j5 j1' j2' j3' j4' j5' hf0 hf1 hf2 hf3 hres hdd
  go_enter Tryz.func69, Tryz.ntmps69
  go_upto_region 1 with fail
  rw [← hW0h.out]
  cases f0
  · go_wp2
    go_ret
    exact ⟨rfl, hfin.out _ ⟨0, rfl⟩⟩
  · obtain ⟨⟨x1, -, -⟩, x2, -, -⟩ := hcell.out W0 ⟨0, rfl⟩
    have hK1 := Lib.hid (hF1.out W0 ⟨0, rfl⟩)
    cases f1
    · go_wp2_with (go_at_call 92; refine hK1.out.mono ?_; rintro e w1 ⟨rfl, hw1⟩; have hw1h := Lib.hid hw1; clear hw1)
      go_ret
      exact ⟨rfl, hfin.out _ hw1h.out⟩
    · have tok1 := trivial
      cases f2
      · go_wp2_with (first
          | (go_at_call 92; have _t := tok1; refine hK1.out.mono ?_; rintro e w1 ⟨rfl, hw1⟩; obtain ⟨⟨-, y1, -⟩, -, y2, -⟩ := hcell.out w1 hw1; have hK2 := Lib.hid (hF2.out w1 hw1); clear hw1 tok1 x1 x2 hc0 hc1)
          | (go_at_call 92; refine hK2.out.mono ?_; rintro e w2 ⟨rfl, hw2⟩; have hw2h := Lib.hid hw2; clear hw2))
        go_ret
        exact ⟨rfl, hfin.out _ hw2h.out⟩
      · cases f3
        · go_wp2_with (first
            | (go_at_call 92; have _t := tok1; refine hK1.out.mono ?_; rintro e w1 ⟨rfl, hw1⟩; obtain ⟨⟨-, y1, -⟩, -, y2, -⟩ := hcell.out w1 hw1; have hK2 := Lib.hid (hF2.out w1 hw1); clear hw1 tok1 x1 x2 hc0 hc1)
            | (go_at_call 92; refine hK2.out.mono ?_; rintro e w2 ⟨rfl, hw2⟩; obtain ⟨⟨-, -, z1⟩, -, -, z2⟩ := hcell.out w2 hw2; have hK3 := Lib.hid (hF3.out w2 hw2); clear hw2 y1 y2)
            | (go_at_call 93; refine hK3.out.mono ?_; rintro e w3 ⟨rfl, hw3⟩; have hw3h := Lib.hid hw3; clear hw3))
          go_ret
          exact ⟨rfl, hfin.out _ hw3h.out⟩
        · go_wp2_with (first
            | (go_at_call 92; have _t := tok1; refine hK1.out.mono ?_; rintro e w1 ⟨rfl, hw1⟩; obtain ⟨⟨-, y1, -⟩, -, y2, -⟩ := hcell.out w1 hw1; have hK2 := Lib.hid (hF2.out w1 hw1); clear hw1 tok1 x1 x2 hc0 hc1)
            | (go_at_call 92; refine hK2.out.mono ?_; rintro e w2 ⟨rfl, hw2⟩; obtain ⟨⟨-, -, z1⟩, -, -, z2⟩ := hcell.out w2 hw2; have hK3 := Lib.hid (hF3.out w2 hw2); clear hw2 y1 y2)
            | (go_at_call 93; refine hK3.out.mono ?_; rintro e w3 ⟨rfl, hw3⟩; have hw3h := Lib.hid hw3; clear hw3))
          go_ret
          exact ⟨rfl, hfin.out _ hw3h.out⟩

set_option maxRecDepth 100000 in
set_option maxHeartbeats 4000000 in
theorem equalPcs_any (A A' : Option Addr) (n n' c c' : Nat) (vs vs' : List PcV) (xs ys : List Pc) (w : World) (hn : n ≤ maxLen) (hn' : n' ≤ maxLen) (hA : Pcs w w.heap.size A n vs xs) (hA' : Pcs w w.heap.size A' n' vs' ys) :
    Calls Tryz.prog 68 #[.slice A n c, .slice A' n' c', .func (.func 69) #[] #[]] w fun e w' => e = .returned (.bool (decide (xs = ys))) ∧ Below w.heap.size w w' := by
  have hl := hA.len
  have hl' := hA'.len
  unfold maxLen at hn hn'
  by_cases hnn : n = n'
  rotate_left
  · have hne : (((n : Int) != (n' : Int))) = true := by simp; omega
    clear hA hA'
    go_enter Tryz.func68, Tryz.ntmps68
    go_wp2
    go_ret
    exact ⟨ret_bool (by rw [eq_comm, decide_eq_false_iff_not]; rintro rfl; omega), Below.refl _ _⟩
  subst hnn
  have hne : (((n : Int) != (n : Int))) = false := by simp
  have hAh := Lib.hid hA
  have hAh' := Lib.hid hA'
  clear hA hA'
  go_enter Tryz.func68, Tryz.ntmps68
  go_wp2
  go_loopw [7, 8, 9, 17] (fun _ _ _ i wr => ∃ k : Nat, k ≤ n ∧ i = .int .i64 k ∧ Hid (xs.take k = ys.take k) ∧ Hid (Below w.heap.size w wr)) (fun _ _ _ i _ => n - (intOf i).toNat)
  case atStart => exact ⟨0, Nat.zero_le _, rfl, Lib.hid rfl, Lib.hid (Below.refl _ _)⟩
  case round =>
    obtain ⟨k, hk, rfl, hq, hw⟩ := hrel
    obtain ⟨wo, rfl⟩ : ∃ wo : World, wo = wr := ⟨_, rfl⟩
    by_cases hlt : k < n
    · have hAo := hAh.out.below hw.out
      have hAo' := hAh'.out.below hw.out
      obtain ⟨b, o, cf, At, nt, ct, Ab, nb, cb, As, ns, cs, t, bs, ss, rfl, hb, hv, hp, k1, k2, k3, k4, j⟩ := hAo.at_ (k := k) hlt
      obtain ⟨b', o', cf', At', nt', ct', Ab', nb', cb', As', ns', cs', t', bs', ss', rfl, hb', hv', hp', k1', k2', k3', k4', j'⟩ := hAo'.at_ (k := k) hlt
      have i1 : (0 : Int) ≤ (k : Int) := by omega
      have i2 : (k : Int) < (n : Int) := by omega
      have hsz := hw.out.size
      have hb2 : b < wo.heap.size := by omega
      have hb2' : b' < wo.heap.size := by omega
      have hS : Hid (∀ W, Below wo.heap.size wo W → Calls Tryz.prog 69 #[.agg #[.bool cf, .slice At nt ct, .slice Ab nb cb, .slice As ns cs], .agg #[.bool cf', .slice At' nt' ct', .slice Ab' nb' cb', .slice As' ns' cs']] W
          fun e w' => e = .returned (.bool (decide (((cf, t, bs, ss) : Pc) = (cf', t', bs', ss')))) ∧ Below w.heap.size w w') := Lib.hid (fun W hW =>
        (samePiece_any At Ab As At' Ab' As' nt ct nb cb ns cs nt' ct' nb' cb' ns' cs' cf cf' t bs t' bs' ss ss' W (PcR.up (PcR.more j hsz) hW) (PcR.up (PcR.more j' hsz) hW)).mono fun e w' h => ⟨h.1, hw.out.trans ((hW.trans (h.2.mono hW.size)).mono hsz)⟩)
      obtain ⟨r, hr⟩ : ∃ r, decide (((cf, t, bs, ss) : Pc) = (cf', t', bs', ss')) = r := ⟨_, rfl⟩
      rw [hr] at hS
      have hxy := Lib.hid (And.intro hp (And.intro hp' hr))
      clear hp hp' hr j j' hv hv' hAo hAo'
      cases r
      · go_wp2_with (go_at_call 69; refine (hS.out _ (below_alloc (below_alloc (Below.refl _ _) _) _)).mono ?_; rintro e w1 ⟨rfl, hb1⟩; have hb1h := Lib.hid hb1; clear hb1)
        go_ret
        exact ⟨ret_bool (same_no' hxy.out.1 hxy.out.2.1 hxy.out.2.2), hb1h.out⟩
      · go_wp2_with (go_at_call 69; refine (hS.out _ (below_alloc (below_alloc (Below.refl _ _) _) _)).mono ?_; rintro e w1 ⟨rfl, hb1⟩; have hb1h := Lib.hid hb1; clear hb1)
        go_roundw
        case rel => exact ⟨k + 1, by omega, by go_num, Lib.hid (same_yes' hq.out hxy.out.1 hxy.out.2.1 hxy.out.2.2), hb1h⟩
        case measure => simp [intOf]; omega
    · go_wp2
      go_ret
      exact ⟨ret_bool (by rw [eq_comm, decide_eq_true_iff]; have := hq.out; rwa [List.take_of_length_le (by omega), List.take_of_length_le (by omega)] at this), hw.out⟩

set_option maxHeartbeats 800000 in
theorem same_ok : PickSameOk := by
  intro A A' n n' c c' vs vs' xs ys w h1 h2 h3 h4 h5 h6 h7 h8
  have hE := Lib.hid (equalPcs_any A A' n n' c c' vs vs' xs ys w (Nat.le_trans h1 h2) (Nat.le_trans h4 h5) h7 h8)
  obtain ⟨r, hr⟩ : ∃ r, decide (xs = ys) = r := ⟨_, rfl⟩
  rw [hr] at hE ⊢
  clear h1 h2 h3 h4 h5 h6 h7 h8 hr
  go_enter Tryz.func43, Tryz.ntmps43
  go_wp2_with (go_at_call 68; refine hE.out.mono ?_; rintro e w1 ⟨rfl, hb1⟩; have hb1h := Lib.hid hb1; clear hb1)
  go_ret
  exact ⟨rfl, hb1h.out⟩
end Go.Proofs.YtcpopnhnihbofaaGreatDoor
/- Proved here: the contract of the landed pick.Normal. -/
namespace Go.Proofs.YtcpopnhnihbofaaGreatDoor
open Go.RowKit
set_option linter.unusedVariables false

/-- The blocks that the pile of pieces turns: its own, that of the pieces, that of the last one's text; and all that were there. -/
def FP (w : World) (v u : Value) (k : Nat) : Prop := k ≤ w.heap.size ∨ v.ownBlock = some k ∨ u.ownBlock = some k
/-- The pile of pieces. -/
structure NorS (w wr : World) (v : Value) (qs : List (PcV × Pc)) (u : Value) : Prop where
  box : Boxed wr w.heap.size 88 v
  fn : Boxed wr (w.heap.size + 1) 89 (.func (.func 70) #[.pointer (some ⟨w.heap.size, 0, none⟩)] #[])
  own : wr.ownsRow w.heap.size 40 4 v qs.length (pcCs qs)
  below : Below w.heap.size w wr
  row : ∀ (k : Nat) (q : PcV × Pc), qs[k]? = some q → (k + 1 < qs.length ∨ q.2.1 = true) → ∀ w2, But (FP w v u) wr w2 → PcR w2 w2.heap.size q.1 q.2
  last : ∀ (k : Nat) (q : PcV × Pc), qs[k]? = some q → k + 1 = qs.length → q.2.1 = false → slcV q.1.1 = u ∧ q.1.2 = ((none, 0, 0), (none, 0, 0)) ∧ q.2 = tPc q.2.2.1 ∧ wr.ownsRow w.heap.size 9 1 u q.2.2.1.length (q.2.2.1.map fun s => .string (str s))
section
variable {w wr w1 w2 : World} {v v' u u' : Value} {qs : List (PcV × Pc)} {r : PcV} {p : Pc}
theorem NorS.start (w : World) : NorS w ((w.alloc (.cells #[.slice none 0 0] 88)).alloc (.cells #[.func (.func 70) #[.pointer (some ⟨w.heap.size, 0, none⟩)] #[]] 89)) (.slice none 0 0) [] (.slice none 0 0) := by
  have h := two_a w (.cells #[.slice none 0 0] 88) (.cells #[.func (.func 70) #[.pointer (some ⟨w.heap.size, 0, none⟩)] #[]] 89)
  exact ⟨h.1, h.2, World.ownsRow_nil _ _ _ _, ((Below.refl _ w).alloc (Nat.le_refl _) _).alloc (by simp) _, fun k q h => by simp at h, fun k q h => by simp at h⟩
theorem NorS.up (h : NorS w wr v qs u) (hb : Below wr.heap.size wr w1) : NorS w w1 v qs u :=
  ⟨(hb.block _ h.box.lt).trans h.box, (hb.block _ h.fn.lt).trans h.fn, ownsRow_kept h.own fun k e => hb.block k (h.own.lt k e).2, h.below.trans (hb.mono h.below.size),
    fun k q a b w2 h2 => h.row k q a b w2 ((But.of_below hb fun k hk _ => hk).trans h2 fun k e => .inl e),
    fun k q a b c => by
      obtain ⟨h1, h2, h3, h4⟩ := h.last k q a b c
      exact ⟨h1, h2, h3, ownsRow_kept h4 fun k e => hb.block k (h4.lt k e).2⟩⟩
theorem text_row {b : Nat} {q : PcV × Pc} (l1 : slcV q.1.1 = u) (l2 : q.1.2 = ((none, 0, 0), (none, 0, 0))) (l3 : q.2 = tPc q.2.2.1) (hk : w1.ownsRow b 9 1 u q.2.2.1.length (q.2.2.1.map fun s => .string (str s))) : PcR w1 w1.heap.size q.1 q.2 := by
  obtain ⟨A', c', e', r1, r2, r3⟩ := own_slice hk
  obtain ⟨⟨⟨A, n, c⟩, qr⟩, qp⟩ := q
  dsimp only at l1 l2 l3 e' r1 r2 r3 ⊢
  subst l2
  rw [← l1] at e'
  injection e' with e1 e2 e3
  dsimp only at e1 e2 e3
  subst e1
  subst e2
  subst e3
  rw [l3]
  exact PcR.text ⟨r1, r2, r3⟩
theorem NorS.put {W1 : World} (h : NorS w wr v qs u) (hb : Below wr.heap.size wr W1) (hnew : p.1 = true → ∀ w3, But (fun k => k < wr.heap.size) W1 w3 → PcR w3 w3.heap.size r p)
    (hown : w2.ownsRow w.heap.size 40 4 v' (qs.length + 1) (pcCs qs ++ pcC p.1 r)) (hg : W1.grownBy w2 v.ownBlock) (hloc : v'.ownBlock = v.ownBlock ∨ v'.ownBlock = some W1.heap.size)
    (hu : p.1 = false → slcV r.1 = u' ∧ r.2 = ((none, 0, 0), (none, 0, 0)) ∧ p = tPc p.2.1 ∧ W1.ownsRow wr.heap.size 9 1 u' p.2.1.length (p.2.1.map fun s => .string (str s)))
    (hc : p.1 = true → u' = .slice none 0 0) : NorS w (w2.setCell ⟨w.heap.size, 0, none⟩ v') v' (qs ++ [(r, p)]) u' := by
  have hL := h.box.lt
  have hs1 := hb.size
  have hs0 := h.below.size
  have hvl : ∀ k, v.ownBlock = some k → k ≠ w.heap.size := fun k e h1 => Boxed.not_row h.box (by decide) h.own (by rw [e, h1])
  have hvf : ∀ k, v.ownBlock = some k → k ≠ w.heap.size + 1 := fun k e h1 => Boxed.not_row h.fn (by decide) h.own (by rw [e, h1])
  have hbS : But (fun k => k = w.heap.size) w2 (w2.setCell ⟨w.heap.size, 0, none⟩ v') := But.setCell (F := fun k => k = w.heap.size) w2 (p := ⟨w.heap.size, 0, none⟩) rfl _
  have hb12 : But (fun k => v.ownBlock = some k) W1 w2 := But.of_grown hg fun k e => e
  have hb02 : But (fun k => v.ownBlock = some k) wr w2 := (But.of_below (F := fun k => v.ownBlock = some k) hb fun k hk _ => hk).trans hb12 fun k e => .inl e
  have hb0S : But (fun k => k = w.heap.size ∨ v.ownBlock = some k) wr (w2.setCell ⟨w.heap.size, 0, none⟩ v') := (hb02.more (F' := fun k => k = w.heap.size ∨ v.ownBlock = some k) fun k e => .inr e).trans hbS fun k e => .inl (.inl e)
  have hbox2 : Boxed w2 w.heap.size 88 v := (hb02.block _ hL fun e => hvl _ e rfl).trans h.box
  have hv' : ∀ k, v'.ownBlock = some k → v.ownBlock = some k ∨ W1.heap.size ≤ k := fun k e => by
    rcases hloc with h1 | h1
    · exact .inl (h1.symm.trans e)
    · rw [h1] at e
      injection e with e
      exact .inr (Nat.le_of_eq e)
  have hv'L : ∀ k, v'.ownBlock = some k → k ≠ w.heap.size := fun k e h1 => Boxed.not_row hbox2 (by decide) hown (by rw [e, h1])
  have huW : ∀ k, u'.ownBlock = some k → wr.heap.size ≤ k ∧ k < W1.heap.size := fun k e => by
    cases hp : p.1
    · exact (hu hp).2.2.2.lt k e
    · rw [hc hp] at e
      simp [Value.ownBlock] at e
  -- what becomes of a world behind this one, for what lay ahead
  have hall : ∀ w3, But (FP w v' u') (w2.setCell ⟨w.heap.size, 0, none⟩ v') w3 → But (fun k => k ≤ w.heap.size ∨ v.ownBlock = some k) wr w3 := fun w3 h3 => (hb0S.more (F' := fun k => k ≤ w.heap.size ∨ v.ownBlock = some k) fun k e => Or.elim e (fun e => .inl (Nat.le_of_eq e)) .inr).trans h3 fun k e => by
    rcases e with e | e | e
    · exact .inl (.inl e)
    · rcases hv' k e with h1 | h1
      · exact .inl (.inr h1)
      · exact .inr (by omega)
    · exact .inr (huW k e).1
  refine ⟨hbox2.set _, (hb0S.block _ h.fn.lt (fun e => Or.elim e (fun e => by omega) fun e => hvf _ e rfl)).trans h.fn, ?_, h.below.trans (hb0S.below hs0 (fun k e => Or.elim e (fun e => Nat.le_of_eq e.symm) fun e => (h.own.lt k e).1)), fun k q a b w3 h3 => ?_, fun k q a b c => ?_⟩
  · rw [List.length_append, pcCs_snoc]
    exact ownsRow_kept hown fun k e => hbS.block k (hown.lt k e).2 (hv'L k e)
  · rcases Nat.lt_or_ge k qs.length with hk | hk
    · rw [List.getElem?_append_left hk] at a
      by_cases hq : k + 1 < qs.length ∨ q.2.1 = true
      · exact h.row k q a hq w3 ((hall w3 h3).more fun k e => Or.elim e (fun e => .inl e) fun e => .inr (.inl e))
      · have hk1 : k + 1 = qs.length := by omega
        have hqf : q.2.1 = false := by cases hqq : q.2.1; rfl; exact absurd (.inr hqq) hq
        obtain ⟨l1, l2, l3, l4⟩ := h.last k q a hk1 hqf
        have hk3 := ownsRow_kept l4 (w' := w3) fun j e => (hall w3 h3).block j (l4.lt j e).2 (by
          rintro (h1 | h1)
          · exact Boxed.not_row h.box (by decide) l4 (by rw [e, Nat.le_antisymm h1 (l4.lt j e).1])
          · exact rows_apart h.own l4 (by decide) j h1 e)
        exact text_row l1 l2 l3 hk3
    · rw [List.getElem?_append_right hk] at a
      have hk0 : k = qs.length := by
        have := (List.getElem?_eq_some_iff.1 a).1
        simp at this
        omega
      subst hk0
      simp at a
      subst a
      have hp : p.1 = true := by
        rcases b with b | b
        · simp at b
        · exact b
      have hun := hc hp
      refine hnew hp w3 (((hb12.more (F' := fun k => k < wr.heap.size) fun k e => (h.own.lt k e).2).trans hbS fun k (e : k = w.heap.size) => .inl (by omega)).trans h3 fun k e => ?_)
      rcases e with e | e | e
      · exact .inl (by omega)
      · rcases hv' k e with h1 | h1
        · exact .inl (h.own.lt k h1).2
        · exact .inr h1
      · rw [hun] at e
        simp [Value.ownBlock] at e
  · have hk : qs.length ≤ k := by simp at b; omega
    rw [List.getElem?_append_right hk] at a
    have hk0 : k = qs.length := by
      have := (List.getElem?_eq_some_iff.1 a).1
      simp at this
      omega
    subst hk0
    simp at a
    subst a
    obtain ⟨l1, l2, l3, l4⟩ := hu c
    refine ⟨l1, l2, l3, ownsRow_low (ownsRow_kept l4 fun j e => ?_) hs0⟩
    have h5 := l4.lt j e
    exact (hbS.block j (by have := hg.size; omega) (by omega)).trans (hb12.block j h5.2 fun e2 => by have := (h.own.lt j e2).2; omega)
/-- A text more behind the last one. -/
theorem NorS.ext {g n cap : Nat} {A : Option Addr} {m c : Nat} {qs0 : List (PcV × Pc)} {ys : Txs} (h : NorS w wr (.slice (some ⟨g, 0, none⟩) n cap) (qs0 ++ [(r, p)]) u) (hn : qs0.length + 1 = n) (hp : p.1 = false)
    (hown : w2.ownsRow w.heap.size 9 1 (.slice A m c) (p.2.1.length + ys.length) ((p.2.1.map fun s => .string (str s)) ++ ys.map fun s => .string (str s))) (hg : wr.grownBy w2 u.ownBlock) (hloc : (Value.slice A m c).ownBlock = u.ownBlock ∨ (Value.slice A m c).ownBlock = some wr.heap.size) :
    w2.ownsRow w.heap.size 40 4 (.slice (some ⟨g, 0, none⟩) n cap) n (pcCs (qs0 ++ [(r, p)])) ∧ NorS w (w2.setCell ⟨g, qs0.length * 4 + 1, none⟩ (.slice A m c)) (.slice (some ⟨g, 0, none⟩) n cap) (qs0 ++ [(((A, m, c), (none, 0, 0), (none, 0, 0)), tPc (p.2.1 ++ ys))]) (.slice A m c) := by
  have hlen : (qs0 ++ [(r, p)]).length = n := by simp; omega
  obtain ⟨l1, l2, l3, l4⟩ := h.last qs0.length (r, p) (by simp) (by simp) hp
  dsimp only at l1 l2 l3 l4
  have hgn : u.ownBlock ≠ some g := rows_apart h.own l4 (by decide) g rfl
  have how : w2.ownsRow w.heap.size 40 4 (.slice (some ⟨g, 0, none⟩) n cap) n (pcCs (qs0 ++ [(r, p)])) := by
    have := h.own
    rw [hlen] at this
    exact this.kept hg (.inr fun e => hgn e.symm)
  refine ⟨how, ?_⟩
  obtain ⟨s1, s2⟩ := how.stored (qs0.length * 4 + 1) (.slice A m c)
  have hgl : (g : Nat) ≠ w.heap.size := fun e => Boxed.not_row h.box (by decide) h.own (by rw [← e]; rfl)
  have hgf : (g : Nat) ≠ w.heap.size + 1 := fun e => Boxed.not_row h.fn (by decide) h.own (by rw [← e]; rfl)
  have hul : ∀ k, u.ownBlock = some k → k ≠ w.heap.size := fun k e h1 => Boxed.not_row h.box (by decide) l4 (by rw [e, h1])
  have huf : ∀ k, u.ownBlock = some k → k ≠ w.heap.size + 1 := fun k e h1 => Boxed.not_row h.fn (by decide) l4 (by rw [e, h1])
  have hb2 : But (fun k => u.ownBlock = some k) wr w2 := But.of_grown hg fun k e => e
  have hbS : But (fun k => k = g) w2 (w2.setCell ⟨g, qs0.length * 4 + 1, none⟩ (.slice A m c)) := But.setCell (F := fun k => k = g) w2 (p := ⟨g, qs0.length * 4 + 1, none⟩) rfl _
  have hb0b : But (fun k => k = g ∨ u.ownBlock = some k) wr (w2.setCell ⟨g, qs0.length * 4 + 1, none⟩ (.slice A m c)) := (hb2.more (F' := fun k => k = g ∨ u.ownBlock = some k) fun k e => .inr e).trans hbS fun k e => .inl (.inl e)
  have hb0 : But (FP w (.slice (some ⟨g, 0, none⟩) n cap) u) wr (w2.setCell ⟨g, qs0.length * 4 + 1, none⟩ (.slice A m c)) := hb0b.more fun k e => Or.elim e (fun e => .inr (.inl (by rw [e]; rfl))) fun e => .inr (.inr e)
  have hcells : (pcCs (qs0 ++ [(r, p)])).set (qs0.length * 4 + 1) (.slice A m c) = pcCs (qs0 ++ [(((A, m, c), (none, 0, 0), (none, 0, 0)), tPc (p.2.1 ++ ys))]) := by
    rw [pcCs_snoc, pcCs_snoc, List.set_append_right _ _ (by rw [pcCs_len]; omega), pcCs_len, show qs0.length * 4 + 1 - qs0.length * 4 = 1 by omega]
    congr 1
    obtain ⟨r1, r2⟩ := r
    dsimp only at l2
    subst l2
    show [Value.bool p.1, .slice A m c, slcV (none, 0, 0), slcV (none, 0, 0)] = [Value.bool false, .slice A m c, slcV (none, 0, 0), slcV (none, 0, 0)]
    rw [hp]
  have hx1 : g ≠ (w2.heap.size) := fun e => by have := (how.lt g rfl).2; omega
  refine ⟨(hbS.block _ (Nat.lt_of_lt_of_le h.box.lt hb2.size) (fun e => hgl e.symm)).trans ((hb2.block _ h.box.lt fun e => hul _ e rfl).trans h.box), (hbS.block _ (Nat.lt_of_lt_of_le h.fn.lt hb2.size) (fun e => hgf e.symm)).trans ((hb2.block _ h.fn.lt fun e => huf _ e rfl).trans h.fn), ?_,
    h.below.trans (hb0b.below h.below.size (fun k e => Or.elim e (fun e => (h.own.lt k (by rw [e]; rfl)).1) fun e => (l4.lt k e).1)), fun k q a b w3 h3 => ?_, fun k q a b c' => ?_⟩
  · rw [← hcells, List.length_append, List.length_singleton, hn]
    exact s1
  · have hk : k < qs0.length := by
      rcases b with b | b
      · simp at b; omega
      · have h7 := (List.getElem?_eq_some_iff.1 a).1
        simp at h7
        rcases Nat.lt_or_ge k qs0.length with h8 | h8
        · exact h8
        · have : k = qs0.length := by omega
          subst this
          simp at a
          subst a
          cases b
    have a2 : (qs0 ++ [(r, p)])[k]? = some q := by
      rw [List.getElem?_append_left hk] at a ⊢
      exact a
    refine h.row k q a2 (.inl (by simp; omega)) w3 (hb0.trans h3 fun j e => ?_)
    rcases e with e | e | e
    · exact .inl (.inl e)
    · exact .inl (.inr (.inl e))
    · rcases hloc with h9 | h9
      · exact .inl (.inr (.inr (h9.symm.trans e)))
      · rw [h9] at e
        injection e with e
        exact .inr (Nat.le_of_eq e)
  · have hk : k = qs0.length := by simp at b; omega
    subst hk
    simp at a
    subst a
    refine ⟨rfl, rfl, rfl, ownsRow_kept (w := w2) ?_ fun j e => hbS.block j (hown.lt j e).2 fun e2 => ?_⟩
    · show w2.ownsRow w.heap.size 9 1 (.slice A m c) (p.2.1 ++ ys).length ((p.2.1 ++ ys).map fun s => .string (str s))
      rw [List.length_append, List.map_append]
      exact hown
    · exact rows_apart how hown (by decide) g rfl (by rw [e, e2])
end
end Go.Proofs.YtcpopnhnihbofaaGreatDoor

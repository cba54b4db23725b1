/- Proved here: texts joined: PickSm. -/
import Derived.Test.YtidfhgocnglnjaaBz11
import Derived.Test.YtidfhgocnglnjaaBz21
import Derived.Deep.DeepCutAuto
import Derived.Outline
/- Proved here: the contract of the document's own answer of layer 7: Same. -/
namespace Go.Proofs.Ytidfhgocnglnjaa
open Go.RowKit
set_option linter.unusedVariables false

theorem neq_bool (a b : Bool) (W : World) : (binOp .neq 4 (.bool a) (.bool b)).run Try.prog W = .ok (.bool (a != b)) W := by
  cases a <;> cases b <;> go_simp
theorem psame_no {xs ys : List Pc} {k : Nat} {x y : Pc} (hx : xs[k]? = some x) (hy : ys[k]? = some y) (h : x ≠ y) : false = decide (xs = ys) := by
  rw [eq_comm, decide_eq_false_iff_not]
  rintro rfl
  rw [hx] at hy
  injection hy with hy
  exact h hy
theorem psame_yes {xs ys : List Pc} {k : Nat} {x y : Pc} (hq : xs.take k = ys.take k) (hx : xs[k]? = some x) (hy : ys[k]? = some y) (h : x = y) : xs.take (k + 1) = ys.take (k + 1) := by
  rw [take_at hx, take_at hy, hq, h]

set_option maxRecDepth 100000 in
set_option maxHeartbeats 4000000 in
theorem pSame_any (A A' : Option Addr) (n n' c c' B B' : Nat) (vs vs' : List PcV) (xs ys : List Pc) (w : World) (hn : n ≤ maxLen) (hn' : n' ≤ maxLen) (hA : Pcs w B A n vs xs) (hA' : Pcs w B' A' n' vs' ys) :
    Calls Try.prog 10 #[.slice A n c, .slice A' n' c'] w fun e w' => e = .returned (.bool (decide (xs = ys))) ∧ ∃ q, w' = w.drewN q := by
  have hl := hA.len
  have hl' := hA'.len
  unfold maxLen at hn hn'
  by_cases hnn : n = n'
  rotate_left
  · have hne : (((n : Int) != (n' : Int))) = true := by simp; omega
    go_enter Try.func10, Try.ntmps10
    go_wp2
    go_ret
    exact ⟨ret_bool (by rw [eq_comm, decide_eq_false_iff_not]; rintro rfl; omega), 0, rfl⟩
  subst hnn
  have hAh := Lib.hid hA
  have hAh' := Lib.hid hA'
  clear hA hA'
  go_enter Try.func10, Try.ntmps10
  go_wp2
  go_loopw [5] (fun i wr => ∃ k : Nat, k ≤ n ∧ i = .int .i64 k ∧ Hid (xs.take k = ys.take k) ∧ Hid (∃ q, wr = w.drewN q)) (fun i _ => n - (intOf i).toNat)
  case atStart => exact ⟨0, Nat.zero_le _, rfl, Lib.hid rfl, Lib.hid ⟨0, rfl⟩⟩
  case round =>
    obtain ⟨k, hk, rfl, hq, hw⟩ := hrel
    obtain ⟨wo, rfl⟩ : ∃ wo : World, wo = wr := ⟨_, rfl⟩
    have hAo : Hid (Pcs wo B A n vs xs) := Lib.hid (by obtain ⟨q, rfl⟩ := hw.out; exact hAh.out.drewN q)
    have hAo' : Hid (Pcs wo B' A' n vs' ys) := Lib.hid (by obtain ⟨q, rfl⟩ := hw.out; exact hAh'.out.drewN q)
    have hdr : Hid (∀ j, ∃ q, wo.drewN j = w.drewN q) := Lib.hid (fun j => by obtain ⟨q, rfl⟩ := hw.out; exact ⟨_, World.drewN_drewN _ _ _⟩)
    by_cases hlt : k < n
    · obtain ⟨b, o, cf, At, nt, ct, Ab, nb, cb, As, ns, cs, t, bs, ss, rfl, hb, hv, hp, k1, k2, k3, k4, j1, j2, j3, j4, rr, j5⟩ := hAo.out.at_ (k := k) hlt
      obtain ⟨b', o', cf', At', nt', ct', Ab', nb', cb', As', ns', cs', t', bs', ss', rfl, hb', hv', hp', k1', k2', k3', k4', j1', j2', j3', j4', rr', j5'⟩ := hAo'.out.at_ (k := k) hlt
      have i1 : (0 : Int) ≤ (k : Int) := by omega
      have i2 : (k : Int) < (n : Int) := by omega
      obtain ⟨f0, hf0⟩ : ∃ f0, (cf != cf') = f0 := ⟨_, rfl⟩
      obtain ⟨f1, hf1⟩ : ∃ f1, decide (t = t') = f1 := ⟨_, rfl⟩
      obtain ⟨f2, hf2⟩ : ∃ f2, decide (bs = bs') = f2 := ⟨_, rfl⟩
      obtain ⟨f3, hf3⟩ : ∃ f3, decide (ss = ss') = f3 := ⟨_, rfl⟩
      have hF1 : Hid (∀ j, Calls Try.prog 15 #[.slice At nt ct, .slice At' nt' ct'] (wo.drewN j) fun e w' => e = .returned (.bool f1) ∧ ∃ q, w' = (wo.drewN j).drewN q) := Lib.hid (fun j => by
        rw [← hf1]; exact Same_any At At' nt nt' ct ct' B B' t t' _ (Nat.le_trans j1.1 j1.2.1) (Nat.le_trans j1'.1 j1'.2.1) (j1.2.2.drewN j) (j1'.2.2.drewN j))
      have hF2 : Hid (∀ j, Calls Try.prog 15 #[.slice Ab nb cb, .slice Ab' nb' cb'] (wo.drewN j) fun e w' => e = .returned (.bool f2) ∧ ∃ q, w' = (wo.drewN j).drewN q) := Lib.hid (fun j => by
        rw [← hf2]; exact Same_any Ab Ab' nb nb' cb cb' B B' bs bs' _ (Nat.le_trans j2.1 j2.2.1) (Nat.le_trans j2'.1 j2'.2.1) (j2.2.2.drewN j) (j2'.2.2.drewN j))
      have hF3 : Hid (∀ j, Calls Try.prog 25 #[.slice As ns cs, .slice As' ns' cs'] (wo.drewN j) fun e w' => e = .returned (.bool f3) ∧ ∃ q, w' = (wo.drewN j).drewN q) := Lib.hid (fun j => by
        rw [← hf3]; exact cAll_any As As' ns ns' cs cs' B B' rr rr' ss ss' _ (Nat.le_trans j3 j4) (Nat.le_trans j3' j4') (j5.drewN j) (j5'.drewN j))
      have heq : Hid ((f0 = false ∧ f1 = true ∧ f2 = true ∧ f3 = true) ↔ ((cf, t, bs, ss) : Pc) = (cf', t', bs', ss')) := Lib.hid (by
        rw [← hf0, ← hf1, ← hf2, ← hf3]
        simp [Prod.ext_iff])
      have hph := Lib.hid hp
      have hph' := Lib.hid hp'
      clear hv hp hv' hp' hf1 hf2 hf3 j1 j2 j5 j1' j2' j5'
      have hneq : ∀ W : World, (binOp .neq 4 (.bool cf) (.bool cf')).run Try.prog W = .ok (.bool f0) W := fun W => by rw [neq_bool, hf0]
      clear hf0
      cases f0
      · cases f1
        · have hno := Lib.hid (psame_no hph.out hph'.out (fun e => by have := heq.out.2 e; simp at this))
          go_wp2
          go_quiet ((first | (go_at_call 15; first | with_reducible exact Calls.quiet_of (hF1.out _) | with_reducible exact Calls.quiet_of (hF2.out _)) | (go_at_call 25; exact Calls.quiet_of (hF3.out _))))
          obtain ⟨z1, rfl⟩ : ∃ z1, z1 = nq := ⟨_, rfl⟩
          go_wp2
          go_ret
          exact ⟨ret_bool hno.out, hdr.out z1⟩
        · cases f2
          · have hno := Lib.hid (psame_no hph.out hph'.out (fun e => by have := heq.out.2 e; simp at this))
            go_wp2
            go_quiet ((first | (go_at_call 15; first | with_reducible exact Calls.quiet_of (hF1.out _) | with_reducible exact Calls.quiet_of (hF2.out _)) | (go_at_call 25; exact Calls.quiet_of (hF3.out _))))
            obtain ⟨z1, rfl⟩ : ∃ z1, z1 = nq := ⟨_, rfl⟩
            go_wp2
            go_ret
            exact ⟨ret_bool hno.out, hdr.out z1⟩
          · cases f3
            · have hno := Lib.hid (psame_no hph.out hph'.out (fun e => by have := heq.out.2 e; simp at this))
              go_wp2
              go_quiet ((first | (go_at_call 15; first | with_reducible exact Calls.quiet_of (hF1.out _) | with_reducible exact Calls.quiet_of (hF2.out _)) | (go_at_call 25; exact Calls.quiet_of (hF3.out _))))
              obtain ⟨z1, rfl⟩ : ∃ z1, z1 = nq := ⟨_, rfl⟩
              go_wp2
              go_ret
              exact ⟨ret_bool hno.out, hdr.out z1⟩
            · have hyes := Lib.hid (psame_yes hq.out hph.out hph'.out (heq.out.1 ⟨rfl, rfl, rfl, rfl⟩))
              go_wp2
              go_quiet ((first | (go_at_call 15; first | with_reducible exact Calls.quiet_of (hF1.out _) | with_reducible exact Calls.quiet_of (hF2.out _)) | (go_at_call 25; exact Calls.quiet_of (hF3.out _))))
              obtain ⟨z1, rfl⟩ : ∃ z1, z1 = nq := ⟨_, rfl⟩
              go_wp2
              go_roundw
              case rel => exact ⟨k + 1, by omega, by go_num, hyes, Lib.hid (hdr.out z1)⟩
              case measure => simp [intOf]; omega
      · have hno := Lib.hid (psame_no hph.out hph'.out (fun e => by have := heq.out.2 e; simp at this))
        go_wp2
        go_quiet (fail)
        obtain ⟨z1, rfl⟩ : ∃ z1, z1 = nq := ⟨_, rfl⟩
        go_wp2
        go_ret
        exact ⟨ret_bool hno.out, hdr.out z1⟩
    · go_wp2
      go_ret
      exact ⟨ret_bool (by rw [eq_comm, decide_eq_true_iff]; have := hq.out; rwa [List.take_of_length_le (by omega), List.take_of_length_le (by omega)] at this), hw.out⟩
end Go.Proofs.Ytidfhgocnglnjaa

/- Proved here: the contract of the document's own Match of layer 4. -/
import Derived.Test.YtjbgiaekckdoaaaEditGuess
namespace Go.Proofs.Ytjbgiaekckdoaaa
open Go.RowKit
set_option linter.unusedVariables false

/-- A number of an error, and numbers. -/
def MtOut (w w' : World) (e : Ending) (er : Int) (xs : List Int) : Prop := ∃ A n c, e = .returned (.tuple #[.slice A n c, .int .i64 er]) ∧ n = xs.length ∧ n ≤ c ∧ c ≤ maxLen ∧ Nums w' w'.heap.size A n xs ∧ Below w.heap.size w w'
theorem MtOut.nothing {w w' : World} {er : Int} (hb : Below w.heap.size w w') : MtOut w w' (.returned (.tuple #[.slice none 0 0, .int .i64 er])) er [] := ⟨none, 0, 0, rfl, rfl, Nat.le_refl _, Nat.zero_le _, ⟨rfl, fun h => absurd h (by omega)⟩, hb⟩
theorem drewN_below (w : World) (k : Nat) : Below w.heap.size w (w.drewN k) := below_drewN (Below.refl _ _) k

/-- What Match tells: a number of an error, and the match. -/
def mErr (l : List Ch) (M N : Int) : Int := if 2000 < M ∨ 2000 < N then 4 else if M < 0 ∨ N < 0 then 1 else if chs (guess l M N) N = l then 0 else 1
def mRes (l : List Ch) (M N : Int) : List Int := if mErr l M N = 0 then guess l M N else []

theorem guess_err (l : List Ch) {M N : Int} (hM : M ≤ 2000) (hN0 : 0 ≤ N) (hN : N ≤ 2000) : chErr (guess l M N) N = 0 := by
  unfold chErr
  rw [if_neg, if_pos (guess_may l M N hN0)]
  rw [guess_len]
  omega

set_option maxHeartbeats 2000000 in
theorem rMatch_any (A : Option Addr) (n c B : Nat) (l : List Ch) (M N : Int) (w : World) (hn : n ≤ 5000) (hA : Chs w B A n l) (hB : B ≤ w.heap.size) :
    Calls Try.prog 14 #[.slice A n c, .int .i64 M, .int .i64 N] w fun e w' => MtOut w w' e (mErr l M N) (mRes l M N) := by
  have hl := hA.len
  by_cases h1 : 2000 < M
  · have he : mErr l M N = 4 := by unfold mErr; rw [if_pos (.inl h1)]
    have hr : mRes l M N = [] := by unfold mRes; rw [he]; rfl
    rw [he, hr]
    go_enter Try.func14, Try.ntmps14
    go_wp2
    go_ret2
    exact MtOut.nothing (Below.refl _ _)
  · have h1' : decide (2000 < M) = false := by simp; omega
    by_cases h2 : 2000 < N
    · have he : mErr l M N = 4 := by unfold mErr; rw [if_pos (.inr h2)]
      have hr : mRes l M N = [] := by unfold mRes; rw [he]; rfl
      rw [he, hr]
      go_enter Try.func14, Try.ntmps14
      go_wp2
      go_ret2
      exact MtOut.nothing (Below.refl _ _)
    · have h2' : ¬ (2000 < N) := h2
      by_cases h3 : M < 0
      · have he : mErr l M N = 1 := by unfold mErr; rw [if_neg (by omega), if_pos (.inl h3)]
        have hr : mRes l M N = [] := by unfold mRes; rw [he]; rfl
        rw [he, hr]
        go_enter Try.func14, Try.ntmps14
        go_wp2
        go_ret2
        exact MtOut.nothing (Below.refl _ _)
      · have h3' : decide (M < 0) = false := by simp; omega
        by_cases h4 : N < 0
        · have he : mErr l M N = 1 := by unfold mErr; rw [if_neg (by omega), if_pos (.inr h4)]
          have hr : mRes l M N = [] := by unfold mRes; rw [he]; rfl
          rw [he, hr]
          go_enter Try.func14, Try.ntmps14
          go_wp2
          go_ret2
          exact MtOut.nothing (Below.refl _ _)
        · obtain ⟨m, rfl⟩ : ∃ m : Nat, M = m := ⟨M.toNat, by omega⟩
          have hG := Lib.hid (guess_any A n c B m l N w hn (by omega) (by omega) (by omega) hA hB)
          have hce := guess_err l (M := m) (N := N) (by omega) (by omega) (by omega)
          have hgl : Hid ((guess l m N).length ≤ 2000) := Lib.hid (by rw [guess_len]; omega)
          have hR := Lib.hid (fun (A1 : Option Addr) (n1 c1 : Nat) (w1 : World) (h1 : n1 ≤ 2000) (h : Nums w1 w1.heap.size A1 n1 (guess l m N)) => by
            have h0 := rChanges_any A1 n1 c1 w1.heap.size (guess l m N) N w1 (by unfold maxLen; omega) (by omega) h (Nat.le_refl _)
            rw [show chRes (guess l m N) N = chs (guess l m N) N by unfold chRes; rw [hce]; rfl, hce] at h0
            exact h0)
          have hcl : Hid ((chs (guess l m N) N).length ≤ 100000) := Lib.hid (by have := chs_len (guess l m N) N; have := hgl.out; omega)
          have hA0 := Lib.hid (hA.more hB)
          obtain ⟨ob, hob⟩ : ∃ ob, decide (chs (guess l m N) N = l) = ob := ⟨_, rfl⟩
          have hS := Lib.hid (fun (A2 : Option Addr) (n2 c2 : Nat) (w2 : World) (h1 : n2 ≤ 100000) (h : Chs w2 w2.heap.size A2 n2 (chs (guess l m N) N)) (hb : Below w.heap.size w w2) => by
            have h0 := cSame_any A2 A n2 n c2 c w2.heap.size w2.heap.size _ l w2 (by unfold maxLen; omega) (by unfold maxLen; omega) h (hA0.out.up hb)
            rw [hob] at h0
            exact h0)
          have hobh := Lib.hid hob
          clear hA hob hce
          go_enter Try.func14, Try.ntmps14
          cases ob
          · have he : mErr l m N = 1 := by unfold mErr; rw [if_neg (by omega), if_neg (by omega), if_neg (by simpa using hobh.out)]
            have hr : mRes l m N = [] := by unfold mRes; rw [he]; rfl
            rw [he, hr]
            clear he hr
            go_wp2_with (first
              | (go_at_call 26; refine hG.out.mono ?_; rintro e w1 ⟨A1, n1, c1, rfl, hn1, hc1, hm1, hN1, hb1⟩; have hn1' : n1 ≤ 2000 := (by have := hgl.out; omega); have hR1 := Lib.hid (hR.out A1 n1 c1 w1 hn1' hN1); clear hn1)
              | (go_at_call 11; refine hR1.out.mono ?_; rintro e w2 ⟨A2, n2, c2, rfl, hn2, hc2, hm2, hC2, hb2⟩; have hn2' : n2 ≤ 100000 := (by have := hcl.out; omega); have hbb := hb1.trans (hb2.mono hb1.size); have hS1 := Lib.hid (hS.out A2 n2 c2 w2 hn2' hC2 hbb); clear hn2)
              | (go_at_call 12; refine hS1.out.mono ?_; rintro e w3 ⟨rfl, q, rfl⟩))
            go_ret2
            exact MtOut.nothing (below_drewN hbb q)
          · have he : mErr l m N = 0 := by unfold mErr; rw [if_neg (by omega), if_neg (by omega), if_pos (by simpa using hobh.out)]
            have hr : mRes l m N = guess l m N := by unfold mRes; rw [he]; rfl
            rw [he, hr]
            clear he hr
            go_wp2_with (first
              | (go_at_call 26; refine hG.out.mono ?_; rintro e w1 ⟨A1, n1, c1, rfl, hn1, hc1, hm1, hN1, hb1⟩; have hn1' : n1 ≤ 2000 := (by have := hgl.out; omega); have hR1 := Lib.hid (hR.out A1 n1 c1 w1 hn1' hN1); have hn1h := Lib.hid hn1; clear hn1)
              | (go_at_call 11; refine hR1.out.mono ?_; rintro e w2 ⟨A2, n2, c2, rfl, hn2, hc2, hm2, hC2, hb2⟩; have hn2' : n2 ≤ 100000 := (by have := hcl.out; omega); have hbb := hb1.trans (hb2.mono hb1.size); have hS1 := Lib.hid (hS.out A2 n2 c2 w2 hn2' hC2 hbb); clear hn2)
              | (go_at_call 12; refine hS1.out.mono ?_; rintro e w3 ⟨rfl, q, rfl⟩))
            go_ret2
            exact ⟨A1, n1, c1, rfl, hn1h.out, hc1, hm1, (hN1.up hb2).drewN q, below_drewN hbb q⟩
end Go.Proofs.Ytjbgiaekckdoaaa

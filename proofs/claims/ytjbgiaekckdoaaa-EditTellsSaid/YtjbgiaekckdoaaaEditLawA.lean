/- Proved here, out of the contracts of package edit: the walks of EditTells, EditMatches, EditBack, EditOne. -/
import Derived.Test.YtjbgiaekckdoaaaEditOk
namespace Go.Proofs.Ytjbgiaekckdoaaa
open Go.RowKit
set_option linter.unusedVariables false

/-- Numbers, changes that came in. -/
def ArgInts (w : World) (A : Option Addr) (n c : Nat) (xs : List Int) : Prop := n ≤ c ∧ c ≤ maxLen ∧ NumsR xs ∧ Nums w w.heap.size A n xs
def ArgChs (w : World) (A : Option Addr) (n c : Nat) (xs : List Ch) : Prop := n ≤ c ∧ c ≤ maxLen ∧ ChsR xs ∧ Chs w w.heap.size A n xs

section
variable (H : EditOk)
include H

set_option maxHeartbeats 1000000 in
theorem EditTells_walk (A : Option Addr) (n c : Nat) (l : List Int) (N : Int) (w : World) (hA : ArgInts w A n c l) (hN : inR N) :
    Calls Try.prog 3 #[.slice A n c, .int .i64 N] w fun e w' => e = .returned (.bool true) ∧ Below w.heap.size w w' := by
  obtain ⟨hnc, hcm, hR, hA⟩ := hA
  have hcm' := Lib.hid hcm
  have hal := hA.len
  have hA' := Lib.hid hA
  by_cases g1 : 60 < n
  · clear hcm hA
    go_enter Try.func3, Try.ntmps3
    go_wp2_with fail
    refine (awake_any H _).mono ?_
    rintro e w1 ⟨rfl, hB1⟩
    go_wp2
    go_ret
    exact ⟨rfl, hB1⟩
  · have h1 := Lib.hid (fun (w' : World) (hb : Below w.heap.size w w') => H.changes_ok A n c l N w' hnc hcm hN hR (hA.up hb))
    have h2 := Lib.hid (fun (w' : World) (hb : Below w.heap.size w w') => rChanges_any A n c w'.heap.size l N w' (Nat.le_trans hnc hcm) hN.2 (hA.up hb) (Nat.le_refl _))
    have hcl : (chRes l N).length ≤ 100 := by
      unfold chRes
      split
      · have := chs_len l N
        omega
      · simp
    obtain ⟨er, her⟩ : ∃ er, er = chErr l N := ⟨_, rfl⟩
    obtain ⟨cs, hcs⟩ : ∃ cs, cs = chRes l N := ⟨_, rfl⟩
    rw [← her, ← hcs] at h1 h2
    rw [← hcs] at hcl
    have hS := Lib.hid (fun (A1 A2 : Option Addr) (n1 n2 c1 c2 : Nat) (w' : World) (e1 : n1 = cs.length) (e2 : n2 = cs.length) (k1 : Chs w' w'.heap.size A1 n1 cs) (k2 : Chs w' w'.heap.size A2 n2 cs) => by
      have h0 := cSame_any A1 A2 n1 n2 c1 c2 w'.heap.size w'.heap.size cs cs w' (by unfold maxLen; omega) (by unfold maxLen; omega) k1 k2
      rw [decide_eq_true rfl] at h0
      exact h0)
    clear her hcs hcl hcm hA
    go_enter Try.func3, Try.ntmps3
    go_wp2_with fail
    refine (awake_any H _).mono ?_
    rintro e w1 ⟨rfl, hB1⟩
    have h1' := Lib.hid (h1.out w1 hB1)
    go_wp2_with (first
      | (go_at_call 10; refine h1'.out.mono ?_; rintro e w2 ⟨A1, n1, c1, rfl, hn1, -, -, k1, hb2⟩; have hn1h := Lib.hid hn1; clear hn1; have hB2 := hB1.trans (hb2.mono hB1.size); have h2' := Lib.hid (h2.out w2 hB2))
      | (go_at_call 11; refine h2'.out.mono ?_; rintro e w3 ⟨A2, n2, c2, rfl, hn2, -, -, k2, hb3⟩; have hB3 := hB2.trans (hb3.mono hB2.size); have hS' := Lib.hid (hS.out A1 A2 n1 n2 c1 c2 w3 hn1h.out hn2 (k1.up hb3) k2); clear hn2)
      | (go_at_call 12; refine hS'.out.mono ?_; rintro e w4 ⟨rfl, q, rfl⟩))
    go_ret
    exact ⟨rfl, below_drewN hB3 q⟩

set_option maxHeartbeats 1000000 in
theorem EditMatches_walk (A : Option Addr) (n c : Nat) (l : List Ch) (M N : Int) (w : World) (hA : ArgChs w A n c l) (hM : inR M) (hN : inR N) :
    Calls Try.prog 4 #[.slice A n c, .int .i64 M, .int .i64 N] w fun e w' => e = .returned (.bool true) ∧ Below w.heap.size w w' := by
  obtain ⟨hnc, hcm, hR, hA⟩ := hA
  have hcm' := Lib.hid hcm
  have hal := hA.len
  have hA' := Lib.hid hA
  by_cases g1 : 20 < n
  · clear hcm hA
    go_enter Try.func4, Try.ntmps4
    go_wp2_with fail
    refine (awake_any H _).mono ?_
    rintro e w1 ⟨rfl, hB1⟩
    go_wp2
    go_ret
    exact ⟨rfl, hB1⟩
  by_cases g2 : 300 < M
  · have g1' : decide ((20 : Int) < (n : Int)) = false := by simp; omega
    clear hcm hA
    go_enter Try.func4, Try.ntmps4
    go_wp2_with fail
    refine (awake_any H _).mono ?_
    rintro e w1 ⟨rfl, hB1⟩
    go_wp2
    go_ret
    exact ⟨rfl, hB1⟩
  by_cases g3 : 300 < N
  · have g1' : decide ((20 : Int) < (n : Int)) = false := by simp; omega
    have g2' : decide (300 < M) = false := by simp; omega
    clear hcm hA
    go_enter Try.func4, Try.ntmps4
    go_wp2_with fail
    refine (awake_any H _).mono ?_
    rintro e w1 ⟨rfl, hB1⟩
    go_wp2
    go_ret
    exact ⟨rfl, hB1⟩
  have h1 := Lib.hid (fun (w' : World) (hb : Below w.heap.size w w') => H.match_ok A n c l M N w' hnc hcm (by omega) hM hN hR (hA.up hb))
  have h2 := Lib.hid (fun (w' : World) (hb : Below w.heap.size w w') => rMatch_any A n c w'.heap.size l M N w' (by omega) (hA.up hb) (Nat.le_refl _))
  have hcl : (mRes l M N).length ≤ 300 := by
    unfold mRes
    split
    · rw [guess_len]; omega
    · simp
  obtain ⟨er, her⟩ : ∃ er, er = mErr l M N := ⟨_, rfl⟩
  obtain ⟨cs, hcs⟩ : ∃ cs, cs = mRes l M N := ⟨_, rfl⟩
  rw [← her, ← hcs] at h1 h2
  rw [← hcs] at hcl
  have hS := Lib.hid (fun (A1 A2 : Option Addr) (n1 n2 c1 c2 : Nat) (w' : World) (e1 : n1 = cs.length) (e2 : n2 = cs.length) (k1 : Nums w' w'.heap.size A1 n1 cs) (k2 : Nums w' w'.heap.size A2 n2 cs) => by
    have h0 := nSame_any A1 A2 n1 n2 c1 c2 w'.heap.size w'.heap.size cs cs w' (by unfold maxLen; omega) (by unfold maxLen; omega) k1 k2
    rw [decide_eq_true rfl] at h0
    exact h0)
  have g1' : decide ((20 : Int) < (n : Int)) = false := by simp; omega
  have g2' : decide (300 < M) = false := by simp; omega
  clear her hcs hcl hcm hA
  go_enter Try.func4, Try.ntmps4
  go_wp2_with fail
  refine (awake_any H _).mono ?_
  rintro e w1 ⟨rfl, hB1⟩
  have h1' := Lib.hid (h1.out w1 hB1)
  go_wp2_with (first
    | (go_at_call 13; refine h1'.out.mono ?_; rintro e w2 ⟨A1, n1, c1, rfl, hn1, -, -, k1, hb2⟩; have hn1h := Lib.hid hn1; clear hn1; have hB2 := hB1.trans (hb2.mono hB1.size); have h2' := Lib.hid (h2.out w2 hB2))
    | (go_at_call 14; refine h2'.out.mono ?_; rintro e w3 ⟨A2, n2, c2, rfl, hn2, -, -, k2, hb3⟩; have hB3 := hB2.trans (hb3.mono hB2.size); have hS' := Lib.hid (hS.out A1 A2 n1 n2 c1 c2 w3 hn1h.out hn2 (k1.up hb3) k2); clear hn2)
    | (go_at_call 15; refine hS'.out.mono ?_; rintro e w4 ⟨rfl, q, rfl⟩))
  go_ret
  exact ⟨rfl, below_drewN hB3 q⟩
end
end Go.Proofs.Ytjbgiaekckdoaaa

/- Proved here: contracts of the document's own answers of layer 14: Kind, Known, Does. -/
import Derived.Test.YtlmdihocogalaaaFlagPure
import Derived.Test.YtlmdihocogalaaaTxtRef
import Derived.Test.YtlmdihocogalaaaTxO
namespace Go.Proofs.Ytlmdihocogalaaa
open Go.RowKit
set_option linter.unusedVariables false
set_option maxRecDepth 100000

set_option maxHeartbeats 2000000 in
theorem rfKind_any (A0 : Option Addr) (n0 c0 : Nat) (mine : Txs) (A1 : Option Addr) (n1 c1 : Nat) (older : Txs) (A2 : Option Addr) (n2 c2 : Nat) (yours : Txs) (w : World)
    (h0 : TxR w w.heap.size (A0, n0, c0) mine) (h1 : TxR w w.heap.size (A1, n1, c1) older) (h2 : TxR w w.heap.size (A2, n2, c2) yours) :
    Calls Try.prog 11 #[.slice A0 n0 c0, .slice A1 n1 c1, .slice A2 n2 c2] w fun e w' => e = .returned (.int .i64 (kindF mine older yours : Nat)) ∧ Below w.heap.size w w' := by
  have hS : ∀ (r r' : Slc) (d d' : Txs) (W : World), Below w.heap.size w W → TxR w w.heap.size r d → TxR w w.heap.size r' d' → Calls Try.prog 16 #[.slice r.1 r.2.1 r.2.2, .slice r'.1 r'.2.1 r'.2.2] W fun e w' => e = .returned (.bool (decide (d = d'))) ∧ Below w.heap.size w w' := fun r r' d d' W hb k1 k2 => by
    refine (Same_any r.1 r'.1 r.2.1 r'.2.1 r.2.2 r'.2.2 W.heap.size W.heap.size d d' W (Nat.le_trans k1.1 k1.2.1) (Nat.le_trans k2.1 k2.2.1) (k1.up hb).2.2 (k2.up hb).2.2).mono ?_
    rintro e w' ⟨r, q, rfl⟩
    exact ⟨r, below_drewN hb q⟩
  obtain ⟨a, ha⟩ : ∃ a, decide (mine = older) = a := ⟨_, rfl⟩
  obtain ⟨b, hb⟩ : ∃ b, decide (yours = older) = b := ⟨_, rfl⟩
  obtain ⟨c, hc⟩ : ∃ c, decide (mine = yours) = c := ⟨_, rfl⟩
  have hA := Lib.hid (fun W hW => ha ▸ hS (A0, n0, c0) (A1, n1, c1) mine older W hW h0 h1)
  have hB := Lib.hid (fun W hW => hb ▸ hS (A2, n2, c2) (A1, n1, c1) yours older W hW h2 h1)
  have hC := Lib.hid (fun W hW => hc ▸ hS (A0, n0, c0) (A2, n2, c2) mine yours W hW h0 h2)
  have hK : Hid (kindF mine older yours = if a = true ∧ b = true then 0 else if b = true then 1 else if a = true then 2 else if c = true then 3 else 4) := Lib.hid (by
    unfold kindF
    rw [← ha, ← hb, ← hc]
    simp only [decide_eq_true_eq])
  have hb0 := Lib.hid (Below.refl w.heap.size w)
  have tok1 := trivial
  clear h0 h1 h2 hS ha hb hc
  cases a <;> cases b <;> cases c
  all_goals
    go_enter Try.func11, Try.ntmps11
    go_wp2_with (first
      | (go_at_call 16; have _t := tok1; refine (hA.out _ hb0.out).mono ?_; rintro e w1 ⟨rfl, q1⟩; have hB1 := Lib.hid q1; have tok2 := trivial; clear tok1 q1)
      | (go_at_call 16; have _t := tok2; refine (hB.out _ hB1.out).mono ?_; rintro e w2 ⟨rfl, q2⟩; have hB2 := Lib.hid q2; have tok3 := trivial; clear tok2 q2)
      | (go_at_call 16; have _t := tok3; refine (hC.out _ hB2.out).mono ?_; rintro e w3 ⟨rfl, q3⟩; have hB3 := Lib.hid q3; clear tok3 q3))
    go_ret
    exact ⟨ret_int (by rw [hK.out]; rfl), by first | exact hB3.out | exact hB2.out⟩

theorem known_eq (c : UInt8) : knownB c = true → c = 101 ∨ c = 120 ∨ c = 51 ∨ c = 69 ∨ c = 88 ∨ c = 65 := by
  unfold knownB
  simp only [Bool.or_eq_true, beq_iff_eq]
  rintro (((((h | h) | h) | h) | h) | h)
  · exact .inl h
  · exact .inr (.inl h)
  · exact .inr (.inr (.inl h))
  · exact .inr (.inr (.inr (.inl h)))
  · exact .inr (.inr (.inr (.inr (.inl h))))
  · exact .inr (.inr (.inr (.inr (.inr h))))
theorem known_not {c : UInt8} (h : knownB c = false) : ((c.toNat : Int) == 101) = false ∧ ((c.toNat : Int) == 120) = false ∧ ((c.toNat : Int) == 51) = false ∧ ((c.toNat : Int) == 69) = false ∧ ((c.toNat : Int) == 88) = false ∧ ((c.toNat : Int) == 65) = false := by
  unfold knownB at h
  simp only [Bool.or_eq_false_iff, beq_eq_false_iff_ne] at h
  obtain ⟨⟨⟨⟨⟨h1, h2⟩, h3⟩, h4⟩, h5⟩, h6⟩ := h
  have g : ∀ d : UInt8, c ≠ d → ((c.toNat : Int) == (d.toNat : Int)) = false := fun d hd => by
    rw [beq_eq_false_iff_ne]
    intro e
    exact hd (UInt8.toNat_inj.1 (Int.ofNat.inj e))
  exact ⟨g 101 h1, g 120 h2, g 51 h3, g 69 h4, g 88 h5, g 65 h6⟩
theorem rfKnown_any (c : UInt8) (w : World) : Calls Try.prog 13 #[.int .u8 (c.toNat : Int)] w fun e w' => e = .returned (.bool (knownB c)) ∧ w' = w := by
  cases hk : knownB c
  · obtain ⟨h1, h2, h3, h4, h5, h6⟩ := known_not hk
    clear hk
    go_enter Try.func13, Try.ntmps13
    go_wp2
    go_ret
    exact ⟨rfl, rfl⟩
  · rcases known_eq c hk with rfl | rfl | rfl | rfl | rfl | rfl
    all_goals
      clear hk
      go_enter Try.func13, Try.ntmps13
      go_wp2
      go_ret
      exact ⟨rfl, rfl⟩
set_option maxHeartbeats 4000000 in
theorem rfDoes_any (c : UInt8) (k : Int) (w : World) (hk64 : inR64 k) : Calls Try.prog 15 #[.int .u8 (c.toNat : Int), .int .i64 k] w fun e w' => e = .returned (.int .i64 (doesF c k : Nat)) ∧ w' = w := by
  have hK := Lib.hid (rfKnown_any c w)
  cases hk : knownB c
  · rw [hk] at hK
    have hd : doesF c k = 0 := does_unknown hk
    rw [hd]
    clear hk hd
    go_enter Try.func15, Try.ntmps15
    go_wp2_with (go_at_call 13; refine hK.out.mono ?_; rintro e w1 ⟨rfl, hww⟩; have hws := hww.symm; clear hww; subst hws)
    go_ret
    exact ⟨rfl, rfl⟩
  · rw [hk] at hK
    have hd : doesF c k = if k = 2 then (if c = 120 ∨ c = 88 then 0 else 1) else if k ≠ 4 then 0 else if c = 101 ∨ c = 120 then 1 else if c = 69 ∨ c = 88 then 2 else if c = 65 then 3 else 0 := by unfold doesF; rw [if_neg (by rw [hk]; simp)]
    rw [hd]
    clear hd
    have h3 : k = 2 ∨ k = 4 ∨ (k ≠ 2 ∧ k ≠ 4) := by omega
    rcases known_eq c hk with rfl | rfl | rfl | rfl | rfl | rfl
    all_goals
      clear hk
      rcases h3 with rfl | rfl | ⟨e2, e4⟩
      case' inr.inr =>
        have b2 : (k == 2) = false := by rw [beq_eq_false_iff_ne]; exact e2
        have b4 : (k == 4) = false := by rw [beq_eq_false_iff_ne]; exact e4
        rw [if_neg e2, if_pos e4]
      all_goals
        go_enter Try.func15, Try.ntmps15
        go_wp2_with (go_at_call 13; refine hK.out.mono ?_; rintro e w1 ⟨rfl, hww⟩; have hws := hww.symm; clear hww; subst hws)
        go_ret
        exact ⟨by first | rfl | (simp; done), rfl⟩
end Go.Proofs.Ytlmdihocogalaaa

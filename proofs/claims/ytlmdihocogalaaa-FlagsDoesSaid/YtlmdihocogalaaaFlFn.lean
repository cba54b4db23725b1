/- Proved here: the contracts of the landed flags.Known, Does, Kind. -/
import Derived.Test.YtlmdihocogalaaaFlMap
import Derived.Test.YtlmdihocogalaaaEqT
import Derived.Deep.RegionHeld3
namespace Go.Proofs.Ytlmdihocogalaaa
open Go.RowKit
set_option linter.unusedVariables false
set_option maxRecDepth 100000

theorem deed_look (c : UInt8) {W : World} {b n : Nat} (h : W.ownsMap Try.prog 5 deedsR b n deedMap) : (Instr.lookup 39 (.map (some b)) (.int .u8 (c.toNat : Int)) false).run Try.prog W = .ok (deedV (doesF c 2 : Nat) (doesF c 4 : Nat)) W := by
  obtain ⟨v, ps, hrun, hv⟩ := h.lookup lawU8 Try.underlying39 (zeroDeeds W) (deedsR_mk 0 0) (keyU8 c)
  rw [deedMap_at] at hv
  rw [hrun, deedsR_inv hv]
theorem deed_look_ok (c : UInt8) {W : World} {b n : Nat} (h : W.ownsMap Try.prog 5 deedsR b n deedMap) : (Instr.lookup 39 (.map (some b)) (.int .u8 (c.toNat : Int)) true).run Try.prog W = .ok (.tuple #[deedV (doesF c 2 : Nat) (doesF c 4 : Nat), .bool (knownB c)]) W := by
  obtain ⟨v, ps, hrun, hv⟩ := h.look_ok lawU8 Try.underlying39 (zeroDeeds W) (deedsR_mk 0 0) (keyU8 c)
  rw [deedMap_at] at hv
  rw [hrun, deedsR_inv hv, deedMap_has]

set_option maxHeartbeats 2000000 in
theorem known_any : FlagKnownOk := by
  intro c w
  have hF := Lib.hid (byFlag_any w)
  have hL := Lib.hid (fun (W : World) (b n : Nat) h => deed_look_ok c (W := W) (b := b) (n := n) h)
  obtain ⟨k, hk⟩ : ∃ k, knownB c = k := ⟨_, rfl⟩
  obtain ⟨P, hP⟩ : ∃ P : Int, (doesF c 2 : Nat) = P := ⟨_, rfl⟩
  obtain ⟨Q, hQ⟩ : ∃ Q : Int, (doesF c 4 : Nat) = Q := ⟨_, rfl⟩
  obtain ⟨C, hC⟩ : ∃ C : Int, (c.toNat : Int) = C := ⟨_, rfl⟩
  rw [hk, hC, hP, hQ] at hL
  rw [hk, hC]
  unfold deedV at hL
  clear hk hC hP hQ
  go_enter Try.func12, Try.ntmps12
  go_wp2_with (go_at_call 22; refine hF.out.mono ?_; rintro e w1 ⟨b, rfl, hm, hb⟩; have hl := hL.out _ _ _ hm; have hB1 := Lib.hid hb; clear hm hb)
  go_ret
  exact ⟨rfl, below_alloc hB1.out _⟩

set_option maxHeartbeats 2000000 in
theorem does_any : FlagDoesOk := by
  intro c k w hk
  have hF := Lib.hid (byFlag_any w)
  have hL := Lib.hid (fun (W : World) (b n : Nat) h => deed_look c (W := W) (b := b) (n := n) h)
  obtain ⟨P, hP⟩ : ∃ P : Int, (doesF c 2 : Nat) = P := ⟨_, rfl⟩
  obtain ⟨Q, hQ⟩ : ∃ Q : Int, (doesF c 4 : Nat) = Q := ⟨_, rfl⟩
  obtain ⟨C, hC⟩ : ∃ C : Int, (c.toNat : Int) = C := ⟨_, rfl⟩
  have hdo : Hid (doesF c k = if k = 2 then P else if k = 4 then Q else (0 : Int)) := Lib.hid (by
    rw [← hP, ← hQ]
    by_cases h2 : k = 2
    · subst h2; rw [if_pos rfl]
    · rw [if_neg h2]
      by_cases h4 : k = 4
      · subst h4; rw [if_pos rfl]
      · rw [if_neg h4]
        unfold doesF
        rw [if_neg h2, if_pos h4]
        split <;> rfl)
  rw [hC, hP, hQ] at hL
  rw [hC, hdo.out]
  unfold deedV at hL
  have hb0 := Lib.hid (Below.refl w.heap.size w)
  unfold inR64 at hk
  clear hC hP hQ hdo
  by_cases h : 0 ≤ k ∧ k ≤ 4
  · obtain (rfl | rfl | rfl | rfl | rfl) : k = 0 ∨ k = 1 ∨ k = 2 ∨ k = 3 ∨ k = 4 := by omega
    all_goals
      clear h hk
      have x0 : ∀ W : World, (Instr.index 37 (.agg #[.int .i64 0, .int .i64 0, .int .i64 P, .int .i64 0, .int .i64 Q]) (.int .i64 0)).run Try.prog W = .ok (.int .i64 0) W := fun _ => by kernel_rfl
      have x1 : ∀ W : World, (Instr.index 37 (.agg #[.int .i64 0, .int .i64 0, .int .i64 P, .int .i64 0, .int .i64 Q]) (.int .i64 1)).run Try.prog W = .ok (.int .i64 0) W := fun _ => by kernel_rfl
      have x2 : ∀ W : World, (Instr.index 37 (.agg #[.int .i64 0, .int .i64 0, .int .i64 P, .int .i64 0, .int .i64 Q]) (.int .i64 2)).run Try.prog W = .ok (.int .i64 P) W := fun _ => by kernel_rfl
      have x3 : ∀ W : World, (Instr.index 37 (.agg #[.int .i64 0, .int .i64 0, .int .i64 P, .int .i64 0, .int .i64 Q]) (.int .i64 3)).run Try.prog W = .ok (.int .i64 0) W := fun _ => by kernel_rfl
      have x4 : ∀ W : World, (Instr.index 37 (.agg #[.int .i64 0, .int .i64 0, .int .i64 P, .int .i64 0, .int .i64 Q]) (.int .i64 4)).run Try.prog W = .ok (.int .i64 Q) W := fun _ => by kernel_rfl
      go_enter Try.func14, Try.ntmps14
      go_wp2_with (go_at_call 22; refine hF.out.mono ?_; rintro e w1 ⟨b, rfl, hm, hb⟩; have hl := hL.out _ _ _ hm; have hB1 := Lib.hid hb; clear hm hb)
      go_ret
      exact ⟨rfl, hB1.out⟩
  · have h1 : k < 0 ∨ 4 < k := by omega
    have hz : (if k = 2 then P else if k = 4 then Q else (0 : Int)) = 0 := by rw [if_neg (by omega), if_neg (by omega)]
    rw [hz]
    clear h hz
    rcases h1 with h1 | h1
    all_goals
      go_enter Try.func14, Try.ntmps14
      go_wp2
      go_ret
      exact ⟨rfl, hb0.out⟩

set_option maxHeartbeats 2000000 in
theorem kind_anyL : FlagKindOk := by
  intro A0 n0 c0 mine A1 n1 c1 older A2 n2 c2 yours w _ _ _ h0 h1 h2
  have hS : ∀ (r r' : Slc) (d d' : Txs) (W : World), Below w.heap.size w W → TxR w w.heap.size r d → TxR w w.heap.size r' d' → Calls Try.prog 21 #[.slice r.1 r.2.1 r.2.2, .slice r'.1 r'.2.1 r'.2.2] W fun e w' => e = .returned (.bool (decide (d = d'))) ∧ Below w.heap.size w w' := fun r r' d d' W hb k1 k2 => by
    refine (equal_any r.1 r'.1 r.2.1 r'.2.1 r.2.2 r'.2.2 W.heap.size W.heap.size d d' W (Nat.le_trans k1.1 k1.2.1) (Nat.le_trans k2.1 k2.2.1) (k1.up hb).2.2 (k2.up hb).2.2).mono ?_
    rintro e w' ⟨r, q, rfl⟩
    exact ⟨r, below_drewN hb q⟩
  obtain ⟨a, ha⟩ : ∃ a, decide (mine = older) = a := ⟨_, rfl⟩
  obtain ⟨b, hb⟩ : ∃ b, decide (yours = older) = b := ⟨_, rfl⟩
  obtain ⟨c, hc⟩ : ∃ c, decide (mine = yours) = c := ⟨_, rfl⟩
  have hA := Lib.hid (fun W hW => ha ▸ hS (A0, n0, c0) (A1, n1, c1) mine older W hW h0 h1)
  have hB := Lib.hid (fun W hW => hb ▸ hS (A2, n2, c2) (A1, n1, c1) yours older W hW h2 h1)
  have hC := Lib.hid (fun W hW => hc ▸ hS (A0, n0, c0) (A2, n2, c2) mine yours W hW h0 h2)
  have hK : Hid (kindF mine older yours = if a = true ∧ b = true then 0 else if b = true then 1 else if a = true then 2 else if c = true then 3 else 4) := Lib.hid (by
    unfold kindF
    rw [← ha, ← hb, ← hc]
    simp only [decide_eq_true_eq])
  have hb0 := Lib.hid (Below.refl w.heap.size w)
  have tok1 := trivial
  clear h0 h1 h2 hS ha hb hc
  cases a <;> cases b <;> cases c
  all_goals
    go_enter Try.func10, Try.ntmps10
    go_wp2_with (first
      | (go_at_call 21; have _t := tok1; refine (hA.out _ hb0.out).mono ?_; rintro e w1 ⟨rfl, q1⟩; have hB1 := Lib.hid q1; have tok2 := trivial; clear tok1 q1)
      | (go_at_call 21; have _t := tok2; refine (hB.out _ hB1.out).mono ?_; rintro e w2 ⟨rfl, q2⟩; have hB2 := Lib.hid q2; have tok3 := trivial; clear tok2 q2)
      | (go_at_call 21; have _t := tok3; refine (hC.out _ hB2.out).mono ?_; rintro e w3 ⟨rfl, q3⟩; have hB3 := Lib.hid q3; clear tok3 q3))
    go_ret
    exact ⟨ret_int (by rw [hK.out]; rfl), by first | exact hB3.out | exact hB2.out⟩
end Go.Proofs.Ytlmdihocogalaaa

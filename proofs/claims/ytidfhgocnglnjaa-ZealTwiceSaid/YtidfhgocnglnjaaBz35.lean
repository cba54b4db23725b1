/- Proved here: texts joined: ZlSl. -/
import Derived.Test.YtidfhgocnglnjaaBz12
/- Proved here: a slice of pieces cut by one bound alone, ahead or behind. -/
namespace Go.Proofs.Ytidfhgocnglnjaa
open Go.RowKit
set_option linter.unusedVariables false
set_option maxRecDepth 100000

theorem pcs_part {w : World} {B n b o k m : Nat} {vs : List PcV} {ps : List Pc} (h : Pcs w B (some ⟨b, o, none⟩) n vs ps) (hm : k + m ≤ n) : Pcs w B (some ⟨b, o + k * 4, none⟩) m ((vs.drop k).take m) ((ps.drop k).take m) := by
  obtain ⟨h1, h2, h3, h4⟩ := h
  have key : ∀ {α : Type} {l : List α} {j : Nat} {x : α}, ((l.drop k).take m)[j]? = some x → j < m ∧ l[k + j]? = some x := by
    intro α l j x hx
    rw [List.getElem?_take] at hx
    split at hx
    · rename_i hj
      rw [List.getElem?_drop] at hx
      exact ⟨hj, hx⟩
    · cases hx
  refine ⟨by rw [List.length_take, List.length_drop]; omega, by rw [List.length_take, List.length_drop]; omega, fun h0 => ?_, fun j v p a b' => h4 (k + j) v p (key a).2 (key b').2⟩
  obtain ⟨b1, o1, e, hb, hc⟩ := h3 (by omega)
  injection e with e
  injection e with e1 e2
  subst e1
  subst e2
  refine ⟨b, o + k * 4, rfl, hb, fun j v p a b' => ?_⟩
  obtain ⟨q1, q2, q3, q4⟩ := hc (k + j) v p (key a).2 (key b').2
  rw [show o + k * 4 + j * 4 = o + (k + j) * 4 by omega]
  exact ⟨q1, q2, q3, q4⟩
/-- 'l[:k]'. -/
theorem pcs_to {w : World} {B n c : Nat} {A : Option Addr} {vs : List PcV} {ps : List Pc} {k : Nat} (h : Pcs w B A n vs ps) (hnc : n ≤ c) (hcm : c ≤ maxLen) (hk : k ≤ n) :
    ∃ A' m q, (∀ W : World, (Instr.slice 26 (.slice A n c) none (some (.int .i64 (k : Int))) none).run Try.prog W = .ok (.slice A' m q) W) ∧ m ≤ q ∧ q ≤ maxLen ∧ m = k ∧ Pcs w B A' m (vs.take k) (ps.take k) := by
  refine ⟨(if c = 0 then A else A.map (·.add 0)), k, c, fun W => ?_, by omega, hcm, rfl, ?_⟩
  · rw [run_slice_h (P := Try.prog) W 26 A n c Try.underlying26 .i64 (k : Int) (by omega) (by omega)]
    go_simp
  · have hl := h.1
    have hl2 := h.2.1
    rcases Nat.eq_zero_or_pos k with h0 | h0
    · subst h0
      exact ⟨by simp, by simp, fun h => absurd h (by omega), fun j v p a => by simp at a⟩
    · obtain ⟨b, o, rfl, hb, hc⟩ := h.2.2.1 (by omega)
      rw [if_neg (by omega)]
      have := pcs_part (k := 0) (m := k) h (by omega)
      simpa [Addr.add] using this
/-- 'l[k:]'. -/
theorem pcs_from {w : World} {B n c : Nat} {A : Option Addr} {vs : List PcV} {ps : List Pc} {k : Nat} (h : Pcs w B A n vs ps) (hnc : n ≤ c) (hcm : c ≤ maxLen) (hk : k ≤ n) :
    ∃ A' m q, (∀ W : World, (Instr.slice 26 (.slice A n c) (some (.int .i64 (k : Int))) none none).run Try.prog W = .ok (.slice A' m q) W) ∧ m ≤ q ∧ q ≤ maxLen ∧ m + k = n ∧ Pcs w B A' m (vs.drop k) (ps.drop k) := by
  refine ⟨(if c = k then A else A.map (·.add (k * 4))), n - k, c - k, fun W => ?_, by omega, by omega, by omega, ?_⟩
  · rw [run_slice_l (P := Try.prog) W 26 A n c Try.underlying26 .i64 (k : Int) (by omega) (by omega)]
    go_simp
  · have hl := h.1
    have hl2 := h.2.1
    rcases Nat.eq_zero_or_pos (n - k) with h0 | h0
    · rw [h0, List.drop_eq_nil_iff.2 (by omega), List.drop_eq_nil_iff.2 (by omega)]
      exact ⟨rfl, rfl, fun h => absurd h (by omega), fun j v p a => by simp at a⟩
    · obtain ⟨b, o, rfl, hb, hc⟩ := h.2.2.1 (by omega)
      rw [if_neg (by omega)]
      have := pcs_part (k := k) (m := n - k) h (by omega)
      rw [List.take_of_length_le (by rw [List.length_drop]; omega), List.take_of_length_le (by rw [List.length_drop]; omega)] at this
      simp only [Option.map_some]
      rw [show (⟨b, o, none⟩ : Addr).add (k * 4) = ⟨b, o + k * 4, none⟩ from by unfold Addr.add; split <;> simp_all]
      exact this
end Go.Proofs.Ytidfhgocnglnjaa

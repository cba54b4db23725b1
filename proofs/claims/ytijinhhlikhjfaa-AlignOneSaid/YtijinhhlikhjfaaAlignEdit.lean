/- Proved here, without conditions on the program: of one side, the chunks that aren't stable are the changes of its match. -/
import Derived.Test.YtijinhhlikhjfaaEditPure
import Derived.Test.YtijinhhlikhjfaaAlignOk
namespace Go.Proofs.Ytijinhhlikhjfaa
open Go.RowKit
set_option linter.unusedVariables false

/-- The chunks that aren't stable, as changes. -/
def unst (cs : List Ck) : List Ch := (cs.filter fun c => !c.1).map fun c => (c.2.1, c.2.2.headD (0, 0))
theorem unst_snoc_stable (l : List Ck) {c : Ck} (h : c.1 = true) : unst (l ++ [c]) = unst l := by simp [unst, h]
theorem unst_snoc {l : List Ck} {c : Ck} {s : Sp} (h : c.1 = false) (hs : c.2.2 = [s]) : unst (l ++ [c]) = unst l ++ [(c.2.1, s)] := by simp [unst, h, hs]

theorem drop_pl {l : List Int} {k : Nat} (h : k < l.length) : l.drop k = pl l k :: l.drop (k + 1) := by
  rw [List.drop_eq_getElem_cons h]
  unfold pl
  simp [h]
theorem chL_skip (n : Int) (l : List Int) (x0 y0 : Int) : ∀ (d k : Nat), k + d ≤ l.length → (∀ j, k ≤ j → j < k + d → pl l j = -1) → chL n (l.drop k) k x0 y0 = chL n (l.drop (k + d)) ((k + d : Nat) : Int) x0 y0
  | 0, k, _, _ => rfl
  | d + 1, k, hk, h => by
    rw [drop_pl (by omega), chL, if_pos (h k (Nat.le_refl _) (by omega))]
    have := chL_skip n l x0 y0 d (k + 1) (by omega) (fun j h1 h2 => h j (by omega) (by omega))
    rw [show k + 1 + d = k + (d + 1) by omega] at this
    exact this
theorem chL_run (n : Int) (l : List Int) : ∀ (d k : Nat) (y : Int), 0 ≤ y → k + d ≤ l.length → (∀ j : Nat, k ≤ j → j < k + d → pl l j = y + j - k) → chL n (l.drop k) k k y = chL n (l.drop (k + d)) ((k + d : Nat) : Int) ((k + d : Nat) : Int) (y + d)
  | 0, k, y, _, _, _ => by simp
  | d + 1, k, y, hy, hk, h => by
    have h0 := h k (Nat.le_refl _) (by omega)
    rw [drop_pl (by omega), chL, if_neg (by omega), if_neg (by omega), List.nil_append]
    have := chL_run n l d (k + 1) (y + 1) (by omega) (by omega) (fun j h1 h2 => by rw [h j (by omega) (by omega)]; omega)
    rw [show k + 1 + d = k + (d + 1) by omega] at this
    rw [show pl l k + 1 = y + 1 by omega]
    have e : y + ((d + 1 : Nat) : Int) = y + 1 + (d : Int) := by omega
    rw [e, ← this]
    rfl

theorem allP_one (l : List Int) (k : Int) : allP [l] k = decide (0 ≤ pl l k) := by simp [allP]

theorem cov_unst {m : Nat} {n : Int} {l : List Int} (hm : IsMatch m l n) : ∀ (cs : List Ck) (prev : Option Bool) (x : Nat) (y : Int), 0 ≤ y → Cov m [n] cs prev x [y] → (∀ c ∈ cs, Places [l] c) → chL n (l.drop x) x x y = unst cs
  | [], prev, x, y, hy, h, _ => by
    obtain ⟨h1, h2⟩ := h
    injection h1 with h1
    have hx : x = m := by omega
    rw [List.drop_of_length_le (by have := hm.1; omega), chL, if_neg (by omega)]
    rfl
  | c :: cs, prev, x, y, hy, h, hp => by
    have hlen := hm.1
    obtain ⟨st, ⟨f, t⟩, ss⟩ := c
    have hh := h.1
    have hbase : f = x := hh.base
    subst hbase
    have hle : (x : Int) ≤ t := hh.le
    obtain ⟨t, rfl⟩ : ∃ t' : Nat, t = t' := ⟨t.toNat, by omega⟩
    have hll : ss.length = 1 := hh.len
    obtain ⟨s, rfl⟩ : ∃ s, ss = [s] := by
      match ss, hll with
      | [s], _ => exact ⟨s, rfl⟩
    obtain ⟨s1, s2⟩ := s
    obtain ⟨e1, e2, e3⟩ := hh.side 0 (s1, s2) y rfl rfl
    simp only at e1 e2 e3
    subst e1
    have htm := (Cov.le h.2).1
    have hpc := hp _ (List.mem_cons_self ..)
    have hrest := fun d hd => hp d (List.mem_cons_of_mem _ hd)
    have hcov : Cov m [n] cs (some st) t [s2] := h.2
    have htm' : (t : Int) ≤ m := htm
    cases st with
    | true =>
      have e4 := e3 rfl
      have hrun := chL_run n l (t - x) x s1 hy (by omega) (fun j h1 h2 => by
        have := (hpc j (by simp only; omega) (by simp only; omega)).2 rfl 0 l (s1, s2) rfl rfl
        simp only at this
        omega)
      rw [hrun, show x + (t - x) = t by omega, show s1 + ((t - x : Nat) : Int) = s2 by omega, cov_unst hm cs _ t s2 (by omega) hcov hrest]
      simp [unst]
    | false =>
      have hne := hh.full
      unfold emptyB at hne
      simp at hne
      have hne' : (x : Int) < t ∨ s1 < s2 := by
        rcases Nat.lt_or_ge x t with h | h
        · exact .inl (by omega)
        · exact .inr (hne h)
      have hskip := chL_skip n l x s1 (t - x) x (by omega) (fun j h1 h2 => by
        have h3 := (hpc j (by simp only; omega) (by simp only; omega)).1
        rw [allP_one] at h3
        have h4 : ¬ 0 ≤ pl l j := by simpa using h3
        have h5 : pl l j ∈ l := by
          unfold pl
          have hj : (j : Int).toNat < l.length := by omega
          rw [List.getElem?_eq_getElem hj]
          exact List.getElem_mem hj
        by_cases h6 : pl l j = -1
        · exact h6
        · have := hm.2.1 _ h5 h6; omega)
      rw [hskip, show x + (t - x) = t by omega]
      have hun : unst ((false, ((x : Int), (t : Int)), [(s1, s2)]) :: cs) = (((x : Int), (t : Int)), (s1, s2)) :: unst cs := by simp [unst]
      rw [hun]
      cases cs with
      | nil =>
        obtain ⟨k1, k2⟩ := hcov
        injection k1 with k1
        rw [List.drop_of_length_le (by omega), chL, if_pos (by omega)]
        have ht : (t : Int) = m := k2
        rw [k1]
        rfl
      | cons e cs =>
        have halt := hcov.1.alt
        have het : e.1 = true := by
          cases h : e.1 with
          | true => rfl
          | false => rw [h] at halt; exact absurd rfl halt
        obtain ⟨k1, k2⟩ := stands_of hcov (hrest e (List.mem_cons_self ..)) het
        have k3 := k2.2 0 l s2 rfl rfl
        have ih := cov_unst hm (e :: cs) _ t s2 (by omega) hcov hrest
        have hlt : t < l.length := by omega
        have k3' : pl l (t : Nat) = s2 := k3
        rw [drop_pl hlt, chL, if_neg (by omega), if_neg (by omega), List.nil_append] at ih
        rw [drop_pl hlt, chL, if_neg (by omega), ih, k3', if_pos hne']
        rfl
theorem cut_unst {m : Nat} {n : Int} {l : List Int} {cs : List Ck} (hm : IsMatch m l n) (h : IsCut m [n] [l] cs) : unst cs = chs l n := by
  have := cov_unst hm cs none 0 0 (Int.le_refl _) h.1 h.2
  exact this.symm
theorem match_may {m : Nat} {l : List Int} {z : Int} (h : IsMatch m l z) (hz : 0 ≤ z) : may l z = true := by
  unfold may
  simp only [Bool.and_eq_true, decide_eq_true_eq]
  exact ⟨hz, mayL_of h.2.1 h.2.2⟩
end Go.Proofs.Ytijinhhlikhjfaa

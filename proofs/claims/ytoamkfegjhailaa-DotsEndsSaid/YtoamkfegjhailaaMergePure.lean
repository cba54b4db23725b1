/- Proved here, without conditions: plain facts on merges: the base as one more side; the parts of chunks, one behind the other; stable chunks have the same of all. -/
import Derived.Test.YtoamkfegjhailaaAlignPk
import Derived.Test.YtoamkfegjhailaaPickPure
namespace Go.Proofs.Ytoamkfegjhailaa
set_option linter.unusedVariables false

/-- The match of a list with itself. -/
def idm (m : Nat) : List Int := (List.range m).map fun (i : Nat) => (i : Int)
/-- A chunk, the base as one more side. -/
def addB (c : Ck) : Ck := (c.1, c.2.1, c.2.2 ++ [c.2.1])
theorem pl_idm {m : Nat} {k : Int} (h0 : 0 ≤ k) (h1 : k < m) : pl (idm m) k = k := by
  unfold pl idm
  rw [List.getElem?_map, List.getElem?_range (by omega)]
  simp
  omega
theorem ends_addB (c : Ck) : ends (addB c) = ends c ++ [c.2.1.2] := by simp [ends, addB]
theorem empty_addB (c : Ck) : emptyB (addB c) = emptyB c := by
  unfold emptyB addB
  simp only [List.any_append, List.any_cons, List.any_nil, Bool.or_false]
  cases decide (c.2.1.1 < c.2.1.2) <;> cases (c.2.2.any fun s => decide (s.1 < s.2)) <;> rfl
theorem head_addB {c : Ck} {prev : Option Bool} {b : Int} {a : List Int} (h : Head c prev b a) : Head (addB c) prev b (a ++ [b]) where
  base := h.base
  le := h.le
  len := by simp [addB, h.len]
  alt := h.alt
  full := by rw [empty_addB]; exact h.full
  side := fun s sp v h1 h2 => by
    have hl := h.len
    unfold addB at h1 ⊢
    dsimp only at h1 ⊢
    rcases Nat.lt_or_ge s a.length with hs | hs
    · rw [List.getElem?_append_left (by omega)] at h1
      rw [List.getElem?_append_left hs] at h2
      exact h.side s sp v h1 h2
    · rw [List.getElem?_append_right (by omega)] at h1
      rw [List.getElem?_append_right hs] at h2
      have hs0 : s = a.length := by
        have := (List.getElem?_eq_some_iff.1 h2).1
        simp at this
        omega
      subst hs0
      rw [hl, Nat.sub_self] at h1
      rw [Nat.sub_self] at h2
      simp at h1 h2
      subst h1
      subst h2
      exact ⟨h.base, h.le, fun _ => rfl⟩
theorem cov_addB {m : Int} {sizes : List Int} : ∀ {cs : List Ck} {prev : Option Bool} {b : Int} {a : List Int}, Cov m sizes cs prev b a → Cov m (sizes ++ [m]) (cs.map addB) prev b (a ++ [b])
  | [], _, _, _, h => by
    obtain ⟨rfl, rfl⟩ := h
    exact ⟨rfl, rfl⟩
  | c :: cs, prev, b, a, h => by
    refine ⟨head_addB h.1, ?_⟩
    have h2 := cov_addB h.2
    rw [← ends_addB] at h2
    exact h2
/-- Where a chunk lies. -/
theorem cov_lies {m : Int} {sizes : List Int} : ∀ {cs : List Ck} {prev : Option Bool} {b : Int} {a : List Int}, Cov m sizes cs prev b a → ∀ c ∈ cs, b ≤ c.2.1.1 ∧ c.2.1.1 ≤ c.2.1.2 ∧ c.2.1.2 ≤ m ∧ c.2.2.length = sizes.length
  | [], _, _, _, _, c, hc => by cases hc
  | d :: cs, prev, b, a, h, c, hc => by
    have hb := h.1.base
    have hle := h.1.le
    have hm := Cov.le h.2
    rcases List.mem_cons.1 hc with rfl | hc
    · exact ⟨by omega, by omega, hm.1, by rw [← hm.2.1, ends_len]⟩
    · have := cov_lies h.2 c hc
      exact ⟨by omega, this.2.1, this.2.2.1, this.2.2.2⟩
theorem places_addB {m : Nat} {ms : List (List Int)} {c : Ck} (hl : c.2.2.length = ms.length) (h0 : 0 ≤ c.2.1.1) (h1 : c.2.1.2 ≤ m) (h : Places ms c) : Places (ms ++ [idm m]) (addB c) := by
  intro k k1 k2
  have k1' : c.2.1.1 ≤ k := k1
  have k2' : k < c.2.1.2 := k2
  obtain ⟨q1, q2⟩ := h k k1' k2'
  have hp := pl_idm (m := m) (k := k) (by omega) (by omega)
  refine ⟨?_, fun hc s l sp e1 e2 => ?_⟩
  · show allP (ms ++ [idm m]) k = c.1
    unfold allP at q1 ⊢
    rw [List.all_append, q1]
    simp [hp]
    omega
  · have e2' : (c.2.2 ++ [c.2.1])[s]? = some sp := e2
    show pl l k = sp.1 + k - c.2.1.1
    rcases Nat.lt_or_ge s ms.length with hs | hs
    · rw [List.getElem?_append_left hs] at e1
      rw [List.getElem?_append_left (by omega)] at e2'
      exact q2 hc s l sp e1 e2'
    · rw [List.getElem?_append_right hs] at e1
      rw [List.getElem?_append_right (by omega)] at e2'
      have hs0 : s = ms.length := by
        have := (List.getElem?_eq_some_iff.1 e1).1
        simp at this
        omega
      subst hs0
      rw [Nat.sub_self] at e1
      rw [hl, Nat.sub_self] at e2'
      simp at e1 e2'
      subst e1
      subst e2'
      rw [hp]
      omega
/-- The chunks, the base as one more side. -/
theorem cut_base {m : Nat} {sizes : List Int} {ms : List (List Int)} {cs : List Ck} (hl : ms.length = sizes.length) (h : IsCut m sizes ms cs) : IsCut m (sizes ++ [(m : Int)]) (ms ++ [idm m]) (cs.map addB) := by
  obtain ⟨h1, h2⟩ := h
  refine ⟨?_, fun e he => ?_⟩
  · have := cov_addB h1
    rw [List.length_append, List.length_singleton, ← List.replicate_append_replicate]
    exact this
  · obtain ⟨c, hc, rfl⟩ := List.mem_map.1 he
    obtain ⟨k1, k2, k3, k4⟩ := cov_lies h1 c hc
    exact places_addB (by omega) (by omega) k3 (h2 c hc)
theorem sel_addB (p : List Nat) (c : Ck) (n : Nat) (hn : c.2.2.length = n) : selC p (addB c) = (c.1, c.2.1, p.map fun i => if i = n then c.2.1 else (c.2.2[i]?).getD (0, 0)) := by
  unfold selC addB sel
  simp only [Prod.mk.injEq, true_and]
  apply List.map_congr_left
  intro i _
  subst hn
  rcases Nat.lt_trichotomy i c.2.2.length with h | h | h
  · rw [List.getElem?_append_left h, if_neg (by omega)]
  · subst h
    rw [List.getElem?_append_right (Nat.le_refl _)]
    simp
  · rw [List.getElem?_append_right (by omega), if_neg (by omega), List.getElem?_eq_none (by simp; omega), List.getElem?_eq_none (by omega)]
end Go.Proofs.Ytoamkfegjhailaa

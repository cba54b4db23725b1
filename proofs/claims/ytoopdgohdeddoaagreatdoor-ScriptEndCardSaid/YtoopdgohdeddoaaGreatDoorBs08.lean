/- Proved here: texts joined: LcsPure, MtOf, MergeMt. -/
import Derived.Test.YtoopdgohdeddoaaGreatDoorBs02
import Derived.Test.YtoopdgohdeddoaaGreatDoorBs05
import Derived.Lib.Hide
/- Proved here, without conditions: plain facts on the longest common sequence of two lists (no word of the program). -/
namespace Go.Proofs.YtoopdgohdeddoaaGreatDoor
set_option linter.unusedVariables false

/-- How long the longest common sequence of two lists is. -/
def lcsL : List Int → List Int → Nat
  | [], _ => 0
  | _ :: _, [] => 0
  | x :: a, y :: b => if x = y then lcsL a b + 1 else max (lcsL a (y :: b)) (lcsL (x :: a) b)
termination_by a b => a.length + b.length

theorem lcs_nil_left (b : List Int) : lcsL [] b = 0 := by unfold lcsL; rfl
theorem lcs_nil_right (a : List Int) : lcsL a [] = 0 := by cases a <;> unfold lcsL <;> rfl
theorem lcs_same (x : Int) (a b : List Int) : lcsL (x :: a) (x :: b) = lcsL a b + 1 := by rw [lcsL]; simp
theorem lcs_other {x y : Int} (h : x ≠ y) (a b : List Int) : lcsL (x :: a) (y :: b) = max (lcsL a (y :: b)) (lcsL (x :: a) b) := by rw [lcsL]; simp [h]

/-- A common sequence that is as long. -/
theorem lcs_is (a b : List Int) : ∃ s : List Int, s.Sublist a ∧ s.Sublist b ∧ s.length = lcsL a b := by
  induction a, b using lcsL.induct with
  | case1 b => exact ⟨[], List.nil_sublist _, List.nil_sublist _, by rw [lcs_nil_left]; rfl⟩
  | case2 x a => exact ⟨[], List.nil_sublist _, List.nil_sublist _, by rw [lcs_nil_right]; rfl⟩
  | case3 a y b ih =>
    obtain ⟨s, h1, h2, h3⟩ := ih
    exact ⟨y :: s, h1.cons_cons _, h2.cons_cons _, by rw [lcs_same, List.length_cons, h3]⟩
  | case4 x a y b h ih1 ih2 =>
    obtain ⟨s, h1, h2, h3⟩ := ih1
    obtain ⟨t, k1, k2, k3⟩ := ih2
    rw [lcs_other h]
    rcases Nat.le_total (lcsL a (y :: b)) (lcsL (x :: a) b) with hl | hl
    · exact ⟨t, k1, k2.cons _, by rw [k3]; omega⟩
    · exact ⟨s, h1.cons _, h2, by rw [h3]; omega⟩

/-- No common sequence is longer. -/
theorem lcs_most (a b : List Int) : ∀ s : List Int, s.Sublist a → s.Sublist b → s.length ≤ lcsL a b := by
  induction a, b using lcsL.induct with
  | case1 b => intro s h1 _; rw [List.sublist_nil.1 h1]; simp
  | case2 x a => intro s _ h2; rw [List.sublist_nil.1 h2]; simp
  | case3 a y b ih =>
    intro s h1 h2
    rw [lcs_same]
    cases s with
    | nil => simp
    | cons z s =>
      have g1 : s.Sublist a := by
        cases h1 with
        | cons _ h => exact (List.sublist_cons_self z s).trans h
        | cons_cons _ h => exact h
      have g2 : s.Sublist b := by
        cases h2 with
        | cons _ h => exact (List.sublist_cons_self z s).trans h
        | cons_cons _ h => exact h
      have := ih s g1 g2
      simp only [List.length_cons]
      omega
  | case4 x a y b h ih1 ih2 =>
    intro s h1 h2
    rw [lcs_other h]
    cases h1 with
    | cons _ h1 => have := ih1 s h1 h2; omega
    | cons_cons _ h1 =>
      cases h2 with
      | cons _ h2 => have := ih2 _ (h1.cons_cons _) h2; omega
      | cons_cons _ h2 => exact absurd rfl h

theorem lcs_eq {a b a' b' : List Int} (h : ∀ s : List Int, s.Sublist a → s.Sublist b → ∃ t : List Int, t.length = s.length ∧ t.Sublist a' ∧ t.Sublist b') : lcsL a b ≤ lcsL a' b' := by
  obtain ⟨s, h1, h2, h3⟩ := lcs_is a b
  obtain ⟨t, k1, k2, k3⟩ := h s h1 h2
  have := lcs_most a' b' t k2 k3
  omega
theorem lcs_comm (a b : List Int) : lcsL a b = lcsL b a :=
  Nat.le_antisymm (lcs_eq fun s h1 h2 => ⟨s, rfl, h2, h1⟩) (lcs_eq fun s h1 h2 => ⟨s, rfl, h2, h1⟩)
theorem lcs_turned (a b : List Int) : lcsL a.reverse b.reverse = lcsL a b := by
  refine Nat.le_antisymm (lcs_eq fun s h1 h2 => ⟨s.reverse, by simp, ?_, ?_⟩) (lcs_eq fun s h1 h2 => ⟨s.reverse, by simp, h1.reverse, h2.reverse⟩)
  · simpa using h1.reverse
  · simpa using h2.reverse
theorem lcs_le_left (a b : List Int) : lcsL a b ≤ a.length := by
  obtain ⟨s, h1, _, h3⟩ := lcs_is a b
  have := h1.length_le; omega
theorem lcs_le_right (a b : List Int) : lcsL a b ≤ b.length := by rw [lcs_comm]; exact lcs_le_left b a
theorem lcs_self (a : List Int) : lcsL a a = a.length :=
  Nat.le_antisymm (lcs_le_left a a) (lcs_most a a a (List.Sublist.refl _) (List.Sublist.refl _))
theorem lcs_mono {a b a' b' : List Int} (h1 : a.Sublist a') (h2 : b.Sublist b') : lcsL a b ≤ lcsL a' b' :=
  lcs_eq fun s k1 k2 => ⟨s, rfl, k1.trans h1, k2.trans h2⟩
theorem lcs_front (p a b : List Int) : lcsL (p ++ a) (p ++ b) = p.length + lcsL a b := by
  induction p with
  | nil => simp
  | cons x p ih => rw [List.cons_append, List.cons_append, lcs_same, ih, List.length_cons]; omega
theorem lcs_back (p a b : List Int) : lcsL (a ++ p) (b ++ p) = lcsL a b + p.length := by
  rw [← lcs_turned, List.reverse_append, List.reverse_append, lcs_front, lcs_turned, List.length_reverse]; omega
/-- One more in front is one more at most. -/
theorem lcs_cons_left (x : Int) (a b : List Int) : lcsL (x :: a) b ≤ lcsL a b + 1 := by
  obtain ⟨s, h1, h2, h3⟩ := lcs_is (x :: a) b
  cases s with
  | nil => simp at h3; omega
  | cons z s =>
    have g1 : s.Sublist a := by
      cases h1 with
      | cons _ h => exact (List.sublist_cons_self z s).trans h
      | cons_cons _ h => exact h
    have := lcs_most a b s g1 ((List.sublist_cons_self z s).trans h2)
    simp only [List.length_cons] at h3
    omega
theorem lcs_cons_right (y : Int) (a b : List Int) : lcsL a (y :: b) ≤ lcsL a b + 1 := by
  rw [lcs_comm, lcs_comm a b]; exact lcs_cons_left y b a

/-- The document's reckoning: the greater one of both, and one more than what is left of both, if they begin with the same. -/
theorem lcs_row (x y : Int) (a b : List Int) : lcsL (x :: a) (y :: b) = if x = y then max (max (lcsL a (y :: b)) (lcsL (x :: a) b)) (lcsL a b + 1) else max (lcsL a (y :: b)) (lcsL (x :: a) b) := by
  split
  · rename_i h
    subst h
    have h1 := lcs_cons_left x a b
    have h2 := lcs_cons_right x a b
    rw [lcs_same]
    omega
  · rename_i h
    exact lcs_other h a b

/-- What two lists that lie in one have in common. -/
theorem sub_meet (b : List Int) : ∀ s t : List Int, s.Sublist b → t.Sublist b → ∃ u : List Int, u.Sublist s ∧ u.Sublist t ∧ s.length + t.length ≤ u.length + b.length := by
  induction b with
  | nil => intro s t h1 h2; rw [List.sublist_nil.1 h1, List.sublist_nil.1 h2]; exact ⟨[], List.nil_sublist _, List.nil_sublist _, by simp⟩
  | cons x b ih =>
    intro s t h1 h2
    cases h1 with
    | cons _ h1 =>
      cases h2 with
      | cons _ h2 => obtain ⟨u, a1, a2, a3⟩ := ih _ _ h1 h2; exact ⟨u, a1, a2, by simp only [List.length_cons]; omega⟩
      | cons_cons _ h2 => obtain ⟨u, a1, a2, a3⟩ := ih _ _ h1 h2; exact ⟨u, a1, a2.cons _, by simp only [List.length_cons]; omega⟩
    | cons_cons _ h1 =>
      cases h2 with
      | cons _ h2 => obtain ⟨u, a1, a2, a3⟩ := ih _ _ h1 h2; exact ⟨u, a1.cons _, a2, by simp only [List.length_cons]; omega⟩
      | cons_cons _ h2 => obtain ⟨u, a1, a2, a3⟩ := ih _ _ h1 h2; exact ⟨x :: u, a1.cons_cons _, a2.cons_cons _, by simp only [List.length_cons]; omega⟩
theorem lcs_between (a b c : List Int) : lcsL a b + lcsL b c ≤ lcsL a c + b.length := by
  obtain ⟨s, h1, h2, h3⟩ := lcs_is a b
  obtain ⟨t, k1, k2, k3⟩ := lcs_is b c
  obtain ⟨u, a1, a2, a3⟩ := sub_meet b s t h2 k1
  have := lcs_most a c u (a1.trans h1) (a2.trans k2)
  omega

/-- L of the places i and j. -/
def lcsAt (a b : List Int) (i j : Nat) : Nat := lcsL (a.drop i) (b.drop j)
theorem lcsAt_zero (a b : List Int) : lcsAt a b 0 0 = lcsL a b := rfl
theorem lcsAt_end_left {a b : List Int} {i j : Nat} (h : a.length ≤ i) : lcsAt a b i j = 0 := by unfold lcsAt; rw [List.drop_of_length_le h, lcs_nil_left]
theorem lcsAt_end_right {a b : List Int} {i j : Nat} (h : b.length ≤ j) : lcsAt a b i j = 0 := by unfold lcsAt; rw [List.drop_of_length_le h, lcs_nil_right]
theorem lcsAt_row {a b : List Int} {i j : Nat} {x y : Int} (hx : a[i]? = some x) (hy : b[j]? = some y) :
    lcsAt a b i j = if x = y then max (max (lcsAt a b (i + 1) j) (lcsAt a b i (j + 1))) (lcsAt a b (i + 1) (j + 1) + 1) else max (lcsAt a b (i + 1) j) (lcsAt a b i (j + 1)) := by
  obtain ⟨hi, rfl⟩ := List.getElem?_eq_some_iff.1 hx
  obtain ⟨hj, rfl⟩ := List.getElem?_eq_some_iff.1 hy
  unfold lcsAt
  rw [List.drop_eq_getElem_cons hi, List.drop_eq_getElem_cons hj]
  exact lcs_row _ _ _ _
theorem lcsAt_same {a b : List Int} {i j : Nat} {x : Int} (hx : a[i]? = some x) (hy : b[j]? = some x) : lcsAt a b i j = lcsAt a b (i + 1) (j + 1) + 1 := by
  obtain ⟨hi, hx'⟩ := List.getElem?_eq_some_iff.1 hx
  obtain ⟨hj, hy'⟩ := List.getElem?_eq_some_iff.1 hy
  unfold lcsAt
  rw [List.drop_eq_getElem_cons hi, List.drop_eq_getElem_cons hj, hx', hy']
  exact lcs_same _ _ _
theorem lcsAt_other {a b : List Int} {i j : Nat} {x y : Int} (hx : a[i]? = some x) (hy : b[j]? = some y) (h : x ≠ y) : lcsAt a b i j = max (lcsAt a b (i + 1) j) (lcsAt a b i (j + 1)) := by
  rw [lcsAt_row hx hy, if_neg h]
theorem lcsAt_le_left (a b : List Int) (i j : Nat) : lcsAt a b i j ≤ a.length - i := by
  have := lcs_le_left (a.drop i) (b.drop j)
  rw [List.length_drop] at this
  exact this
theorem lcsAt_le_right (a b : List Int) (i j : Nat) : lcsAt a b i j ≤ b.length - j := by
  have := lcs_le_right (a.drop i) (b.drop j)
  rw [List.length_drop] at this
  exact this
/-- A place further on of both, where both have the same: no more is left than one less. -/
theorem lcsAt_take {a b : List Int} {i j x y : Nat} {v : Int} (hx : i ≤ x) (hy : j ≤ y) (ha : a[x]? = some v) (hb : b[y]? = some v) : lcsAt a b (x + 1) (y + 1) + 1 ≤ lcsAt a b i j := by
  rw [← lcsAt_same ha hb]
  unfold lcsAt
  refine lcs_mono ?_ ?_
  · have : a.drop x = (a.drop i).drop (x - i) := by rw [List.drop_drop]; congr 1; omega
    rw [this]; exact List.drop_sublist _ _
  · have : b.drop y = (b.drop j).drop (y - j) := by rw [List.drop_drop]; congr 1; omega
    rw [this]; exact List.drop_sublist _ _

/-- The document's match, from places i (of a) and j (of b) on: the list of what is paired, for a's places from i on. -/
def mt : List Int → List Int → Nat → List Int
  | [], _, _ => []
  | _ :: a, [], j => -1 :: mt a [] j
  | x :: a, y :: b, j => if x = y then (j : Int) :: mt a b (j + 1) else if lcsL a (y :: b) < lcsL (x :: a) b then mt (x :: a) b (j + 1) else -1 :: mt a (y :: b) j
termination_by a b => a.length + b.length

theorem mt_len (a b : List Int) (j : Nat) : (mt a b j).length = a.length := by
  induction a, b, j using mt.induct with
  | case1 b j => unfold mt; rfl
  | case2 x a j ih => rw [mt]; simp [ih]
  | case3 a j y b ih => rw [mt]; simp [ih]
  | case4 j x a y b h hlt ih => rw [mt, if_neg h, if_pos hlt]; exact ih
  | case5 j x a y b h hlt ih => rw [mt, if_neg h, if_neg hlt]; simp [ih]
theorem mt_front (p a b : List Int) : ∀ j, mt (p ++ a) (p ++ b) j = ((List.range p.length).map fun i => ((j + i : Nat) : Int)) ++ mt a b (j + p.length) := by
  induction p with
  | nil => intro j; simp
  | cons x p ih =>
    intro j
    rw [List.cons_append, List.cons_append, mt, if_pos rfl, ih, List.length_cons, List.range_succ_eq_map, List.map_cons, List.cons_append, List.map_map, Nat.add_zero, show j + 1 + p.length = j + (p.length + 1) from by omega]
    congr 2
    refine List.map_congr_left fun i _ => ?_
    simp; omega
/-- How many are paired. -/
def paired (m : List Int) : Nat := (m.filter fun x => x != -1).length
theorem mt_count (a b : List Int) (j : Nat) : paired (mt a b j) = lcsL a b := by
  unfold paired
  induction a, b, j using mt.induct with
  | case1 b j => rw [mt, lcs_nil_left]; rfl
  | case2 x a j ih => rw [mt, lcs_nil_right]; simp [ih, lcs_nil_right]
  | case3 a j y b ih =>
    rw [mt, if_pos rfl, lcs_same, List.filter_cons, if_pos (by simp), List.length_cons, ih]
  | case4 j x a y b h hlt ih => rw [mt, if_neg h, if_pos hlt, ih, lcs_other h]; omega
  | case5 j x a y b h hlt ih => rw [mt, if_neg h, if_neg hlt, lcs_other h, List.filter_cons, if_neg (by simp), ih]; omega

/-- What is paired lies in b, is the same, and is above all that was paired ahead of it. -/
theorem mt_good (a b : List Int) (j : Nat) : ∀ (i : Nat) (v : Int), (mt a b j)[i]? = some v → v ≠ -1 → ∃ y : Nat, v = ((j + y : Nat) : Int) ∧ (∃ x, a[i]? = some x ∧ b[y]? = some x) ∧ ∀ i' v', i' < i → (mt a b j)[i']? = some v' → v' < v := by
  induction a, b, j using mt.induct with
  | case1 b j => intro i v h; rw [mt] at h; simp at h
  | case2 x a j ih =>
    intro i v h hv
    rw [mt] at h
    cases i with
    | zero => simp at h; exact absurd h.symm hv
    | succ i =>
      obtain ⟨y, _, ⟨z, _, hz⟩, _⟩ := ih i v (by simpa using h) hv
      simp at hz
  | case3 a y b j ih =>
    intro i v h hv
    rw [mt, if_pos rfl] at h ⊢
    cases i with
    | zero =>
      simp at h
      exact ⟨0, by simp [h], ⟨y, by simp, by simp⟩, fun i' v' hi => absurd hi (by omega)⟩
    | succ i =>
      obtain ⟨q, hq, ⟨z, hz1, hz2⟩, hr⟩ := ih i v (by simpa using h) hv
      refine ⟨q + 1, by rw [hq]; congr 1; omega, ⟨z, by simpa using hz1, by simpa using hz2⟩, fun i' v' hi h' => ?_⟩
      cases i' with
      | zero => simp at h'; rw [hq, ← h']; omega
      | succ i' => exact hr i' v' (by omega) (by simpa using h')
  | case4 j x a y b h hlt ih =>
    intro i v hi hv
    rw [mt, if_neg h, if_pos hlt] at hi ⊢
    obtain ⟨q, hq, ⟨z, hz1, hz2⟩, hr⟩ := ih i v hi hv
    exact ⟨q + 1, by rw [hq]; congr 1; omega, ⟨z, hz1, by simpa using hz2⟩, hr⟩
  | case5 j x a y b h hlt ih =>
    intro i v hi hv
    rw [mt, if_neg h, if_neg hlt] at hi ⊢
    cases i with
    | zero => simp at hi; exact absurd hi.symm hv
    | succ i =>
      obtain ⟨q, hq, ⟨z, hz1, hz2⟩, hr⟩ := ih i v (by simpa using hi) hv
      refine ⟨q, hq, ⟨z, by simpa using hz1, hz2⟩, fun i' v' hi' h' => ?_⟩
      cases i' with
      | zero => simp at h'; rw [hq, ← h']; omega
      | succ i' => exact hr i' v' (by omega) (by simpa using h')

/-- The match for a's places from i on, where b's from j on are left. -/
def mtAt (a b : List Int) (i j : Nat) : List Int := mt (a.drop i) (b.drop j) j
theorem mtAt_end {a b : List Int} {i j : Nat} (h : a.length ≤ i) : mtAt a b i j = [] := by unfold mtAt; rw [List.drop_of_length_le h, mt]
theorem mtAt_out {a b : List Int} {i j : Nat} (hi : i < a.length) (h : b.length ≤ j) : mtAt a b i j = -1 :: mtAt a b (i + 1) j := by
  unfold mtAt
  rw [List.drop_of_length_le h, List.drop_eq_getElem_cons hi, mt]
theorem mtAt_pair {a b : List Int} {i j : Nat} {x : Int} (hx : a[i]? = some x) (hy : b[j]? = some x) : mtAt a b i j = (j : Int) :: mtAt a b (i + 1) (j + 1) := by
  obtain ⟨hi, hx'⟩ := List.getElem?_eq_some_iff.1 hx
  obtain ⟨hj, hy'⟩ := List.getElem?_eq_some_iff.1 hy
  unfold mtAt
  rw [List.drop_eq_getElem_cons hi, List.drop_eq_getElem_cons hj, mt, if_pos (by rw [hx', hy'])]
theorem mtAt_skip {a b : List Int} {i j : Nat} {x y : Int} (hx : a[i]? = some x) (hy : b[j]? = some y) (h : x ≠ y) (hl : lcsAt a b (i + 1) j < lcsAt a b i (j + 1)) : mtAt a b i j = mtAt a b i (j + 1) := by
  obtain ⟨hi, hx'⟩ := List.getElem?_eq_some_iff.1 hx
  obtain ⟨hj, hy'⟩ := List.getElem?_eq_some_iff.1 hy
  unfold lcsAt at hl
  unfold mtAt
  rw [List.drop_eq_getElem_cons hj] at hl
  conv at hl => rhs; rw [List.drop_eq_getElem_cons hi]
  rw [List.drop_eq_getElem_cons hi, List.drop_eq_getElem_cons hj, mt, if_neg (by rw [hx', hy']; exact h), if_pos hl]
theorem mtAt_pass {a b : List Int} {i j : Nat} {x y : Int} (hx : a[i]? = some x) (hy : b[j]? = some y) (h : x ≠ y) (hl : ¬ lcsAt a b (i + 1) j < lcsAt a b i (j + 1)) : mtAt a b i j = -1 :: mtAt a b (i + 1) j := by
  obtain ⟨hi, hx'⟩ := List.getElem?_eq_some_iff.1 hx
  obtain ⟨hj, hy'⟩ := List.getElem?_eq_some_iff.1 hy
  unfold lcsAt at hl
  unfold mtAt
  rw [List.drop_eq_getElem_cons hj] at hl
  conv at hl => rhs; rw [List.drop_eq_getElem_cons hi]
  rw [List.drop_eq_getElem_cons hi, List.drop_eq_getElem_cons hj, mt, if_neg (by rw [hx', hy']; exact h), if_neg hl]

/-- The last of the list that is paired; -1 if none is. -/
def lastP (m : List Int) : Int := (m.filter fun x => x != -1).getLastD (-1)
theorem lastP_snoc_miss (m : List Int) : lastP (m ++ [-1]) = lastP m := by unfold lastP; simp
theorem lastP_snoc_hit {m : List Int} {v : Int} (h : v ≠ -1) : lastP (m ++ [v]) = v := by unfold lastP; simp [h]
theorem paired_snoc_miss (m : List Int) : paired (m ++ [-1]) = paired m := by unfold paired; simp
theorem paired_snoc_hit {m : List Int} {v : Int} (h : v ≠ -1) : paired (m ++ [v]) = paired m + 1 := by unfold paired; simp [h]
theorem lastP_lt {m : List Int} {v : Int} (h0 : -1 < v) (h : ∀ u ∈ m, u < v) : lastP m < v := by
  unfold lastP
  rw [List.getLastD_eq_getLast?]
  cases hl : (m.filter fun x => x != -1).getLast? with
  | none => exact h0
  | some u => exact h u (List.mem_filter.1 (List.mem_of_getLast? hl)).1
end Go.Proofs.YtoopdgohdeddoaaGreatDoor
/- Proved here, without conditions: plain facts on matches of texts, by whatever numbers that tell them apart. -/
namespace Go.Proofs.YtoopdgohdeddoaaGreatDoor
set_option linter.unusedVariables false

section
variable {α : Type} {f g : α → Int}
theorem lcs_map : ∀ {a b : List α}, (∀ x ∈ a, ∀ y ∈ b, (f x = f y ↔ g x = g y)) → lcsL (a.map f) (b.map f) = lcsL (a.map g) (b.map g)
  | [], b, _ => by simp [lcs_nil_left]
  | x :: a, [], _ => by simp [lcs_nil_right]
  | x :: a, y :: b, h => by
    have hxy := h x (List.mem_cons_self ..) y (List.mem_cons_self ..)
    have h1 := lcs_map (a := a) (b := b) fun u hu v hv => h u (List.mem_cons_of_mem _ hu) v (List.mem_cons_of_mem _ hv)
    have h2 := lcs_map (a := a) (b := y :: b) fun u hu v hv => h u (List.mem_cons_of_mem _ hu) v hv
    have h3 := lcs_map (a := x :: a) (b := b) fun u hu v hv => h u hu v (List.mem_cons_of_mem _ hv)
    rw [List.map_cons, List.map_cons, List.map_cons, List.map_cons]
    rw [List.map_cons, List.map_cons] at h2 h3
    by_cases e : f x = f y
    · rw [e, hxy.1 e, lcs_same, lcs_same, h1]
    · rw [lcs_other e, lcs_other (fun k => e (hxy.2 k)), h2, h3]
termination_by a b => a.length + b.length
theorem mt_map : ∀ {a b : List α} (j : Nat), (∀ x ∈ a, ∀ y ∈ b, (f x = f y ↔ g x = g y)) → mt (a.map f) (b.map f) j = mt (a.map g) (b.map g) j
  | [], b, j, _ => by simp [mt]
  | x :: a, [], j, h => by
    have h1 := mt_map (a := a) (b := []) j fun u hu v hv => by cases hv
    simp only [List.map_cons, List.map_nil] at h1 ⊢
    rw [mt, mt, h1]
  | x :: a, y :: b, j, h => by
    have hxy := h x (List.mem_cons_self ..) y (List.mem_cons_self ..)
    have h1 := mt_map (a := a) (b := b) (j + 1) fun u hu v hv => h u (List.mem_cons_of_mem _ hu) v (List.mem_cons_of_mem _ hv)
    have h2 := mt_map (a := a) (b := y :: b) j fun u hu v hv => h u (List.mem_cons_of_mem _ hu) v hv
    have h3 := mt_map (a := x :: a) (b := b) (j + 1) fun u hu v hv => h u hu v (List.mem_cons_of_mem _ hv)
    have l2 := lcs_map (a := a) (b := y :: b) fun u hu v hv => h u (List.mem_cons_of_mem _ hu) v hv
    have l3 := lcs_map (a := x :: a) (b := b) fun u hu v hv => h u hu v (List.mem_cons_of_mem _ hv)
    simp only [List.map_cons] at h2 h3 l2 l3 ⊢
    rw [mt, mt]
    by_cases e : f x = f y
    · rw [if_pos e, if_pos (hxy.1 e), h1]
    · rw [if_neg e, if_neg (fun k => e (hxy.2 k)), l2, l3, h2, h3]
termination_by a b => a.length + b.length
end

/-- The match of a base and a side, by numbers that tell their texts apart. -/
def MtOf (base d : Txs) (l : List Int) : Prop := ∃ f : Tx → Int, (∀ x ∈ base, ∀ y ∈ d, f x = f y → x = y) ∧ l = mt (base.map f) (d.map f) 0
theorem MtOf.one {base d : Txs} {l l' : List Int} (h : MtOf base d l) (h' : MtOf base d l') : l = l' := by
  obtain ⟨f, hf, rfl⟩ := h
  obtain ⟨g, hg, rfl⟩ := h'
  exact mt_map 0 fun x hx y hy => ⟨fun e => by rw [hf x hx y hy e], fun e => by rw [hg x hx y hy e]⟩
theorem MtOf.len {base d : Txs} {l : List Int} (h : MtOf base d l) : l.length = base.length := by
  obtain ⟨f, _, rfl⟩ := h
  rw [mt_len, List.length_map]
theorem MtOf.selfR {base : Txs} {l : List Int} (h : MtOf base base l) : l = (List.range base.length).map fun (i : Nat) => (i : Int) := by
  obtain ⟨f, _, rfl⟩ := h
  have := mt_front (base.map f) [] [] 0
  rw [List.append_nil] at this
  rw [this, mt, List.append_nil, List.length_map]
  refine List.map_congr_left fun i _ => ?_
  simp
theorem MtOf.same {base d : Txs} {l : List Int} (h : MtOf base d l) {k : Nat} {v : Int} (hk : l[k]? = some v) (hv : 0 ≤ v) : ∃ t, base[k]? = some t ∧ d[v.toNat]? = some t := by
  obtain ⟨f, hf, rfl⟩ := h
  obtain ⟨y, hy, ⟨z, h1, h2⟩, _⟩ := mt_good _ _ 0 k v hk (by omega)
  rw [List.getElem?_map] at h1 h2
  have hvy : v.toNat = y := by omega
  rw [hvy]
  cases hb : base[k]? with
  | none => rw [hb] at h1; cases h1
  | some t =>
    cases hd : d[y]? with
    | none => rw [hd] at h2; cases h2
    | some u =>
      rw [hb] at h1
      rw [hd] at h2
      simp at h1 h2
      exact ⟨t, rfl, by rw [hf t (List.mem_of_getElem? hb) u (List.mem_of_getElem? hd) (h1.trans h2.symm)]⟩
end Go.Proofs.YtoopdgohdeddoaaGreatDoor
/- Proved here, without conditions: plain facts on merges: matches of a base and all sides; a list's match with itself. -/
namespace Go.Proofs.YtoopdgohdeddoaaGreatDoor
set_option linter.unusedVariables false

theorem MtOf.self {base : Txs} {l : List Int} (h : MtOf base base l) : l = idm base.length := h.selfR
/-- The matches of a base and all sides. -/
def MsOf (base : Txs) (sides : List Txs) (ms : List (List Int)) : Prop := ms.length = sides.length ∧ ∀ (s : Nat) (l : List Int) (d : Txs), ms[s]? = some l → sides[s]? = some d → MtOf base d l
theorem MsOf.same {base : Txs} {sides : List Txs} {ms : List (List Int)} (h : MsOf base sides ms) : SameM base sides ms := fun s l d h1 h2 k v h3 h4 => (h.2 s l d h1 h2).same h3 h4
theorem MsOf.laid {base : Txs} {sides : List Txs} {ms : List (List Int)} {cs : List Ck} (h : MsOf base sides ms) (hc : IsCut base.length (szs sides) ms cs) : Laid base sides ms cs := ⟨h.1, h.same, hc⟩
theorem MsOf.at_ {base : Txs} {sides : List Txs} {ms : List (List Int)} (h : MsOf base sides ms) {s : Nat} {d : Txs} (hd : sides[s]? = some d) : ∃ l, ms[s]? = some l ∧ MtOf base d l := by
  have hs := (List.getElem?_eq_some_iff.1 hd).1
  have hl : ms[s]? = some (ms[s]'(by rw [h.1]; exact hs)) := List.getElem?_eq_getElem _
  exact ⟨_, hl, h.2 s _ d hl hd⟩

/-- Sides with one match, or with the base's own, have one span in each chunk. -/
theorem span_one {m : Int} {sizes : List Int} {ms : List (List Int)} {s s' : Nat} {l : List Int} {z : Int} (hm : ms[s]? = some l) (hm' : ms[s']? = some l) (hz : sizes[s]? = some z) (hz' : sizes[s']? = some z) :
    ∀ {cs : List Ck} {prev : Option Bool} {b : Int} {a : List Int}, Cov m sizes cs prev b a → (∀ c ∈ cs, Places ms c) → a[s]? = a[s']? → ∀ c ∈ cs, c.2.2[s]? = c.2.2[s']?
  | [], _, _, _, _, _, _, c, hc => by cases hc
  | c :: cs, prev, b, a, h, hp, ha, e, he => by
    have hsz := (Cov.le h).2.1
    have hs : s < a.length := by have := (List.getElem?_eq_some_iff.1 hz).1; omega
    have hs' : s' < a.length := by have := (List.getElem?_eq_some_iff.1 hz').1; omega
    have hv : a[s]? = some a[s] := List.getElem?_eq_getElem hs
    obtain ⟨v, hvv⟩ : ∃ v, a[s] = v := ⟨_, rfl⟩
    rw [hvv] at hv
    have hv' : a[s']? = some v := ha.symm.trans hv
    obtain ⟨sp, hsp⟩ := sp_of h.1.len hv
    obtain ⟨sq, hsq⟩ := sp_of h.1.len hv'
    obtain ⟨p1, p2, p3⟩ := h.1.side s sp v hsp hv
    obtain ⟨q1, q2, q3⟩ := h.1.side s' sq v hsq hv'
    have k1 : (ends c)[s]? = some sp.2 := by unfold ends; rw [List.getElem?_map, hsp]; rfl
    have k2 : (ends c)[s']? = some sq.2 := by unfold ends; rw [List.getElem?_map, hsq]; rfl
    have hend : sp.2 = sq.2 := by
      cases hc : c.1 with
      | true =>
        have := p3 hc
        have := q3 hc
        omega
      | false =>
        cases cs with
        | nil =>
          have h2 := h.2.1
          rw [h2, hz] at k1
          rw [h2, hz'] at k2
          injection k1 with k1
          injection k2 with k2
          omega
        | cons d ds =>
          have hd : d.1 = true := by
            have := h.2.1.alt
            rw [hc] at this
            cases hd : d.1 with
            | true => rfl
            | false => rw [hd] at this; exact absurd rfl this
          have hone := h.2.1.one hd
          have hbase := h.2.1.base
          obtain ⟨r1, r2⟩ := hp d (by simp) c.2.1.2 (by omega) hone
          obtain ⟨sp', hsp'⟩ := sp_of h.2.1.len k1
          obtain ⟨sq', hsq'⟩ := sp_of h.2.1.len k2
          have u1 := r2 hd s l sp' hm hsp'
          have u2 := r2 hd s' l sq' hm' hsq'
          have v1 := (h.2.1.side s sp' _ hsp' k1).1
          have v2 := (h.2.1.side s' sq' _ hsq' k2).1
          omega
    have heq : sp = sq := Prod.ext (by omega) hend
    rcases List.mem_cons.1 he with rfl | he
    · rw [hsp, hsq, heq]
    · exact span_one hm hm' hz hz' h.2 (fun d hd => hp d (List.mem_cons_of_mem _ hd)) (by rw [k1, k2, hend]) e he
end Go.Proofs.YtoopdgohdeddoaaGreatDoor

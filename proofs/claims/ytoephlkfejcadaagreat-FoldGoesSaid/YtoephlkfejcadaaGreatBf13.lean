/- Proved here: texts joined: EditPure, MayM. -/
import Derived.Test.YtoephlkfejcadaaGreatBf01
import Derived.WalkKit
import Derived.Test.YtoephlkfejcadaaGreatChecked
import Derived.WalkLawsBesides
import Derived.BigFrame
import Derived.Deep.QuietTactic
import Derived.BigQuiet
/- Proved here, without conditions: plain facts on matches and their changes: a match is told there and back, its changes count all places, the other way round they are swapped. -/
namespace Go.Proofs.YtoephlkfejcadaaGreat
set_option linter.unusedVariables false

/-- A change: the old places, from and to; the new ones. -/
abbrev Ch := (Int × Int) × (Int × Int)

/-- Numbers that are a match to n: those that aren't -1 rise, from b on, below n. -/
def mayL (n : Int) : List Int → Int → Bool
  | [], _ => true
  | v :: l, b => if v = -1 then mayL n l b else (decide (b ≤ v) && decide (v < n)) && mayL n l (v + 1)
def may (l : List Int) (n : Int) : Bool := decide (0 ≤ n) && mayL n l 0

/-- The changes from place i on, where the old places from x on and the new ones from y on aren't told yet. -/
def chL (n : Int) : List Int → Int → Int → Int → List Ch
  | [], i, x, y => if x < i ∨ y < n then [((x, i), (y, n))] else []
  | v :: l, i, x, y => if v = -1 then chL n l (i + 1) x y else (if x < i ∨ y < v then [((x, i), (y, v))] else []) ++ chL n l (i + 1) (i + 1) (v + 1)
def chs (l : List Int) (n : Int) : List Ch := chL n l 0 0 0

def inOld (l : List Ch) (i : Int) : Bool := l.any fun c => decide (c.1.1 ≤ i) && decide (i < c.1.2)
def inNew (l : List Ch) (j : Int) : Bool := l.any fun c => decide (c.2.1 ≤ j) && decide (j < c.2.2)
/-- From j on, past what lies in a change. -/
def skipTo (l : List Ch) (n : Int) : Nat → Int → Int
  | 0, j => j
  | f + 1, j => if j < n ∧ inNew l j = true then skipTo l n f (j + 1) else j
def guessL (l : List Ch) (n : Int) : Nat → Int → Int → List Int
  | 0, _, _ => []
  | k + 1, i, j => if inOld l i = true ∨ n ≤ skipTo l n (n - j).toNat j then -1 :: guessL l n k (i + 1) (skipTo l n (n - j).toNat j) else skipTo l n (n - j).toNat j :: guessL l n k (i + 1) (skipTo l n (n - j).toNat j + 1)
/-- The only match of m places to n that may have the changes l. -/
def guess (l : List Ch) (m n : Int) : List Int := guessL l n m.toNat 0 0

theorem guessL_len (l : List Ch) (n : Int) : ∀ (k : Nat) (i j : Int), (guessL l n k i j).length = k
  | 0, _, _ => rfl
  | k + 1, i, j => by unfold guessL; split <;> simp [guessL_len l n k]
theorem guess_len (l : List Ch) (m n : Int) : (guess l m n).length = m.toNat := guessL_len _ _ _ _ _

theorem mayL_from {n : Int} : ∀ {l : List Int} {b b' : Int}, mayL n l b = true → (∀ u ∈ l, u ≠ -1 → b' ≤ u) → mayL n l b' = true
  | [], _, _, _, _ => rfl
  | v :: l, b, b', h, hb => by
    unfold mayL at h ⊢
    split at h
    · rename_i hv
      rw [if_pos hv]
      exact mayL_from h fun u hu => hb u (List.mem_cons_of_mem _ hu)
    · rename_i hv
      rw [if_neg hv]
      simp only [Bool.and_eq_true, decide_eq_true_eq] at h ⊢
      exact ⟨⟨hb v (List.mem_cons_self ..) hv, h.1.2⟩, h.2⟩
theorem mayL_low {n : Int} : ∀ {l : List Int} {b b' : Int}, mayL n l b = true → b' ≤ b → mayL n l b' = true
  | [], _, _, _, _ => rfl
  | v :: l, b, b', h, hb => by
    unfold mayL at h ⊢
    split at h
    · rename_i hv
      rw [if_pos hv]
      exact mayL_low h hb
    · rename_i hv
      rw [if_neg hv]
      simp only [Bool.and_eq_true, decide_eq_true_eq] at h ⊢
      exact ⟨⟨by omega, h.1.2⟩, h.2⟩
theorem mayL_mem {n : Int} : ∀ {l : List Int} {b : Int}, mayL n l b = true → ∀ u ∈ l, u ≠ -1 → b ≤ u ∧ u < n
  | [], _, _, u, hu, _ => by cases hu
  | v :: l, b, h, u, hu, hne => by
    unfold mayL at h
    split at h
    · rename_i hv
      rcases List.mem_cons.1 hu with rfl | hu
      · exact absurd hv hne
      · exact mayL_mem h u hu hne
    · simp only [Bool.and_eq_true, decide_eq_true_eq] at h
      rcases List.mem_cons.1 hu with rfl | hu
      · exact h.1
      · have := mayL_mem h.2 u hu hne
        omega
theorem may_parts {l : List Int} {n : Int} (h : may l n = true) : 0 ≤ n ∧ mayL n l 0 = true := by
  unfold may at h
  simpa using h

theorem inOld_append (l k : List Ch) (t : Int) : inOld (l ++ k) t = (inOld l t || inOld k t) := by unfold inOld; rw [List.any_append]
theorem inNew_append (l k : List Ch) (t : Int) : inNew (l ++ k) t = (inNew l t || inNew k t) := by unfold inNew; rw [List.any_append]
theorem inOld_one (a b c d x y t : Int) : (inOld (if a < b ∨ c < d then [((x, y), (c, d))] else []) t = true) ↔ (a < b ∨ c < d) ∧ x ≤ t ∧ t < y := by
  split <;> simp_all [inOld] <;> omega
theorem inNew_one (a b c d x y t : Int) : (inNew (if a < b ∨ c < d then [((x, y), (c, d))] else []) t = true) ↔ (a < b ∨ c < d) ∧ c ≤ t ∧ t < d := by
  split <;> simp_all [inNew] <;> omega

theorem inOld_chL (n t : Int) : ∀ (l : List Int) (i x y : Int), x ≤ i → (inOld (chL n l i x y) t = true ↔ (x ≤ t ∧ t < i) ∨ (i ≤ t ∧ l[(t - i).toNat]? = some (-1)))
  | [], i, x, y, h => by
    unfold chL
    rw [inOld_one]
    simp
    omega
  | v :: l, i, x, y, h => by
    have key : ∀ t, i ≤ t → ((v :: l)[(t - i).toNat]? = if t = i then some v else l[(t - (i + 1)).toNat]?) := by
      intro t ht
      by_cases e : t = i
      · subst e; simp
      · rw [if_neg e, show (t - i).toNat = (t - (i + 1)).toNat + 1 by omega]; simp
    unfold chL
    split
    · rename_i hv
      rw [inOld_chL n t l (i + 1) x y (by omega)]
      by_cases ht : i ≤ t
      · rw [key t ht]
        by_cases e : t = i
        · rw [if_pos e, hv]; simp; omega
        · rw [if_neg e]
          constructor
          · rintro (h1 | h1)
            · omega
            · exact .inr ⟨ht, h1.2⟩
          · rintro (h1 | h1)
            · omega
            · exact .inr ⟨by omega, h1.2⟩
      · constructor
        · rintro (h1 | h1)
          · exact .inl (by omega)
          · omega
        · rintro (h1 | h1)
          · exact .inl (by omega)
          · omega
    · rename_i hv
      rw [inOld_append, Bool.or_eq_true, inOld_one, inOld_chL n t l (i + 1) (i + 1) (v + 1) (Int.le_refl _)]
      by_cases ht : i ≤ t
      · rw [key t ht]
        by_cases e : t = i
        · rw [if_pos e]
          constructor
          · rintro (h1 | h1 | h1)
            · omega
            · omega
            · omega
          · rintro (h1 | h1)
            · omega
            · exact absurd (by simpa using h1.2) hv
        · rw [if_neg e]
          constructor
          · rintro (h1 | h1 | h1)
            · omega
            · omega
            · exact .inr ⟨ht, h1.2⟩
          · rintro (h1 | h1)
            · omega
            · exact .inr (.inr ⟨by omega, h1.2⟩)
      · constructor
        · rintro (h1 | h1 | h1)
          · exact .inl (by omega)
          · omega
          · omega
        · rintro (h1 | h1)
          · exact .inl ⟨.inl (by omega), by omega⟩
          · omega

theorem inNew_chL (n t : Int) : ∀ (l : List Int) (i x y : Int), 0 ≤ y → x ≤ i → mayL n l y = true → (inNew (chL n l i x y) t = true ↔ y ≤ t ∧ t < n ∧ t ∉ l)
  | [], i, x, y, hy, hx, h => by
    unfold chL
    rw [inNew_one]
    simp
    omega
  | v :: l, i, x, y, hy, hx, h => by
    have hm := mayL_mem h
    unfold mayL at h
    unfold chL
    split at h
    · rename_i hv
      rw [if_pos hv, inNew_chL n t l (i + 1) x y hy (by omega) h, hv]
      simp
      omega
    · rename_i hv
      simp only [Bool.and_eq_true, decide_eq_true_eq] at h
      have hm2 := mayL_mem h.2
      rw [if_neg hv, inNew_append, Bool.or_eq_true, inNew_one, inNew_chL n t l (i + 1) (i + 1) (v + 1) (by omega) (Int.le_refl _) h.2]
      constructor
      · rintro (h1 | h1)
        · refine ⟨by omega, by omega, fun hmem => ?_⟩
          rcases List.mem_cons.1 hmem with e | hmem
          · omega
          · have := hm2 t hmem (by omega)
            omega
        · exact ⟨by omega, by omega, fun hmem => by
            rcases List.mem_cons.1 hmem with e | hmem
            · omega
            · exact h1.2.2 hmem⟩
      · rintro ⟨h1, h2, h3⟩
        have hne : t ≠ v := fun e => h3 (e ▸ List.mem_cons_self ..)
        by_cases ht : t < v
        · exact .inl ⟨.inr (by omega), h1, ht⟩
        · exact .inr ⟨by omega, h2, fun hmem => h3 (List.mem_cons_of_mem _ hmem)⟩

theorem skipTo_ge (l : List Ch) (n : Int) : ∀ (f : Nat) (j : Int), j ≤ skipTo l n f j
  | 0, j => Int.le_refl _
  | f + 1, j => by
    unfold skipTo
    split
    · have := skipTo_ge l n f (j + 1)
      omega
    · exact Int.le_refl _
theorem skipTo_le {l : List Ch} {n u : Int} (hu : n ≤ u ∨ inNew l u = false) : ∀ (f : Nat) (j : Int), j ≤ u → skipTo l n f j ≤ u
  | 0, j, h => h
  | f + 1, j, h => by
    unfold skipTo
    split
    · rename_i hc
      refine skipTo_le hu f (j + 1) ?_
      rcases Int.lt_or_eq_of_le h with h1 | h1
      · omega
      · subst h1
        rcases hu with h2 | h2
        · omega
        · rw [h2] at hc; exact absurd hc.2 (by simp)
    · exact h
theorem skipTo_up {l : List Ch} {n u : Int} : ∀ (f : Nat) (j : Int), (∀ t, j ≤ t → t < u → t < n ∧ inNew l t = true) → u - j ≤ f → u ≤ skipTo l n f j ∨ u < j
  | 0, j, _, hf => by
    unfold skipTo
    omega
  | f + 1, j, h, hf => by
    unfold skipTo
    by_cases hju : j < u
    · rw [if_pos (h j (Int.le_refl _) hju)]
      have := skipTo_up f (j + 1) (fun t h1 h2 => h t (by omega) h2) (by omega)
      omega
    · have : j ≤ (if j < n ∧ inNew l j = true then skipTo l n f (j + 1) else j) := by
        split
        · have := skipTo_ge l n f (j + 1); omega
        · exact Int.le_refl _
      omega

theorem guessL_may (l : List Ch) (n : Int) : ∀ (k : Nat) (i j : Int), 0 ≤ j → mayL n (guessL l n k i j) j = true
  | 0, _, _, _ => rfl
  | k + 1, i, j, hj => by
    have hge := skipTo_ge l n (n - j).toNat j
    unfold guessL
    obtain ⟨s, hs⟩ : ∃ s, s = skipTo l n (n - j).toNat j := ⟨_, rfl⟩
    rw [← hs] at hge ⊢
    split
    · unfold mayL
      rw [if_pos rfl]
      exact mayL_low (guessL_may l n k (i + 1) s (by omega)) hge
    · rename_i h
      unfold mayL
      rw [if_neg (by omega)]
      simp only [Bool.and_eq_true, decide_eq_true_eq]
      exact ⟨⟨hge, by omega⟩, guessL_may l n k (i + 1) (s + 1) (by omega)⟩
theorem guess_may (l : List Ch) (m n : Int) (h : 0 ≤ n) : may (guess l m n) n = true := by
  unfold may
  simp only [Bool.and_eq_true, decide_eq_true_eq]
  exact ⟨h, guessL_may l n _ _ _ (Int.le_refl _)⟩

theorem guessL_back {n : Int} {L : List Ch} {all : List Int} (hold : ∀ i : Nat, i < all.length → (inOld L i = true ↔ all[i]? = some (-1))) (hnew : ∀ t, 0 ≤ t → (inNew L t = true ↔ t < n ∧ t ∉ all)) :
    ∀ (suf pre : List Int) (j : Int), all = pre ++ suf → 0 ≤ j → mayL n suf j = true → (∀ u ∈ pre, u ≠ -1 → u < j) → guessL L n suf.length pre.length j = suf
  | [], _, _, _, _, _, _ => rfl
  | v :: s, pre, j, he, hj, hm, hp => by
    have hmem := mayL_mem hm
    have hi : (pre.length : Nat) < all.length := by rw [he]; simp
    have ho := hold pre.length hi
    rw [he, List.getElem?_append_right (Nat.le_refl _)] at ho
    simp at ho
    have hstop : ∀ u ∈ v :: s, u ≠ -1 → inNew L u = false := by
      intro u hu hne
      have := hmem u hu hne
      have h2 := hnew u (by omega)
      cases hc : inNew L u with
      | false => rfl
      | true => exact absurd ((h2.1 hc).2) (fun h => h (by rw [he]; exact List.mem_append_right _ hu))
    have hge := skipTo_ge L n (n - j).toNat j
    have hle : ∀ u ∈ v :: s, u ≠ -1 → skipTo L n (n - j).toNat j ≤ u := fun u hu hne => skipTo_le (.inr (hstop u hu hne)) _ _ (hmem u hu hne).1
    have hm2 := hm
    unfold mayL at hm2
    have hcast : ((pre.length : Nat) : Int) + 1 = (((pre ++ [v]).length : Nat) : Int) := by simp
    have he2 : all = (pre ++ [v]) ++ s := by rw [he]; simp
    rw [List.length_cons]
    unfold guessL
    by_cases hv : v = -1
    · rw [if_pos (.inl (ho.2 hv)), hcast]
      rw [if_pos hv] at hm2
      rw [guessL_back hold hnew s (pre ++ [v]) _ he2 (by omega) (mayL_from hm2 fun u hu hne => hle u (List.mem_cons_of_mem _ hu) hne) ?_, hv]
      intro u hu hne
      rcases List.mem_append.1 hu with hu | hu
      · have := hp u hu hne; omega
      · simp at hu; omega
    · rw [if_neg hv] at hm2
      simp only [Bool.and_eq_true, decide_eq_true_eq] at hm2
      have hs : skipTo L n (n - j).toNat j = v := by
        have h1 := hle v (List.mem_cons_self ..) hv
        have h2 := skipTo_up (l := L) (n := n) (u := v) (n - j).toNat j (fun t ht1 ht2 => by
          refine ⟨by omega, (hnew t (by omega)).2 ⟨by omega, fun hmm => ?_⟩⟩
          rw [he] at hmm
          rcases List.mem_append.1 hmm with hmm | hmm
          · have := hp t hmm (by omega); omega
          · rcases List.mem_cons.1 hmm with e | hmm
            · omega
            · have := mayL_mem hm2.2 t hmm (by omega); omega) (by omega)
        omega
      rw [hs, if_neg (by
        rintro (h1 | h1)
        · exact hv (ho.1 h1)
        · omega), hcast]
      rw [guessL_back hold hnew s (pre ++ [v]) _ he2 (by omega) hm2.2 ?_]
      intro u hu hne
      rcases List.mem_append.1 hu with hu | hu
      · have := hp u hu hne; omega
      · simp at hu; omega

/-- A match is told there and back. -/
theorem guess_chs {l : List Int} {n : Int} (h : may l n = true) : guess (chs l n) l.length n = l := by
  obtain ⟨h0, hm⟩ := may_parts h
  unfold guess chs
  have := guessL_back (n := n) (L := chL n l 0 0 0) (all := l) (fun i hi => by
      rw [inOld_chL n i l 0 0 0 (Int.le_refl _)]
      simp
      omega)
    (fun t ht => by
      rw [inNew_chL n t l 0 0 0 (Int.le_refl _) (Int.le_refl _) hm]
      simp
      omega) l [] 0 rfl (Int.le_refl _) hm (fun u hu => by cases hu)
  simpa using this
theorem chs_inj {l k : List Int} {n : Int} (hl : may l n = true) (hk : may k n = true) (hlen : l.length = k.length) (h : chs l n = chs k n) : l = k := by
  rw [← guess_chs hl, ← guess_chs hk, h, hlen]

theorem chL_len (n : Int) : ∀ (l : List Int) (i x y : Int), (chL n l i x y).length ≤ l.length + 1
  | [], i, x, y => by unfold chL; split <;> simp
  | v :: l, i, x, y => by
    unfold chL
    split
    · have := chL_len n l (i + 1) x y
      simp only [List.length_cons]
      omega
    · have := chL_len n l (i + 1) (i + 1) (v + 1)
      rw [List.length_append]
      simp only [List.length_cons]
      have h1 : (if x < i ∨ y < v then [((x, i), (y, v))] else [] : List Ch).length ≤ 1 := by split <;> simp
      omega
theorem chs_len (l : List Int) (n : Int) : (chs l n).length ≤ l.length + 1 := chL_len _ _ _ _ _

/-- A change the other way. -/
def swapC (c : Ch) : Ch := (c.2, c.1)
theorem swap_swap (l : List Ch) : (l.map swapC).map swapC = l := by
  rw [List.map_map]
  have : (swapC ∘ swapC) = id := by funext c; rfl
  rw [this, List.map_id]

/-- What is paired, as places, from place i on. -/
def prL : List Int → Int → List (Int × Int)
  | [], _ => []
  | v :: l, i => if v = -1 then prL l (i + 1) else (i, v) :: prL l (i + 1)
/-- The changes of pairs. -/
def chP (m n : Int) : List (Int × Int) → Int → Int → List Ch
  | [], x, y => if x < m ∨ y < n then [((x, m), (y, n))] else []
  | p :: ps, x, y => (if x < p.1 ∨ y < p.2 then [((x, p.1), (y, p.2))] else []) ++ chP m n ps (p.1 + 1) (p.2 + 1)
theorem chL_pairs (n : Int) : ∀ (l : List Int) (i x y : Int), chL n l i x y = chP (i + l.length) n (prL l i) x y
  | [], i, x, y => by simp [chL, prL, chP]
  | v :: l, i, x, y => by
    unfold chL prL
    rw [show i + ((v :: l).length : Int) = (i + 1) + l.length by simp only [List.length_cons]; push_cast; omega]
    split
    · exact chL_pairs n l (i + 1) x y
    · rw [chP, chL_pairs n l (i + 1) (i + 1) (v + 1)]
theorem chP_swap (m n : Int) : ∀ (ps : List (Int × Int)) (x y : Int), (chP m n ps x y).map swapC = chP n m (ps.map Prod.swap) y x
  | [], x, y => by
    simp only [chP, List.map_nil]
    by_cases h : x < m ∨ y < n
    · rw [if_pos h, if_pos h.symm]; rfl
    · rw [if_neg h, if_neg (fun h2 => h h2.symm)]; rfl
  | p :: ps, x, y => by
    rw [chP, List.map_append, chP_swap m n ps, List.map_cons, chP]
    by_cases h : x < p.1 ∨ y < p.2
    · rw [if_pos h, if_pos (show y < p.swap.1 ∨ x < p.swap.2 from h.symm)]; rfl
    · rw [if_neg h, if_neg (show ¬ (y < p.swap.1 ∨ x < p.swap.2) from fun h2 => h h2.symm)]; rfl
theorem prL_mem (l : List Int) : ∀ (i : Int) (p : Int × Int), p ∈ prL l i ↔ i ≤ p.1 ∧ l[(p.1 - i).toNat]? = some p.2 ∧ p.2 ≠ -1 := by
  induction l with
  | nil => intro i p; simp [prL]
  | cons v l ih =>
    intro i p
    have key : i ≤ p.1 → ((v :: l)[(p.1 - i).toNat]? = if p.1 = i then some v else l[(p.1 - (i + 1)).toNat]?) := by
      intro ht
      by_cases e : p.1 = i
      · rw [if_pos e, e]; simp
      · rw [if_neg e, show (p.1 - i).toNat = (p.1 - (i + 1)).toNat + 1 by omega]; simp
    unfold prL
    split
    · rename_i hv
      rw [ih]
      constructor
      · rintro ⟨h1, h2, h3⟩
        exact ⟨by omega, by rw [key (by omega), if_neg (by omega)]; exact h2, h3⟩
      · rintro ⟨h1, h2, h3⟩
        rw [key h1] at h2
        by_cases e : p.1 = i
        · rw [if_pos e] at h2
          injection h2 with h2
          exact absurd (h2 ▸ hv) h3
        · rw [if_neg e] at h2
          exact ⟨by omega, h2, h3⟩
    · rename_i hv
      rw [List.mem_cons, ih]
      constructor
      · rintro (rfl | ⟨h1, h2, h3⟩)
        · exact ⟨Int.le_refl _, by simp, hv⟩
        · exact ⟨by omega, by rw [key (by omega), if_neg (by omega)]; exact h2, h3⟩
      · rintro ⟨h1, h2, h3⟩
        rw [key h1] at h2
        by_cases e : p.1 = i
        · rw [if_pos e] at h2
          injection h2 with h2
          left
          exact Prod.ext e h2.symm
        · rw [if_neg e] at h2
          exact .inr ⟨by omega, h2, h3⟩
/-- Pairs rise in both places. -/
theorem prL_rise (n : Int) : ∀ (l : List Int) (i b : Int), mayL n l b = true → (prL l i).Pairwise (fun p q => p.1 < q.1 ∧ p.2 < q.2)
  | [], _, _, _ => List.Pairwise.nil
  | v :: l, i, b, h => by
    unfold mayL at h
    unfold prL
    split at h
    · rename_i hv
      rw [if_pos hv]
      exact prL_rise n l (i + 1) b h
    · rename_i hv
      simp only [Bool.and_eq_true, decide_eq_true_eq] at h
      rw [if_neg hv]
      refine List.Pairwise.cons (fun q hq => ?_) (prL_rise n l (i + 1) (v + 1) h.2)
      obtain ⟨h1, h2, h3⟩ := (prL_mem l (i + 1) q).1 hq
      have := mayL_mem h.2 q.2 (List.mem_of_getElem? h2) h3
      exact ⟨by show i < q.1; omega, by show v < q.2; omega⟩
theorem rising_eq {f : Int × Int → Int} : ∀ {l k : List (Int × Int)}, l.Pairwise (fun p q => f p < f q) → k.Pairwise (fun p q => f p < f q) → (∀ p, p ∈ l ↔ p ∈ k) → l = k
  | [], [], _, _, _ => rfl
  | [], q :: k, _, _, h => by have := (h q).2 (List.mem_cons_self ..); cases this
  | p :: l, [], _, _, h => by have := (h p).1 (List.mem_cons_self ..); cases this
  | p :: l, q :: k, hl, hk, h => by
    have hl1 := List.pairwise_cons.1 hl
    have hk1 := List.pairwise_cons.1 hk
    have e : p = q := by
      rcases List.mem_cons.1 ((h p).1 (List.mem_cons_self ..)) with e | h1
      · exact e
      · rcases List.mem_cons.1 ((h q).2 (List.mem_cons_self ..)) with e | h2
        · exact e.symm
        · have := hk1.1 p h1
          have := hl1.1 q h2
          omega
    subst e
    rw [rising_eq hl1.2 hk1.2 fun r => ?_]
    constructor
    · intro hr
      rcases List.mem_cons.1 ((h r).1 (List.mem_cons_of_mem _ hr)) with e | h1
      · subst e
        have := hl1.1 r hr
        omega
      · exact h1
    · intro hr
      rcases List.mem_cons.1 ((h r).2 (List.mem_cons_of_mem _ hr)) with e | h1
      · subst e
        have := hk1.1 r hr
        omega
      · exact h1

theorem mayL_pair {n : Int} : ∀ {l : List Int} {b : Int}, mayL n l b = true → l.Pairwise (fun u v => u ≠ -1 → v ≠ -1 → u < v)
  | [], _, _ => List.Pairwise.nil
  | v :: l, b, h => by
    unfold mayL at h
    split at h
    · rename_i hv
      exact List.Pairwise.cons (fun u _ h1 => absurd hv h1) (mayL_pair h)
    · simp only [Bool.and_eq_true, decide_eq_true_eq] at h
      exact List.Pairwise.cons (fun u hu _ h2 => by have := mayL_mem h.2 u hu h2; omega) (mayL_pair h.2)
theorem mayL_of {n : Int} : ∀ {l : List Int} {b : Int}, (∀ u ∈ l, u ≠ -1 → b ≤ u ∧ u < n) → l.Pairwise (fun u v => u ≠ -1 → v ≠ -1 → u < v) → mayL n l b = true
  | [], _, _, _ => rfl
  | v :: l, b, h, hp => by
    have hp1 := List.pairwise_cons.1 hp
    unfold mayL
    by_cases hv : v = -1
    · rw [if_pos hv]
      exact mayL_of (fun u hu => h u (List.mem_cons_of_mem _ hu)) hp1.2
    · rw [if_neg hv]
      have hb := h v (List.mem_cons_self ..) hv
      simp only [Bool.and_eq_true, decide_eq_true_eq]
      exact ⟨hb, mayL_of (fun u hu hne => ⟨by have := hp1.1 u hu hv hne; omega, (h u (List.mem_cons_of_mem _ hu) hne).2⟩) hp1.2⟩

/-- A match the other way: where the new place j is paired, its old place. -/
theorem back_chs {l k : List Int} {n : Int} (hm : may l n = true) (hk : (k.length : Int) = n) (hb : ∀ (i j : Nat), j < k.length → (k[j]? = some (i : Int) ↔ l[i]? = some (j : Int))) (hb2 : ∀ (j : Nat) (v : Int), k[j]? = some v → v = -1 ∨ ∃ i : Nat, v = i) :
    may k l.length = true ∧ chs k l.length = (chs l n).map swapC := by
  obtain ⟨h0, hml⟩ := may_parts hm
  have hmem : ∀ p : Int × Int, p ∈ prL k 0 ↔ p ∈ (prL l 0).map Prod.swap := by
    intro p
    rw [List.mem_map, prL_mem]
    simp only [Int.sub_zero]
    constructor
    · rintro ⟨h1, h2, h3⟩
      rcases hb2 _ _ h2 with e | ⟨i, e⟩
      · exact absurd e h3
      · have hj := (List.getElem?_eq_some_iff.1 h2).1
        rw [e] at h2
        have h4 := (hb i p.1.toNat hj).1 h2
        refine ⟨(p.2, p.1), (prL_mem l 0 _).2 ⟨by rw [e]; exact Int.natCast_nonneg _, ?_, ?_⟩, rfl⟩
        · show l[(p.2 - 0).toNat]? = some p.1
          rw [e, Int.sub_zero, Int.toNat_natCast, h4]
          congr 1
          omega
        · show p.1 ≠ -1
          omega
    · rintro ⟨q, hq, rfl⟩
      obtain ⟨h1, h2, h3⟩ := (prL_mem l 0 q).1 hq
      rw [Int.sub_zero] at h2
      have hv := mayL_mem hml q.2 (List.mem_of_getElem? h2) h3
      have hj : q.2.toNat < k.length := by omega
      refine ⟨hv.1, ?_, by show q.1 ≠ -1; omega⟩
      show k[q.2.toNat]? = some q.1
      have := (hb q.1.toNat q.2.toNat hj).2 (by rw [h2]; congr 1; omega)
      rw [this]
      congr 1
      omega
  have hlp := mayL_pair hml
  rw [List.pairwise_iff_getElem] at hlp
  have hmk : mayL (l.length : Int) k 0 = true := by
    refine mayL_of (fun u hu hne => ?_) ?_
    · obtain ⟨j, hj⟩ := List.mem_iff_getElem?.1 hu
      rcases hb2 j u hj with e | ⟨i, e⟩
      · exact absurd e hne
      · subst e
        have h4 := (hb i j (List.getElem?_eq_some_iff.1 hj).1).1 hj
        have := (List.getElem?_eq_some_iff.1 h4).1
        omega
    · rw [List.pairwise_iff_getElem]
      intro j j' hj hj' hlt h1 h2
      have g1 : k[j]? = some k[j] := List.getElem?_eq_getElem hj
      have g2 : k[j']? = some k[j'] := List.getElem?_eq_getElem hj'
      rcases hb2 j _ g1 with e | ⟨i, e⟩
      · exact absurd e h1
      rcases hb2 j' _ g2 with e' | ⟨i', e'⟩
      · exact absurd e' h2
      rw [e] at g1
      rw [e'] at g2
      have q1 := (hb i j hj).1 g1
      have q2 := (hb i' j' hj').1 g2
      rw [e, e']
      have b1 := (List.getElem?_eq_some_iff.1 q1)
      have b2 := (List.getElem?_eq_some_iff.1 q2)
      obtain ⟨b1, v1⟩ := b1
      obtain ⟨b2, v2⟩ := b2
      rcases Nat.lt_trichotomy i i' with h | h | h
      · omega
      · subst h
        omega
      · have := hlp i' i b2 b1 h (by omega) (by omega)
        omega
  refine ⟨by unfold may; simp [hmk], ?_⟩
  unfold chs
  rw [chL_pairs, chL_pairs, chP_swap]
  have hpe : prL k 0 = (prL l 0).map Prod.swap := by
    refine rising_eq (f := Prod.fst) ((prL_rise _ k 0 0 hmk).imp fun h => h.1) ?_ hmem
    rw [List.pairwise_map]
    exact (prL_rise n l 0 0 hml).imp fun h => h.2
  rw [hpe, Int.zero_add, Int.zero_add, hk]

/-- How many old places, and new ones, lie in changes. -/
def sumO : List Ch → Int
  | [] => 0
  | c :: l => (c.1.2 - c.1.1) + sumO l
def sumN : List Ch → Int
  | [] => 0
  | c :: l => (c.2.2 - c.2.1) + sumN l
theorem sumO_append (l k : List Ch) : sumO (l ++ k) = sumO l + sumO k := by
  induction l with
  | nil => simp [sumO]
  | cons c l ih => simp only [List.cons_append, sumO, ih]; omega
theorem sumN_append (l k : List Ch) : sumN (l ++ k) = sumN l + sumN k := by
  induction l with
  | nil => simp [sumN]
  | cons c l ih => simp only [List.cons_append, sumN, ih]; omega
/-- How many are paired. -/
def cntP : List Int → Nat
  | [] => 0
  | v :: l => (if 0 ≤ v then 1 else 0) + cntP l
theorem cntP_snoc (l : List Int) (v : Int) : cntP (l ++ [v]) = cntP l + if 0 ≤ v then 1 else 0 := by
  induction l with
  | nil => simp [cntP]
  | cons u l ih => simp only [List.cons_append, cntP, ih]; omega
theorem cntP_le : ∀ l : List Int, cntP l ≤ l.length
  | [] => Nat.le_refl _
  | v :: l => by have := cntP_le l; unfold cntP; simp only [List.length_cons]; split <;> omega

theorem sumO_chL (n : Int) : ∀ (l : List Int) (i x y : Int), x ≤ i → 0 ≤ y → mayL n l y = true → sumO (chL n l i x y) + cntP l = i - x + l.length
  | [], i, x, y, hx, hy, h => by
    unfold chL
    split <;> simp [sumO, cntP] <;> omega
  | v :: l, i, x, y, hx, hy, h => by
    unfold mayL at h
    unfold chL cntP
    simp only [List.length_cons]
    split at h
    · rename_i hv
      have := sumO_chL n l (i + 1) x y (by omega) hy h
      rw [if_pos hv, if_neg (show ¬ 0 ≤ v by omega)]
      push_cast
      omega
    · rename_i hv
      simp only [Bool.and_eq_true, decide_eq_true_eq] at h
      have := sumO_chL n l (i + 1) (i + 1) (v + 1) (Int.le_refl _) (by omega) h.2
      rw [if_neg hv, if_pos (show 0 ≤ v by omega), sumO_append]
      have h1 : sumO (if x < i ∨ y < v then [((x, i), (y, v))] else []) = i - x := by
        split <;> simp [sumO] <;> omega
      push_cast
      omega
theorem sumN_chL (n : Int) : ∀ (l : List Int) (i x y : Int), x ≤ i → 0 ≤ y → y ≤ n → mayL n l y = true → sumN (chL n l i x y) + cntP l = n - y
  | [], i, x, y, hx, hy, hyn, h => by
    unfold chL
    split <;> simp [sumN, cntP] <;> omega
  | v :: l, i, x, y, hx, hy, hyn, h => by
    unfold mayL at h
    unfold chL cntP
    split at h
    · rename_i hv
      have := sumN_chL n l (i + 1) x y (by omega) hy hyn h
      rw [if_pos hv, if_neg (show ¬ 0 ≤ v by omega)]
      push_cast
      omega
    · rename_i hv
      simp only [Bool.and_eq_true, decide_eq_true_eq] at h
      have := sumN_chL n l (i + 1) (i + 1) (v + 1) (Int.le_refl _) (by omega) (by omega) h.2
      rw [if_neg hv, if_pos (show 0 ≤ v by omega), sumN_append]
      have h1 : sumN (if x < i ∨ y < v then [((x, i), (y, v))] else []) = v - y := by
        split <;> simp [sumN] <;> omega
      push_cast
      omega
/-- A change lies between what isn't told yet and the lists' ends. -/
theorem chL_lies (n : Int) : ∀ (l : List Int) (i x y : Int), x ≤ i → 0 ≤ y → y ≤ n → mayL n l y = true → ∀ c ∈ chL n l i x y, x ≤ c.1.1 ∧ c.1.1 ≤ c.1.2 ∧ c.1.2 ≤ i + l.length ∧ y ≤ c.2.1 ∧ c.2.1 ≤ c.2.2 ∧ c.2.2 ≤ n
  | [], i, x, y, hx, hy, hyn, h => by
    unfold chL
    intro c hc
    split at hc
    · simp at hc
      subst hc
      simp
      omega
    · cases hc
  | v :: l, i, x, y, hx, hy, hyn, h => by
    unfold mayL at h
    unfold chL
    intro c hc
    simp only [List.length_cons]
    push_cast
    split at h
    · rename_i hv
      rw [if_pos hv] at hc
      have := chL_lies n l (i + 1) x y (by omega) hy hyn h c hc
      omega
    · rename_i hv
      simp only [Bool.and_eq_true, decide_eq_true_eq] at h
      rw [if_neg hv] at hc
      rcases List.mem_append.1 hc with hc | hc
      · split at hc
        · simp at hc
          subst hc
          simp
          omega
        · cases hc
      · have := chL_lies n l (i + 1) (i + 1) (v + 1) (Int.le_refl _) (by omega) (by omega) h.2 c hc
        omega
/-- Between two changes something is paired. -/
theorem chL_apart (n : Int) : ∀ (l : List Int) (i x y : Int), x ≤ i → 0 ≤ y → y ≤ n → mayL n l y = true → (chL n l i x y).Pairwise (fun c d => c.1.2 < d.1.1 ∧ c.2.2 < d.2.1)
  | [], i, x, y, hx, hy, hyn, h => by
    unfold chL
    split <;> simp
  | v :: l, i, x, y, hx, hy, hyn, h => by
    unfold mayL at h
    unfold chL
    split at h
    · rename_i hv
      rw [if_pos hv]
      exact chL_apart n l (i + 1) x y (by omega) hy hyn h
    · rename_i hv
      simp only [Bool.and_eq_true, decide_eq_true_eq] at h
      rw [if_neg hv, List.pairwise_append]
      refine ⟨by split <;> simp, chL_apart n l (i + 1) (i + 1) (v + 1) (Int.le_refl _) (by omega) (by omega) h.2, fun c hc d hd => ?_⟩
      have := chL_lies n l (i + 1) (i + 1) (v + 1) (Int.le_refl _) (by omega) (by omega) h.2 d hd
      split at hc
      · simp at hc
        subst hc
        simp
        omega
      · cases hc
theorem sumO_le {l : List Ch} (h : ∀ c ∈ l, c.1.1 ≤ c.1.2) : 0 ≤ sumO l := by
  induction l with
  | nil => simp [sumO]
  | cons c l ih => have := ih fun d hd => h d (List.mem_cons_of_mem _ hd); have := h c (List.mem_cons_self ..); unfold sumO; omega
theorem sumN_le {l : List Ch} (h : ∀ c ∈ l, c.2.1 ≤ c.2.2) : 0 ≤ sumN l := by
  induction l with
  | nil => simp [sumN]
  | cons c l ih => have := ih fun d hd => h d (List.mem_cons_of_mem _ hd); have := h c (List.mem_cons_self ..); unfold sumN; omega
end Go.Proofs.YtoephlkfejcadaaGreat
/- Proved here: the contract of the document's own answer of layer 4: May. -/
namespace Go.Proofs.YtoephlkfejcadaaGreat
open Go.RowKit
set_option linter.unusedVariables false

theorem mayL_miss {n : Int} {l : List Int} {b : Int} {k : Nat} (h : l[k]? = some (-1)) : mayL n (l.drop k) b = mayL n (l.drop (k + 1)) b := by
  rw [drop_at h, mayL, if_pos rfl]
theorem mayL_hit {n v : Int} {l : List Int} {b : Int} {k : Nat} (h : l[k]? = some v) (hv : v ≠ -1) (h1 : b ≤ v) (h2 : v < n) : mayL n (l.drop k) b = mayL n (l.drop (k + 1)) (v + 1) := by
  rw [drop_at h, mayL, if_neg hv]
  simp [h1, h2]
theorem mayL_out {n v : Int} {l : List Int} {b : Int} {k : Nat} (h : l[k]? = some v) (hv : v ≠ -1) (h1 : ¬ (b ≤ v ∧ v < n)) : mayL n (l.drop k) b = false := by
  rw [drop_at h, mayL, if_neg hv]
  by_cases e : b ≤ v
  · have : ¬ v < n := fun h => h1 ⟨e, h⟩
    simp [this]
  · simp [e]

set_option maxHeartbeats 1000000 in
theorem May_any (A : Option Addr) (n c B : Nat) (l : List Int) (N : Int) (w : World) (hn : n ≤ maxLen) (hN : N ≤ 9223372036854775807) (hA : Nums w B A n l) :
    Calls Tryz.prog 102 #[.slice A n c, .int .i64 N] w fun e w' => e = .returned (.bool (may l N)) ∧ w = w' := by
  have hl := hA.len
  unfold maxLen at hn
  by_cases h0 : N < 0
  · have hm : may l N = false := by unfold may; simp; omega
    rw [hm]
    go_enter Tryz.func102, Tryz.ntmps102
    go_wp2
    go_ret
    exact ⟨rfl, rfl⟩
  · have hm : may l N = mayL N l 0 := by unfold may; simp; omega
    rw [hm]
    go_enter Tryz.func102, Tryz.ntmps102
    go_wp2
    go_loop [5, 6] (fun sb si => ∃ (k : Nat) (b : Int), k ≤ n ∧ si = .int .i64 k ∧ sb = .int .i64 b ∧ 0 ≤ b ∧ Hid (mayL N l 0 = mayL N (l.drop k) b)) (fun _ si => n - (intOf si).toNat)
    case atStart => exact ⟨0, 0, Nat.zero_le _, rfl, rfl, Int.le_refl _, Lib.hid rfl⟩
    case round =>
      obtain ⟨k, b, hk, rfl, rfl, hb, hq⟩ := hrel
      clear hm
      by_cases hlt : k < n
      · obtain ⟨g, o, v, rfl, hg, hv, hc⟩ := hA.at_ (k := k) hlt
        have hki : (k : Int) < (n : Int) := by omega
        by_cases h1 : v = -1
        · subst h1
          have hq2 := Lib.hid (hq.out.trans (mayL_miss hv))
          go_wp2
          go_round
          case rel => exact ⟨k + 1, b, by omega, by go_num, rfl, hb, hq2⟩
          case measure => simp [intOf] <;> omega
        · have he : (v == -1) = false := by simpa using h1
          by_cases h2 : v < b
          · have hq2 := Lib.hid (hq.out.trans (mayL_out hv h1 (by omega)))
            go_wp2
            go_ret
            exact ⟨ret_bool hq2.out.symm, rfl⟩
          · have h2' : decide (v < b) = false := by simp; omega
            by_cases h3 : N ≤ v
            · have hq2 := Lib.hid (hq.out.trans (mayL_out hv h1 (by omega)))
              go_wp2
              go_ret
              exact ⟨ret_bool hq2.out.symm, rfl⟩
            · have hq2 := Lib.hid (hq.out.trans (mayL_hit hv h1 (by omega) (by omega)))
              go_wp2
              go_round
              case rel => exact ⟨k + 1, v + 1, by omega, by go_num, rfl, by omega, hq2⟩
              case measure => simp [intOf] <;> omega
      · obtain rfl : k = n := by omega
        have hq2 : Hid (mayL N l 0 = true) := Lib.hid (by rw [hq.out, List.drop_of_length_le (by omega)]; rfl)
        go_wp2
        go_ret
        exact ⟨ret_bool hq2.out.symm, rfl⟩
end Go.Proofs.YtoephlkfejcadaaGreat

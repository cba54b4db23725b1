/- Proved here, without conditions: plain facts on the contents that differ from a base, each once. -/
import Derived.WalkKit
namespace Go.Proofs.Ytoamkfegjhailaa
set_option linter.unusedVariables false

/-- A text; texts. -/
abbrev Tx := List UInt8
abbrev Txs := List Tx

def diffStep (base : Txs) (out : List Txs) (p : Txs) : List Txs := if p = base ∨ p ∈ out then out else out ++ [p]
/-- The parts that differ from the base, each once. -/
def diffs (base : Txs) (ps : List Txs) : List Txs := ps.foldl (diffStep base) []
def kindN (base : Txs) (ps : List Txs) : Nat := min (diffs base ps).length 2

section
variable {base : Txs} {ps out : List Txs}
theorem diffs_snoc (base : Txs) (ps : List Txs) (p : Txs) : diffs base (ps ++ [p]) = diffStep base (diffs base ps) p := by
  unfold diffs
  rw [List.foldl_append]
  rfl
theorem mem_fold (q : Txs) : ∀ (ps out : List Txs), q ∈ ps.foldl (diffStep base) out ↔ q ∈ out ∨ (q ∈ ps ∧ q ≠ base)
  | [], out => by simp
  | p :: ps, out => by
    rw [List.foldl_cons, mem_fold q ps]
    unfold diffStep
    split
    · rename_i h
      constructor
      · rintro (h1 | ⟨h1, h2⟩)
        · exact .inl h1
        · exact .inr ⟨List.mem_cons_of_mem _ h1, h2⟩
      · rintro (h1 | ⟨h1, h2⟩)
        · exact .inl h1
        · rcases List.mem_cons.1 h1 with rfl | h1
          · rcases h with h | h
            · exact absurd h h2
            · exact .inl h
          · exact .inr ⟨h1, h2⟩
    · rename_i h
      constructor
      · rintro (h1 | ⟨h1, h2⟩)
        · rcases List.mem_append.1 h1 with h1 | h1
          · exact .inl h1
          · rw [List.mem_singleton] at h1
            subst h1
            exact .inr ⟨List.mem_cons_self .., fun e => h (.inl e)⟩
        · exact .inr ⟨List.mem_cons_of_mem _ h1, h2⟩
      · rintro (h1 | ⟨h1, h2⟩)
        · exact .inl (List.mem_append.2 (.inl h1))
        · rcases List.mem_cons.1 h1 with rfl | h1
          · exact .inl (by simp)
          · exact .inr ⟨h1, h2⟩
theorem mem_diffs {q : Txs} : q ∈ diffs base ps ↔ q ∈ ps ∧ q ≠ base := by
  unfold diffs
  rw [mem_fold]
  simp
theorem nodup_fold : ∀ (ps out : List Txs), out.Nodup → (ps.foldl (diffStep base) out).Nodup
  | [], out, h => h
  | p :: ps, out, h => by
    rw [List.foldl_cons]
    refine nodup_fold ps _ ?_
    unfold diffStep
    split
    · exact h
    · rename_i h2
      refine List.nodup_append.2 ⟨h, by simp, fun a ha b hb => ?_⟩
      rw [List.mem_singleton] at hb
      subst hb
      rintro rfl
      exact h2 (.inr ha)
theorem nodup_diffs : (diffs base ps).Nodup := nodup_fold ps [] List.nodup_nil
theorem diffs_old {p : Txs} (h : p = base ∨ p ∈ ps) : diffs base (ps ++ [p]) = diffs base ps := by
  rw [diffs_snoc]
  unfold diffStep
  rw [if_pos]
  rcases h with h | h
  · exact .inl h
  · by_cases e : p = base
    · exact .inl e
    · exact .inr (mem_diffs.2 ⟨h, e⟩)
theorem diffs_new {p : Txs} (h : p ≠ base) (h2 : p ∉ ps) : diffs base (ps ++ [p]) = diffs base ps ++ [p] := by
  rw [diffs_snoc]
  unfold diffStep
  rw [if_neg]
  rintro (e | e)
  · exact h e
  · exact h2 (mem_diffs.1 e).1
theorem diffs_len (base : Txs) (ps : List Txs) : (diffs base ps).length ≤ ps.length := (nodup_diffs (base := base) (ps := ps)).length_le_of_subset fun q hq => (mem_diffs.1 hq).1
/-- In whatever turn. -/
theorem diffs_turn {qs : List Txs} (h : ∀ q, q ∈ ps ↔ q ∈ qs) : (diffs base ps).length = (diffs base qs).length := by
  have h1 := (nodup_diffs (base := base) (ps := ps)).length_le_of_subset (l₂ := diffs base qs) fun q hq => mem_diffs.2 ⟨(h q).1 (mem_diffs.1 hq).1, (mem_diffs.1 hq).2⟩
  have h2 := (nodup_diffs (base := base) (ps := qs)).length_le_of_subset (l₂ := diffs base ps) fun q hq => mem_diffs.2 ⟨(h q).2 (mem_diffs.1 hq).1, (mem_diffs.1 hq).2⟩
  omega
theorem turn_mem (ps : List Txs) (n : Nat) (q : Txs) : q ∈ ps.drop n ++ ps.take n ↔ q ∈ ps := by
  conv => rhs; rw [← List.take_append_drop n ps]
  simp only [List.mem_append]
  exact Or.comm
theorem diffs_more {n : Nat} {p : Txs} (h : ps[n]? = some p) : diffs base (ps ++ [p, base]) = diffs base ps := by
  rw [show ps ++ [p, base] = (ps ++ [p]) ++ [base] by simp, diffs_old (.inl rfl), diffs_old (.inr (List.mem_of_getElem? h))]
/-- Two of three are the same. -/
def pairOk (base x y : Txs) : Prop := x = base ∨ y = base ∨ x = y
theorem diffs_one : (diffs base ps).length ≤ 1 ↔ ∀ x ∈ ps, ∀ y ∈ ps, pairOk base x y := by
  constructor
  · intro h x hx y hy
    by_cases h1 : x = base
    · exact .inl h1
    · by_cases h2 : y = base
      · exact .inr (.inl h2)
      · have k1 : x ∈ diffs base ps := mem_diffs.2 ⟨hx, h1⟩
        have k2 : y ∈ diffs base ps := mem_diffs.2 ⟨hy, h2⟩
        match hd : diffs base ps, h, k1, k2 with
        | [], _, k1, _ => simp at k1
        | [d], _, k1, k2 =>
          rw [List.mem_singleton] at k1 k2
          exact .inr (.inr (k1.trans k2.symm))
        | _ :: _ :: _, h, _, _ => simp at h
  · intro h
    match hd : diffs base ps with
    | [] => simp
    | [d] => simp
    | d :: e :: l =>
      exfalso
      have hn := nodup_diffs (base := base) (ps := ps)
      rw [hd] at hn
      have h1 := mem_diffs.1 (show d ∈ diffs base ps by rw [hd]; simp)
      have h2 := mem_diffs.1 (show e ∈ diffs base ps by rw [hd]; simp)
      rcases h d h1.1 e h2.1 with k | k | k
      · exact h1.2 k
      · exact h2.2 k
      · subst k
        simp at hn
theorem diffs_zero : (diffs base ps).length = 0 ↔ ∀ x ∈ ps, x = base := by
  constructor
  · intro h x hx
    by_cases e : x = base
    · exact e
    · have := List.length_pos_of_mem (mem_diffs.2 ⟨hx, e⟩)
      omega
  · intro h
    match hd : diffs base ps with
    | [] => rfl
    | d :: l =>
      have h1 := mem_diffs.1 (show d ∈ diffs base ps by rw [hd]; simp)
      exact absurd (h d h1.1) h1.2
/-- The base, and what differs, have each part once. -/
theorem once {p : Txs} (h : p ∈ ps) : (base :: diffs base ps).count p = 1 := by
  have hn : (base :: diffs base ps).Nodup := List.nodup_cons.2 ⟨fun hm => (mem_diffs.1 hm).2 rfl, nodup_diffs⟩
  rw [hn.count, if_pos]
  by_cases e : p = base
  · rw [e]; exact List.mem_cons_self ..
  · exact List.mem_cons_of_mem _ (mem_diffs.2 ⟨h, e⟩)
theorem pairs_at : (∀ (i k : Nat) (x y : Txs), k < i → ps[i]? = some x → ps[k]? = some y → pairOk base x y) ↔ ∀ x ∈ ps, ∀ y ∈ ps, pairOk base x y := by
  constructor
  · intro h x hx y hy
    obtain ⟨i, hi⟩ := List.mem_iff_getElem?.1 hx
    obtain ⟨k, hk⟩ := List.mem_iff_getElem?.1 hy
    rcases Nat.lt_trichotomy k i with hlt | rfl | hlt
    · exact h i k x y hlt hi hk
    · rw [hi] at hk
      injection hk with hk
      exact .inr (.inr hk)
    · rcases h k i y x hlt hk hi with e | e | e
      · exact .inr (.inl e)
      · exact .inl e
      · exact .inr (.inr e.symm)
  · intro h i k x y _ hi hk
    exact h x (List.mem_of_getElem? hi) y (List.mem_of_getElem? hk)
end
end Go.Proofs.Ytoamkfegjhailaa

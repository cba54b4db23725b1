/- Proved here, without conditions: plain facts on texts that are put behind others, as the landed union does it. -/
import Derived.Test.YtfennjefkfblgaaPickPure
namespace Go.Proofs.Ytfennjefkfblgaa
set_option linter.unusedVariables false

theorem closed_append (a : Txs) {b : Txs} (h : b ≠ []) : closed (a ++ b) = a ++ closed b := by
  unfold closed
  rw [List.getLast?_append]
  cases hb : b.getLast? with
  | none => exact absurd (List.getLast?_eq_none_iff.1 hb) h
  | some s =>
    simp only [Option.some_or]
    split
    · rfl
    · rw [List.dropLast_append_of_ne_nil h, List.append_assoc]
theorem closed_nil : closed [] = [] := rfl
theorem union_any_iff (ds : List Txs) : ds.any (fun x => !x.isEmpty) = true ↔ unionT ds ≠ [] := by
  rw [← List.length_pos_iff, union_len, List.length_pos_iff, List.any_eq_true]
  constructor
  · rintro ⟨x, hx, h⟩ e
    rw [List.flatten_eq_nil_iff] at e
    rw [e x hx] at h
    simp at h
  · intro h
    apply Classical.byContradiction
    intro hn
    apply h
    rw [List.flatten_eq_nil_iff]
    intro x hx
    apply Classical.byContradiction
    intro hx2
    exact hn ⟨x, hx, by cases x <;> simp_all⟩
theorem union_snoc (d : Txs) : ∀ ds : List Txs, unionT (ds ++ [d]) = (if d = [] then unionT ds else closed (unionT ds)) ++ d
  | [] => by
    simp only [List.nil_append, unionT, List.any_nil, Bool.false_eq_true, if_false, List.append_nil, closed_nil]
    split <;> rfl
  | e :: es => by
    have ih := union_snoc d es
    have hu := union_any_iff es
    rw [List.cons_append, unionT, ih, List.any_append, unionT]
    by_cases hd : d = []
    · subst hd
      simp
    · have h1 : ([d].any fun x => !x.isEmpty) = true := by simp [hd]
      rw [h1, Bool.or_true, if_pos rfl, if_neg hd, if_neg hd, ← List.append_assoc]
      congr 1
      by_cases he : (es.any fun x => !x.isEmpty) = true
      · rw [if_pos he, closed_append _ (hu.1 he)]
      · have h2 : unionT es = [] := by
          apply Classical.byContradiction
          intro h
          exact he (hu.2 h)
        rw [if_neg he, h2, closed_nil, List.append_nil, List.append_nil]
theorem union_take {ds : List Txs} {i : Nat} {d : Txs} (h : ds[i]? = some d) : unionT (ds.take (i + 1)) = (if d = [] then unionT (ds.take i) else closed (unionT (ds.take i))) ++ d := by
  rw [take_at h, union_snoc]
theorem closed_mem {d : Txs} {s : Tx} (h : s ∈ closed d) : ∃ t ∈ d, s = t ∨ s = t ++ [10] := by
  unfold closed at h
  cases hd : d.getLast? with
  | none => rw [hd] at h; exact ⟨s, h, .inl rfl⟩
  | some t =>
    rw [hd] at h
    dsimp only at h
    split at h
    · exact ⟨s, h, .inl rfl⟩
    · rcases List.mem_append.1 h with h | h
      · exact ⟨s, List.dropLast_subset d h, .inl rfl⟩
      · rw [List.mem_singleton.1 h]
        exact ⟨t, List.mem_of_getLast? hd, .inr rfl⟩
theorem union_mem {s : Tx} : ∀ {ds : List Txs}, s ∈ unionT ds → ∃ d ∈ ds, ∃ t ∈ d, s = t ∨ s = t ++ [10]
  | [], h => by simp [unionT] at h
  | d :: ds, h => by
    unfold unionT at h
    rcases List.mem_append.1 h with h | h
    · split at h
      · exact ⟨d, List.mem_cons_self .., closed_mem h⟩
      · exact ⟨d, List.mem_cons_self .., s, h, .inl rfl⟩
    · obtain ⟨e, he, r⟩ := union_mem h
      exact ⟨e, List.mem_cons_of_mem _ he, r⟩
theorem union_small {ds : List Txs} (h : ∀ d ∈ ds, ∀ s ∈ d, s.length ≤ 1000000) (i : Nat) : ∀ s ∈ unionT (ds.take i), s.length ≤ 1000001 := by
  intro s hs
  obtain ⟨d, hd, t, ht, e⟩ := union_mem hs
  have := h d (List.mem_of_mem_take hd) t ht
  rcases e with rfl | rfl
  · omega
  · simp; omega
theorem union_pre (ds : List Txs) (i : Nat) : (unionT (ds.take i)).length ≤ (unionT ds).length := by
  rw [union_len, union_len]
  conv => rhs; rw [← List.take_append_drop i ds]
  rw [List.flatten_append, List.length_append]
  omega
/-- An open list, closed: its last text's place. -/
theorem closed_set {d : Txs} {s : Tx} {m : Nat} (hm : d.length = m + 1) (hs : d[m]? = some s) : closed d = if endedB s then d else d.set m (s ++ [10]) := by
  have hl : d.getLast? = some s := by rw [List.getLast?_eq_getElem?, hm]; exact hs
  unfold closed
  rw [hl]
  dsimp only
  split
  · rfl
  · apply List.ext_getElem?
    intro j
    have hdl : d.dropLast.length = m := by simp [hm]
    rcases Nat.lt_trichotomy j m with h | h | h
    · rw [List.getElem?_append_left (by omega), List.getElem?_dropLast, if_pos (by omega), List.getElem?_set_ne (by omega)]
    · subst h
      rw [List.getElem?_append_right (by omega), hdl, Nat.sub_self, List.getElem?_set_self (by omega)]
      rfl
    · rw [List.getElem?_eq_none (by simp; omega), List.getElem?_eq_none (by simp; omega)]
theorem open_last {d : Txs} {s : Tx} {m : Nat} (hm : d.length = m + 1) (hs : d[m]? = some s) : openB d = !endedB s := by
  have hl : d.getLast? = some s := by rw [List.getLast?_eq_getElem?, hm]; exact hs
  unfold openB
  rw [hl]
end Go.Proofs.Ytfennjefkfblgaa

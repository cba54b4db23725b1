/- Proved here, without conditions: plain facts on pieces that are put behind others, as the landed Normal does it. -/
import Derived.Test.YtfennjefkfblgaaPickPure
namespace Go.Proofs.Ytfennjefkfblgaa
set_option linter.unusedVariables false

/-- One more piece behind pieces that are put together. -/
def pushT (l : List Pc) (t : Txs) : List Pc := match l.getLast? with
  | some (false, x, b, s) => l.dropLast ++ [(false, x ++ t, b, s)]
  | _ => l ++ [tPc t]
def pushP (l : List Pc) (p : Pc) : List Pc := if p.1 = true then l ++ [cPc p.2.2.1 p.2.2.2] else if p.2.1 = [] then l else pushT l p.2.1
theorem pushT_cons (x : Pc) {l : List Pc} (t : Txs) (h : l ≠ [] ∨ x.1 = true) : pushT (x :: l) t = x :: pushT l t := by
  unfold pushT
  cases l with
  | nil =>
    obtain ⟨c, a, b, s⟩ := x
    rcases h with h | h
    · exact absurd rfl h
    · simp at h
      subst h
      rfl
  | cons y l =>
    rw [List.getLast?_cons_cons]
    cases hl : (y :: l).getLast? with
    | none => simp at hl
    | some q =>
      obtain ⟨c, a, b, s⟩ := q
      cases c
      · simp
      · simp
theorem push_cons (x : Pc) {l : List Pc} (p : Pc) (h : l ≠ [] ∨ x.1 = true) : pushP (x :: l) p = x :: pushP l p := by
  unfold pushP
  split
  · rfl
  · split
    · rfl
    · exact pushT_cons x _ h
theorem join_push (t : Txs) (p : Pc) : ∀ l : List Pc, joinT t (pushP l p) = pushP (joinT t l) p
  | [] => by
    obtain ⟨c, x, b, s⟩ := p
    cases c
    · by_cases hx : x = []
      · subst hx
        simp [pushP]
      · by_cases ht : t = [] <;> simp [pushP, pushT, joinT, hx, ht, tPc]
    · by_cases ht : t = [] <;> simp [pushP, joinT, ht, cPc, tPc]
  | (true, x, b, s) :: r => by
    rw [push_cons _ _ (.inr rfl)]
    show (if t = [] then (true, x, b, s) :: pushP r p else tPc t :: (true, x, b, s) :: pushP r p) = pushP (if t = [] then (true, x, b, s) :: r else tPc t :: (true, x, b, s) :: r) p
    by_cases ht : t = []
    · rw [if_pos ht, if_pos ht, push_cons _ _ (.inr rfl)]
    · rw [if_neg ht, if_neg ht, push_cons _ _ (.inl (by simp)), push_cons _ _ (.inr rfl)]
  | [(false, x, b, s)] => by
    obtain ⟨c, y, b', s'⟩ := p
    cases c
    · by_cases hy : y = []
      · subst hy
        simp [pushP]
      · simp [pushP, pushT, joinT, hy]
    · simp [pushP, joinT]
  | (false, x, b, s) :: y :: r => by
    rw [push_cons (false, x, b, s) (l := y :: r) p (.inl (by simp))]
    show (false, t ++ x, b, s) :: pushP (y :: r) p = pushP ((false, t ++ x, b, s) :: y :: r) p
    rw [push_cons (false, t ++ x, b, s) (l := y :: r) p (.inl (by simp))]
theorem normal_snoc (p : Pc) : ∀ l : List Pc, normal (l ++ [p]) = pushP (normal l) p
  | [] => by
    obtain ⟨c, x, b, s⟩ := p
    cases c
    · by_cases hx : x = [] <;> simp [normal, pushP, pushT, joinT, hx, tPc]
    · simp [normal, pushP, cPc]
  | (true, x, b, s) :: l => by
    rw [List.cons_append, normal, normal_snoc p l, normal, push_cons _ _ (.inr rfl)]
  | (false, x, b, s) :: l => by
    rw [List.cons_append, normal, normal_snoc p l, normal, join_push]
theorem normal_take {ps : List Pc} {i : Nat} {p : Pc} (h : ps[i]? = some p) : normal (ps.take (i + 1)) = pushP (normal (ps.take i)) p := by
  rw [take_at h, normal_snoc]
theorem push_conf (l : List Pc) (t b : Txs) (s : List Txs) : pushP l (true, t, b, s) = l ++ [cPc b s] := rfl
theorem push_empty (l : List Pc) (b : Txs) (s : List Txs) : pushP l (false, [], b, s) = l := rfl
theorem push_text (l : List Pc) {t : Txs} (b : Txs) (s : List Txs) (h : t ≠ []) : pushP l (false, t, b, s) = pushT l t := by simp [pushP, h]
theorem pushT_new {l : List Pc} (t : Txs) (h : ∀ q, l.getLast? = some q → q.1 = true) : pushT l t = l ++ [tPc t] := by
  unfold pushT
  cases hl : l.getLast? with
  | none => rfl
  | some q =>
    obtain ⟨c, x, b, s⟩ := q
    have := h _ hl
    simp at this
    subst this
    rfl
theorem pushT_old (l : List Pc) (x t b : Txs) (s : List Txs) : pushT (l ++ [(false, x, b, s)]) t = l ++ [(false, x ++ t, b, s)] := by
  unfold pushT
  simp
end Go.Proofs.Ytfennjefkfblgaa

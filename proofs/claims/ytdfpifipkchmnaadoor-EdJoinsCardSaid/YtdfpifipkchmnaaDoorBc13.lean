/- Proved here: texts joined: DotPure. -/
import Derived.Test.YtdfpifipkchmnaaDoorBc04
/- Proved here, without conditions: plain facts on texts as they are handed to the editor (layer 15): there and back; which text is the point alone; two texts as both. -/
namespace Go.Proofs.YtdfpifipkchmnaaDoor
set_option linter.unusedVariables false

/-- Does a text begin with a point? -/
def pointB (s : Tx) : Bool := s.head? == some 46
def dotT (s : Tx) : Tx := if pointB s = true then 46 :: s else s
def bareT (s : Tx) : Tx := if pointB s = true then s.tail else s
def dottedB (l : Txs) : Bool := l.any pointB
def endD : Tx := [46, 10]
def blockD (l : Txs) : Txs := l.map dotT ++ [endD]
def stripD (l : Txs) : Txs := l.map bareT
/-- Where the first text stands that is the point alone. -/
def unblockD : Txs → Nat → Txs → Txs × Nat
  | _, _, [] => ([], 0)
  | acc, i, t :: l => if t = endD then (acc, i + 1) else unblockD (acc ++ [t]) (i + 1) l

section
variable {l a b more : Txs} {s : Tx}
theorem dot_no_end (s : Tx) : dotT s ≠ endD := by
  unfold dotT endD
  split
  · rename_i h
    intro e
    injection e with _ e
    subst e
    simp [pointB] at h
  · rename_i h
    intro e
    subst e
    simp [pointB] at h
theorem point_dot (h : pointB s = true) : pointB (dotT s) = true ∧ bareT (dotT s) = s := by
  unfold dotT
  rw [if_pos h]
  have hp : pointB (46 :: s) = true := by simp [pointB]
  refine ⟨hp, ?_⟩
  unfold bareT
  rw [if_pos hp]
  rfl
theorem plain_dot (h : pointB s = false) : dotT s = s ∧ bareT s = s := by
  unfold dotT bareT
  rw [if_neg (by rw [h]; simp), if_neg (by rw [h]; simp)]
  exact ⟨rfl, rfl⟩
theorem dot_point (s : Tx) : pointB (dotT s) = pointB s := by
  cases h : pointB s with
  | true => exact (point_dot h).1
  | false => rw [(plain_dot h).1, h]
theorem bare_dot (s : Tx) : bareT (dotT s) = s := by
  cases h : pointB s with
  | true => exact (point_dot h).2
  | false => rw [(plain_dot h).1, (plain_dot h).2]
theorem unblock_app : ∀ {l acc : Txs} {i : Nat}, (∀ t ∈ l, t ≠ endD) → unblockD acc i (l ++ endD :: more) = (acc ++ l, i + l.length + 1)
  | [], acc, i, _ => by
    rw [List.nil_append, unblockD, if_pos rfl]
    simp
  | t :: l, acc, i, h => by
    rw [List.cons_append, unblockD, if_neg (h t (List.mem_cons_self ..)), unblock_app fun u hu => h u (List.mem_cons_of_mem _ hu)]
    simp
    omega
/-- THERE AND BACK, whatever stands behind. -/
theorem block_back : unblockD [] 0 (blockD l ++ more) = (l.map dotT, l.length + 1) := by
  unfold blockD
  rw [List.append_assoc, List.singleton_append, unblock_app (fun t ht => by
    obtain ⟨s, _, rfl⟩ := List.mem_map.1 ht
    exact dot_no_end s)]
  simp
theorem dots_none (h : dottedB l = false) : l.map dotT = l ∧ dottedB (l.map dotT) = false := by
  have hp : ∀ s ∈ l, pointB s = false := fun s hs => by
    have := List.any_eq_false.1 h s hs
    simpa using this
  have e : l.map dotT = l := by
    conv => rhs; rw [← List.map_id l]
    exact List.map_congr_left fun s hs => (plain_dot (hp s hs)).1
  exact ⟨e, by rw [e, h]⟩
theorem dots_some : dottedB (l.map dotT) = dottedB l := by
  unfold dottedB
  rw [List.any_map]
  congr 1
  funext s
  exact dot_point s
theorem strip_dots : stripD (l.map dotT) = l := by
  unfold stripD
  rw [List.map_map]
  conv => rhs; rw [← List.map_id l]
  exact List.map_congr_left fun s _ => bare_dot s
/-- JUST THE LAST ONE IS THE POINT ALONE. -/
theorem block_len : (blockD l).length = l.length + 1 := by simp [blockD]
theorem block_end {i : Nat} {t : Tx} (h : (blockD l)[i]? = some t) : t = endD ↔ i = l.length := by
  unfold blockD at h
  rcases Nat.lt_or_ge i l.length with hi | hi
  · rw [List.getElem?_append_left (by simpa using hi), List.getElem?_map] at h
    cases hs : l[i]? with
    | none => rw [hs] at h; cases h
    | some s =>
      rw [hs] at h
      injection h with h
      subst h
      exact ⟨fun e => absurd e (dot_no_end s), fun e => by omega⟩
  · rw [List.getElem?_append_right (by simpa using hi), List.length_map] at h
    match hk : i - l.length with
    | 0 =>
      rw [hk] at h
      simp at h
      exact ⟨fun _ => by omega, fun _ => h.symm⟩
    | k + 1 => rw [hk] at h; simp at h
/-- TWO TEXTS AS BOTH. -/
theorem block_join : blockD (a ++ b) = (blockD a).take ((blockD a).length - 1) ++ blockD b ∧ dottedB (a ++ b) = (dottedB a || dottedB b) := by
  constructor
  · rw [block_len, Nat.add_sub_cancel]
    unfold blockD
    rw [List.take_left' (by simp), List.map_append, List.append_assoc]
  · simp [dottedB]
end
end Go.Proofs.YtdfpifipkchmnaaDoor

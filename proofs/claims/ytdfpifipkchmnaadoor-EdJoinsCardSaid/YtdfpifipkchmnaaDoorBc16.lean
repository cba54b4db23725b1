/- Proved here: texts joined: ScrPure. -/
import Derived.Test.YtdfpifipkchmnaaDoorBc12
import Derived.Test.YtdfpifipkchmnaaDoorBc13
import Derived.Test.YtdfpifipkchmnaaDoorBc15
/- Proved here, without conditions: plain facts on the editor's commands (layer 16): how many lines; each line ended; nothing to do where nothing is to be taken. -/
namespace Go.Proofs.YtdfpifipkchmnaaDoor
set_option linter.unusedVariables false

/-- A number in figures. -/
def figD (n : Nat) : Tx := if n < 10 then [UInt8.ofNat (48 + n)] else figD (n / 10) ++ [UInt8.ofNat (48 + n % 10)]
  termination_by n
def linesD (m n : Nat) : Tx := if m = n then figD m else figD m ++ 44 :: figD n
def subT : Tx := [115, 47, 94, 92, 46, 47, 47, 10]
def overD (text : Txs) (line : Nat) : Txs := blockD text ++ if dottedB text = true then [linesD line (line + text.length - 1) ++ subT] else []
/-- In place of the lines from f + 1 to t. -/
def takeD (f t : Nat) (yours : Txs) : Txs :=
  if yours = [] then [linesD (f + 1) t ++ [100, 10]]
  else if t ≤ f then (figD t ++ [97, 10]) :: overD yours (t + 1)
  else (linesD (f + 1) t ++ [99, 10]) :: overD yours (f + 1)
def laidT (show_ : Bool) (older yours : Txs) : Txs :=
  (if show_ = true then [124, 124, 124, 124, 124, 124, 124, 32, 79, 76, 68, 69, 82, 10] :: older else []) ++ ([61, 61, 61, 61, 61, 61, 61, 10] :: (yours ++ [[62, 62, 62, 62, 62, 62, 62, 32, 89, 79, 85, 82, 83, 10]]))
def bracketD (f t : Nat) (show_ : Bool) (older yours : Txs) : Txs :=
  (figD t ++ [97, 10]) :: (overD (laidT show_ older yours) (t + 1) ++ [figD f ++ [97, 10], [60, 60, 60, 60, 60, 60, 60, 32, 77, 73, 78, 69, 10], endD])
/-- A chunk as the commands ask it: stable?, mine's lines, the texts. -/
structure ChD where
  st : Bool
  f : Nat
  t : Nat
  mine : Txs
  older : Txs
  yours : Txs
def cmdsD (c : UInt8) (x : ChD) : Txs :=
  if x.st = true then [] else match doesF c (kindF x.mine x.older x.yours) with
  | 0 => []
  | 1 => takeD x.f x.t x.yours
  | 2 => bracketD x.f x.t false x.older x.yours
  | _ => bracketD x.f x.t true x.older x.yours
def scriptD (c : UInt8) (cs : List ChD) (fin : Bool) : Txs := cs.reverse.flatMap (cmdsD c) ++ if fin = true then [[119, 10], [113, 10]] else []

section
variable {c : UInt8} {cs : List ChD} {x : ChD} {l text older yours : Txs} {n m f t : Nat} {b : Bool}
/-- BY PARTS. -/
theorem cmds_parts (x : ChD) : (cmdsD 101 x).length = (cmdsD 120 x).length + (cmdsD 51 x).length := by
  have hk := kind_le (mine := x.mine) (older := x.older) (yours := x.yours)
  unfold cmdsD
  cases x.st with
  | true => rfl
  | false =>
    generalize kindF x.mine x.older x.yours = k at *
    match k, hk with
    | 0, _ => rfl
    | 1, _ => rfl
    | 2, _ => show (takeD x.f x.t x.yours).length = 0 + (takeD x.f x.t x.yours).length; omega
    | 3, _ => rfl
    | 4, _ => rfl
theorem flat_parts : ∀ cs : List ChD, (cs.flatMap (cmdsD 101)).length = (cs.flatMap (cmdsD 120)).length + (cs.flatMap (cmdsD 51)).length
  | [] => rfl
  | x :: cs => by
    have h1 := flat_parts cs
    have h2 := cmds_parts x
    simp only [List.flatMap_cons, List.length_append]
    omega
theorem script_parts : (scriptD 101 cs false).length = (scriptD 120 cs false).length + (scriptD 51 cs false).length := by
  have := flat_parts cs.reverse
  simpa [scriptD] using this
/-- NOTHING. -/
theorem script_none (h : ∀ x ∈ cs, x.st = false → kindF x.mine x.older x.yours ≠ 2 ∧ kindF x.mine x.older x.yours ≠ 4) : cs.reverse.flatMap (cmdsD c) = [] := by
  rw [List.flatMap_eq_nil_iff]
  intro x hx
  rw [List.mem_reverse] at hx
  unfold cmdsD
  cases hs : x.st with
  | true => rfl
  | false =>
    obtain ⟨h2, h4⟩ := h x hx hs
    have hd : doesF c (kindF x.mine x.older x.yours) = 0 := by
      unfold doesF
      split
      · rfl
      · rw [if_neg (by omega), if_pos (by omega)]
    rw [hd, if_neg (by simp)]
    rfl
theorem script_end : scriptD c cs true = scriptD c cs false ++ [[119, 10], [113, 10]] := by simp [scriptD]
/-- EACH LINE IS ENDED. -/
theorem fig_no : ∀ n : Nat, (10 : UInt8) ∉ figD n := by
  intro n
  induction n using Nat.strongRecOn with
  | _ n ih =>
    have hd : ∀ k : Nat, k < 10 → (10 : UInt8) ≠ UInt8.ofNat (48 + k) := fun k hk => by
      have : ∀ k : Fin 10, (10 : UInt8) ≠ UInt8.ofNat (48 + k.val) := by decide
      exact this ⟨k, hk⟩
    rw [figD]
    split
    · rename_i h
      intro hx
      exact hd n h (List.mem_singleton.1 hx)
    · rename_i h
      intro hx
      rcases List.mem_append.1 hx with hx | hx
      · exact ih (n / 10) (by omega) hx
      · exact hd (n % 10) (by omega) (List.mem_singleton.1 hx)
theorem lines_no : (10 : UInt8) ∉ linesD m n := by
  unfold linesD
  split
  · exact fig_no m
  · intro hx
    rcases List.mem_append.1 hx with hx | hx
    · exact fig_no m hx
    · rcases List.mem_cons.1 hx with hx | hx
      · exact absurd hx (by decide)
      · exact fig_no n hx
theorem ln_of {w : Tx} (h : (10 : UInt8) ∉ w) : lnB (w ++ [10]) = true := lnB_iff.2 (line_may h)
theorem ln_cmd {w v : Tx} (h : (10 : UInt8) ∉ w) (hv : (10 : UInt8) ∉ v) : lnB (w ++ (v ++ [10])) = true := by
  rw [← List.append_assoc]
  exact ln_of (fun hx => by
    rcases List.mem_append.1 hx with hx | hx
    · exact h hx
    · exact hv hx)
theorem ln_dot {s : Tx} (h : lnB s = true) : lnB (dotT s) = true := by
  unfold dotT
  split
  · obtain ⟨w, rfl, hw⟩ := line_of h
    exact ln_of (w := 46 :: w) (fun hx => by
      rcases List.mem_cons.1 hx with hx | hx
      · exact absurd hx (by decide)
      · exact hw hx)
  · exact h
theorem over_lines (h : ∀ s ∈ text, lnB s = true) : ∀ s ∈ overD text n, lnB s = true := by
  intro s hs
  unfold overD blockD at hs
  rcases List.mem_append.1 hs with hs | hs
  · rcases List.mem_append.1 hs with hs | hs
    · obtain ⟨s', hs', rfl⟩ := List.mem_map.1 hs
      exact ln_dot (h s' hs')
    · rw [List.mem_singleton.1 hs]
      exact ln_of (w := [46]) (by decide)
  · split at hs
    · rw [List.mem_singleton.1 hs]
      exact ln_cmd (v := [115, 47, 94, 92, 46, 47, 47]) lines_no (by decide)
    · cases hs
theorem take_lines (h : ∀ s ∈ yours, lnB s = true) : ∀ s ∈ takeD f t yours, lnB s = true := by
  intro s hs
  unfold takeD at hs
  split at hs
  · rw [List.mem_singleton.1 hs]
    exact ln_cmd (v := [100]) lines_no (by decide)
  · split at hs
    · rcases List.mem_cons.1 hs with rfl | hs
      · exact ln_cmd (v := [97]) (fig_no _) (by decide)
      · exact over_lines h s hs
    · rcases List.mem_cons.1 hs with rfl | hs
      · exact ln_cmd (v := [99]) lines_no (by decide)
      · exact over_lines h s hs
theorem laid_lines (ho : ∀ s ∈ older, lnB s = true) (hy : ∀ s ∈ yours, lnB s = true) : ∀ s ∈ laidT b older yours, lnB s = true := by
  intro s hs
  unfold laidT at hs
  rcases List.mem_append.1 hs with hs | hs
  · split at hs
    · rcases List.mem_cons.1 hs with rfl | hs
      · exact ln_of (w := [124, 124, 124, 124, 124, 124, 124, 32, 79, 76, 68, 69, 82]) (by decide)
      · exact ho s hs
    · cases hs
  · rcases List.mem_cons.1 hs with rfl | hs
    · exact ln_of (w := [61, 61, 61, 61, 61, 61, 61]) (by decide)
    · rcases List.mem_append.1 hs with hs | hs
      · exact hy s hs
      · rw [List.mem_singleton.1 hs]
        exact ln_of (w := [62, 62, 62, 62, 62, 62, 62, 32, 89, 79, 85, 82, 83]) (by decide)
theorem bracket_lines (ho : ∀ s ∈ older, lnB s = true) (hy : ∀ s ∈ yours, lnB s = true) : ∀ s ∈ bracketD f t b older yours, lnB s = true := by
  intro s hs
  unfold bracketD at hs
  rcases List.mem_cons.1 hs with rfl | hs
  · exact ln_cmd (v := [97]) (fig_no _) (by decide)
  · rcases List.mem_append.1 hs with hs | hs
    · exact over_lines (laid_lines ho hy) s hs
    · simp only [List.mem_cons, List.not_mem_nil, or_false] at hs
      rcases hs with rfl | rfl | rfl
      · exact ln_cmd (v := [97]) (fig_no _) (by decide)
      · exact ln_of (w := [60, 60, 60, 60, 60, 60, 60, 32, 77, 73, 78, 69]) (by decide)
      · exact ln_of (w := [46]) (by decide)
theorem script_lines (h : ∀ x ∈ cs, (∀ s ∈ x.older, lnB s = true) ∧ ∀ s ∈ x.yours, lnB s = true) : mayB (scriptD c cs b) = true ∧ openB (scriptD c cs b) = false := by
  refine lines_iff.2 fun s hs => ?_
  unfold scriptD at hs
  rcases List.mem_append.1 hs with hs | hs
  · obtain ⟨x, hx, hs⟩ := List.mem_flatMap.1 hs
    rw [List.mem_reverse] at hx
    obtain ⟨ho, hy⟩ := h x hx
    unfold cmdsD at hs
    split at hs
    · cases hs
    · split at hs
      · cases hs
      · exact take_lines hy s hs
      · exact bracket_lines ho hy s hs
      · exact bracket_lines ho hy s hs
  · split at hs
    · simp only [List.mem_cons, List.not_mem_nil, or_false] at hs
      rcases hs with rfl | rfl
      · exact ln_of (w := [119]) (by decide)
      · exact ln_of (w := [113]) (by decide)
    · cases hs
end
end Go.Proofs.YtdfpifipkchmnaaDoor

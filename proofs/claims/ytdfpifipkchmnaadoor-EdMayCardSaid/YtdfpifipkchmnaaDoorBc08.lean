/- Proved here: texts joined: AlignPk, MergePure. -/
import Derived.Test.YtdfpifipkchmnaaDoorBc05
import Derived.Test.YtdfpifipkchmnaaDoorBc07
/- Proved here, without conditions: chunks of sides that were picked, in whatever turn, each once at least: they are those of all sides, with the same sides picked in each. -/
namespace Go.Proofs.YtdfpifipkchmnaaDoor
set_option linter.unusedVariables false

/-- The chunks of matches. -/
def IsCut (m : Int) (sizes : List Int) (ms : List (List Int)) (cs : List Ck) : Prop := Cov m sizes cs none 0 (List.replicate sizes.length 0) ∧ ∀ c ∈ cs, Places ms c
/-- A match of m places to z: numbers that aren't -1 rise, from 0 on, below z. -/
def IsMatch (m : Nat) (l : List Int) (z : Int) : Prop := l.length = m ∧ (∀ u ∈ l, u ≠ -1 → 0 ≤ u ∧ u < z) ∧ l.Pairwise (fun u v => u ≠ -1 → v ≠ -1 → u < v)
/-- Those at the places of p. -/
def sel {α : Type} (d : α) (p : List Nat) (l : List α) : List α := p.map fun i => (l[i]?).getD d
theorem sel_len {α : Type} (d : α) (p : List Nat) (l : List α) : (sel d p l).length = p.length := by simp [sel]
theorem sel_map {α β : Type} (f : α → β) (d : α) (p : List Nat) (l : List α) : (sel d p l).map f = sel (f d) p (l.map f) := by
  unfold sel
  rw [List.map_map]
  apply List.map_congr_left
  intro i _
  simp only [Function.comp, List.getElem?_map]
  cases l[i]? <;> rfl
theorem sel_at {α : Type} {d : α} {p : List Nat} {l : List α} (hp : ∀ i ∈ p, i < l.length) {j : Nat} {x : α} (h : (sel d p l)[j]? = some x) : ∃ i, p[j]? = some i ∧ l[i]? = some x := by
  unfold sel at h
  rw [List.getElem?_map] at h
  cases hj : p[j]? with
  | none => rw [hj] at h; cases h
  | some i =>
    rw [hj] at h
    have hi := hp i (List.mem_of_getElem? hj)
    refine ⟨i, rfl, ?_⟩
    simp only [Option.map_some] at h
    rw [List.getElem?_eq_getElem hi] at h ⊢
    simpa using h
theorem sel_mem {α : Type} {d : α} {p : List Nat} {l : List α} (hp : ∀ i ∈ p, i < l.length) {x : α} (h : x ∈ sel d p l) : x ∈ l := by
  obtain ⟨j, hj⟩ := List.mem_iff_getElem?.1 h
  obtain ⟨i, _, h2⟩ := sel_at hp hj
  exact List.mem_of_getElem? h2
theorem mem_sel {α : Type} {d : α} {p : List Nat} {l : List α} (ha : ∀ i, i < l.length → i ∈ p) {x : α} (h : x ∈ l) : x ∈ sel d p l := by
  obtain ⟨i, hi⟩ := List.mem_iff_getElem?.1 h
  have hlt := (List.getElem?_eq_some_iff.1 hi).1
  unfold sel
  exact List.mem_map.2 ⟨i, ha i hlt, by rw [hi]; rfl⟩

/-- A chunk of which some sides were picked. -/
def selC (p : List Nat) (c : Ck) : Ck := (c.1, c.2.1, sel (0, 0) p c.2.2)
theorem ends_sel (p : List Nat) (c : Ck) : ends (selC p c) = sel 0 p (ends c) := by
  unfold ends selC
  rw [sel_map]

section
variable {p : List Nat} {k : Nat}
theorem empty_sel (hp : ∀ i ∈ p, i < k) (ha : ∀ i, i < k → i ∈ p) {c : Ck} (hl : c.2.2.length = k) : emptyB (selC p c) = emptyB c := by
  unfold emptyB selC
  congr 2
  rw [Bool.eq_iff_iff, List.any_eq_true, List.any_eq_true]
  constructor
  · rintro ⟨s, h1, h2⟩
    exact ⟨s, sel_mem (by rw [hl]; exact hp) h1, h2⟩
  · rintro ⟨s, h1, h2⟩
    exact ⟨s, mem_sel (by rw [hl]; exact ha) h1, h2⟩
theorem head_sel (hp : ∀ i ∈ p, i < k) (ha : ∀ i, i < k → i ∈ p) {c : Ck} {prev : Option Bool} {b : Int} {a : List Int} (hk : a.length = k) (h : Head c prev b a) : Head (selC p c) prev b (sel 0 p a) where
  base := h.base
  le := h.le
  len := by unfold selC; rw [sel_len, sel_len]
  alt := h.alt
  full := by rw [empty_sel hp ha (h.len.trans hk)]; exact h.full
  side := fun s sp v h1 h2 => by
    obtain ⟨i, e1, e2⟩ := sel_at (by rw [h.len, hk]; exact hp) h1
    obtain ⟨j, e3, e4⟩ := sel_at (by rw [hk]; exact hp) h2
    rw [e1] at e3
    injection e3 with e3
    subst e3
    exact h.side i sp v e2 e4
theorem cov_sel (hp : ∀ i ∈ p, i < k) (ha : ∀ i, i < k → i ∈ p) {m : Int} {sizes : List Int} : ∀ {cs : List Ck} {prev : Option Bool} {b : Int} {a : List Int}, a.length = k → Cov m sizes cs prev b a → Cov m (sel 0 p sizes) (cs.map (selC p)) prev b (sel 0 p a)
  | [], _, _, _, _, h => by
    obtain ⟨rfl, rfl⟩ := h
    exact ⟨rfl, rfl⟩
  | c :: cs, prev, b, a, hk, h => by
    refine ⟨head_sel hp ha hk h.1, ?_⟩
    have h2 := cov_sel hp ha (by rw [ends_len, h.1.len, hk]) h.2
    rw [← ends_sel] at h2
    exact h2
theorem allP_sel (hp : ∀ i ∈ p, i < k) (ha : ∀ i, i < k → i ∈ p) {ms : List (List Int)} (hk : ms.length = k) (t : Int) : allP (sel [] p ms) t = allP ms t := by
  unfold allP
  rw [Bool.eq_iff_iff, List.all_eq_true, List.all_eq_true]
  exact ⟨fun h x hx => h x (mem_sel (by rw [hk]; exact ha) hx), fun h x hx => h x (sel_mem (by rw [hk]; exact hp) hx)⟩
theorem places_sel (hp : ∀ i ∈ p, i < k) (ha : ∀ i, i < k → i ∈ p) {ms : List (List Int)} (hk : ms.length = k) {c : Ck} (hl : c.2.2.length = k) (h : Places ms c) : Places (sel [] p ms) (selC p c) := by
  intro t h1 h2
  obtain ⟨q1, q2⟩ := h t h1 h2
  refine ⟨by rw [allP_sel hp ha hk]; exact q1, fun hc s l sp e1 e2 => ?_⟩
  obtain ⟨i, d1, d2⟩ := sel_at (by rw [hk]; exact hp) e1
  obtain ⟨j, d3, d4⟩ := sel_at (l := c.2.2) (by rw [hl]; exact hp) e2
  rw [d1] at d3
  injection d3 with d3
  subst d3
  exact q2 hc i l sp d2 d4
theorem cov_lens {m : Int} {sizes : List Int} : ∀ {cs : List Ck} {prev : Option Bool} {b : Int} {a : List Int}, a.length = k → Cov m sizes cs prev b a → ∀ c ∈ cs, c.2.2.length = k
  | [], _, _, _, _, _, c, hc => by cases hc
  | d :: cs, prev, b, a, hk, h, c, hc => by
    have h1 : d.2.2.length = k := h.1.len.trans hk
    rcases List.mem_cons.1 hc with rfl | hc
    · exact h1
    · exact cov_lens (by rw [ends_len]; exact h1) h.2 c hc
/-- The chunks of sides that were picked. -/
theorem cut_sel (hp : ∀ i ∈ p, i < k) (ha : ∀ i, i < k → i ∈ p) {m : Int} {sizes : List Int} {ms : List (List Int)} {cs ds : List Ck} (hs : sizes.length = k) (hm : ms.length = k) (h : IsCut m sizes ms cs) (h' : IsCut m (sel 0 p sizes) (sel [] p ms) ds) : ds = cs.map (selC p) := by
  have hl := cov_lens (k := k) (by rw [List.length_replicate, hs]) h.1
  have h1 := cov_sel hp ha (by rw [List.length_replicate, hs]) h.1
  have h2 : sel 0 p (List.replicate sizes.length (0 : Int)) = List.replicate (sel 0 p sizes).length 0 := by
    rw [sel_len]
    unfold sel
    rw [List.eq_replicate_iff]
    refine ⟨by simp, fun b hb => ?_⟩
    obtain ⟨i, _, rfl⟩ := List.mem_map.1 hb
    rw [List.getElem?_replicate]
    split <;> rfl
  rw [h2] at h1
  refine cov_one (by rw [sel_len, sel_len]) h'.1 h1 h'.2 fun e he => ?_
  obtain ⟨c, hc, rfl⟩ := List.mem_map.1 he
  exact places_sel hp ha hm (hl c hc) (h.2 c hc)
end

/-- Turned by n. -/
def turnP (k n : Nat) : List Nat := (List.range k).map fun j => (j + n) % k
theorem turnP_lt {k n : Nat} (hk : 0 < k) : ∀ i ∈ turnP k n, i < k := by
  intro i hi
  obtain ⟨j, _, rfl⟩ := List.mem_map.1 hi
  exact Nat.mod_lt _ hk
theorem turnP_all {k n : Nat} (hn : n < k) : ∀ i, i < k → i ∈ turnP k n := by
  intro i hi
  unfold turnP
  by_cases h : n ≤ i
  · exact List.mem_map.2 ⟨i - n, List.mem_range.2 (by omega), by rw [show i - n + n = i by omega, Nat.mod_eq_of_lt hi]⟩
  · refine List.mem_map.2 ⟨i + k - n, List.mem_range.2 (by omega), ?_⟩
    rw [show i + k - n + n = i + k by omega, Nat.add_mod_right, Nat.mod_eq_of_lt hi]
theorem sel_turn {α : Type} (d : α) (l : List α) {n : Nat} (hn : n < l.length) : l.drop n ++ l.take n = sel d (turnP l.length n) l := by
  apply List.ext_getElem?
  intro j
  unfold sel turnP
  rw [List.map_map, List.getElem?_map]
  by_cases hj : j < l.length
  · rw [List.getElem?_range hj]
    simp only [Option.map_some, Function.comp]
    have hm : (j + n) % l.length < l.length := Nat.mod_lt _ (by omega)
    rw [List.getElem?_eq_getElem hm, Option.getD_some]
    by_cases h : j < l.length - n
    · rw [List.getElem?_append_left (by simp; omega), List.getElem?_drop, List.getElem?_eq_getElem (by omega)]
      congr 1
      simp only [show (j + n) % l.length = n + j from by rw [Nat.mod_eq_of_lt (by omega)]; omega]
    · rw [List.getElem?_append_right (by simp; omega), List.length_drop, List.getElem?_take, if_pos (by omega), List.getElem?_eq_getElem (by omega)]
      congr 1
      have e : (j + n) % l.length = j - (l.length - n) := by
        rw [show j + n = (j - (l.length - n)) + l.length by omega, Nat.add_mod_right, Nat.mod_eq_of_lt (by omega)]
      simp only [e]
  · rw [List.getElem?_eq_none (by simp; omega), List.getElem?_eq_none (by simp; omega)]
    rfl
/-- One more, that of place n again. -/
def moreP (k n : Nat) : List Nat := List.range k ++ [n]
theorem moreP_lt {k n : Nat} (hn : n < k) : ∀ i ∈ moreP k n, i < k := by
  intro i hi
  rcases List.mem_append.1 hi with h | h
  · exact List.mem_range.1 h
  · simp at h; omega
theorem moreP_all {k n : Nat} : ∀ i, i < k → i ∈ moreP k n := fun i hi => List.mem_append_left _ (List.mem_range.2 hi)
theorem sel_more {α : Type} (d : α) (l : List α) {n : Nat} {x : α} (hx : l[n]? = some x) : l ++ [x] = sel d (moreP l.length n) l := by
  unfold sel moreP
  rw [List.map_append, List.map_cons, List.map_nil, hx, Option.getD_some]
  congr 1
  apply List.ext_getElem?
  intro j
  rw [List.getElem?_map]
  by_cases hj : j < l.length
  · rw [List.getElem?_range hj, List.getElem?_eq_getElem hj]
    simp [hj]
  · rw [List.getElem?_eq_none (by omega), List.getElem?_eq_none (by simp; omega)]
    rfl

end Go.Proofs.YtdfpifipkchmnaaDoor
/- Proved here, without conditions: plain facts on merges: the base as one more side; the parts of chunks, one behind the other; stable chunks have the same of all. -/
namespace Go.Proofs.YtdfpifipkchmnaaDoor
set_option linter.unusedVariables false

/-- The match of a list with itself. -/
def idm (m : Nat) : List Int := (List.range m).map fun (i : Nat) => (i : Int)
/-- A chunk, the base as one more side. -/
def addB (c : Ck) : Ck := (c.1, c.2.1, c.2.2 ++ [c.2.1])
theorem pl_idm {m : Nat} {k : Int} (h0 : 0 ≤ k) (h1 : k < m) : pl (idm m) k = k := by
  unfold pl idm
  rw [List.getElem?_map, List.getElem?_range (by omega)]
  simp
  omega
theorem ends_addB (c : Ck) : ends (addB c) = ends c ++ [c.2.1.2] := by simp [ends, addB]
theorem empty_addB (c : Ck) : emptyB (addB c) = emptyB c := by
  unfold emptyB addB
  simp only [List.any_append, List.any_cons, List.any_nil, Bool.or_false]
  cases decide (c.2.1.1 < c.2.1.2) <;> cases (c.2.2.any fun s => decide (s.1 < s.2)) <;> rfl
theorem head_addB {c : Ck} {prev : Option Bool} {b : Int} {a : List Int} (h : Head c prev b a) : Head (addB c) prev b (a ++ [b]) where
  base := h.base
  le := h.le
  len := by simp [addB, h.len]
  alt := h.alt
  full := by rw [empty_addB]; exact h.full
  side := fun s sp v h1 h2 => by
    have hl := h.len
    unfold addB at h1 ⊢
    dsimp only at h1 ⊢
    rcases Nat.lt_or_ge s a.length with hs | hs
    · rw [List.getElem?_append_left (by omega)] at h1
      rw [List.getElem?_append_left hs] at h2
      exact h.side s sp v h1 h2
    · rw [List.getElem?_append_right (by omega)] at h1
      rw [List.getElem?_append_right hs] at h2
      have hs0 : s = a.length := by
        have := (List.getElem?_eq_some_iff.1 h2).1
        simp at this
        omega
      subst hs0
      rw [hl, Nat.sub_self] at h1
      rw [Nat.sub_self] at h2
      simp at h1 h2
      subst h1
      subst h2
      exact ⟨h.base, h.le, fun _ => rfl⟩
theorem cov_addB {m : Int} {sizes : List Int} : ∀ {cs : List Ck} {prev : Option Bool} {b : Int} {a : List Int}, Cov m sizes cs prev b a → Cov m (sizes ++ [m]) (cs.map addB) prev b (a ++ [b])
  | [], _, _, _, h => by
    obtain ⟨rfl, rfl⟩ := h
    exact ⟨rfl, rfl⟩
  | c :: cs, prev, b, a, h => by
    refine ⟨head_addB h.1, ?_⟩
    have h2 := cov_addB h.2
    rw [← ends_addB] at h2
    exact h2
/-- Where a chunk lies. -/
theorem cov_lies {m : Int} {sizes : List Int} : ∀ {cs : List Ck} {prev : Option Bool} {b : Int} {a : List Int}, Cov m sizes cs prev b a → ∀ c ∈ cs, b ≤ c.2.1.1 ∧ c.2.1.1 ≤ c.2.1.2 ∧ c.2.1.2 ≤ m ∧ c.2.2.length = sizes.length
  | [], _, _, _, _, c, hc => by cases hc
  | d :: cs, prev, b, a, h, c, hc => by
    have hb := h.1.base
    have hle := h.1.le
    have hm := Cov.le h.2
    rcases List.mem_cons.1 hc with rfl | hc
    · exact ⟨by omega, by omega, hm.1, by rw [← hm.2.1, ends_len]⟩
    · have := cov_lies h.2 c hc
      exact ⟨by omega, this.2.1, this.2.2.1, this.2.2.2⟩
theorem places_addB {m : Nat} {ms : List (List Int)} {c : Ck} (hl : c.2.2.length = ms.length) (h0 : 0 ≤ c.2.1.1) (h1 : c.2.1.2 ≤ m) (h : Places ms c) : Places (ms ++ [idm m]) (addB c) := by
  intro k k1 k2
  have k1' : c.2.1.1 ≤ k := k1
  have k2' : k < c.2.1.2 := k2
  obtain ⟨q1, q2⟩ := h k k1' k2'
  have hp := pl_idm (m := m) (k := k) (by omega) (by omega)
  refine ⟨?_, fun hc s l sp e1 e2 => ?_⟩
  · show allP (ms ++ [idm m]) k = c.1
    unfold allP at q1 ⊢
    rw [List.all_append, q1]
    simp [hp]
    omega
  · have e2' : (c.2.2 ++ [c.2.1])[s]? = some sp := e2
    show pl l k = sp.1 + k - c.2.1.1
    rcases Nat.lt_or_ge s ms.length with hs | hs
    · rw [List.getElem?_append_left hs] at e1
      rw [List.getElem?_append_left (by omega)] at e2'
      exact q2 hc s l sp e1 e2'
    · rw [List.getElem?_append_right hs] at e1
      rw [List.getElem?_append_right (by omega)] at e2'
      have hs0 : s = ms.length := by
        have := (List.getElem?_eq_some_iff.1 e1).1
        simp at this
        omega
      subst hs0
      rw [Nat.sub_self] at e1
      rw [hl, Nat.sub_self] at e2'
      simp at e1 e2'
      subst e1
      subst e2'
      rw [hp]
      omega
/-- The chunks, the base as one more side. -/
theorem cut_base {m : Nat} {sizes : List Int} {ms : List (List Int)} {cs : List Ck} (hl : ms.length = sizes.length) (h : IsCut m sizes ms cs) : IsCut m (sizes ++ [(m : Int)]) (ms ++ [idm m]) (cs.map addB) := by
  obtain ⟨h1, h2⟩ := h
  refine ⟨?_, fun e he => ?_⟩
  · have := cov_addB h1
    rw [List.length_append, List.length_singleton, ← List.replicate_append_replicate]
    exact this
  · obtain ⟨c, hc, rfl⟩ := List.mem_map.1 he
    obtain ⟨k1, k2, k3, k4⟩ := cov_lies h1 c hc
    exact places_addB (by omega) (by omega) k3 (h2 c hc)
theorem sel_addB (p : List Nat) (c : Ck) (n : Nat) (hn : c.2.2.length = n) : selC p (addB c) = (c.1, c.2.1, p.map fun i => if i = n then c.2.1 else (c.2.2[i]?).getD (0, 0)) := by
  unfold selC addB sel
  simp only [Prod.mk.injEq, true_and]
  apply List.map_congr_left
  intro i _
  subst hn
  rcases Nat.lt_trichotomy i c.2.2.length with h | h | h
  · rw [List.getElem?_append_left h, if_neg (by omega)]
  · subst h
    rw [List.getElem?_append_right (Nat.le_refl _)]
    simp
  · rw [List.getElem?_append_right (by omega), if_neg (by omega), List.getElem?_eq_none (by simp; omega), List.getElem?_eq_none (by omega)]
end Go.Proofs.YtdfpifipkchmnaaDoor

/- Proved here: texts joined: MarkForm. -/
import Derived.Test.YtdfpifipkchmnaaGreatDoorBa10
/- Proved here, without conditions: what forbids printing (layer 12), and what follows: smaller ones may be printed, marks of the automatic size fit, bases don't matter to the plain style. -/
namespace Go.Proofs.YtdfpifipkchmnaaGreatDoor
set_option linter.unusedVariables false

/-- Are pieces as they must be? -/
def formB (l : List Pc) : Bool := decide (l = normal l) && (listsP l).all mayB && l.dropLast.all fun p => !openB p.2.1
/-- What forbids printing. -/
def wrongM (l : List Pc) (style long : Int) : Int :=
  if style < 1 ∨ 3 < style ∨ long < 1 ∨ 4096 < long then 1
  else if (l.any fun p => p.1 && (p.2.2.2.isEmpty || decide (16 < p.2.2.2.length))) = true then 1
  else if (formB l && (decide (style ≠ 3) || formB (zealD l))) = false then 2
  else if fitsB long (listsP l) = false then 6 else 0
def bareP (p : Pc) : Pc := (p.1, p.2.1, [], p.2.2.2)

section
variable {l : List Pc} {p q : Pc} {style long : Int}
theorem form_of : ∀ {l : List Pc}, (listsP l).all mayB = true → (l.dropLast.all fun p => !openB p.2.1) = true → FormP l
  | [], _, _ => trivial
  | p :: l, h1, h2 => by
    unfold listsP at h1
    rw [List.flatMap_cons, List.all_append, Bool.and_eq_true] at h1
    have h3 := List.all_eq_true.1 h1.1
    refine ⟨⟨h3 _ (by simp), h3 _ (by simp), fun d hd => h3 _ (by simp [hd])⟩, fun hl => ?_, form_of h1.2 ?_⟩
    · cases l with
      | nil => exact absurd rfl hl
      | cons q l =>
        rw [List.dropLast_cons_cons, List.all_cons, Bool.and_eq_true] at h2
        simpa using h2.1
    · cases l with
      | nil => rfl
      | cons q l =>
        rw [List.dropLast_cons_cons, List.all_cons, Bool.and_eq_true] at h2
        exact h2.2
theorem formB_form (h : formB l = true) : l = normal l ∧ FormP l := by
  unfold formB at h
  rw [Bool.and_eq_true, Bool.and_eq_true, decide_eq_true_eq] at h
  exact ⟨h.1.1, form_of h.1.2 h.2⟩
theorem wrongM_none : wrongM l style long = 0 ↔ (1 ≤ style ∧ style ≤ 3 ∧ 1 ≤ long ∧ long ≤ 4096) ∧ (∀ p ∈ l, p.1 = true → p.2.2.2 ≠ [] ∧ p.2.2.2.length ≤ 16) ∧ formB l = true ∧ (style = 3 → formB (zealD l) = true) ∧ fitsB long (listsP l) = true := by
  have hany : ((l.any fun p => p.1 && (p.2.2.2.isEmpty || decide (16 < p.2.2.2.length))) = true) ↔ ¬ ∀ p ∈ l, p.1 = true → p.2.2.2 ≠ [] ∧ p.2.2.2.length ≤ 16 := by
    constructor
    · intro h hall
      obtain ⟨p, hp, hx⟩ := List.any_eq_true.1 h
      rw [Bool.and_eq_true] at hx
      obtain ⟨h1, h2⟩ := hall p hp hx.1
      have := hx.2
      simp [h1] at this
      omega
    · intro h
      refine Classical.byContradiction fun hn => h fun p hp hc => ?_
      have hn' := List.any_eq_false.1 (by simpa only [Bool.not_eq_true] using hn) p hp
      rw [hc] at hn'
      simp at hn'
      exact ⟨hn'.1, hn'.2⟩
  unfold wrongM
  by_cases h1 : style < 1 ∨ 3 < style ∨ long < 1 ∨ 4096 < long
  · rw [if_pos h1]
    constructor
    · intro h; cases h
    · rintro ⟨h, _⟩; omega
  · rw [if_neg h1]
    by_cases h2 : ∀ p ∈ l, p.1 = true → p.2.2.2 ≠ [] ∧ p.2.2.2.length ≤ 16
    · rw [if_neg (fun h => hany.1 h h2)]
      cases h3 : formB l with
      | false => simp
      | true =>
        by_cases h4 : style = 3
        · subst h4
          cases h5 : formB (zealD l) with
          | false => simp
          | true =>
            cases h6 : fitsB long (listsP l) with
            | false => simp
            | true => exact ⟨fun _ => ⟨by omega, h2, rfl, fun _ => rfl, rfl⟩, fun _ => by simp⟩
        · cases h6 : fitsB long (listsP l) with
          | false => simp [h4]
          | true => exact ⟨fun _ => ⟨by omega, h2, rfl, fun h => absurd h h4, rfl⟩, fun _ => by simp [h4]⟩
    · rw [if_pos (hany.2 h2)]
      constructor
      · intro h; cases h
      · rintro ⟨_, h, _⟩; exact absurd h h2
theorem mem_lists {d : Txs} : d ∈ listsP l ↔ ∃ p ∈ l, d = p.2.1 ∨ d = p.2.2.1 ∨ d ∈ p.2.2.2 := by
  unfold listsP
  rw [List.mem_flatMap]
  constructor
  · rintro ⟨p, hp, h⟩
    simp only [List.mem_cons] at h
    exact ⟨p, hp, h⟩
  · rintro ⟨p, hp, h⟩
    exact ⟨p, hp, by simpa only [List.mem_cons] using h⟩
theorem mem_lines {t : Tx} : t ∈ (listsP l).flatten ↔ ∃ p ∈ l, t ∈ p.2.1 ∨ t ∈ p.2.2.1 ∨ ∃ d ∈ p.2.2.2, t ∈ d := by
  rw [List.mem_flatten]
  constructor
  · rintro ⟨d, hd, ht⟩
    obtain ⟨p, hp, h⟩ := mem_lists.1 hd
    refine ⟨p, hp, ?_⟩
    rcases h with rfl | rfl | h
    · exact .inl ht
    · exact .inr (.inl ht)
    · exact .inr (.inr ⟨d, h, ht⟩)
  · rintro ⟨p, hp, h⟩
    rcases h with h | h | ⟨d, hd, h⟩
    · exact ⟨_, mem_lists.2 ⟨p, hp, .inl rfl⟩, h⟩
    · exact ⟨_, mem_lists.2 ⟨p, hp, .inr (.inl rfl)⟩, h⟩
    · exact ⟨d, mem_lists.2 ⟨p, hp, .inr (.inr hd)⟩, h⟩
/-- The lines of pieces, put together, are theirs. -/
theorem lines_layP {t : Tx} {r : List Pc} (h : t ∈ (listsP (layP p r)).flatten) : (t ∈ p.2.1 ∨ t ∈ p.2.2.1 ∨ ∃ d ∈ p.2.2.2, t ∈ d) ∨ t ∈ (listsP r).flatten := by
  obtain ⟨c, x, b, s⟩ := p
  cases c with
  | true =>
    obtain ⟨q, hq, hx⟩ := mem_lines.1 h
    rcases List.mem_cons.1 hq with rfl | hq
    · rcases hx with hx | hx | hx
      · cases hx
      · exact .inl (.inr (.inl hx))
      · exact .inl (.inr (.inr hx))
    · exact .inr (mem_lines.2 ⟨q, hq, hx⟩)
  | false =>
    have h : t ∈ (listsP (joinT x r)).flatten := h
    have key : ∀ r : List Pc, t ∈ (listsP (joinT x r)).flatten → t ∈ x ∨ t ∈ (listsP r).flatten := by
      intro r
      match r with
      | [] =>
        intro h
        have h : t ∈ (listsP (if x = [] then [] else [tPc x] : List Pc)).flatten := h
        split at h
        · cases h
        · simp [listsP, tPc] at h; exact .inl h
      | (true, y, b', s') :: r =>
        intro h
        have h : t ∈ (listsP (if x = [] then (true, y, b', s') :: r else tPc x :: (true, y, b', s') :: r)).flatten := h
        split at h
        · exact .inr h
        · obtain ⟨q, hq, hx⟩ := mem_lines.1 h
          rcases List.mem_cons.1 hq with rfl | hq
          · simp [tPc] at hx; exact .inl hx
          · exact .inr (mem_lines.2 ⟨q, hq, hx⟩)
      | (false, y, b', s') :: r =>
        intro h
        obtain ⟨q, hq, hx⟩ := mem_lines.1 h
        rcases List.mem_cons.1 hq with rfl | hq
        · rcases hx with hx | hx
          · rcases List.mem_append.1 hx with hx | hx
            · exact .inl hx
            · exact .inr (mem_lines.2 ⟨_, List.mem_cons_self .., .inl hx⟩)
          · exact .inr (mem_lines.2 ⟨_, List.mem_cons_self .., .inr hx⟩)
        · exact .inr (mem_lines.2 ⟨q, List.mem_cons_of_mem _ hq, hx⟩)
    rcases key r h with h | h
    · exact .inl (.inl h)
    · exact .inr h
theorem lines_normal {t : Tx} : ∀ {l : List Pc}, t ∈ (listsP (normal l)).flatten → t ∈ (listsP l).flatten
  | [], h => by cases h
  | p :: l, h => by
    rw [normal_cons] at h
    rcases lines_layP h with h | h
    · exact mem_lines.2 ⟨p, List.mem_cons_self .., h⟩
    · obtain ⟨q, hq, hx⟩ := mem_lines.1 (lines_normal h)
      exact mem_lines.2 ⟨q, List.mem_cons_of_mem _ hq, hx⟩
theorem leftD_mem {a b : Nat} {d : Txs} {t : Tx} (h : t ∈ leftD a b d) : t ∈ d := List.mem_of_mem_drop (List.mem_of_mem_take h)
theorem lines_trim {t : Tx} (h : t ∈ (listsP (trimD p)).flatten) : t ∈ p.2.1 ∨ t ∈ p.2.2.1 ∨ ∃ d ∈ p.2.2.2, t ∈ d := by
  have hone : ∀ {q : Pc}, t ∈ (listsP [q]).flatten → t ∈ q.2.1 ∨ t ∈ q.2.2.1 ∨ ∃ d ∈ q.2.2.2, t ∈ d := by
    intro q hq
    obtain ⟨r, hr, hx⟩ := mem_lines.1 hq
    rw [List.mem_singleton] at hr
    subst hr
    exact hx
  cases hc : p.1 with
  | false => rw [trimD_text hc] at h; exact hone (lines_normal h)
  | true =>
    cases hs : p.2.2.2 with
    | nil => rw [trimD_bare hs] at h; rw [← hs]; exact hone (lines_normal h)
    | cons f ds =>
      rw [trimD_conf hc hs] at h
      obtain ⟨q, hq, hx⟩ := mem_lines.1 (lines_normal h)
      unfold trimL at hq
      dsimp only at hq
      split at hq
      · simp at hq
        subst hq
        simp [tPc] at hx
        exact .inr (.inr ⟨f, List.mem_cons_self .., hx⟩)
      · simp only [List.mem_cons, List.not_mem_nil, or_false] at hq
        rcases hq with rfl | rfl | rfl
        · simp [tPc] at hx
          exact .inr (.inr ⟨f, List.mem_cons_self .., List.mem_of_mem_take hx⟩)
        · rcases hx with hx | hx | ⟨d, hd, hx⟩
          · cases hx
          · exact .inr (.inl hx)
          · obtain ⟨e, he, rfl⟩ := List.mem_map.1 hd
            exact .inr (.inr ⟨e, he, leftD_mem hx⟩)
        · simp [tPc] at hx
          exact .inr (.inr ⟨f, List.mem_cons_self .., List.mem_of_mem_drop hx⟩)
theorem lines_zeal {t : Tx} (h : t ∈ (listsP (zealD l)).flatten) : t ∈ (listsP l).flatten := by
  obtain ⟨q, hq, hx⟩ := mem_lines.1 (lines_normal h)
  obtain ⟨p, hp, hm⟩ := List.mem_flatMap.1 hq
  exact mem_lines.2 ⟨p, hp, lines_trim (mem_lines.2 ⟨q, hm, hx⟩)⟩
/-- A conflict that is left has as many sides as the one that it is of. -/
theorem zeal_sides (hq : q ∈ zealD l) (hc : q.1 = true) : ∃ p ∈ l, p.1 = true ∧ q.2.2.2.length = p.2.2.2.length := by
  obtain ⟨t, ht⟩ := conf_normal hc hq
  obtain ⟨p, hp, hm⟩ := List.mem_flatMap.1 ht
  refine ⟨p, hp, ?_⟩
  cases hcp : p.1 with
  | false =>
    rw [trimD_text hcp] at hm
    obtain ⟨t', h'⟩ := conf_normal rfl hm
    simp at h'
    rw [← h'] at hcp
    cases hcp
  | true =>
    refine ⟨rfl, ?_⟩
    cases hs : p.2.2.2 with
    | nil =>
      rw [trimD_bare hs] at hm
      obtain ⟨t', h'⟩ := conf_normal rfl hm
      simp at h'
      rw [← hs, ← h']
    | cons f ds =>
      rw [trimD_conf hcp hs] at hm
      obtain ⟨t', h'⟩ := conf_normal rfl hm
      have := (trimL_conf (List.mem_cons_self ..) h' rfl).2
      have := congrArg (fun x => x.2.2.2.length) this
      simpa [cPc] using this
theorem fits_sub {a b : List Txs} {z : Int} (hs : ∀ t ∈ b.flatten, t ∈ a.flatten) (h : fitsB z a = true) : fitsB z b = true := by
  obtain ⟨h1, h2⟩ := fits_iff.1 h
  exact fits_iff.2 ⟨h1, fun t ht => h2 t (hs t ht)⟩
/-- SMALLER ONES MAY BE PRINTED. -/
theorem zeal_right (h : wrongM l 3 long = 0) : wrongM (zealD l) 2 long = 0 := by
  obtain ⟨h1, h2, h3, h4, h5⟩ := wrongM_none.1 h
  refine wrongM_none.2 ⟨by omega, fun q hq hc => ?_, h4 rfl, fun h => absurd h (by decide), fits_sub (fun t ht => lines_zeal ht) h5⟩
  obtain ⟨p, hp, hcp, hl⟩ := zeal_sides hq hc
  obtain ⟨k1, k2⟩ := h2 p hp hcp
  refine ⟨fun e => k1 ?_, by omega⟩
  rw [e] at hl
  exact List.eq_nil_of_length_eq_zero (by simpa using hl.symm)
/-- MARKS OF THE AUTOMATIC SIZE FIT. -/
theorem auto_right (h : wrongM l style 40 = 0) : wrongM l style (autoN (listsP l)) = 0 ∧ autoN (listsP l) ≤ 40 := by
  obtain ⟨h1, h2, h3, h4, h5⟩ := wrongM_none.1 h
  have hge := auto_ge (files := listsP l)
  have hle : autoN (listsP l) ≤ 40 := by
    rcases maxR_is (l := (listsP l).flatten) (n := 7) with e | ⟨t, ht, e⟩
    · unfold autoN; omega
    · have := (fits_iff.1 h5).2 t ht
      unfold autoN
      omega
  refine ⟨wrongM_none.2 ⟨by omega, h2, h3, h4, ?_⟩, hle⟩
  have := fits_auto (files := listsP l) 0
  simpa using this
theorem less_wrong (h : wrongM l style 40 = 0) (hn : autoN (listsP l) ≠ 7) : wrongM l style ((autoN (listsP l) : Int) - 1) = 6 := by
  obtain ⟨h1, h2, h3, h4, h5⟩ := wrongM_none.1 h
  have hge := auto_ge (files := listsP l)
  have hle := (auto_right h).2
  unfold wrongM
  rw [if_neg (by omega), if_neg, if_neg, if_pos (fits_less hn)]
  · rw [h3]
    by_cases e : style = 3
    · rw [h4 e]; simp
    · simp [e]
  · intro hx
    obtain ⟨p, hp, hx⟩ := List.any_eq_true.1 hx
    rw [Bool.and_eq_true] at hx
    obtain ⟨k1, k2⟩ := h2 p hp hx.1
    have := hx.2
    simp [k1] at this
    omega
/-- BASES DON'T MATTER TO THE PLAIN STYLE. -/
theorem bare_cons (p : Pc) (r : List Pc) : (layP p r).map bareP = layP (bareP p) (r.map bareP) := by
  obtain ⟨c, x, b, s⟩ := p
  cases c with
  | true => rfl
  | false =>
    show (joinT x r).map bareP = joinT x (r.map bareP)
    match r with
    | [] =>
      show (if x = [] then [] else [tPc x] : List Pc).map bareP = if x = [] then [] else [tPc x]
      split <;> rfl
    | (true, y, b', s') :: r =>
      show (if x = [] then (true, y, b', s') :: r else tPc x :: (true, y, b', s') :: r).map bareP = if x = [] then (true, y, [], s') :: r.map bareP else tPc x :: (true, y, [], s') :: r.map bareP
      split <;> rfl
    | (false, y, b', s') :: r => rfl
theorem bare_normal : ∀ l : List Pc, (normal l).map bareP = normal (l.map bareP)
  | [] => rfl
  | p :: l => by rw [normal_cons, bare_cons, bare_normal l, List.map_cons, normal_cons]
theorem bare_right (h : wrongM l 1 long = 0) : wrongM (l.map bareP) 1 long = 0 := by
  obtain ⟨h1, h2, h3, h4, h5⟩ := wrongM_none.1 h
  refine wrongM_none.2 ⟨h1, ?_, ?_, fun h => absurd h (by decide), fits_sub (fun t ht => ?_) h5⟩
  · intro q hq hc
    obtain ⟨p, hp, rfl⟩ := List.mem_map.1 hq
    exact h2 p hp hc
  · unfold formB at h3 ⊢
    rw [Bool.and_eq_true, Bool.and_eq_true, decide_eq_true_eq] at h3 ⊢
    obtain ⟨⟨k1, k2⟩, k3⟩ := h3
    refine ⟨⟨?_, ?_⟩, ?_⟩
    · rw [← bare_normal, ← k1]
    · rw [List.all_eq_true] at k2 ⊢
      intro d hd
      obtain ⟨q, hq, hx⟩ := mem_lists.1 hd
      obtain ⟨p, hp, rfl⟩ := List.mem_map.1 hq
      rcases hx with rfl | rfl | hx
      · exact k2 _ (mem_lists.2 ⟨p, hp, .inl rfl⟩)
      · rfl
      · exact k2 _ (mem_lists.2 ⟨p, hp, .inr (.inr hx)⟩)
    · rw [← List.map_dropLast, List.all_map]
      exact k3
  · obtain ⟨q, hq, hx⟩ := mem_lines.1 ht
    obtain ⟨p, hp, rfl⟩ := List.mem_map.1 hq
    rcases hx with hx | hx | hx
    · exact mem_lines.2 ⟨p, hp, .inl hx⟩
    · cases hx
    · exact mem_lines.2 ⟨p, hp, .inr (.inr hx)⟩
theorem bare_lines (long : Nat) : linesM 1 long (l.map bareP) = linesM 1 long l := by
  unfold linesM
  induction l with
  | nil => rfl
  | cons p l ih =>
    rw [List.map_cons, List.flatMap_cons, List.flatMap_cons, ih]
    congr 1
end
end Go.Proofs.YtdfpifipkchmnaaGreatDoor

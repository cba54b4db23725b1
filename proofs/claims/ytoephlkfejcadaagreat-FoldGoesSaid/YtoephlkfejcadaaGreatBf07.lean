/- Proved here: texts joined: FoldPure, MgAwk, AlignPlain. -/
import Derived.Test.YtoephlkfejcadaaGreatBf03
import Derived.Test.YtoephlkfejcadaaGreatBf05
import Derived.Test.YtoephlkfejcadaaGreatBf06
/- Proved here, without conditions: what the document asks of Octopus (layer 9), as plain words, and what follows of it: one answer; of few lines no error; of one side, of two, of one more. -/
namespace Go.Proofs.YtoephlkfejcadaaGreat
set_option linter.unusedVariables false

section
theorem choose_clean : ∀ {l : List Pc}, cleanB l = true → ∀ n m : Int, choose l n = choose l m
  | [], _, _, _ => rfl
  | p :: l, h, n, m => by
    unfold cleanB at h
    rw [List.all_cons, Bool.and_eq_true] at h
    have h1 : p.1 = false := by simpa using h.1
    have := choose_clean (l := l) h.2 n m
    unfold choose at this ⊢
    rw [List.flatMap_cons, List.flatMap_cons, this, chosen_text n h1, chosen_text m h1]
/-- Clean pieces, put together, are one text. -/
theorem normal_clean : ∀ {l : List Pc}, cleanB l = true → normal l = normal [tPc (choose l 0)]
  | [], _ => by simp [normal, choose, tPc, joinT]
  | (true, t, b, s) :: l, h => by simp [cleanB] at h
  | (false, t, b, s) :: l, h => by
    have h2 : cleanB l = true := by simpa [cleanB] using h
    have e := normal_clean (l := l) h2
    have e2 : choose ((false, t, b, s) :: l) 0 = t ++ choose l 0 := by simp [choose, chosen]
    show joinT t (normal l) = joinT (choose ((false, t, b, s) :: l) 0) []
    rw [e, e2, joinT_append]
    rfl
theorem merged_clean {base : Txs} {sides : List Txs} {fav : Int} {un : Bool} {cs : List Ck} (h : cleanB (mergeD base sides fav un cs) = true) : mergeD base sides fav un cs = normal [tPc (choose (mergeD base sides fav un cs) 0)] := by
  have e : normal (mergeD base sides fav un cs) = mergeD base sides fav un cs := by unfold mergeD; exact normal_twice _
  rw [← normal_clean h, e]
theorem choose_text (t : Txs) (z : Int) : choose (normal [tPc t]) z = t := by
  rw [choose_normal]
  simp [choose, chosen, tPc]
theorem clean_text (t : Txs) : cleanB (normal [tPc t]) = true := by
  rw [clean_normal]
  rfl
theorem piece_in {b : Txs} {ps : List Txs} (h : ps ≠ []) : (pieceD b ps 1 false).2.1 ∈ ps := by
  have h1 : 1 ≤ ps.length := by cases ps with | nil => exact absurd rfl h | cons => simp
  unfold pieceD
  match hd : diffs b ps with
  | [] =>
    have hz := diffs_zero.1 (by rw [hd]; rfl : (diffs b ps).length = 0)
    obtain ⟨q, hq⟩ := List.exists_mem_of_ne_nil ps h
    have := hz q hq
    subst this
    exact hq
  | [d] =>
    have := mem_diffs.1 (show d ∈ diffs b ps by rw [hd]; simp)
    exact this.1
  | d :: e :: l =>
    dsimp only
    rw [if_pos ⟨by omega, by omega⟩]
    show (ps[((1 : Int) - 1).toNat]?).getD [] ∈ ps
    rw [show ((1 : Int) - 1).toNat = 0 by omega, List.getElem?_eq_getElem (by omega)]
    exact List.getElem_mem _
theorem flat_le {f g k : Ck → Txs} : ∀ {cs : List Ck}, (∀ c ∈ cs, (f c).length ≤ (g c).length + (k c).length) → (cs.flatMap f).length ≤ (cs.flatMap g).length + (cs.flatMap k).length
  | [], _ => by simp
  | c :: cs, h => by
    have h1 := h c (List.mem_cons_self ..)
    have h2 := flat_le (cs := cs) fun d hd => h d (List.mem_cons_of_mem _ hd)
    simp only [List.flatMap_cons, List.length_append]
    omega
theorem cutS_mem {c : Ck} {s : Nat} {d : Txs} {x : Tx} (h : x ∈ cutS c s d) : x ∈ d := by
  unfold cutS at h
  split at h
  · unfold cutL at h
    exact List.mem_of_mem_drop (List.mem_of_mem_take h)
  · cases h
end

section
variable {base t s : Txs} {ms : List (List Int)} {cs : List Ck}
/-- A clean merge of two: its text is put together of theirs. -/
theorem two_text (h : Laid base [t, s] ms cs) (hc : cleanB (mergeD base [t, s] 0 false cs) = true) :
    choose (mergeD base [t, s] 0 false cs) 0 = cs.flatMap fun c => (pieceD (cutB c base) (cutsP c [t, s]) 1 false).2.1 := by
  rw [choose_clean hc 0 1, merge_choice h (z := 0) (by omega) (by simp)]
  unfold mergeD
  rw [choose_normal, choose_map]
  refine flat_congr fun c hcc => ?_
  rw [h.pc hcc]
  exact chosen_text 0 (piece_fav (by omega) (by rw [cutsP_len h hcc]; simp) false)
theorem two_in (h : Laid base [t, s] ms cs) {c : Ck} (hc : c ∈ cs) : (pieceD (cutB c base) (cutsP c [t, s]) 1 false).2.1 = cutS c 0 t ∨ (pieceD (cutB c base) (cutsP c [t, s]) 1 false).2.1 = cutS c 1 s := by
  have hl := cutsP_len h hc
  have := piece_in (b := cutB c base) (ps := cutsP c [t, s]) (by intro e; rw [e] at hl; simp at hl)
  obtain ⟨k, d, hd, e⟩ := (cutsP_mem h hc).1 this
  match k with
  | 0 => simp at hd; subst hd; exact .inl e
  | 1 => simp at hd; subst hd; exact .inr e
  | k + 2 => simp at hd
theorem two_len (h : Laid base [t, s] ms cs) (hc : cleanB (mergeD base [t, s] 0 false cs) = true) : (choose (mergeD base [t, s] 0 false cs) 0).length ≤ t.length + s.length := by
  rw [two_text h hc]
  have h1 := cat_side (s := 0) (d := t) (szs_at (sides := [t, s]) rfl) h.cut.1 (v := 0) (by rw [szs_len]; rfl) (Int.le_refl _)
  have h2 := cat_side (s := 1) (d := s) (szs_at (sides := [t, s]) rfl) h.cut.1 (v := 0) (by rw [szs_len]; rfl) (Int.le_refl _)
  have h3 := flat_le (cs := cs) (f := fun c => (pieceD (cutB c base) (cutsP c [t, s]) 1 false).2.1) (g := fun c => cutS c 0 t) (k := fun c => cutS c 1 s) fun c hcc => by
    rcases two_in h hcc with e | e
    · simp only [e]; omega
    · simp only [e]; omega
  rw [h1, h2] at h3
  simpa using h3
theorem two_lines (h : Laid base [t, s] ms cs) (hc : cleanB (mergeD base [t, s] 0 false cs) = true) : ∀ x ∈ choose (mergeD base [t, s] 0 false cs) 0, x ∈ t ∨ x ∈ s := by
  rw [two_text h hc]
  intro x hx
  obtain ⟨c, hcc, hxc⟩ := List.mem_flatMap.1 hx
  rcases two_in h hcc with e | e
  · rw [e] at hxc; exact .inl (cutS_mem hxc)
  · rw [e] at hxc; exact .inr (cutS_mem hxc)
theorem two_may (h : Laid base [t, s] ms cs) (hc : cleanB (mergeD base [t, s] 0 false cs) = true) (hb : mayB base = true) (h1 : mayB t = true) (h2 : mayB s = true) : mayB (choose (mergeD base [t, s] 0 false cs) 0) = true := by
  rw [choose_clean hc 0 1, merge_choice h (z := 0) (by omega) (by simp)]
  refine merge_may h hb ?_ (.inl ⟨by omega, by simp, rfl⟩) 0
  intro d hd
  simp at hd
  rcases hd with rfl | rfl
  · exact h1
  · exact h2
end

/-- A base, what there is, the sides that are left, and how many were merged; told: an error, how many were merged, pieces. -/
inductive Folds (base : Txs) : Txs → List Txs → Int → Int → Int → List Pc → Prop
  | done (text : Txs) (n : Int) : Folds base text [] n 0 n (normal [tPc text])
  | bad {text s : Txs} {rest : List Txs} {n er : Int} {ps : List Pc} : MergesTo base [text, s] 0 false er ps → er ≠ 0 → Folds base text (s :: rest) n er 0 []
  | stop {text s : Txs} {rest : List Txs} {n : Int} {ps : List Pc} : MergesTo base [text, s] 0 false 0 ps → cleanB ps = false → Folds base text (s :: rest) n 0 n ps
  | goes {text s : Txs} {rest : List Txs} {n er k : Int} {ps qs : List Pc} : MergesTo base [text, s] 0 false 0 ps → cleanB ps = true → Folds base (choose ps 0) rest (n + 1) er k qs → Folds base text (s :: rest) n er k qs
/-- What Octopus tells. -/
def OctsTo (base : Txs) (sides : List Txs) (er n : Int) (ps : List Pc) : Prop :=
  if wrongN base sides ≠ 0 then er = wrongN base sides ∧ n = 0 ∧ ps = [] else ∃ s rest, sides = s :: rest ∧ Folds base s rest 1 er n ps

section
variable {base : Txs}
theorem Folds.one {text : Txs} {rest : List Txs} {n er k : Int} {qs : List Pc} (h : Folds base text rest n er k qs) : ∀ {er' k' : Int} {qs' : List Pc}, Folds base text rest n er' k' qs' → er = er' ∧ k = k' ∧ qs = qs' := by
  induction h with
  | done text n => intro er' k' qs' h'; cases h'; exact ⟨rfl, rfl, rfl⟩
  | bad hm he =>
    intro er' k' qs' h'
    cases h' with
    | bad hm' he' => exact ⟨(hm.one hm').1, rfl, rfl⟩
    | stop hm' hc' => exact absurd (hm.one hm').1 he
    | goes hm' hc' hr' => exact absurd (hm.one hm').1 he
  | stop hm hc =>
    intro er' k' qs' h'
    cases h' with
    | bad hm' he' => exact absurd (hm'.one hm).1 he'
    | stop hm' hc' => exact ⟨rfl, rfl, (hm.one hm').2⟩
    | goes hm' hc' hr' => rw [(hm'.one hm).2, hc] at hc'; cases hc'
  | goes hm hc hr ih =>
    intro er' k' qs' h'
    cases h' with
    | bad hm' he' => exact absurd (hm'.one hm).1 he'
    | stop hm' hc' => rw [(hm'.one hm).2, hc] at hc'; cases hc'
    | goes hm' hc' hr' =>
      have e := (hm'.one hm).2
      subst e
      exact ih hr'
theorem OctsTo.one {sides : List Txs} {er n er' n' : Int} {ps ps' : List Pc} (h : OctsTo base sides er n ps) (h' : OctsTo base sides er' n' ps') : er = er' ∧ n = n' ∧ ps = ps' := by
  unfold OctsTo at h h'
  split at h
  · rename_i hw
    rw [if_pos hw] at h'
    exact ⟨h.1.trans h'.1.symm, h.2.1.trans h'.2.1.symm, h.2.2.trans h'.2.2.symm⟩
  · rename_i hw
    rw [if_neg hw] at h'
    obtain ⟨s, rest, e, hf⟩ := h
    obtain ⟨s', rest', e', hf'⟩ := h'
    rw [e] at e'
    injection e' with e1 e2
    subst e1 e2
    exact hf.one hf'
/-- Lines that may be, few of them: a merge of two has no error. -/
theorem two_right {t s : Txs} (hb : mayB base = true) (ht : mayB t = true) (hs : mayB s = true) (h1 : base.length ≤ 2000) (h2 : t.length ≤ 2000) (h3 : s.length ≤ 2000) : wrongN base [t, s] = 0 := by
  refine wrong_zero (by simp) (by simp) hb ?_ h1 ?_
  · intro d hd; simp at hd; rcases hd with rfl | rfl <;> assumption
  · intro d hd; simp at hd; rcases hd with rfl | rfl <;> assumption
theorem two_of {t s : Txs} {er : Int} {ps : List Pc} (hw : wrongN base [t, s] = 0) (h : MergesTo base [t, s] 0 false er ps) : er = 0 ∧ ∃ ms cs, MsOf base [t, s] ms ∧ Laid base [t, s] ms cs ∧ ps = mergeD base [t, s] 0 false cs := by
  have he : er = 0 := by
    rw [h.1]
    unfold errM
    rw [if_neg (by rw [hw]; simp), if_neg]
    rintro (h1 | h1 | ⟨h1, h2⟩)
    · omega
    · simp at h1
    · cases h2
  obtain ⟨ms, cs, a, b, c⟩ := h.2.2 he
  exact ⟨he, ms, cs, a, a.laid b, c⟩
/-- Lines that may be, and few of them. -/
def FewF (base text : Txs) (rest : List Txs) : Prop := mayB base = true ∧ mayB text = true ∧ base.length ≤ 16 ∧ text.length + 16 * rest.length ≤ 96 ∧ (∀ d ∈ rest, mayB d = true ∧ d.length ≤ 16)
/-- One step: no error; and where it is clean, again few lines that may be. -/
theorem FewF.step {text s : Txs} {rest : List Txs} {er : Int} {ps : List Pc} (h : FewF base text (s :: rest)) (hm : MergesTo base [text, s] 0 false er ps) :
    er = 0 ∧ (cleanB ps = true → FewF base (choose ps 0) rest ∧ (∀ x ∈ choose ps 0, x ∈ text ∨ x ∈ s) ∧ ps = normal [tPc (choose ps 0)]) := by
  obtain ⟨hb, ht, h1, h2, h3⟩ := h
  have hs := h3 s (List.mem_cons_self ..)
  rw [List.length_cons] at h2
  obtain ⟨he, ms, cs, hM, hL, e⟩ := two_of (two_right hb ht hs.1 (by omega) (by omega) (by omega)) hm
  refine ⟨he, fun hc => ?_⟩
  subst e
  have hl := two_len hL hc
  exact ⟨⟨hb, two_may hL hc hb ht hs.1, h1, by omega, fun d hd => h3 d (List.mem_cons_of_mem _ hd)⟩, two_lines hL hc, merged_clean hc⟩
/-- Of few lines there is no error; how many were merged are from those that were to all, all just if it is clean, and then it is one text of lines that may be. -/
theorem Folds.few {text : Txs} {rest : List Txs} {n er k : Int} {qs : List Pc} (h : Folds base text rest n er k qs) (hf : FewF base text rest) :
    er = 0 ∧ n ≤ k ∧ k ≤ n + rest.length ∧ (k = n + rest.length ↔ cleanB qs = true) ∧ (cleanB qs = true → mayB (choose qs 0) = true ∧ (choose qs 0).length ≤ 96 ∧ qs = normal [tPc (choose qs 0)]) := by
  induction h with
  | done text n =>
    have hf2 := hf.2.2.2.1
    refine ⟨rfl, Int.le_refl _, by simp, ⟨fun _ => clean_text text, fun _ => by simp⟩, fun _ => ?_⟩
    rw [choose_text]
    exact ⟨hf.2.1, by omega, rfl⟩
  | bad hm he => exact absurd (hf.step hm).1 he
  | stop hm hc =>
    refine ⟨rfl, Int.le_refl _, by omega, ⟨fun e => ?_, fun e => ?_⟩, fun e => ?_⟩
    · rw [List.length_cons] at e; omega
    · rw [hc] at e; cases e
    · rw [hc] at e; cases e
  | goes hm hc hr ih =>
    obtain ⟨i1, i2, i3, i4, i5⟩ := ih ((hf.step hm).2 hc).1
    rw [List.length_cons]
    refine ⟨i1, by omega, by omega, ?_, i5⟩
    rw [← i4]
    constructor <;> intro e <;> omega
/-- One side more: what isn't clean stays so. -/
theorem Folds.more {text s : Txs} {rest : List Txs} {n er k : Int} {qs : List Pc} (h : Folds base text rest n er k qs) (hf : FewF base text rest) (hc : cleanB qs = false) : Folds base text (rest ++ [s]) n er k qs := by
  induction h with
  | done text n => rw [clean_text] at hc; cases hc
  | bad hm he => exact absurd (hf.step hm).1 he
  | stop hm hc' => exact .stop hm hc'
  | goes hm hc' hr ih => exact .goes hm hc' (ih ((hf.step hm).2 hc').1 hc)
/-- One side more: what is clean is merged with that one. -/
theorem Folds.most {text s : Txs} {rest : List Txs} {n er k : Int} {qs : List Pc} (h : Folds base text rest n er k qs) (hf : FewF base text rest) (hc : cleanB qs = true) {er' : Int} {ps : List Pc} (hm' : MergesTo base [choose qs 0, s] 0 false er' ps) (hf' : FewF base text (rest ++ [s])) :
    er' = 0 ∧ ∃ k', Folds base text (rest ++ [s]) n 0 k' ps := by
  induction h with
  | done text n =>
    rw [choose_text] at hm'
    have hs := FewF.step hf' hm'
    obtain ⟨he, h2⟩ := hs
    subst he
    refine ⟨rfl, ?_⟩
    cases hcl : cleanB ps with
    | false => exact ⟨n, .stop hm' hcl⟩
    | true =>
      obtain ⟨_, _, e⟩ := h2 hcl
      refine ⟨n + 1, .goes hm' hcl ?_⟩
      have := Folds.done (base := base) (choose ps 0) (n + 1)
      rw [← e] at this
      exact this
  | bad hm he => exact absurd (hf.step hm).1 he
  | stop hm hc' => rw [hc'] at hc; cases hc
  | goes hm hc' hr ih =>
    obtain ⟨e, k', hk⟩ := ih ((hf.step hm).2 hc').1 hc hm' ((FewF.step hf' hm).2 hc').1
    exact ⟨e, k', .goes hm hc' hk⟩
/-- Of two sides it is as merged at once. -/
theorem octs_two {one two : Txs} {er n : Int} {qs ps : List Pc} (hf : FewF base one [two]) (h : Folds base one [two] 1 er n qs) (hm : MergesTo base [one, two] 0 false 0 ps) : er = 0 ∧ qs = ps ∧ (n = 2 ↔ cleanB ps = true) ∧ (n = 1 ↔ cleanB ps = false) := by
  have hs := hf.step hm
  have key : ∃ k, Folds base one [two] 1 0 k ps ∧ (k = 2 ↔ cleanB ps = true) ∧ (k = 1 ↔ cleanB ps = false) := by
    cases hcl : cleanB ps with
    | false => exact ⟨1, .stop hm hcl, by simp, by simp⟩
    | true =>
      obtain ⟨_, _, e⟩ := hs.2 hcl
      refine ⟨2, .goes hm hcl ?_, by simp, by simp⟩
      have := Folds.done (base := base) (choose ps 0) 2
      rw [← e] at this
      exact this
  obtain ⟨k, hk, k1, k2⟩ := key
  obtain ⟨e1, e2, e3⟩ := h.one hk
  exact ⟨e1, e3, e2 ▸ k1, e2 ▸ k2⟩
end
end Go.Proofs.YtoephlkfejcadaaGreat
/- Proved here, without conditions: what the merges of the statements' own example come to. -/
namespace Go.Proofs.YtoephlkfejcadaaGreat
set_option linter.unusedVariables false

def headB (c : Ck) (prev : Option Bool) (b : Int) (a : List Int) : Bool :=
  decide (c.2.1.1 = b) && decide (b ≤ c.2.1.2) && decide (c.2.2.length = a.length) && decide (prev ≠ some c.1) && !emptyB c && (List.zip c.2.2 a).all fun q => decide (q.1.1 = q.2) && decide (q.2 ≤ q.1.2) && (!c.1 || decide (q.1.2 - q.1.1 = c.2.1.2 - c.2.1.1))
theorem headB_is {c : Ck} {prev : Option Bool} {b : Int} {a : List Int} (h : headB c prev b a = true) : Head c prev b a := by
  unfold headB at h
  simp only [Bool.and_eq_true, decide_eq_true_eq, List.all_eq_true, Bool.not_eq_true', Bool.or_eq_true] at h
  obtain ⟨⟨⟨⟨⟨h1, h2⟩, h3⟩, h4⟩, h5⟩, h6⟩ := h
  refine ⟨h1, h2, h3, h4, h5, fun s sp v hs hv => ?_⟩
  obtain ⟨⟨a1, a2⟩, a3⟩ := h6 (sp, v) (List.mem_of_getElem? (i := s) (List.getElem?_zip_eq_some.2 ⟨hs, hv⟩))
  exact ⟨a1, a2, fun hc => by rcases a3 with a3 | a3; rw [hc] at a3; cases a3; exact a3⟩
def covB (m : Int) (sizes : List Int) : List Ck → Option Bool → Int → List Int → Bool
  | [], _, b, a => decide (a = sizes) && decide (b = m)
  | c :: cs, prev, b, a => headB c prev b a && covB m sizes cs (some c.1) c.2.1.2 (ends c)
theorem covB_is {m : Int} {sizes : List Int} : ∀ {cs : List Ck} {prev : Option Bool} {b : Int} {a : List Int}, covB m sizes cs prev b a = true → Cov m sizes cs prev b a
  | [], prev, b, a, h => by
    unfold covB at h
    simp only [Bool.and_eq_true, decide_eq_true_eq] at h
    exact h
  | c :: cs, prev, b, a, h => by
    unfold covB at h
    rw [Bool.and_eq_true] at h
    exact ⟨headB_is h.1, covB_is h.2⟩
def placesB (ms : List (List Int)) (c : Ck) : Bool := (List.range (c.2.1.2 - c.2.1.1).toNat).all fun j => decide (allP ms (c.2.1.1 + j) = c.1) && (!c.1 || (List.zip ms c.2.2).all fun q => decide (pl q.1 (c.2.1.1 + j) = q.2.1 + j))
theorem placesB_is {ms : List (List Int)} {c : Ck} (h : placesB ms c = true) : Places ms c := by
  unfold placesB at h
  simp only [List.all_eq_true, List.mem_range, Bool.and_eq_true, decide_eq_true_eq, Bool.or_eq_true, Bool.not_eq_true'] at h
  intro k h1 h2
  obtain ⟨a1, a2⟩ := h (k - c.2.1.1).toNat (by omega)
  have e : c.2.1.1 + ((k - c.2.1.1).toNat : Int) = k := by omega
  rw [e] at a1 a2
  refine ⟨a1, fun hc s l sp hl hs => ?_⟩
  rcases a2 with a2 | a2
  · rw [hc] at a2; cases a2
  · have := a2 (l, sp) (List.mem_of_getElem? (i := s) (List.getElem?_zip_eq_some.2 ⟨hl, hs⟩))
    dsimp only at this
    omega
theorem cutB_is {m : Int} {sizes : List Int} {ms : List (List Int)} {cs : List Ck} (h : (covB m sizes cs none 0 (List.replicate sizes.length 0) && cs.all (placesB ms)) = true) : IsCut m sizes ms cs := by
  rw [Bool.and_eq_true, List.all_eq_true] at h
  exact ⟨covB_is h.1, fun c hc => placesB_is (h.2 c hc)⟩

def lnA : Tx := [97, 10]
def lnB : Tx := [98, 10]
def lnC : Tx := [99, 10]
def lnX : Tx := [120, 10]
def lnY : Tx := [121, 10]
def lnZ : Tx := [122, 10]
def awB : Txs := [lnA, lnB, lnC]
def awS : List Txs := [[lnX, lnB, lnC], [lnA, lnB, lnY]]
def awT : List Txs := [[lnX, lnB, lnC], [lnZ, lnB, lnY]]
/-- A number for a text. -/
def awF (t : Tx) : Int := match t with | x :: _ => (x.toNat : Int) | [] => 0
theorem aw_mt (d : Txs) (l L : List Int) (h1 : ∀ x ∈ awB, ∀ y ∈ d, awF x = awF y → x = y) (hL : d.map awF = L) (h2 : l = mt [97, 98, 99] L 0) : MtOf awB d l := ⟨awF, h1, by rw [hL, show awB.map awF = [97, 98, 99] by decide]; exact h2⟩
theorem aw_ms (d e : Txs) (l k : List Int) (h1 : MtOf awB d l) (h2 : MtOf awB e k) : MsOf awB [d, e] [l, k] := by
  refine ⟨rfl, fun s m f a b => ?_⟩
  match s, a, b with
  | 0, a, b => simp at a b; subst a; subst b; exact h1
  | 1, a, b => simp at a b; subst a; subst b; exact h2
  | s + 2, a, b => simp at a
theorem aw_one {er : Int} {ps : List Pc} (h : MergesTo awB awS 0 false er ps) : er = 0 ∧ ps = [tPc [lnX, lnB, lnY]] := by
  have he : errM awB awS 0 false = 0 := by decide
  have hm : MsOf awB awS [[-1, 1, 2], [0, 1, -1]] := aw_ms _ _ _ _ (aw_mt _ _ [120, 98, 99] (by decide) (by decide) (by simp [mt, lcsL])) (aw_mt _ _ [97, 98, 121] (by decide) (by decide) (by simp [mt, lcsL]))
  have hc : IsCut awB.length (szs awS) [[-1, 1, 2], [0, 1, -1]] [(false, (0, 1), [(0, 1), (0, 1)]), (true, (1, 2), [(1, 2), (1, 2)]), (false, (2, 3), [(2, 3), (2, 3)])] := cutB_is (by decide)
  have h2 : MergesTo awB awS 0 false 0 (mergeD awB awS 0 false [(false, (0, 1), [(0, 1), (0, 1)]), (true, (1, 2), [(1, 2), (1, 2)]), (false, (2, 3), [(2, 3), (2, 3)])]) := ⟨he.symm, fun h => absurd rfl h, fun _ => ⟨_, _, hm, hc, rfl⟩⟩
  obtain ⟨r1, r2⟩ := h.one h2
  exact ⟨r1, r2.trans (by decide)⟩
theorem aw_two {er : Int} {ps : List Pc} (h : MergesTo awB awT 0 false er ps) : er = 0 ∧ ps = [cPc [lnA] [[lnX], [lnZ]], tPc [lnB, lnY]] := by
  have he : errM awB awT 0 false = 0 := by decide
  have hm : MsOf awB awT [[-1, 1, 2], [-1, 1, -1]] := aw_ms _ _ _ _ (aw_mt _ _ [120, 98, 99] (by decide) (by decide) (by simp [mt, lcsL])) (aw_mt _ _ [122, 98, 121] (by decide) (by decide) (by simp [mt, lcsL]))
  have hc : IsCut awB.length (szs awT) [[-1, 1, 2], [-1, 1, -1]] [(false, (0, 1), [(0, 1), (0, 1)]), (true, (1, 2), [(1, 2), (1, 2)]), (false, (2, 3), [(2, 3), (2, 3)])] := cutB_is (by decide)
  have h2 : MergesTo awB awT 0 false 0 (mergeD awB awT 0 false [(false, (0, 1), [(0, 1), (0, 1)]), (true, (1, 2), [(1, 2), (1, 2)]), (false, (2, 3), [(2, 3), (2, 3)])]) := ⟨he.symm, fun h => absurd rfl h, fun _ => ⟨_, _, hm, hc, rfl⟩⟩
  obtain ⟨r1, r2⟩ := h.one h2
  exact ⟨r1, r2.trans (by decide)⟩
theorem aw_three {er : Int} {ps : List Pc} (h : MergesTo awB [] 0 false er ps) : er = 1 ∧ ps = [] := by
  have e : er = 1 := h.1.trans (by decide)
  exact ⟨e, h.2.1 (by rw [e]; decide)⟩
end Go.Proofs.YtoephlkfejcadaaGreat
/- Proved here, without conditions: how chunks of matches come about, a run of stable places after the other. -/
namespace Go.Proofs.YtoephlkfejcadaaGreat
set_option linter.unusedVariables false

/-- With which places the matches pair place k, and one behind these. -/
def plAll (ms : List (List Int)) (k : Int) : List Int := ms.map fun l => pl l k
def plUp (ms : List (List Int)) (k : Int) : List Int := ms.map fun l => pl l k + 1
/-- The chunk from the places b and a up to the places e and f. -/
def ckOf (st : Bool) (b e : Int) (a f : List Int) : Ck := (st, (b, e), List.zip a f)
def putC (cs : List Ck) (c : Ck) : List Ck := if emptyB c then cs else cs ++ [c]

theorem plAll_len (ms : List (List Int)) (k : Int) : (plAll ms k).length = ms.length := by simp [plAll]
theorem plUp_len (ms : List (List Int)) (k : Int) : (plUp ms k).length = ms.length := by simp [plUp]
theorem plAll_at {ms : List (List Int)} {k v : Int} {s : Nat} (h : (plAll ms k)[s]? = some v) : ∃ l, ms[s]? = some l ∧ v = pl l k := by
  unfold plAll at h
  rw [List.getElem?_map] at h
  cases hc : ms[s]? with
  | none => rw [hc] at h; cases h
  | some l => rw [hc] at h; exact ⟨l, rfl, by simpa using h.symm⟩
theorem plUp_at {ms : List (List Int)} {k v : Int} {s : Nat} (h : (plUp ms k)[s]? = some v) : ∃ l, ms[s]? = some l ∧ v = pl l k + 1 := by
  unfold plUp at h
  rw [List.getElem?_map] at h
  cases hc : ms[s]? with
  | none => rw [hc] at h; cases h
  | some l => rw [hc] at h; exact ⟨l, rfl, by simpa using h.symm⟩
theorem zip_at {a f : List Int} {s : Nat} {sp : Sp} (h : (List.zip a f)[s]? = some sp) : a[s]? = some sp.1 ∧ f[s]? = some sp.2 := by
  rw [List.getElem?_zip_eq_some] at h
  exact h
theorem zip_ends {a f : List Int} (h : a.length = f.length) (st : Bool) (b e : Int) : ends (ckOf st b e a f) = f := by
  unfold ends ckOf
  exact List.map_snd_zip (by omega)
theorem allP_mem {ms : List (List Int)} {k : Int} (h : allP ms k = true) {l : List Int} (hl : l ∈ ms) : 0 ≤ pl l k := by
  unfold allP at h
  rw [List.all_eq_true] at h
  simpa using h l hl
theorem allP_of {ms : List (List Int)} {k : Int} (h : ∀ l ∈ ms, 0 ≤ pl l k) : allP ms k = true := by
  unfold allP
  rw [List.all_eq_true]
  intro l hl
  simpa using h l hl
theorem pl_get {l : List Int} {k : Int} (h : 0 ≤ pl l k) : l[k.toNat]? = some (pl l k) := by
  unfold pl at *
  cases hc : l[k.toNat]? with
  | none => rw [hc] at h; simp at h
  | some v => rfl
/-- Matches rise. -/
theorem rises {m : Nat} {l : List Int} {z i j : Int} (h : IsMatch m l z) (hi0 : 0 ≤ i) (hij : i < j) (hi : 0 ≤ pl l i) (hj : 0 ≤ pl l j) : pl l i < pl l j := by
  have gi := pl_get hi
  have gj := pl_get hj
  obtain ⟨hi1, hi2⟩ := List.getElem?_eq_some_iff.1 gi
  obtain ⟨hj1, hj2⟩ := List.getElem?_eq_some_iff.1 gj
  have := (List.pairwise_iff_getElem.1 h.2.2) i.toNat j.toNat hi1 hj1 (by omega)
  rw [hi2, hj2] at this
  exact this (by omega) (by omega)
theorem pl_lt {m : Nat} {l : List Int} {z i : Int} (h : IsMatch m l z) (hi : 0 ≤ pl l i) : pl l i < z :=
  (h.2.1 _ (List.mem_of_getElem? (pl_get hi)) (by omega)).2

/-- Chunks have come as far as place b of the base, and the places a of the sides. -/
structure CutIn (m : Nat) (sizes : List Int) (ms : List (List Int)) (cs : List Ck) (p : Option Bool) (b : Int) (a : List Int) : Prop where
  cont : ∀ rest, Cov m sizes rest p b a → Cov m sizes (cs ++ rest) none 0 (List.replicate sizes.length 0)
  places : ∀ c ∈ cs, Places ms c
  len : a.length = sizes.length
  b0 : 0 ≤ b
  bm : b ≤ m
  mode : (p = none ∧ b = 0 ∧ a = List.replicate sizes.length 0) ∨ (p = some true ∧ 0 < b ∧ allP ms (b - 1) = true ∧ a = plUp ms (b - 1) ∧ (b < m → ∃ l ∈ ms, pl l b ≠ pl l (b - 1) + 1))

section
variable {m : Nat} {sizes : List Int} {ms : List (List Int)} {cs : List Ck} {p : Option Bool} {b : Int} {a : List Int}
theorem CutIn.start (m : Nat) (sizes : List Int) (ms : List (List Int)) : CutIn m sizes ms [] none 0 (List.replicate sizes.length 0) :=
  ⟨fun rest h => h, fun c h => by simp at h, by simp, Int.le_refl _, by omega, .inl ⟨rfl, rfl, rfl⟩⟩
theorem empty_parts {st : Bool} {b e : Int} {a f : List Int} (h : emptyB (ckOf st b e a f) = true) : ¬ b < e ∧ ∀ (s : Nat) (u v : Int), a[s]? = some u → f[s]? = some v → ¬ u < v := by
  unfold emptyB ckOf at h
  simp only [Bool.not_eq_true', Bool.or_eq_false_iff, decide_eq_false_iff_not, List.any_eq_false, decide_eq_true_eq] at h
  refine ⟨h.1, fun s u v hu hv => ?_⟩
  exact h.2 (u, v) (List.mem_of_getElem? (List.getElem?_zip_eq_some.2 ⟨hu, hv⟩))
theorem full_of {st : Bool} {b e : Int} {a f : List Int} (h : b < e) : emptyB (ckOf st b e a f) = false := by
  unfold emptyB ckOf
  simp [h]
theorem head_of {st : Bool} {b e : Int} {a f : List Int} {p : Option Bool} (hl : a.length = f.length) (hbe : b ≤ e) (hp : p ≠ some st) (hf : emptyB (ckOf st b e a f) = false)
    (hs : ∀ (s : Nat) (u v : Int), a[s]? = some u → f[s]? = some v → u ≤ v ∧ (st = true → v - u = e - b)) : Head (ckOf st b e a f) p b a := by
  refine ⟨rfl, hbe, ?_, hp, hf, fun s sp v h1 h2 => ?_⟩
  · show (List.zip a f).length = a.length
    rw [List.length_zip]
    omega
  · obtain ⟨q1, q2⟩ := zip_at h1
    rw [h2] at q1
    injection q1 with q1
    obtain ⟨q3, q4⟩ := hs s v sp.2 h2 q2
    exact ⟨q1.symm, q3, fun h => by rw [← q1]; exact q4 h⟩
/-- Sides go on, never back. -/
theorem CutIn.ahead (hm : ∀ (k : Nat) (l : List Int) (z : Int), ms[k]? = some l → sizes[k]? = some z → IsMatch m l z) (hml : ms.length = sizes.length) (h : CutIn m sizes ms cs p b a) {e : Int} (hbe : b ≤ e) (he : allP ms e = true) {s : Nat} {u : Int} {l : List Int} (hu : a[s]? = some u) (hl : ms[s]? = some l) : u ≤ pl l e := by
  have hle := allP_mem he (List.mem_of_getElem? hl)
  rcases h.mode with ⟨-, -, rfl⟩ | ⟨-, h0, h1, rfl, -⟩
  · rw [List.getElem?_replicate] at hu
    split at hu
    · injection hu with hu; omega
    · cases hu
  · obtain ⟨l', hl', rfl⟩ := plUp_at hu
    rw [hl] at hl'
    injection hl' with hl'
    subst hl'
    have hs := (List.getElem?_eq_some_iff.1 hl).1
    have hz : sizes[s]? = some sizes[s] := List.getElem?_eq_getElem (by omega)
    have := rises (hm s l _ hl hz) (i := b - 1) (j := e) (by omega) (by omega) (allP_mem h1 (List.mem_of_getElem? hl)) hle
    omega

/-- What isn't stable, up to a run, and the run. -/
theorem CutIn.step (hm : ∀ (k : Nat) (l : List Int) (z : Int), ms[k]? = some l → sizes[k]? = some z → IsMatch m l z) (hml : ms.length = sizes.length) (h : CutIn m sizes ms cs p b a) {e t : Int} (hbe : b ≤ e) (het : e < t) (htm : t ≤ m)
    (hno : ∀ k, b ≤ k → k < e → allP ms k = false) (he : allP ms e = true) (hrun : ∀ k, e < k → k < t → ∀ l ∈ ms, pl l k = pl l (k - 1) + 1) (hend : t < m → ∃ l ∈ ms, pl l t ≠ pl l (t - 1) + 1) :
    CutIn m sizes ms (putC (putC cs (ckOf false b e a (plAll ms e))) (ckOf true e t (plAll ms e) (plUp ms (t - 1)))) (some true) t (plUp ms (t - 1)) := by
  have hpl : ∀ (d : Nat), e + d < t → ∀ l ∈ ms, pl l (e + d) = pl l e + d := by
    intro d
    induction d with
    | zero => intro _ l _; simp
    | succ d ih =>
      intro hd l hl
      have h1 := ih (by push_cast at hd; omega) l hl
      have h2 := hrun (e + (d + 1 : Nat)) (by push_cast; omega) hd l hl
      rw [show e + ((d + 1 : Nat) : Int) - 1 = e + d by push_cast; omega, h1] at h2
      rw [h2]; push_cast; omega
  have hpk : ∀ k, e ≤ k → k < t → ∀ l ∈ ms, pl l k = pl l e + (k - e) := by
    intro k h1 h2 l hl
    have := hpl (k - e).toNat (by omega) l hl
    rw [show e + ((k - e).toNat : Int) = k by omega] at this
    rw [this]; omega
  have hst : ∀ k, e ≤ k → k < t → allP ms k = true := fun k h1 h2 => allP_of fun l hl => by
    rw [hpk k h1 h2 l hl]
    have := allP_mem he hl
    omega
  have hlen := h.len
  have hl1 : a.length = (plAll ms e).length := by rw [plAll_len]; omega
  have hl2 : (plAll ms e).length = (plUp ms (t - 1)).length := by rw [plAll_len, plUp_len]
  have hc2 : emptyB (ckOf true e t (plAll ms e) (plUp ms (t - 1))) = false := full_of het
  have hb0 := h.b0
  have hP1 : Places ms (ckOf false b e a (plAll ms e)) := fun k h1 h2 => ⟨hno k h1 h2, fun h => by cases h⟩
  have hP2 : Places ms (ckOf true e t (plAll ms e) (plUp ms (t - 1))) := fun k h1 h2 => ⟨hst k h1 h2, fun _ s l sp hl hs => by
    obtain ⟨q1, q2⟩ := zip_at hs
    obtain ⟨l', hl', e1⟩ := plAll_at q1
    rw [hl] at hl'
    injection hl' with hl'
    subst hl'
    have := hpk k h1 h2 l (List.mem_of_getElem? hl)
    have e2 : (ckOf true e t (plAll ms e) (plUp ms (t - 1))).2.1.1 = e := rfl
    rw [e2, e1]
    omega⟩
  have hH2 : ∀ q, q ≠ some true → Head (ckOf true e t (plAll ms e) (plUp ms (t - 1))) q e (plAll ms e) := fun q hq =>
    head_of hl2 (by omega) hq hc2 fun s u v hu hv => by
      obtain ⟨l, hl, rfl⟩ := plAll_at hu
      obtain ⟨l', hl', rfl⟩ := plUp_at hv
      rw [hl] at hl'
      injection hl' with hl'
      subst hl'
      have := hpk (t - 1) (by omega) (by omega) l (List.mem_of_getElem? hl)
      exact ⟨by omega, fun _ => by omega⟩
  have hmode : (some true : Option Bool) = none ∧ t = 0 ∧ plUp ms (t - 1) = List.replicate sizes.length 0 ∨ (some true : Option Bool) = some true ∧ 0 < t ∧ allP ms (t - 1) = true ∧ plUp ms (t - 1) = plUp ms (t - 1) ∧ (t < m → ∃ l ∈ ms, pl l t ≠ pl l (t - 1) + 1) :=
    .inr ⟨rfl, by omega, hst _ (by omega) (by omega), rfl, hend⟩
  have hzip2 : ends (ckOf true e t (plAll ms e) (plUp ms (t - 1))) = plUp ms (t - 1) := zip_ends hl2 _ _ _
  by_cases hem : emptyB (ckOf false b e a (plAll ms e)) = true
  · obtain ⟨p1, p2⟩ := empty_parts hem
    obtain rfl : b = e := by omega
    have ha : a = plAll ms b := by
      refine List.ext_getElem? fun s => ?_
      rcases Nat.lt_or_ge s a.length with hs | hs
      · have hu : a[s]? = some a[s] := List.getElem?_eq_getElem hs
        have hl : ms[s]? = some ms[s] := List.getElem?_eq_getElem (by omega)
        have hv : (plAll ms b)[s]? = some (pl ms[s] b) := by unfold plAll; rw [List.getElem?_map, hl]; rfl
        have k1 := h.ahead hm hml (Int.le_refl b) he hu hl
        have k2 := p2 s _ _ hu hv
        rw [hu, hv]
        congr 1
        omega
      · rw [List.getElem?_eq_none hs, List.getElem?_eq_none (by omega)]
    have hpn : p ≠ some true := by
      intro hp
      rcases h.mode with ⟨q, -, -⟩ | ⟨-, q0, q1, q2, q3⟩
      · rw [q] at hp; cases hp
      · obtain ⟨l, hl, hne⟩ := q3 (by omega)
        obtain ⟨s, hs⟩ := List.mem_iff_getElem?.1 hl
        have e1 : a[s]? = some (pl l b) := by rw [ha]; unfold plAll; rw [List.getElem?_map, hs]; rfl
        have e2 : a[s]? = some (pl l (b - 1) + 1) := by rw [q2]; unfold plUp; rw [List.getElem?_map, hs]; rfl
        rw [e1] at e2
        injection e2 with e2
        exact hne e2
    unfold putC
    rw [if_pos hem, if_neg (by rw [hc2]; simp)]
    refine ⟨fun rest hr => ?_, fun c hc => ?_, by rw [plUp_len]; omega, by omega, by omega, hmode⟩
    · rw [List.append_assoc]
      refine h.cont _ ⟨?_, ?_⟩
      · rw [ha]; exact hH2 p hpn
      · rw [hzip2]; exact hr
    · rcases List.mem_append.1 hc with hc | hc
      · exact h.places c hc
      · rw [List.mem_singleton.1 hc]; exact hP2
  · have hemf : emptyB (ckOf false b e a (plAll ms e)) = false := by simpa using hem
    unfold putC
    rw [if_neg hem, if_neg (by rw [hc2]; simp)]
    refine ⟨fun rest hr => ?_, fun c hc => ?_, by rw [plUp_len]; omega, by omega, by omega, hmode⟩
    · rw [List.append_assoc, List.append_assoc]
      refine h.cont _ ⟨head_of hl1 hbe ?_ hemf fun s u v hu hv => ?_, ?_⟩
      · rcases h.mode with ⟨q, -, -⟩ | ⟨q, -⟩ <;> rw [q] <;> simp
      · obtain ⟨l, hl, rfl⟩ := plAll_at hv
        exact ⟨h.ahead hm hml hbe he hu hl, fun h => by cases h⟩
      · rw [zip_ends hl1]
        exact ⟨hH2 _ (by show some false ≠ some true; simp), by rw [hzip2]; exact hr⟩
    · rcases List.mem_append.1 hc with hc | hc
      · rcases List.mem_append.1 hc with hc | hc
        · exact h.places c hc
        · rw [List.mem_singleton.1 hc]; exact hP1
      · rw [List.mem_singleton.1 hc]; exact hP2

/-- What lies behind the last run. -/
theorem CutIn.finish (hm : ∀ (k : Nat) (l : List Int) (z : Int), ms[k]? = some l → sizes[k]? = some z → IsMatch m l z) (hml : ms.length = sizes.length) (hz : ∀ z ∈ sizes, 0 ≤ z) (h : CutIn m sizes ms cs p b a)
    (hno : ∀ k, b ≤ k → k < m → allP ms k = false) : IsCut m sizes ms (putC cs (ckOf false b m a sizes)) := by
  have hlen := h.len
  have hbm := h.bm
  have hle : ∀ (s : Nat) (u z : Int), a[s]? = some u → sizes[s]? = some z → u ≤ z := by
    intro s u z hu hzs
    rcases h.mode with ⟨-, -, rfl⟩ | ⟨-, h0, h1, rfl, -⟩
    · rw [List.getElem?_replicate] at hu
      split at hu
      · injection hu with hu
        have := hz z (List.mem_of_getElem? hzs)
        omega
      · cases hu
    · obtain ⟨l, hl, rfl⟩ := plUp_at hu
      have := pl_lt (hm s l z hl hzs) (allP_mem h1 (List.mem_of_getElem? hl))
      omega
  have hP : Places ms (ckOf false b m a sizes) := fun k h1 h2 => ⟨hno k h1 h2, fun h => by cases h⟩
  by_cases hem : emptyB (ckOf false b m a sizes) = true
  · obtain ⟨p1, p2⟩ := empty_parts hem
    have ha : a = sizes := by
      refine List.ext_getElem? fun s => ?_
      rcases Nat.lt_or_ge s a.length with hs | hs
      · have hu : a[s]? = some a[s] := List.getElem?_eq_getElem hs
        have hv : sizes[s]? = some sizes[s] := List.getElem?_eq_getElem (by omega)
        have k1 := hle s _ _ hu hv
        have k2 := p2 s _ _ hu hv
        rw [hu, hv]
        congr 1
        omega
      · rw [List.getElem?_eq_none hs, List.getElem?_eq_none (by omega)]
    unfold putC
    rw [if_pos hem]
    refine ⟨?_, h.places⟩
    have := h.cont [] ⟨ha, by omega⟩
    rwa [List.append_nil] at this
  · have hemf : emptyB (ckOf false b m a sizes) = false := by simpa using hem
    unfold putC
    rw [if_neg hem]
    refine ⟨h.cont _ ⟨head_of (by omega) hbm ?_ hemf fun s u v hu hv => ⟨hle s u v hu hv, fun h => by cases h⟩, ?_⟩, fun c hc => ?_⟩
    · rcases h.mode with ⟨q, -, -⟩ | ⟨q, -⟩ <;> rw [q] <;> simp
    · rw [zip_ends (by omega)]
      exact ⟨rfl, rfl⟩
    · rcases List.mem_append.1 hc with hc | hc
      · exact h.places c hc
      · rw [List.mem_singleton.1 hc]; exact hP
end
end Go.Proofs.YtoephlkfejcadaaGreat

/- Proved here: texts joined: ContPure, Pure. -/
import Derived.Test.YtidfhgocnglnjaaBz02
import Derived.WalkKit
import Derived.Lib.Bytealg
/- Proved here, without conditions: plain facts on the contents that differ from a base, each once. -/
namespace Go.Proofs.Ytidfhgocnglnjaa
set_option linter.unusedVariables false

/-- A text; texts. -/
abbrev Tx := List UInt8
abbrev Txs := List Tx

def diffStep (base : Txs) (out : List Txs) (p : Txs) : List Txs := if p = base ∨ p ∈ out then out else out ++ [p]
/-- The parts that differ from the base, each once. -/
def diffs (base : Txs) (ps : List Txs) : List Txs := ps.foldl (diffStep base) []
def kindN (base : Txs) (ps : List Txs) : Nat := min (diffs base ps).length 2

section
variable {base : Txs} {ps out : List Txs}
theorem diffs_snoc (base : Txs) (ps : List Txs) (p : Txs) : diffs base (ps ++ [p]) = diffStep base (diffs base ps) p := by
  unfold diffs
  rw [List.foldl_append]
  rfl
theorem mem_fold (q : Txs) : ∀ (ps out : List Txs), q ∈ ps.foldl (diffStep base) out ↔ q ∈ out ∨ (q ∈ ps ∧ q ≠ base)
  | [], out => by simp
  | p :: ps, out => by
    rw [List.foldl_cons, mem_fold q ps]
    unfold diffStep
    split
    · rename_i h
      constructor
      · rintro (h1 | ⟨h1, h2⟩)
        · exact .inl h1
        · exact .inr ⟨List.mem_cons_of_mem _ h1, h2⟩
      · rintro (h1 | ⟨h1, h2⟩)
        · exact .inl h1
        · rcases List.mem_cons.1 h1 with rfl | h1
          · rcases h with h | h
            · exact absurd h h2
            · exact .inl h
          · exact .inr ⟨h1, h2⟩
    · rename_i h
      constructor
      · rintro (h1 | ⟨h1, h2⟩)
        · rcases List.mem_append.1 h1 with h1 | h1
          · exact .inl h1
          · rw [List.mem_singleton] at h1
            subst h1
            exact .inr ⟨List.mem_cons_self .., fun e => h (.inl e)⟩
        · exact .inr ⟨List.mem_cons_of_mem _ h1, h2⟩
      · rintro (h1 | ⟨h1, h2⟩)
        · exact .inl (List.mem_append.2 (.inl h1))
        · rcases List.mem_cons.1 h1 with rfl | h1
          · exact .inl (by simp)
          · exact .inr ⟨h1, h2⟩
theorem mem_diffs {q : Txs} : q ∈ diffs base ps ↔ q ∈ ps ∧ q ≠ base := by
  unfold diffs
  rw [mem_fold]
  simp
theorem nodup_fold : ∀ (ps out : List Txs), out.Nodup → (ps.foldl (diffStep base) out).Nodup
  | [], out, h => h
  | p :: ps, out, h => by
    rw [List.foldl_cons]
    refine nodup_fold ps _ ?_
    unfold diffStep
    split
    · exact h
    · rename_i h2
      refine List.nodup_append.2 ⟨h, by simp, fun a ha b hb => ?_⟩
      rw [List.mem_singleton] at hb
      subst hb
      rintro rfl
      exact h2 (.inr ha)
theorem nodup_diffs : (diffs base ps).Nodup := nodup_fold ps [] List.nodup_nil
theorem diffs_old {p : Txs} (h : p = base ∨ p ∈ ps) : diffs base (ps ++ [p]) = diffs base ps := by
  rw [diffs_snoc]
  unfold diffStep
  rw [if_pos]
  rcases h with h | h
  · exact .inl h
  · by_cases e : p = base
    · exact .inl e
    · exact .inr (mem_diffs.2 ⟨h, e⟩)
theorem diffs_new {p : Txs} (h : p ≠ base) (h2 : p ∉ ps) : diffs base (ps ++ [p]) = diffs base ps ++ [p] := by
  rw [diffs_snoc]
  unfold diffStep
  rw [if_neg]
  rintro (e | e)
  · exact h e
  · exact h2 (mem_diffs.1 e).1
theorem diffs_len (base : Txs) (ps : List Txs) : (diffs base ps).length ≤ ps.length := (nodup_diffs (base := base) (ps := ps)).length_le_of_subset fun q hq => (mem_diffs.1 hq).1
/-- In whatever turn. -/
theorem diffs_turn {qs : List Txs} (h : ∀ q, q ∈ ps ↔ q ∈ qs) : (diffs base ps).length = (diffs base qs).length := by
  have h1 := (nodup_diffs (base := base) (ps := ps)).length_le_of_subset (l₂ := diffs base qs) fun q hq => mem_diffs.2 ⟨(h q).1 (mem_diffs.1 hq).1, (mem_diffs.1 hq).2⟩
  have h2 := (nodup_diffs (base := base) (ps := qs)).length_le_of_subset (l₂ := diffs base ps) fun q hq => mem_diffs.2 ⟨(h q).2 (mem_diffs.1 hq).1, (mem_diffs.1 hq).2⟩
  omega
theorem turn_mem (ps : List Txs) (n : Nat) (q : Txs) : q ∈ ps.drop n ++ ps.take n ↔ q ∈ ps := by
  conv => rhs; rw [← List.take_append_drop n ps]
  simp only [List.mem_append]
  exact Or.comm
theorem diffs_more {n : Nat} {p : Txs} (h : ps[n]? = some p) : diffs base (ps ++ [p, base]) = diffs base ps := by
  rw [show ps ++ [p, base] = (ps ++ [p]) ++ [base] by simp, diffs_old (.inl rfl), diffs_old (.inr (List.mem_of_getElem? h))]
/-- Two of three are the same. -/
def pairOk (base x y : Txs) : Prop := x = base ∨ y = base ∨ x = y
theorem diffs_one : (diffs base ps).length ≤ 1 ↔ ∀ x ∈ ps, ∀ y ∈ ps, pairOk base x y := by
  constructor
  · intro h x hx y hy
    by_cases h1 : x = base
    · exact .inl h1
    · by_cases h2 : y = base
      · exact .inr (.inl h2)
      · have k1 : x ∈ diffs base ps := mem_diffs.2 ⟨hx, h1⟩
        have k2 : y ∈ diffs base ps := mem_diffs.2 ⟨hy, h2⟩
        match hd : diffs base ps, h, k1, k2 with
        | [], _, k1, _ => simp at k1
        | [d], _, k1, k2 =>
          rw [List.mem_singleton] at k1 k2
          exact .inr (.inr (k1.trans k2.symm))
        | _ :: _ :: _, h, _, _ => simp at h
  · intro h
    match hd : diffs base ps with
    | [] => simp
    | [d] => simp
    | d :: e :: l =>
      exfalso
      have hn := nodup_diffs (base := base) (ps := ps)
      rw [hd] at hn
      have h1 := mem_diffs.1 (show d ∈ diffs base ps by rw [hd]; simp)
      have h2 := mem_diffs.1 (show e ∈ diffs base ps by rw [hd]; simp)
      rcases h d h1.1 e h2.1 with k | k | k
      · exact h1.2 k
      · exact h2.2 k
      · subst k
        simp at hn
theorem diffs_zero : (diffs base ps).length = 0 ↔ ∀ x ∈ ps, x = base := by
  constructor
  · intro h x hx
    by_cases e : x = base
    · exact e
    · have := List.length_pos_of_mem (mem_diffs.2 ⟨hx, e⟩)
      omega
  · intro h
    match hd : diffs base ps with
    | [] => rfl
    | d :: l =>
      have h1 := mem_diffs.1 (show d ∈ diffs base ps by rw [hd]; simp)
      exact absurd (h d h1.1) h1.2
/-- The base, and what differs, have each part once. -/
theorem once {p : Txs} (h : p ∈ ps) : (base :: diffs base ps).count p = 1 := by
  have hn : (base :: diffs base ps).Nodup := List.nodup_cons.2 ⟨fun hm => (mem_diffs.1 hm).2 rfl, nodup_diffs⟩
  rw [hn.count, if_pos]
  by_cases e : p = base
  · rw [e]; exact List.mem_cons_self ..
  · exact List.mem_cons_of_mem _ (mem_diffs.2 ⟨h, e⟩)
theorem pairs_at : (∀ (i k : Nat) (x y : Txs), k < i → ps[i]? = some x → ps[k]? = some y → pairOk base x y) ↔ ∀ x ∈ ps, ∀ y ∈ ps, pairOk base x y := by
  constructor
  · intro h x hx y hy
    obtain ⟨i, hi⟩ := List.mem_iff_getElem?.1 hx
    obtain ⟨k, hk⟩ := List.mem_iff_getElem?.1 hy
    rcases Nat.lt_trichotomy k i with hlt | rfl | hlt
    · exact h i k x y hlt hi hk
    · rw [hi] at hk
      injection hk with hk
      exact .inr (.inr hk)
    · rcases h k i y x hlt hk hi with e | e | e
      · exact .inr (.inl e)
      · exact .inl e
      · exact .inr (.inr e.symm)
  · intro h i k x y _ hi hk
    exact h x (List.mem_of_getElem? hi) y (List.mem_of_getElem? hk)
end
end Go.Proofs.Ytidfhgocnglnjaa
/- Proved here, without conditions: plain facts on lists of bytes and their lines (no word of the program). -/
namespace Go.Proofs.Ytidfhgocnglnjaa

/-- Where the first line of l ends. -/
def fe : List UInt8 → Nat
  | [] => 0
  | c :: r => if c = 10 then 1 else fe r + 1

/-- Is the last byte a line feed? -/
def endedB (l : List UInt8) : Bool := l.getLast? == some 10

/-- The lines of l. -/
def splitL : List UInt8 → List (List UInt8)
  | [] => []
  | c :: r => if c = 10 then [c] :: splitL r else match splitL r with
    | [] => [[c]]
    | x :: xs => (c :: x) :: xs

theorem fe_le (l : List UInt8) : fe l ≤ l.length := by
  induction l with
  | nil => simp [fe]
  | cons c r ih => unfold fe; split <;> simp <;> omega

theorem fe_pos {l : List UInt8} (h : l ≠ []) : 0 < fe l := by
  cases l with
  | nil => exact absurd rfl h
  | cons c r => unfold fe; split <;> omega

theorem splitL_step {l : List UInt8} (h : l ≠ []) : splitL l = l.take (fe l) :: splitL (l.drop (fe l)) := by
  induction l with
  | nil => exact absurd rfl h
  | cons c r ih =>
    by_cases hc : c = 10
    · simp [splitL, fe, hc]
    · cases r with
      | nil => simp [splitL, fe, hc]
      | cons d t =>
        have := ih (by simp)
        rw [splitL, fe, if_neg hc, if_neg hc, this]
        simp

theorem fe_index (l : List UInt8) : (fe l : Int) = if 0 ≤ Lib.indexByte l 10 then Lib.indexByte l 10 + 1 else l.length := by
  induction l with
  | nil => simp [fe, Lib.indexByte]
  | cons c r ih =>
    have hlo : -1 ≤ Lib.indexByte r 10 := Lib.indexByte_ge r 10
    by_cases hc : c = 10
    · simp [fe, Lib.indexByte, hc]
    · have hb : (c == 10) = false := by simpa using hc
      rw [fe, if_neg hc, Lib.indexByte, hb]
      by_cases h1 : Lib.indexByte r 10 = -1
      · rw [h1] at ih ⊢
        simp at ih ⊢
        omega
      · have h2 : (Lib.indexByte r 10 == -1) = false := by simpa using h1
        have h0 : 0 ≤ Lib.indexByte r 10 := by omega
        rw [if_pos h0] at ih
        simp only [h2]
        simp only [Bool.false_eq_true, if_false]
        rw [if_pos (by omega)]
        push_cast
        omega

theorem splitL_join (l : List UInt8) : (splitL l).flatten = l := by
  induction l with
  | nil => rfl
  | cons c r ih =>
    unfold splitL
    split
    · simp [ih]
    · split
      · next h => rw [h] at ih; simp at ih; simp [← ih]
      · next h => rw [h] at ih; simp at ih ⊢; exact ih

/-- May the list be the lines of something? -/
def mayB : List (List UInt8) → Bool
  | [] => true
  | s :: r => !s.isEmpty && !decide (fe s < s.length) && (r.isEmpty || endedB s) && mayB r

/-- All texts of all lists. -/
def joinL (sss : List (List (List UInt8))) : List UInt8 := (sss.map List.flatten).flatten
theorem flat_take {ss : List (List UInt8)} {j : Nat} {t : List UInt8} (h : ss[j]? = some t) : (ss.take (j + 1)).flatten = (ss.take j).flatten ++ t := by
  rw [take_at h]; simp
theorem join_take {sss : List (List (List UInt8))} {k : Nat} {ss : List (List UInt8)} (h : sss[k]? = some ss) : joinL (sss.take (k + 1)) = joinL (sss.take k) ++ ss.flatten := by
  unfold joinL; rw [take_at h]; simp
theorem flat_len (ss : List (List UInt8)) (j : Nat) : (ss.take j).flatten.length ≤ ss.flatten.length := by
  conv => rhs; rw [← List.take_append_drop j ss]
  rw [List.flatten_append, List.length_append]
  omega
theorem join_len (sss : List (List (List UInt8))) (k : Nat) : (joinL (sss.take k)).length ≤ (joinL sss).length := by
  unfold joinL
  conv => rhs; rw [← List.take_append_drop k sss]
  rw [List.map_append, List.flatten_append, List.length_append]
  omega
theorem join_room {sss : List (List (List UInt8))} {k j : Nat} {ss : List (List UInt8)} {t : List UInt8} (h : sss[k]? = some ss) (h' : ss[j]? = some t) : (joinL (sss.take k)).length + (ss.take j).flatten.length + t.length ≤ (joinL sss).length := by
  have h1 := join_len sss (k + 1)
  have h2 := flat_len ss (j + 1)
  rw [join_take h, List.length_append] at h1
  rw [flat_take h', List.length_append] at h2
  omega

theorem splitL_seg {seg : List UInt8} (h : ∀ c ∈ seg, c ≠ 10) (rest : List UInt8) : splitL (seg ++ 10 :: rest) = (seg ++ [10]) :: splitL rest := by
  induction seg with
  | nil => simp [splitL]
  | cons c r ih =>
    have hc : c ≠ 10 := h c (by simp)
    rw [List.cons_append, splitL, if_neg hc, ih (fun d hd => h d (by simp [hd]))]
    simp
theorem splitL_one {l : List UInt8} (h : ∀ c ∈ l, c ≠ 10) (hne : l ≠ []) : splitL l = [l] := by
  induction l with
  | nil => exact absurd rfl hne
  | cons c r ih =>
    have hc : c ≠ 10 := h c (by simp)
    cases r with
    | nil => simp [splitL, hc]
    | cons d t =>
      rw [splitL, if_neg hc, ih (fun d hd => h d (by simp [hd])) (by simp)]

/-- Has the list texts, and is the last one not ended? -/
def openB (ss : List (List UInt8)) : Bool := match ss.getLast? with | none => false | some t => !endedB t

theorem splitL_nil {l : List UInt8} (h : splitL l = []) : l = [] := by
  have := splitL_join l
  rw [h] at this
  exact this.symm
theorem ended_cons (c : UInt8) {x : List UInt8} (h : x ≠ []) : endedB (c :: x) = endedB x := by
  cases x with
  | nil => exact absurd rfl h
  | cons d t => simp [endedB]
theorem open_cons (s : List UInt8) {ss : List (List UInt8)} (h : ss ≠ []) : openB (s :: ss) = openB ss := by
  cases ss with
  | nil => exact absurd rfl h
  | cons d t => simp [openB, List.getLast?_cons_cons]

theorem may_split (l : List UInt8) : mayB (splitL l) = true := by
  induction l with
  | nil => rfl
  | cons c r ih =>
    by_cases hc : c = 10
    · subst hc
      simp [splitL, mayB, ih, endedB, fe]
    · rw [splitL, if_neg hc]
      cases h : splitL r with
      | nil => simp [mayB, fe, hc]
      | cons x xs =>
        rw [h] at ih
        simp only [mayB, Bool.and_eq_true, Bool.not_eq_true'] at ih
        have hx : x ≠ [] := by have := ih.1.1.1; intro e; rw [e] at this; cases this
        simp only [mayB, ended_cons c hx, fe, if_neg hc, List.length_cons]
        have h2 := ih.1.1.2
        simp at h2
        simp [ih.1.2, ih.2]
        omega
theorem open_split (l : List UInt8) : openB (splitL l) = (!l.isEmpty && !endedB l) := by
  induction l with
  | nil => rfl
  | cons c r ih =>
    by_cases hc : c = 10
    · subst hc
      rw [splitL, if_pos rfl]
      by_cases hr : r = []
      · subst hr; rfl
      · rw [open_cons _ (fun e => hr (splitL_nil e)), ih, ended_cons _ hr]
        simp [hr]
    · rw [splitL, if_neg hc]
      cases h : splitL r with
      | nil =>
        have := splitL_nil h
        subst this
        simp [openB, endedB]
      | cons x xs =>
        rw [h] at ih
        have hr : r ≠ [] := by rintro rfl; simp [splitL] at h
        have hx : x ≠ [] := by
          have := may_split r
          rw [h] at this
          simp only [mayB, Bool.and_eq_true, Bool.not_eq_true'] at this
          intro e; rw [e] at this; exact absurd this.1.1.1 (by simp)
        rw [ended_cons _ hr]
        have e : openB ((c :: x) :: xs) = openB (x :: xs) := by
          cases xs with
          | nil => simp [openB, ended_cons c hx]
          | cons y ys => rw [open_cons (c :: x) (by simp : y :: ys ≠ []), open_cons x (by simp : y :: ys ≠ [])]
        dsimp only
        rw [e, ih]
        simp [hr]

end Go.Proofs.Ytidfhgocnglnjaa

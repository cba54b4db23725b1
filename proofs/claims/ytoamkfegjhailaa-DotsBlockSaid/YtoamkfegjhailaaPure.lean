/- Proved here, without conditions: plain facts on lists of bytes and their lines (no word of the program). -/
import Derived.Lib.Bytealg
namespace Go.Proofs.Ytoamkfegjhailaa

/-- Where the first line of l ends. -/
def fe : List UInt8 → Nat
  | [] => 0
  | c :: r => if c = 10 then 1 else fe r + 1

/-- Is the last byte a line feed? -/
def endedB (l : List UInt8) : Bool := l.getLast? == some 10

/-- The lines of l. -/
def splitL : List UInt8 → List (List UInt8)
  | [] => []
  | c :: r => if c = 10 then [c] :: splitL r else match splitL r with
    | [] => [[c]]
    | x :: xs => (c :: x) :: xs

theorem fe_le (l : List UInt8) : fe l ≤ l.length := by
  induction l with
  | nil => simp [fe]
  | cons c r ih => unfold fe; split <;> simp <;> omega

theorem fe_pos {l : List UInt8} (h : l ≠ []) : 0 < fe l := by
  cases l with
  | nil => exact absurd rfl h
  | cons c r => unfold fe; split <;> omega

theorem splitL_step {l : List UInt8} (h : l ≠ []) : splitL l = l.take (fe l) :: splitL (l.drop (fe l)) := by
  induction l with
  | nil => exact absurd rfl h
  | cons c r ih =>
    by_cases hc : c = 10
    · simp [splitL, fe, hc]
    · cases r with
      | nil => simp [splitL, fe, hc]
      | cons d t =>
        have := ih (by simp)
        rw [splitL, fe, if_neg hc, if_neg hc, this]
        simp

theorem fe_index (l : List UInt8) : (fe l : Int) = if 0 ≤ Lib.indexByte l 10 then Lib.indexByte l 10 + 1 else l.length := by
  induction l with
  | nil => simp [fe, Lib.indexByte]
  | cons c r ih =>
    have hlo : -1 ≤ Lib.indexByte r 10 := Lib.indexByte_ge r 10
    by_cases hc : c = 10
    · simp [fe, Lib.indexByte, hc]
    · have hb : (c == 10) = false := by simpa using hc
      rw [fe, if_neg hc, Lib.indexByte, hb]
      by_cases h1 : Lib.indexByte r 10 = -1
      · rw [h1] at ih ⊢
        simp at ih ⊢
        omega
      · have h2 : (Lib.indexByte r 10 == -1) = false := by simpa using h1
        have h0 : 0 ≤ Lib.indexByte r 10 := by omega
        rw [if_pos h0] at ih
        simp only [h2]
        simp only [Bool.false_eq_true, if_false]
        rw [if_pos (by omega)]
        push_cast
        omega

theorem splitL_join (l : List UInt8) : (splitL l).flatten = l := by
  induction l with
  | nil => rfl
  | cons c r ih =>
    unfold splitL
    split
    · simp [ih]
    · split
      · next h => rw [h] at ih; simp at ih; simp [← ih]
      · next h => rw [h] at ih; simp at ih ⊢; exact ih

/-- May the list be the lines of something? -/
def mayB : List (List UInt8) → Bool
  | [] => true
  | s :: r => !s.isEmpty && !decide (fe s < s.length) && (r.isEmpty || endedB s) && mayB r

theorem drop_at {α : Type} {ss : List α} {k : Nat} {s : α} (h : ss[k]? = some s) : ss.drop k = s :: ss.drop (k + 1) := by
  obtain ⟨hk, rfl⟩ := List.getElem?_eq_some_iff.1 h
  exact (List.drop_eq_getElem_cons hk)

/-- All texts of all lists. -/
def joinL (sss : List (List (List UInt8))) : List UInt8 := (sss.map List.flatten).flatten
theorem take_at {α : Type} {ss : List α} {k : Nat} {s : α} (h : ss[k]? = some s) : ss.take (k + 1) = ss.take k ++ [s] := by
  obtain ⟨hk, rfl⟩ := List.getElem?_eq_some_iff.1 h
  rw [List.take_succ_eq_append_getElem hk]
theorem flat_take {ss : List (List UInt8)} {j : Nat} {t : List UInt8} (h : ss[j]? = some t) : (ss.take (j + 1)).flatten = (ss.take j).flatten ++ t := by
  rw [take_at h]; simp
theorem join_take {sss : List (List (List UInt8))} {k : Nat} {ss : List (List UInt8)} (h : sss[k]? = some ss) : joinL (sss.take (k + 1)) = joinL (sss.take k) ++ ss.flatten := by
  unfold joinL; rw [take_at h]; simp
theorem flat_len (ss : List (List UInt8)) (j : Nat) : (ss.take j).flatten.length ≤ ss.flatten.length := by
  conv => rhs; rw [← List.take_append_drop j ss]
  rw [List.flatten_append, List.length_append]
  omega
theorem join_len (sss : List (List (List UInt8))) (k : Nat) : (joinL (sss.take k)).length ≤ (joinL sss).length := by
  unfold joinL
  conv => rhs; rw [← List.take_append_drop k sss]
  rw [List.map_append, List.flatten_append, List.length_append]
  omega
theorem join_room {sss : List (List (List UInt8))} {k j : Nat} {ss : List (List UInt8)} {t : List UInt8} (h : sss[k]? = some ss) (h' : ss[j]? = some t) : (joinL (sss.take k)).length + (ss.take j).flatten.length + t.length ≤ (joinL sss).length := by
  have h1 := join_len sss (k + 1)
  have h2 := flat_len ss (j + 1)
  rw [join_take h, List.length_append] at h1
  rw [flat_take h', List.length_append] at h2
  omega

theorem splitL_seg {seg : List UInt8} (h : ∀ c ∈ seg, c ≠ 10) (rest : List UInt8) : splitL (seg ++ 10 :: rest) = (seg ++ [10]) :: splitL rest := by
  induction seg with
  | nil => simp [splitL]
  | cons c r ih =>
    have hc : c ≠ 10 := h c (by simp)
    rw [List.cons_append, splitL, if_neg hc, ih (fun d hd => h d (by simp [hd]))]
    simp
theorem splitL_one {l : List UInt8} (h : ∀ c ∈ l, c ≠ 10) (hne : l ≠ []) : splitL l = [l] := by
  induction l with
  | nil => exact absurd rfl hne
  | cons c r ih =>
    have hc : c ≠ 10 := h c (by simp)
    cases r with
    | nil => simp [splitL, hc]
    | cons d t =>
      rw [splitL, if_neg hc, ih (fun d hd => h d (by simp [hd])) (by simp)]

/-- Has the list texts, and is the last one not ended? -/
def openB (ss : List (List UInt8)) : Bool := match ss.getLast? with | none => false | some t => !endedB t

theorem splitL_nil {l : List UInt8} (h : splitL l = []) : l = [] := by
  have := splitL_join l
  rw [h] at this
  exact this.symm
theorem ended_cons (c : UInt8) {x : List UInt8} (h : x ≠ []) : endedB (c :: x) = endedB x := by
  cases x with
  | nil => exact absurd rfl h
  | cons d t => simp [endedB]
theorem open_cons (s : List UInt8) {ss : List (List UInt8)} (h : ss ≠ []) : openB (s :: ss) = openB ss := by
  cases ss with
  | nil => exact absurd rfl h
  | cons d t => simp [openB, List.getLast?_cons_cons]

theorem may_split (l : List UInt8) : mayB (splitL l) = true := by
  induction l with
  | nil => rfl
  | cons c r ih =>
    by_cases hc : c = 10
    · subst hc
      simp [splitL, mayB, ih, endedB, fe]
    · rw [splitL, if_neg hc]
      cases h : splitL r with
      | nil => simp [mayB, fe, hc]
      | cons x xs =>
        rw [h] at ih
        simp only [mayB, Bool.and_eq_true, Bool.not_eq_true'] at ih
        have hx : x ≠ [] := by have := ih.1.1.1; intro e; rw [e] at this; cases this
        simp only [mayB, ended_cons c hx, fe, if_neg hc, List.length_cons]
        have h2 := ih.1.1.2
        simp at h2
        simp [ih.1.2, ih.2]
        omega
theorem open_split (l : List UInt8) : openB (splitL l) = (!l.isEmpty && !endedB l) := by
  induction l with
  | nil => rfl
  | cons c r ih =>
    by_cases hc : c = 10
    · subst hc
      rw [splitL, if_pos rfl]
      by_cases hr : r = []
      · subst hr; rfl
      · rw [open_cons _ (fun e => hr (splitL_nil e)), ih, ended_cons _ hr]
        simp [hr]
    · rw [splitL, if_neg hc]
      cases h : splitL r with
      | nil =>
        have := splitL_nil h
        subst this
        simp [openB, endedB]
      | cons x xs =>
        rw [h] at ih
        have hr : r ≠ [] := by rintro rfl; simp [splitL] at h
        have hx : x ≠ [] := by
          have := may_split r
          rw [h] at this
          simp only [mayB, Bool.and_eq_true, Bool.not_eq_true'] at this
          intro e; rw [e] at this; exact absurd this.1.1.1 (by simp)
        rw [ended_cons _ hr]
        have e : openB ((c :: x) :: xs) = openB (x :: xs) := by
          cases xs with
          | nil => simp [openB, ended_cons c hx]
          | cons y ys => rw [open_cons (c :: x) (by simp : y :: ys ≠ []), open_cons x (by simp : y :: ys ≠ [])]
        dsimp only
        rw [e, ih]
        simp [hr]

end Go.Proofs.Ytoamkfegjhailaa

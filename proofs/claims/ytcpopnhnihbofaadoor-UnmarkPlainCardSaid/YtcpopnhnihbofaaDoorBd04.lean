/- Proved here: texts joined: SizePure, Pure. -/
import Derived.Test.YtcpopnhnihbofaaDoorBd02
import Derived.Test.YtcpopnhnihbofaaDoorBd03
import Derived.Lib.Bytealg
/- Proved here, without conditions: plain facts on marks' sizes (layer 11): runs of signs; what fits. -/
namespace Go.Proofs.YtcpopnhnihbofaaDoor
set_option linter.unusedVariables false

/-- Is a byte a marker sign? -/
def signB (c : UInt8) : Bool := c == 60 || c == 124 || c == 61 || c == 62
/-- How many bytes a text begins with that are the same marker sign. -/
def runN : Tx → Nat
  | [] => 0
  | c :: s => if signB c = true then 1 + (s.takeWhile fun x => x == c).length else 0
def maxR (n : Nat) (l : Txs) : Nat := l.foldl (fun n t => max n (runN t + 1)) n
def autoN (files : List Txs) : Nat := maxR 7 files.flatten
def fitsB (size : Int) (files : List Txs) : Bool := decide (1 ≤ size) && files.flatten.all fun t => decide ((runN t : Int) < size)

section
variable {n k : Nat} {l : Txs} {t s : Tx} {files a b : List Txs} {c : UInt8}
theorem run_cons (c : UInt8) (s : Tx) : runN (c :: s) = if signB c = true then 1 + (s.takeWhile fun x => x == c).length else 0 := rfl
theorem run_le : ∀ t : Tx, runN t ≤ t.length
  | [] => Nat.le_refl _
  | c :: s => by
    have h := (List.takeWhile_sublist (l := s) (fun x => x == c)).length_le
    rw [run_cons, List.length_cons]
    split <;> omega
theorem maxR_ge : ∀ {l : Txs} {n : Nat}, n ≤ maxR n l ∧ ∀ t ∈ l, runN t + 1 ≤ maxR n l
  | [], n => ⟨Nat.le_refl _, fun t h => by cases h⟩
  | t :: l, n => by
    obtain ⟨h1, h2⟩ := maxR_ge (l := l) (n := max n (runN t + 1))
    refine ⟨?_, fun x hx => ?_⟩
    · show n ≤ maxR (max n (runN t + 1)) l
      omega
    · show runN x + 1 ≤ maxR (max n (runN t + 1)) l
      rcases List.mem_cons.1 hx with rfl | hx
      · omega
      · exact h2 x hx
theorem maxR_is : ∀ {l : Txs} {n : Nat}, maxR n l = n ∨ ∃ t ∈ l, maxR n l = runN t + 1
  | [], n => .inl rfl
  | t :: l, n => by
    rcases maxR_is (l := l) (n := max n (runN t + 1)) with h | ⟨x, hx, h⟩
    · have e : maxR n (t :: l) = max n (runN t + 1) := h
      rcases Nat.le_total n (runN t + 1) with h' | h'
      · exact .inr ⟨t, List.mem_cons_self .., by rw [e, Nat.max_eq_right h']⟩
      · exact .inl (by rw [e, Nat.max_eq_left h'])
    · exact .inr ⟨x, List.mem_cons_of_mem _ hx, h⟩
theorem maxR_max : ∀ {l : Txs} {n m : Nat}, maxR (max n m) l = max n (maxR m l)
  | [], n, m => rfl
  | t :: l, n, m => by
    show maxR (max (max n m) (runN t + 1)) l = max n (maxR (max m (runN t + 1)) l)
    rw [Nat.max_assoc, maxR_max]
theorem maxR_append (n : Nat) (l m : Txs) : maxR n (l ++ m) = maxR (maxR n l) m := by unfold maxR; rw [List.foldl_append]
/-- OF MORE FILES IT IS THE GREATER ONE. -/
theorem auto_more : autoN (a ++ b) = max (autoN a) (autoN b) := by
  unfold autoN
  rw [List.flatten_append, maxR_append]
  have h := (maxR_ge (l := a.flatten) (n := 7)).1
  conv => lhs; rw [show maxR 7 a.flatten = max (maxR 7 a.flatten) 7 by omega]
  exact maxR_max
theorem auto_ge : 7 ≤ autoN files := maxR_ge.1
theorem fits_iff {z : Int} : fitsB z files = true ↔ 1 ≤ z ∧ ∀ t ∈ files.flatten, (runN t : Int) < z := by
  unfold fitsB
  rw [Bool.and_eq_true, decide_eq_true_eq, List.all_eq_true]
  exact ⟨fun h => ⟨h.1, fun t ht => by simpa using h.2 t ht⟩, fun h => ⟨h.1, fun t ht => by simpa using h.2 t ht⟩⟩
/-- WHAT IS TOLD FITS, AND ALL THAT IS LONGER; WHAT IS SHORTER DOESN'T. -/
theorem fits_auto (k : Nat) : fitsB ((autoN files : Int) + k) files = true := fits_iff.2 ⟨by have := auto_ge (files := files); omega, fun t ht => by
  have := (maxR_ge (l := files.flatten) (n := 7)).2 t ht
  unfold autoN
  omega⟩
theorem fits_less (h : autoN files ≠ 7) : fitsB ((autoN files : Int) - 1) files = false := by
  rcases maxR_is (l := files.flatten) (n := 7) with h' | ⟨t, ht, h'⟩
  · exact absurd h' h
  · cases hf : fitsB ((autoN files : Int) - 1) files with
    | false => rfl
    | true =>
      have := (fits_iff.1 hf).2 t ht
      unfold autoN at this
      omega
theorem takeW_take (P : UInt8 → Bool) : ∀ (s : Tx) (k : Nat), ((s.take k).takeWhile P).length = min k (s.takeWhile P).length
  | [], k => by simp
  | x :: s, 0 => by simp
  | x :: s, k + 1 => by
    have := takeW_take P s k
    rw [List.take_succ_cons, List.takeWhile_cons, List.takeWhile_cons]
    split
    · rw [List.length_cons, List.length_cons, this]; omega
    · simp
theorem run_take : ∀ (t : Tx) (k : Nat), runN (t.take k) = min k (runN t)
  | [], k => by simp [runN]
  | c :: s, 0 => by simp [runN]
  | c :: s, k + 1 => by
    rw [List.take_succ_cons, run_cons, run_cons]
    split
    · rw [takeW_take]; omega
    · simp
theorem run_marks (hc : signB c = true) : ∀ (k : Nat), k ≤ runN (List.replicate k c ++ s)
  | 0 => Nat.zero_le _
  | k + 1 => by
    rw [List.replicate_succ, List.cons_append, run_cons, if_pos hc]
    have : ∀ k : Nat, k ≤ ((List.replicate k c ++ s).takeWhile fun x => x == c).length := by
      intro k
      induction k with
      | zero => exact Nat.zero_le _
      | succ k ih =>
        rw [List.replicate_succ, List.cons_append, List.takeWhile_cons, if_pos (by simp), List.length_cons]
        omega
    have := this k
    omega
/-- A MARK OF A SIZE THAT FITS IS THE BEGIN OF NO TEXT. -/
theorem fits_mark (h : fitsB k files = true) (ht : t ∈ files.flatten) : runN (t.take k) ≠ k ∨ t.length < k := by
  have h1 := (fits_iff.1 h).2 t ht
  rw [run_take]
  left
  omega
theorem fits_begin (hc : signB c = true) : fitsB k (files ++ [[List.replicate k c ++ s]]) = false := by
  cases hf : fitsB k (files ++ [[List.replicate k c ++ s]]) with
  | false => rfl
  | true =>
    have h1 := (fits_iff.1 hf).2 (List.replicate k c ++ s) (by simp)
    have h2 := run_marks (s := s) hc k
    omega
end
end Go.Proofs.YtcpopnhnihbofaaDoor
/- Proved here, without conditions: plain facts on lists of bytes and their lines (no word of the program). -/
namespace Go.Proofs.YtcpopnhnihbofaaDoor

/-- Where the first line of l ends. -/
def fe : List UInt8 → Nat
  | [] => 0
  | c :: r => if c = 10 then 1 else fe r + 1

/-- Is the last byte a line feed? -/
def endedB (l : List UInt8) : Bool := l.getLast? == some 10

/-- The lines of l. -/
def splitL : List UInt8 → List (List UInt8)
  | [] => []
  | c :: r => if c = 10 then [c] :: splitL r else match splitL r with
    | [] => [[c]]
    | x :: xs => (c :: x) :: xs

theorem fe_le (l : List UInt8) : fe l ≤ l.length := by
  induction l with
  | nil => simp [fe]
  | cons c r ih => unfold fe; split <;> simp <;> omega

theorem fe_pos {l : List UInt8} (h : l ≠ []) : 0 < fe l := by
  cases l with
  | nil => exact absurd rfl h
  | cons c r => unfold fe; split <;> omega

theorem splitL_step {l : List UInt8} (h : l ≠ []) : splitL l = l.take (fe l) :: splitL (l.drop (fe l)) := by
  induction l with
  | nil => exact absurd rfl h
  | cons c r ih =>
    by_cases hc : c = 10
    · simp [splitL, fe, hc]
    · cases r with
      | nil => simp [splitL, fe, hc]
      | cons d t =>
        have := ih (by simp)
        rw [splitL, fe, if_neg hc, if_neg hc, this]
        simp

theorem fe_index (l : List UInt8) : (fe l : Int) = if 0 ≤ Lib.indexByte l 10 then Lib.indexByte l 10 + 1 else l.length := by
  induction l with
  | nil => simp [fe, Lib.indexByte]
  | cons c r ih =>
    have hlo : -1 ≤ Lib.indexByte r 10 := Lib.indexByte_ge r 10
    by_cases hc : c = 10
    · simp [fe, Lib.indexByte, hc]
    · have hb : (c == 10) = false := by simpa using hc
      rw [fe, if_neg hc, Lib.indexByte, hb]
      by_cases h1 : Lib.indexByte r 10 = -1
      · rw [h1] at ih ⊢
        simp at ih ⊢
        omega
      · have h2 : (Lib.indexByte r 10 == -1) = false := by simpa using h1
        have h0 : 0 ≤ Lib.indexByte r 10 := by omega
        rw [if_pos h0] at ih
        simp only [h2]
        simp only [Bool.false_eq_true, if_false]
        rw [if_pos (by omega)]
        push_cast
        omega

theorem splitL_join (l : List UInt8) : (splitL l).flatten = l := by
  induction l with
  | nil => rfl
  | cons c r ih =>
    unfold splitL
    split
    · simp [ih]
    · split
      · next h => rw [h] at ih; simp at ih; simp [← ih]
      · next h => rw [h] at ih; simp at ih ⊢; exact ih

/-- May the list be the lines of something? -/
def mayB : List (List UInt8) → Bool
  | [] => true
  | s :: r => !s.isEmpty && !decide (fe s < s.length) && (r.isEmpty || endedB s) && mayB r

/-- All texts of all lists. -/
def joinL (sss : List (List (List UInt8))) : List UInt8 := (sss.map List.flatten).flatten
theorem flat_take {ss : List (List UInt8)} {j : Nat} {t : List UInt8} (h : ss[j]? = some t) : (ss.take (j + 1)).flatten = (ss.take j).flatten ++ t := by
  rw [take_at h]; simp
theorem join_take {sss : List (List (List UInt8))} {k : Nat} {ss : List (List UInt8)} (h : sss[k]? = some ss) : joinL (sss.take (k + 1)) = joinL (sss.take k) ++ ss.flatten := by
  unfold joinL; rw [take_at h]; simp
theorem flat_len (ss : List (List UInt8)) (j : Nat) : (ss.take j).flatten.length ≤ ss.flatten.length := by
  conv => rhs; rw [← List.take_append_drop j ss]
  rw [List.flatten_append, List.length_append]
  omega
theorem join_len (sss : List (List (List UInt8))) (k : Nat) : (joinL (sss.take k)).length ≤ (joinL sss).length := by
  unfold joinL
  conv => rhs; rw [← List.take_append_drop k sss]
  rw [List.map_append, List.flatten_append, List.length_append]
  omega
theorem join_room {sss : List (List (List UInt8))} {k j : Nat} {ss : List (List UInt8)} {t : List UInt8} (h : sss[k]? = some ss) (h' : ss[j]? = some t) : (joinL (sss.take k)).length + (ss.take j).flatten.length + t.length ≤ (joinL sss).length := by
  have h1 := join_len sss (k + 1)
  have h2 := flat_len ss (j + 1)
  rw [join_take h, List.length_append] at h1
  rw [flat_take h', List.length_append] at h2
  omega

theorem splitL_seg {seg : List UInt8} (h : ∀ c ∈ seg, c ≠ 10) (rest : List UInt8) : splitL (seg ++ 10 :: rest) = (seg ++ [10]) :: splitL rest := by
  induction seg with
  | nil => simp [splitL]
  | cons c r ih =>
    have hc : c ≠ 10 := h c (by simp)
    rw [List.cons_append, splitL, if_neg hc, ih (fun d hd => h d (by simp [hd]))]
    simp
theorem splitL_one {l : List UInt8} (h : ∀ c ∈ l, c ≠ 10) (hne : l ≠ []) : splitL l = [l] := by
  induction l with
  | nil => exact absurd rfl hne
  | cons c r ih =>
    have hc : c ≠ 10 := h c (by simp)
    cases r with
    | nil => simp [splitL, hc]
    | cons d t =>
      rw [splitL, if_neg hc, ih (fun d hd => h d (by simp [hd])) (by simp)]

/-- Has the list texts, and is the last one not ended? -/
def openB (ss : List (List UInt8)) : Bool := match ss.getLast? with | none => false | some t => !endedB t

theorem splitL_nil {l : List UInt8} (h : splitL l = []) : l = [] := by
  have := splitL_join l
  rw [h] at this
  exact this.symm
theorem ended_cons (c : UInt8) {x : List UInt8} (h : x ≠ []) : endedB (c :: x) = endedB x := by
  cases x with
  | nil => exact absurd rfl h
  | cons d t => simp [endedB]
theorem open_cons (s : List UInt8) {ss : List (List UInt8)} (h : ss ≠ []) : openB (s :: ss) = openB ss := by
  cases ss with
  | nil => exact absurd rfl h
  | cons d t => simp [openB, List.getLast?_cons_cons]

theorem may_split (l : List UInt8) : mayB (splitL l) = true := by
  induction l with
  | nil => rfl
  | cons c r ih =>
    by_cases hc : c = 10
    · subst hc
      simp [splitL, mayB, ih, endedB, fe]
    · rw [splitL, if_neg hc]
      cases h : splitL r with
      | nil => simp [mayB, fe, hc]
      | cons x xs =>
        rw [h] at ih
        simp only [mayB, Bool.and_eq_true, Bool.not_eq_true'] at ih
        have hx : x ≠ [] := by have := ih.1.1.1; intro e; rw [e] at this; cases this
        simp only [mayB, ended_cons c hx, fe, if_neg hc, List.length_cons]
        have h2 := ih.1.1.2
        simp at h2
        simp [ih.1.2, ih.2]
        omega
theorem open_split (l : List UInt8) : openB (splitL l) = (!l.isEmpty && !endedB l) := by
  induction l with
  | nil => rfl
  | cons c r ih =>
    by_cases hc : c = 10
    · subst hc
      rw [splitL, if_pos rfl]
      by_cases hr : r = []
      · subst hr; rfl
      · rw [open_cons _ (fun e => hr (splitL_nil e)), ih, ended_cons _ hr]
        simp [hr]
    · rw [splitL, if_neg hc]
      cases h : splitL r with
      | nil =>
        have := splitL_nil h
        subst this
        simp [openB, endedB]
      | cons x xs =>
        rw [h] at ih
        have hr : r ≠ [] := by rintro rfl; simp [splitL] at h
        have hx : x ≠ [] := by
          have := may_split r
          rw [h] at this
          simp only [mayB, Bool.and_eq_true, Bool.not_eq_true'] at this
          intro e; rw [e] at this; exact absurd this.1.1.1 (by simp)
        rw [ended_cons _ hr]
        have e : openB ((c :: x) :: xs) = openB (x :: xs) := by
          cases xs with
          | nil => simp [openB, ended_cons c hx]
          | cons y ys => rw [open_cons (c :: x) (by simp : y :: ys ≠ []), open_cons x (by simp : y :: ys ≠ [])]
        dsimp only
        rw [e, ih]
        simp [hr]

end Go.Proofs.YtcpopnhnihbofaaDoor

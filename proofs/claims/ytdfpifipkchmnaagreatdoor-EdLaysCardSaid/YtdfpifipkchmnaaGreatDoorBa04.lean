/- Proved here: texts joined: SizePure, Pure, PickPure. -/
import Derived.Test.YtdfpifipkchmnaaGreatDoorBa02
import Derived.Test.YtdfpifipkchmnaaGreatDoorBa03
import Derived.Lib.Bytealg
/- Proved here, without conditions: plain facts on marks' sizes (layer 11): runs of signs; what fits. -/
namespace Go.Proofs.YtdfpifipkchmnaaGreatDoor
set_option linter.unusedVariables false

/-- Is a byte a marker sign? -/
def signB (c : UInt8) : Bool := c == 60 || c == 124 || c == 61 || c == 62
/-- How many bytes a text begins with that are the same marker sign. -/
def runN : Tx → Nat
  | [] => 0
  | c :: s => if signB c = true then 1 + (s.takeWhile fun x => x == c).length else 0
def maxR (n : Nat) (l : Txs) : Nat := l.foldl (fun n t => max n (runN t + 1)) n
def autoN (files : List Txs) : Nat := maxR 7 files.flatten
def fitsB (size : Int) (files : List Txs) : Bool := decide (1 ≤ size) && files.flatten.all fun t => decide ((runN t : Int) < size)

section
variable {n k : Nat} {l : Txs} {t s : Tx} {files a b : List Txs} {c : UInt8}
theorem run_cons (c : UInt8) (s : Tx) : runN (c :: s) = if signB c = true then 1 + (s.takeWhile fun x => x == c).length else 0 := rfl
theorem run_le : ∀ t : Tx, runN t ≤ t.length
  | [] => Nat.le_refl _
  | c :: s => by
    have h := (List.takeWhile_sublist (l := s) (fun x => x == c)).length_le
    rw [run_cons, List.length_cons]
    split <;> omega
theorem maxR_ge : ∀ {l : Txs} {n : Nat}, n ≤ maxR n l ∧ ∀ t ∈ l, runN t + 1 ≤ maxR n l
  | [], n => ⟨Nat.le_refl _, fun t h => by cases h⟩
  | t :: l, n => by
    obtain ⟨h1, h2⟩ := maxR_ge (l := l) (n := max n (runN t + 1))
    refine ⟨?_, fun x hx => ?_⟩
    · show n ≤ maxR (max n (runN t + 1)) l
      omega
    · show runN x + 1 ≤ maxR (max n (runN t + 1)) l
      rcases List.mem_cons.1 hx with rfl | hx
      · omega
      · exact h2 x hx
theorem maxR_is : ∀ {l : Txs} {n : Nat}, maxR n l = n ∨ ∃ t ∈ l, maxR n l = runN t + 1
  | [], n => .inl rfl
  | t :: l, n => by
    rcases maxR_is (l := l) (n := max n (runN t + 1)) with h | ⟨x, hx, h⟩
    · have e : maxR n (t :: l) = max n (runN t + 1) := h
      rcases Nat.le_total n (runN t + 1) with h' | h'
      · exact .inr ⟨t, List.mem_cons_self .., by rw [e, Nat.max_eq_right h']⟩
      · exact .inl (by rw [e, Nat.max_eq_left h'])
    · exact .inr ⟨x, List.mem_cons_of_mem _ hx, h⟩
theorem maxR_max : ∀ {l : Txs} {n m : Nat}, maxR (max n m) l = max n (maxR m l)
  | [], n, m => rfl
  | t :: l, n, m => by
    show maxR (max (max n m) (runN t + 1)) l = max n (maxR (max m (runN t + 1)) l)
    rw [Nat.max_assoc, maxR_max]
theorem maxR_append (n : Nat) (l m : Txs) : maxR n (l ++ m) = maxR (maxR n l) m := by unfold maxR; rw [List.foldl_append]
/-- OF MORE FILES IT IS THE GREATER ONE. -/
theorem auto_more : autoN (a ++ b) = max (autoN a) (autoN b) := by
  unfold autoN
  rw [List.flatten_append, maxR_append]
  have h := (maxR_ge (l := a.flatten) (n := 7)).1
  conv => lhs; rw [show maxR 7 a.flatten = max (maxR 7 a.flatten) 7 by omega]
  exact maxR_max
theorem auto_ge : 7 ≤ autoN files := maxR_ge.1
theorem fits_iff {z : Int} : fitsB z files = true ↔ 1 ≤ z ∧ ∀ t ∈ files.flatten, (runN t : Int) < z := by
  unfold fitsB
  rw [Bool.and_eq_true, decide_eq_true_eq, List.all_eq_true]
  exact ⟨fun h => ⟨h.1, fun t ht => by simpa using h.2 t ht⟩, fun h => ⟨h.1, fun t ht => by simpa using h.2 t ht⟩⟩
/-- WHAT IS TOLD FITS, AND ALL THAT IS LONGER; WHAT IS SHORTER DOESN'T. -/
theorem fits_auto (k : Nat) : fitsB ((autoN files : Int) + k) files = true := fits_iff.2 ⟨by have := auto_ge (files := files); omega, fun t ht => by
  have := (maxR_ge (l := files.flatten) (n := 7)).2 t ht
  unfold autoN
  omega⟩
theorem fits_less (h : autoN files ≠ 7) : fitsB ((autoN files : Int) - 1) files = false := by
  rcases maxR_is (l := files.flatten) (n := 7) with h' | ⟨t, ht, h'⟩
  · exact absurd h' h
  · cases hf : fitsB ((autoN files : Int) - 1) files with
    | false => rfl
    | true =>
      have := (fits_iff.1 hf).2 t ht
      unfold autoN at this
      omega
theorem takeW_take (P : UInt8 → Bool) : ∀ (s : Tx) (k : Nat), ((s.take k).takeWhile P).length = min k (s.takeWhile P).length
  | [], k => by simp
  | x :: s, 0 => by simp
  | x :: s, k + 1 => by
    have := takeW_take P s k
    rw [List.take_succ_cons, List.takeWhile_cons, List.takeWhile_cons]
    split
    · rw [List.length_cons, List.length_cons, this]; omega
    · simp
theorem run_take : ∀ (t : Tx) (k : Nat), runN (t.take k) = min k (runN t)
  | [], k => by simp [runN]
  | c :: s, 0 => by simp [runN]
  | c :: s, k + 1 => by
    rw [List.take_succ_cons, run_cons, run_cons]
    split
    · rw [takeW_take]; omega
    · simp
theorem run_marks (hc : signB c = true) : ∀ (k : Nat), k ≤ runN (List.replicate k c ++ s)
  | 0 => Nat.zero_le _
  | k + 1 => by
    rw [List.replicate_succ, List.cons_append, run_cons, if_pos hc]
    have : ∀ k : Nat, k ≤ ((List.replicate k c ++ s).takeWhile fun x => x == c).length := by
      intro k
      induction k with
      | zero => exact Nat.zero_le _
      | succ k ih =>
        rw [List.replicate_succ, List.cons_append, List.takeWhile_cons, if_pos (by simp), List.length_cons]
        omega
    have := this k
    omega
/-- A MARK OF A SIZE THAT FITS IS THE BEGIN OF NO TEXT. -/
theorem fits_mark (h : fitsB k files = true) (ht : t ∈ files.flatten) : runN (t.take k) ≠ k ∨ t.length < k := by
  have h1 := (fits_iff.1 h).2 t ht
  rw [run_take]
  left
  omega
theorem fits_begin (hc : signB c = true) : fitsB k (files ++ [[List.replicate k c ++ s]]) = false := by
  cases hf : fitsB k (files ++ [[List.replicate k c ++ s]]) with
  | false => rfl
  | true =>
    have h1 := (fits_iff.1 hf).2 (List.replicate k c ++ s) (by simp)
    have h2 := run_marks (s := s) hc k
    omega
end
end Go.Proofs.YtdfpifipkchmnaaGreatDoor
/- Proved here, without conditions: plain facts on lists of bytes and their lines (no word of the program). -/
namespace Go.Proofs.YtdfpifipkchmnaaGreatDoor

/-- Where the first line of l ends. -/
def fe : List UInt8 → Nat
  | [] => 0
  | c :: r => if c = 10 then 1 else fe r + 1

/-- Is the last byte a line feed? -/
def endedB (l : List UInt8) : Bool := l.getLast? == some 10

/-- The lines of l. -/
def splitL : List UInt8 → List (List UInt8)
  | [] => []
  | c :: r => if c = 10 then [c] :: splitL r else match splitL r with
    | [] => [[c]]
    | x :: xs => (c :: x) :: xs

theorem fe_le (l : List UInt8) : fe l ≤ l.length := by
  induction l with
  | nil => simp [fe]
  | cons c r ih => unfold fe; split <;> simp <;> omega

theorem fe_pos {l : List UInt8} (h : l ≠ []) : 0 < fe l := by
  cases l with
  | nil => exact absurd rfl h
  | cons c r => unfold fe; split <;> omega

theorem splitL_step {l : List UInt8} (h : l ≠ []) : splitL l = l.take (fe l) :: splitL (l.drop (fe l)) := by
  induction l with
  | nil => exact absurd rfl h
  | cons c r ih =>
    by_cases hc : c = 10
    · simp [splitL, fe, hc]
    · cases r with
      | nil => simp [splitL, fe, hc]
      | cons d t =>
        have := ih (by simp)
        rw [splitL, fe, if_neg hc, if_neg hc, this]
        simp

theorem fe_index (l : List UInt8) : (fe l : Int) = if 0 ≤ Lib.indexByte l 10 then Lib.indexByte l 10 + 1 else l.length := by
  induction l with
  | nil => simp [fe, Lib.indexByte]
  | cons c r ih =>
    have hlo : -1 ≤ Lib.indexByte r 10 := Lib.indexByte_ge r 10
    by_cases hc : c = 10
    · simp [fe, Lib.indexByte, hc]
    · have hb : (c == 10) = false := by simpa using hc
      rw [fe, if_neg hc, Lib.indexByte, hb]
      by_cases h1 : Lib.indexByte r 10 = -1
      · rw [h1] at ih ⊢
        simp at ih ⊢
        omega
      · have h2 : (Lib.indexByte r 10 == -1) = false := by simpa using h1
        have h0 : 0 ≤ Lib.indexByte r 10 := by omega
        rw [if_pos h0] at ih
        simp only [h2]
        simp only [Bool.false_eq_true, if_false]
        rw [if_pos (by omega)]
        push_cast
        omega

theorem splitL_join (l : List UInt8) : (splitL l).flatten = l := by
  induction l with
  | nil => rfl
  | cons c r ih =>
    unfold splitL
    split
    · simp [ih]
    · split
      · next h => rw [h] at ih; simp at ih; simp [← ih]
      · next h => rw [h] at ih; simp at ih ⊢; exact ih

/-- May the list be the lines of something? -/
def mayB : List (List UInt8) → Bool
  | [] => true
  | s :: r => !s.isEmpty && !decide (fe s < s.length) && (r.isEmpty || endedB s) && mayB r

/-- All texts of all lists. -/
def joinL (sss : List (List (List UInt8))) : List UInt8 := (sss.map List.flatten).flatten
theorem flat_take {ss : List (List UInt8)} {j : Nat} {t : List UInt8} (h : ss[j]? = some t) : (ss.take (j + 1)).flatten = (ss.take j).flatten ++ t := by
  rw [take_at h]; simp
theorem join_take {sss : List (List (List UInt8))} {k : Nat} {ss : List (List UInt8)} (h : sss[k]? = some ss) : joinL (sss.take (k + 1)) = joinL (sss.take k) ++ ss.flatten := by
  unfold joinL; rw [take_at h]; simp
theorem flat_len (ss : List (List UInt8)) (j : Nat) : (ss.take j).flatten.length ≤ ss.flatten.length := by
  conv => rhs; rw [← List.take_append_drop j ss]
  rw [List.flatten_append, List.length_append]
  omega
theorem join_len (sss : List (List (List UInt8))) (k : Nat) : (joinL (sss.take k)).length ≤ (joinL sss).length := by
  unfold joinL
  conv => rhs; rw [← List.take_append_drop k sss]
  rw [List.map_append, List.flatten_append, List.length_append]
  omega
theorem join_room {sss : List (List (List UInt8))} {k j : Nat} {ss : List (List UInt8)} {t : List UInt8} (h : sss[k]? = some ss) (h' : ss[j]? = some t) : (joinL (sss.take k)).length + (ss.take j).flatten.length + t.length ≤ (joinL sss).length := by
  have h1 := join_len sss (k + 1)
  have h2 := flat_len ss (j + 1)
  rw [join_take h, List.length_append] at h1
  rw [flat_take h', List.length_append] at h2
  omega

theorem splitL_seg {seg : List UInt8} (h : ∀ c ∈ seg, c ≠ 10) (rest : List UInt8) : splitL (seg ++ 10 :: rest) = (seg ++ [10]) :: splitL rest := by
  induction seg with
  | nil => simp [splitL]
  | cons c r ih =>
    have hc : c ≠ 10 := h c (by simp)
    rw [List.cons_append, splitL, if_neg hc, ih (fun d hd => h d (by simp [hd]))]
    simp
theorem splitL_one {l : List UInt8} (h : ∀ c ∈ l, c ≠ 10) (hne : l ≠ []) : splitL l = [l] := by
  induction l with
  | nil => exact absurd rfl hne
  | cons c r ih =>
    have hc : c ≠ 10 := h c (by simp)
    cases r with
    | nil => simp [splitL, hc]
    | cons d t =>
      rw [splitL, if_neg hc, ih (fun d hd => h d (by simp [hd])) (by simp)]

/-- Has the list texts, and is the last one not ended? -/
def openB (ss : List (List UInt8)) : Bool := match ss.getLast? with | none => false | some t => !endedB t

theorem splitL_nil {l : List UInt8} (h : splitL l = []) : l = [] := by
  have := splitL_join l
  rw [h] at this
  exact this.symm
theorem ended_cons (c : UInt8) {x : List UInt8} (h : x ≠ []) : endedB (c :: x) = endedB x := by
  cases x with
  | nil => exact absurd rfl h
  | cons d t => simp [endedB]
theorem open_cons (s : List UInt8) {ss : List (List UInt8)} (h : ss ≠ []) : openB (s :: ss) = openB ss := by
  cases ss with
  | nil => exact absurd rfl h
  | cons d t => simp [openB, List.getLast?_cons_cons]

theorem may_split (l : List UInt8) : mayB (splitL l) = true := by
  induction l with
  | nil => rfl
  | cons c r ih =>
    by_cases hc : c = 10
    · subst hc
      simp [splitL, mayB, ih, endedB, fe]
    · rw [splitL, if_neg hc]
      cases h : splitL r with
      | nil => simp [mayB, fe, hc]
      | cons x xs =>
        rw [h] at ih
        simp only [mayB, Bool.and_eq_true, Bool.not_eq_true'] at ih
        have hx : x ≠ [] := by have := ih.1.1.1; intro e; rw [e] at this; cases this
        simp only [mayB, ended_cons c hx, fe, if_neg hc, List.length_cons]
        have h2 := ih.1.1.2
        simp at h2
        simp [ih.1.2, ih.2]
        omega
theorem open_split (l : List UInt8) : openB (splitL l) = (!l.isEmpty && !endedB l) := by
  induction l with
  | nil => rfl
  | cons c r ih =>
    by_cases hc : c = 10
    · subst hc
      rw [splitL, if_pos rfl]
      by_cases hr : r = []
      · subst hr; rfl
      · rw [open_cons _ (fun e => hr (splitL_nil e)), ih, ended_cons _ hr]
        simp [hr]
    · rw [splitL, if_neg hc]
      cases h : splitL r with
      | nil =>
        have := splitL_nil h
        subst this
        simp [openB, endedB]
      | cons x xs =>
        rw [h] at ih
        have hr : r ≠ [] := by rintro rfl; simp [splitL] at h
        have hx : x ≠ [] := by
          have := may_split r
          rw [h] at this
          simp only [mayB, Bool.and_eq_true, Bool.not_eq_true'] at this
          intro e; rw [e] at this; exact absurd this.1.1.1 (by simp)
        rw [ended_cons _ hr]
        have e : openB ((c :: x) :: xs) = openB (x :: xs) := by
          cases xs with
          | nil => simp [openB, ended_cons c hx]
          | cons y ys => rw [open_cons (c :: x) (by simp : y :: ys ≠ []), open_cons x (by simp : y :: ys ≠ [])]
        dsimp only
        rw [e, ih]
        simp [hr]

end Go.Proofs.YtdfpifipkchmnaaGreatDoor
/- Proved here, without conditions: plain facts on pieces: texts put together, what is chosen, what all sides' texts are. -/
namespace Go.Proofs.YtdfpifipkchmnaaGreatDoor
set_option linter.unusedVariables false

/-- A piece: is it a conflict, its text, its base, its sides. -/
abbrev Pc := Bool × Txs × Txs × List Txs
instance txsDec : DecidableEq Txs := inferInstance
instance txssDec : DecidableEq (List Txs) := inferInstance
instance pcDec : DecidableEq Pc := instDecidableEqProd
instance pcsDec : DecidableEq (List Pc) := inferInstance
def tPc (t : Txs) : Pc := (false, t, [], [])
def cPc (b : Txs) (s : List Txs) : Pc := (true, [], b, s)

def joinT (t : Txs) : List Pc → List Pc
  | (false, t', b, s) :: r => (false, t ++ t', b, s) :: r
  | r => if t = [] then r else tPc t :: r
/-- Texts that stand side by side are one; empty ones are left out. -/
def normal : List Pc → List Pc
  | [] => []
  | (true, _, b, s) :: l => cPc b s :: normal l
  | (false, t, _, _) :: l => joinT t (normal l)
def cleanB (l : List Pc) : Bool := l.all fun p => !p.1
/-- What is chosen of a piece, and of pieces. -/
def chosen (n : Int) (p : Pc) : Txs := if p.1 = true then (if 1 ≤ n then (p.2.2.2[(n - 1).toNat]?).getD [] else []) else p.2.1
def choose (l : List Pc) (n : Int) : Txs := l.flatMap (chosen n)

/-- An open list's last text gets a line feed. -/
def closed (l : Txs) : Txs := match l.getLast? with | some s => if endedB s then l else l.dropLast ++ [s ++ [10]] | none => l
def unionT : List Txs → Txs
  | [] => []
  | d :: ds => (if ds.any (fun x => !x.isEmpty) then closed d else d) ++ unionT ds
/-- What becomes of a base, and parts. -/
def pieceD (base : Txs) (ps : List Txs) (fav : Int) (un : Bool) : Pc :=
  match diffs base ps with
  | [] => tPc base
  | [d] => tPc d
  | d :: e :: l => if 1 ≤ fav ∧ fav ≤ ps.length then tPc ((ps[(fav - 1).toNat]?).getD []) else if un = true then tPc (unionT (d :: e :: l)) else cPc base ps

section
variable {l r : List Pc} {t t' : Txs} {n : Int}
theorem joinT_append (t t' : Txs) : ∀ r : List Pc, joinT (t ++ t') r = joinT t (joinT t' r)
  | [] => by
    unfold joinT
    by_cases h : t' = []
    · subst h; simp
    · by_cases h2 : t = [] <;> simp [h, h2, tPc]
  | (false, x, b, s) :: r => by simp [joinT]
  | (true, x, b, s) :: r => by
    unfold joinT
    by_cases h : t' = []
    · subst h; simp
    · by_cases h2 : t = [] <;> simp [h, h2, tPc]
theorem joinT_nil : ∀ r : List Pc, joinT [] r = r
  | [] => by simp [joinT]
  | (false, x, b, s) :: r => by simp [joinT]
  | (true, x, b, s) :: r => by simp [joinT]

/-- Pieces that are put together already. -/
def Put : Bool → List Pc → Prop
  | _, [] => True
  | pv, (true, t, b, s) :: l => t = [] ∧ Put false l
  | pv, (false, t, b, s) :: l => pv = false ∧ t ≠ [] ∧ b = [] ∧ s = [] ∧ Put true l
theorem Put.weak : ∀ {l : List Pc} {pv : Bool}, Put true l → Put pv l
  | [], _, _ => trivial
  | (true, t, b, s) :: l, _, h => h
  | (false, t, b, s) :: l, _, h => by cases h.1
theorem put_join (t : Txs) : ∀ {r : List Pc}, Put false r → Put false (joinT t r)
  | [], h => by
    unfold joinT
    by_cases e : t = []
    · simp [e, Put]
    · simp [e, Put, tPc]
  | (false, x, b, s) :: r, h => by
    obtain ⟨h1, h2, h3, h4, h5⟩ := h
    exact ⟨rfl, by simp [h2], h3, h4, h5⟩
  | (true, x, b, s) :: r, h => by
    unfold joinT
    by_cases e : t = []
    · simp only [e, if_true]; exact h
    · simp only [e, if_false]
      exact ⟨rfl, e, rfl, rfl, h⟩
theorem put_normal : ∀ l : List Pc, Put false (normal l)
  | [] => trivial
  | (true, _, b, s) :: l => ⟨rfl, put_normal l⟩
  | (false, t, _, _) :: l => put_join t (put_normal l)
theorem normal_put : ∀ {l : List Pc} {pv : Bool}, Put pv l → normal l = l
  | [], _, _ => rfl
  | (true, t, b, s) :: l, _, h => by
    obtain ⟨rfl, h⟩ := h
    rw [normal, normal_put h]
    rfl
  | (false, t, b, s) :: l, _, h => by
    obtain ⟨h1, h2, rfl, rfl, h5⟩ := h
    rw [normal, normal_put h5]
    match l, h5 with
    | [], _ => simp [joinT, h2, tPc]
    | (true, x, b, s) :: l, _ => simp [joinT, h2, tPc]
    | (false, x, b, s) :: l, h5 => cases h5.1
theorem normal_twice (l : List Pc) : normal (normal l) = normal l := normal_put (put_normal l)
theorem clean_join (t : Txs) : ∀ r : List Pc, cleanB (joinT t r) = cleanB r
  | [] => by by_cases h : t = [] <;> simp [joinT, h, cleanB, tPc]
  | (false, x, b, s) :: r => by simp [joinT, cleanB]
  | (true, x, b, s) :: r => by by_cases h : t = [] <;> simp [joinT, h, cleanB, tPc]
theorem clean_normal : ∀ l : List Pc, cleanB (normal l) = cleanB l
  | [] => rfl
  | (true, _, b, s) :: l => by simp [normal, cleanB, cPc]
  | (false, t, b, s) :: l => by
    rw [normal, clean_join, clean_normal l]
    simp [cleanB]
theorem choose_join (t : Txs) (n : Int) : ∀ r : List Pc, choose (joinT t r) n = t ++ choose r n
  | [] => by
    unfold joinT
    by_cases h : t = [] <;> simp [h, choose, chosen, tPc]
  | (false, x, b, s) :: r => by simp [joinT, choose, chosen]
  | (true, x, b, s) :: r => by
    unfold joinT
    by_cases h : t = [] <;> simp [h, choose, chosen, tPc]
theorem choose_normal (n : Int) : ∀ l : List Pc, choose (normal l) n = choose l n
  | [] => rfl
  | (true, x, b, s) :: l => by
    have := choose_normal n l
    unfold choose at this ⊢
    rw [normal, List.flatMap_cons, List.flatMap_cons, this]
    rfl
  | (false, t, b, s) :: l => by
    rw [normal, choose_join, choose_normal n l]
    rfl
/-- Is a text neither empty nor behind a text? -/
theorem put_at : ∀ {l : List Pc} {pv : Bool} {i : Nat} {p : Pc}, Put pv l → l[i]? = some p → p.1 = false → p.2.1 ≠ [] ∧ (0 < i → ∀ q, l[i - 1]? = some q → q.1 = true) ∧ (i = 0 → pv = false)
  | (true, t, b, s) :: l, pv, 0, p, h, hp, hf => by simp at hp; subst hp; cases hf
  | (false, t, b, s) :: l, pv, 0, p, h, hp, hf => by
    simp at hp
    subst hp
    exact ⟨h.2.1, fun h => absurd h (by omega), fun _ => h.1⟩
  | (c, t, b, s) :: l, pv, i + 1, p, h, hp, hf => by
    have h' : Put (!c) l := by cases c with | true => exact h.2 | false => exact h.2.2.2.2
    obtain ⟨k1, k2, k3⟩ := put_at h' (show l[i]? = some p from by simpa using hp) hf
    refine ⟨k1, fun _ q hq => ?_, fun h => absurd h (by omega)⟩
    rcases Nat.eq_zero_or_pos i with rfl | hi
    · have := k3 rfl
      simp at hq
      subst hq
      simpa using this
    · rw [show i + 1 - 1 = (i - 1) + 1 by omega, List.getElem?_cons_succ] at hq
      exact k2 hi q hq
end

section
variable {base : Txs} {ps : List Txs}
theorem piece_fav {fav : Int} (h1 : 1 ≤ fav) (h2 : fav ≤ ps.length) (un : Bool) : (pieceD base ps fav un).1 = false := by
  unfold pieceD
  match diffs base ps with
  | [] => rfl
  | [d] => rfl
  | d :: e :: l => simp [h1, h2, tPc]
/-- FAVOUR IS A CHOICE. -/
theorem piece_choice {fav : Int} (h1 : 1 ≤ fav) (h2 : fav ≤ ps.length) : choose [pieceD base ps 0 false] fav = (pieceD base ps fav false).2.1 := by
  unfold pieceD
  match diffs base ps with
  | [] => simp [choose, chosen, tPc]
  | [d] => simp [choose, chosen, tPc]
  | d :: e :: l => simp [choose, chosen, tPc, cPc, h1, h2]
theorem piece_union : (pieceD base ps 0 true).1 = false := by
  unfold pieceD
  match diffs base ps with
  | [] => rfl
  | [d] => rfl
  | d :: e :: l => simp [tPc]
theorem closed_len (d : Txs) : (closed d).length = d.length := by
  unfold closed
  match h : d.getLast? with
  | none => rfl
  | some s =>
    dsimp only
    split
    · rfl
    · have : d ≠ [] := by rintro rfl; simp at h
      have := List.length_pos_iff.2 this
      simp
      omega
theorem closed_same {d : Txs} (h : openB d = false) : closed d = d := by
  unfold closed
  unfold openB at h
  match h2 : d.getLast? with
  | none => rfl
  | some s => rw [h2] at h; simp at h; simp [h]
theorem union_len : ∀ ds : List Txs, (unionT ds).length = ds.flatten.length
  | [] => rfl
  | d :: ds => by
    unfold unionT
    rw [List.length_append, union_len ds, List.flatten_cons, List.length_append]
    split
    · rw [closed_len]
    · rfl
theorem union_same : ∀ ds : List Txs, (∀ d ∈ ds, openB d = false) → unionT ds = ds.flatten
  | [], _ => rfl
  | d :: ds, h => by
    unfold unionT
    rw [closed_same (h d (List.mem_cons_self ..)), union_same ds fun e he => h e (List.mem_cons_of_mem _ he), List.flatten_cons]
    split <;> rfl
end
end Go.Proofs.YtdfpifipkchmnaaGreatDoor

/- Proved here: texts joined: Pure, PickPure. -/
import Derived.Test.YtdfpifipkchmnaaDoorBc02
import Derived.Test.YtdfpifipkchmnaaDoorBc04
import Derived.Lib.Bytealg
/- Proved here, without conditions: plain facts on lists of bytes and their lines (no word of the program). -/
namespace Go.Proofs.YtdfpifipkchmnaaDoor

/-- Where the first line of l ends. -/
def fe : List UInt8 → Nat
  | [] => 0
  | c :: r => if c = 10 then 1 else fe r + 1

/-- Is the last byte a line feed? -/
def endedB (l : List UInt8) : Bool := l.getLast? == some 10

/-- The lines of l. -/
def splitL : List UInt8 → List (List UInt8)
  | [] => []
  | c :: r => if c = 10 then [c] :: splitL r else match splitL r with
    | [] => [[c]]
    | x :: xs => (c :: x) :: xs

theorem fe_le (l : List UInt8) : fe l ≤ l.length := by
  induction l with
  | nil => simp [fe]
  | cons c r ih => unfold fe; split <;> simp <;> omega

theorem fe_pos {l : List UInt8} (h : l ≠ []) : 0 < fe l := by
  cases l with
  | nil => exact absurd rfl h
  | cons c r => unfold fe; split <;> omega

theorem splitL_step {l : List UInt8} (h : l ≠ []) : splitL l = l.take (fe l) :: splitL (l.drop (fe l)) := by
  induction l with
  | nil => exact absurd rfl h
  | cons c r ih =>
    by_cases hc : c = 10
    · simp [splitL, fe, hc]
    · cases r with
      | nil => simp [splitL, fe, hc]
      | cons d t =>
        have := ih (by simp)
        rw [splitL, fe, if_neg hc, if_neg hc, this]
        simp

theorem fe_index (l : List UInt8) : (fe l : Int) = if 0 ≤ Lib.indexByte l 10 then Lib.indexByte l 10 + 1 else l.length := by
  induction l with
  | nil => simp [fe, Lib.indexByte]
  | cons c r ih =>
    have hlo : -1 ≤ Lib.indexByte r 10 := Lib.indexByte_ge r 10
    by_cases hc : c = 10
    · simp [fe, Lib.indexByte, hc]
    · have hb : (c == 10) = false := by simpa using hc
      rw [fe, if_neg hc, Lib.indexByte, hb]
      by_cases h1 : Lib.indexByte r 10 = -1
      · rw [h1] at ih ⊢
        simp at ih ⊢
        omega
      · have h2 : (Lib.indexByte r 10 == -1) = false := by simpa using h1
        have h0 : 0 ≤ Lib.indexByte r 10 := by omega
        rw [if_pos h0] at ih
        simp only [h2]
        simp only [Bool.false_eq_true, if_false]
        rw [if_pos (by omega)]
        push_cast
        omega

theorem splitL_join (l : List UInt8) : (splitL l).flatten = l := by
  induction l with
  | nil => rfl
  | cons c r ih =>
    unfold splitL
    split
    · simp [ih]
    · split
      · next h => rw [h] at ih; simp at ih; simp [← ih]
      · next h => rw [h] at ih; simp at ih ⊢; exact ih

/-- May the list be the lines of something? -/
def mayB : List (List UInt8) → Bool
  | [] => true
  | s :: r => !s.isEmpty && !decide (fe s < s.length) && (r.isEmpty || endedB s) && mayB r

/-- All texts of all lists. -/
def joinL (sss : List (List (List UInt8))) : List UInt8 := (sss.map List.flatten).flatten
theorem flat_take {ss : List (List UInt8)} {j : Nat} {t : List UInt8} (h : ss[j]? = some t) : (ss.take (j + 1)).flatten = (ss.take j).flatten ++ t := by
  rw [take_at h]; simp
theorem join_take {sss : List (List (List UInt8))} {k : Nat} {ss : List (List UInt8)} (h : sss[k]? = some ss) : joinL (sss.take (k + 1)) = joinL (sss.take k) ++ ss.flatten := by
  unfold joinL; rw [take_at h]; simp
theorem flat_len (ss : List (List UInt8)) (j : Nat) : (ss.take j).flatten.length ≤ ss.flatten.length := by
  conv => rhs; rw [← List.take_append_drop j ss]
  rw [List.flatten_append, List.length_append]
  omega
theorem join_len (sss : List (List (List UInt8))) (k : Nat) : (joinL (sss.take k)).length ≤ (joinL sss).length := by
  unfold joinL
  conv => rhs; rw [← List.take_append_drop k sss]
  rw [List.map_append, List.flatten_append, List.length_append]
  omega
theorem join_room {sss : List (List (List UInt8))} {k j : Nat} {ss : List (List UInt8)} {t : List UInt8} (h : sss[k]? = some ss) (h' : ss[j]? = some t) : (joinL (sss.take k)).length + (ss.take j).flatten.length + t.length ≤ (joinL sss).length := by
  have h1 := join_len sss (k + 1)
  have h2 := flat_len ss (j + 1)
  rw [join_take h, List.length_append] at h1
  rw [flat_take h', List.length_append] at h2
  omega

theorem splitL_seg {seg : List UInt8} (h : ∀ c ∈ seg, c ≠ 10) (rest : List UInt8) : splitL (seg ++ 10 :: rest) = (seg ++ [10]) :: splitL rest := by
  induction seg with
  | nil => simp [splitL]
  | cons c r ih =>
    have hc : c ≠ 10 := h c (by simp)
    rw [List.cons_append, splitL, if_neg hc, ih (fun d hd => h d (by simp [hd]))]
    simp
theorem splitL_one {l : List UInt8} (h : ∀ c ∈ l, c ≠ 10) (hne : l ≠ []) : splitL l = [l] := by
  induction l with
  | nil => exact absurd rfl hne
  | cons c r ih =>
    have hc : c ≠ 10 := h c (by simp)
    cases r with
    | nil => simp [splitL, hc]
    | cons d t =>
      rw [splitL, if_neg hc, ih (fun d hd => h d (by simp [hd])) (by simp)]

/-- Has the list texts, and is the last one not ended? -/
def openB (ss : List (List UInt8)) : Bool := match ss.getLast? with | none => false | some t => !endedB t

theorem splitL_nil {l : List UInt8} (h : splitL l = []) : l = [] := by
  have := splitL_join l
  rw [h] at this
  exact this.symm
theorem ended_cons (c : UInt8) {x : List UInt8} (h : x ≠ []) : endedB (c :: x) = endedB x := by
  cases x with
  | nil => exact absurd rfl h
  | cons d t => simp [endedB]
theorem open_cons (s : List UInt8) {ss : List (List UInt8)} (h : ss ≠ []) : openB (s :: ss) = openB ss := by
  cases ss with
  | nil => exact absurd rfl h
  | cons d t => simp [openB, List.getLast?_cons_cons]

theorem may_split (l : List UInt8) : mayB (splitL l) = true := by
  induction l with
  | nil => rfl
  | cons c r ih =>
    by_cases hc : c = 10
    · subst hc
      simp [splitL, mayB, ih, endedB, fe]
    · rw [splitL, if_neg hc]
      cases h : splitL r with
      | nil => simp [mayB, fe, hc]
      | cons x xs =>
        rw [h] at ih
        simp only [mayB, Bool.and_eq_true, Bool.not_eq_true'] at ih
        have hx : x ≠ [] := by have := ih.1.1.1; intro e; rw [e] at this; cases this
        simp only [mayB, ended_cons c hx, fe, if_neg hc, List.length_cons]
        have h2 := ih.1.1.2
        simp at h2
        simp [ih.1.2, ih.2]
        omega
theorem open_split (l : List UInt8) : openB (splitL l) = (!l.isEmpty && !endedB l) := by
  induction l with
  | nil => rfl
  | cons c r ih =>
    by_cases hc : c = 10
    · subst hc
      rw [splitL, if_pos rfl]
      by_cases hr : r = []
      · subst hr; rfl
      · rw [open_cons _ (fun e => hr (splitL_nil e)), ih, ended_cons _ hr]
        simp [hr]
    · rw [splitL, if_neg hc]
      cases h : splitL r with
      | nil =>
        have := splitL_nil h
        subst this
        simp [openB, endedB]
      | cons x xs =>
        rw [h] at ih
        have hr : r ≠ [] := by rintro rfl; simp [splitL] at h
        have hx : x ≠ [] := by
          have := may_split r
          rw [h] at this
          simp only [mayB, Bool.and_eq_true, Bool.not_eq_true'] at this
          intro e; rw [e] at this; exact absurd this.1.1.1 (by simp)
        rw [ended_cons _ hr]
        have e : openB ((c :: x) :: xs) = openB (x :: xs) := by
          cases xs with
          | nil => simp [openB, ended_cons c hx]
          | cons y ys => rw [open_cons (c :: x) (by simp : y :: ys ≠ []), open_cons x (by simp : y :: ys ≠ [])]
        dsimp only
        rw [e, ih]
        simp [hr]

end Go.Proofs.YtdfpifipkchmnaaDoor
/- Proved here, without conditions: plain facts on pieces: texts put together, what is chosen, what all sides' texts are. -/
namespace Go.Proofs.YtdfpifipkchmnaaDoor
set_option linter.unusedVariables false

/-- A piece: is it a conflict, its text, its base, its sides. -/
abbrev Pc := Bool × Txs × Txs × List Txs
instance txsDec : DecidableEq Txs := inferInstance
instance txssDec : DecidableEq (List Txs) := inferInstance
instance pcDec : DecidableEq Pc := instDecidableEqProd
instance pcsDec : DecidableEq (List Pc) := inferInstance
def tPc (t : Txs) : Pc := (false, t, [], [])
def cPc (b : Txs) (s : List Txs) : Pc := (true, [], b, s)

def joinT (t : Txs) : List Pc → List Pc
  | (false, t', b, s) :: r => (false, t ++ t', b, s) :: r
  | r => if t = [] then r else tPc t :: r
/-- Texts that stand side by side are one; empty ones are left out. -/
def normal : List Pc → List Pc
  | [] => []
  | (true, _, b, s) :: l => cPc b s :: normal l
  | (false, t, _, _) :: l => joinT t (normal l)
def cleanB (l : List Pc) : Bool := l.all fun p => !p.1
/-- What is chosen of a piece, and of pieces. -/
def chosen (n : Int) (p : Pc) : Txs := if p.1 = true then (if 1 ≤ n then (p.2.2.2[(n - 1).toNat]?).getD [] else []) else p.2.1
def choose (l : List Pc) (n : Int) : Txs := l.flatMap (chosen n)

/-- An open list's last text gets a line feed. -/
def closed (l : Txs) : Txs := match l.getLast? with | some s => if endedB s then l else l.dropLast ++ [s ++ [10]] | none => l
def unionT : List Txs → Txs
  | [] => []
  | d :: ds => (if ds.any (fun x => !x.isEmpty) then closed d else d) ++ unionT ds
/-- What becomes of a base, and parts. -/
def pieceD (base : Txs) (ps : List Txs) (fav : Int) (un : Bool) : Pc :=
  match diffs base ps with
  | [] => tPc base
  | [d] => tPc d
  | d :: e :: l => if 1 ≤ fav ∧ fav ≤ ps.length then tPc ((ps[(fav - 1).toNat]?).getD []) else if un = true then tPc (unionT (d :: e :: l)) else cPc base ps

section
variable {l r : List Pc} {t t' : Txs} {n : Int}
theorem joinT_append (t t' : Txs) : ∀ r : List Pc, joinT (t ++ t') r = joinT t (joinT t' r)
  | [] => by
    unfold joinT
    by_cases h : t' = []
    · subst h; simp
    · by_cases h2 : t = [] <;> simp [h, h2, tPc]
  | (false, x, b, s) :: r => by simp [joinT]
  | (true, x, b, s) :: r => by
    unfold joinT
    by_cases h : t' = []
    · subst h; simp
    · by_cases h2 : t = [] <;> simp [h, h2, tPc]
theorem joinT_nil : ∀ r : List Pc, joinT [] r = r
  | [] => by simp [joinT]
  | (false, x, b, s) :: r => by simp [joinT]
  | (true, x, b, s) :: r => by simp [joinT]

/-- Pieces that are put together already. -/
def Put : Bool → List Pc → Prop
  | _, [] => True
  | pv, (true, t, b, s) :: l => t = [] ∧ Put false l
  | pv, (false, t, b, s) :: l => pv = false ∧ t ≠ [] ∧ b = [] ∧ s = [] ∧ Put true l
theorem Put.weak : ∀ {l : List Pc} {pv : Bool}, Put true l → Put pv l
  | [], _, _ => trivial
  | (true, t, b, s) :: l, _, h => h
  | (false, t, b, s) :: l, _, h => by cases h.1
theorem put_join (t : Txs) : ∀ {r : List Pc}, Put false r → Put false (joinT t r)
  | [], h => by
    unfold joinT
    by_cases e : t = []
    · simp [e, Put]
    · simp [e, Put, tPc]
  | (false, x, b, s) :: r, h => by
    obtain ⟨h1, h2, h3, h4, h5⟩ := h
    exact ⟨rfl, by simp [h2], h3, h4, h5⟩
  | (true, x, b, s) :: r, h => by
    unfold joinT
    by_cases e : t = []
    · simp only [e, if_true]; exact h
    · simp only [e, if_false]
      exact ⟨rfl, e, rfl, rfl, h⟩
theorem put_normal : ∀ l : List Pc, Put false (normal l)
  | [] => trivial
  | (true, _, b, s) :: l => ⟨rfl, put_normal l⟩
  | (false, t, _, _) :: l => put_join t (put_normal l)
theorem normal_put : ∀ {l : List Pc} {pv : Bool}, Put pv l → normal l = l
  | [], _, _ => rfl
  | (true, t, b, s) :: l, _, h => by
    obtain ⟨rfl, h⟩ := h
    rw [normal, normal_put h]
    rfl
  | (false, t, b, s) :: l, _, h => by
    obtain ⟨h1, h2, rfl, rfl, h5⟩ := h
    rw [normal, normal_put h5]
    match l, h5 with
    | [], _ => simp [joinT, h2, tPc]
    | (true, x, b, s) :: l, _ => simp [joinT, h2, tPc]
    | (false, x, b, s) :: l, h5 => cases h5.1
theorem normal_twice (l : List Pc) : normal (normal l) = normal l := normal_put (put_normal l)
theorem clean_join (t : Txs) : ∀ r : List Pc, cleanB (joinT t r) = cleanB r
  | [] => by by_cases h : t = [] <;> simp [joinT, h, cleanB, tPc]
  | (false, x, b, s) :: r => by simp [joinT, cleanB]
  | (true, x, b, s) :: r => by by_cases h : t = [] <;> simp [joinT, h, cleanB, tPc]
theorem clean_normal : ∀ l : List Pc, cleanB (normal l) = cleanB l
  | [] => rfl
  | (true, _, b, s) :: l => by simp [normal, cleanB, cPc]
  | (false, t, b, s) :: l => by
    rw [normal, clean_join, clean_normal l]
    simp [cleanB]
theorem choose_join (t : Txs) (n : Int) : ∀ r : List Pc, choose (joinT t r) n = t ++ choose r n
  | [] => by
    unfold joinT
    by_cases h : t = [] <;> simp [h, choose, chosen, tPc]
  | (false, x, b, s) :: r => by simp [joinT, choose, chosen]
  | (true, x, b, s) :: r => by
    unfold joinT
    by_cases h : t = [] <;> simp [h, choose, chosen, tPc]
theorem choose_normal (n : Int) : ∀ l : List Pc, choose (normal l) n = choose l n
  | [] => rfl
  | (true, x, b, s) :: l => by
    have := choose_normal n l
    unfold choose at this ⊢
    rw [normal, List.flatMap_cons, List.flatMap_cons, this]
    rfl
  | (false, t, b, s) :: l => by
    rw [normal, choose_join, choose_normal n l]
    rfl
/-- Is a text neither empty nor behind a text? -/
theorem put_at : ∀ {l : List Pc} {pv : Bool} {i : Nat} {p : Pc}, Put pv l → l[i]? = some p → p.1 = false → p.2.1 ≠ [] ∧ (0 < i → ∀ q, l[i - 1]? = some q → q.1 = true) ∧ (i = 0 → pv = false)
  | (true, t, b, s) :: l, pv, 0, p, h, hp, hf => by simp at hp; subst hp; cases hf
  | (false, t, b, s) :: l, pv, 0, p, h, hp, hf => by
    simp at hp
    subst hp
    exact ⟨h.2.1, fun h => absurd h (by omega), fun _ => h.1⟩
  | (c, t, b, s) :: l, pv, i + 1, p, h, hp, hf => by
    have h' : Put (!c) l := by cases c with | true => exact h.2 | false => exact h.2.2.2.2
    obtain ⟨k1, k2, k3⟩ := put_at h' (show l[i]? = some p from by simpa using hp) hf
    refine ⟨k1, fun _ q hq => ?_, fun h => absurd h (by omega)⟩
    rcases Nat.eq_zero_or_pos i with rfl | hi
    · have := k3 rfl
      simp at hq
      subst hq
      simpa using this
    · rw [show i + 1 - 1 = (i - 1) + 1 by omega, List.getElem?_cons_succ] at hq
      exact k2 hi q hq
end

section
variable {base : Txs} {ps : List Txs}
theorem piece_fav {fav : Int} (h1 : 1 ≤ fav) (h2 : fav ≤ ps.length) (un : Bool) : (pieceD base ps fav un).1 = false := by
  unfold pieceD
  match diffs base ps with
  | [] => rfl
  | [d] => rfl
  | d :: e :: l => simp [h1, h2, tPc]
/-- FAVOUR IS A CHOICE. -/
theorem piece_choice {fav : Int} (h1 : 1 ≤ fav) (h2 : fav ≤ ps.length) : choose [pieceD base ps 0 false] fav = (pieceD base ps fav false).2.1 := by
  unfold pieceD
  match diffs base ps with
  | [] => simp [choose, chosen, tPc]
  | [d] => simp [choose, chosen, tPc]
  | d :: e :: l => simp [choose, chosen, tPc, cPc, h1, h2]
theorem piece_union : (pieceD base ps 0 true).1 = false := by
  unfold pieceD
  match diffs base ps with
  | [] => rfl
  | [d] => rfl
  | d :: e :: l => simp [tPc]
theorem closed_len (d : Txs) : (closed d).length = d.length := by
  unfold closed
  match h : d.getLast? with
  | none => rfl
  | some s =>
    dsimp only
    split
    · rfl
    · have : d ≠ [] := by rintro rfl; simp at h
      have := List.length_pos_iff.2 this
      simp
      omega
theorem closed_same {d : Txs} (h : openB d = false) : closed d = d := by
  unfold closed
  unfold openB at h
  match h2 : d.getLast? with
  | none => rfl
  | some s => rw [h2] at h; simp at h; simp [h]
theorem union_len : ∀ ds : List Txs, (unionT ds).length = ds.flatten.length
  | [] => rfl
  | d :: ds => by
    unfold unionT
    rw [List.length_append, union_len ds, List.flatten_cons, List.length_append]
    split
    · rw [closed_len]
    · rfl
theorem union_same : ∀ ds : List Txs, (∀ d ∈ ds, openB d = false) → unionT ds = ds.flatten
  | [], _ => rfl
  | d :: ds, h => by
    unfold unionT
    rw [closed_same (h d (List.mem_cons_self ..)), union_same ds fun e he => h e (List.mem_cons_of_mem _ he), List.flatten_cons]
    split <;> rfl
end
end Go.Proofs.YtdfpifipkchmnaaDoor

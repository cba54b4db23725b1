/- Proved here: texts joined: Pure, PickPure, MergePure, TxtRef. -/
import Derived.Test.YtoephlkfejcadaaGreatBf01
import Derived.Test.YtoephlkfejcadaaGreatBf02
import Derived.Test.YtoephlkfejcadaaGreatBf03
import Derived.Lib.Bytealg
import Derived.Test.YtoephlkfejcadaaGreatChecked
import Derived.WalkLawsBesides
import Derived.BigFrame
import Derived.Deep.QuietTactic
import Derived.BigQuiet
/- Proved here, without conditions: plain facts on lists of bytes and their lines (no word of the program). -/
namespace Go.Proofs.YtoephlkfejcadaaGreat

/-- Where the first line of l ends. -/
def fe : List UInt8 → Nat
  | [] => 0
  | c :: r => if c = 10 then 1 else fe r + 1

/-- Is the last byte a line feed? -/
def endedB (l : List UInt8) : Bool := l.getLast? == some 10

/-- The lines of l. -/
def splitL : List UInt8 → List (List UInt8)
  | [] => []
  | c :: r => if c = 10 then [c] :: splitL r else match splitL r with
    | [] => [[c]]
    | x :: xs => (c :: x) :: xs

theorem fe_le (l : List UInt8) : fe l ≤ l.length := by
  induction l with
  | nil => simp [fe]
  | cons c r ih => unfold fe; split <;> simp <;> omega

theorem fe_pos {l : List UInt8} (h : l ≠ []) : 0 < fe l := by
  cases l with
  | nil => exact absurd rfl h
  | cons c r => unfold fe; split <;> omega

theorem splitL_step {l : List UInt8} (h : l ≠ []) : splitL l = l.take (fe l) :: splitL (l.drop (fe l)) := by
  induction l with
  | nil => exact absurd rfl h
  | cons c r ih =>
    by_cases hc : c = 10
    · simp [splitL, fe, hc]
    · cases r with
      | nil => simp [splitL, fe, hc]
      | cons d t =>
        have := ih (by simp)
        rw [splitL, fe, if_neg hc, if_neg hc, this]
        simp

theorem fe_index (l : List UInt8) : (fe l : Int) = if 0 ≤ Lib.indexByte l 10 then Lib.indexByte l 10 + 1 else l.length := by
  induction l with
  | nil => simp [fe, Lib.indexByte]
  | cons c r ih =>
    have hlo : -1 ≤ Lib.indexByte r 10 := Lib.indexByte_ge r 10
    by_cases hc : c = 10
    · simp [fe, Lib.indexByte, hc]
    · have hb : (c == 10) = false := by simpa using hc
      rw [fe, if_neg hc, Lib.indexByte, hb]
      by_cases h1 : Lib.indexByte r 10 = -1
      · rw [h1] at ih ⊢
        simp at ih ⊢
        omega
      · have h2 : (Lib.indexByte r 10 == -1) = false := by simpa using h1
        have h0 : 0 ≤ Lib.indexByte r 10 := by omega
        rw [if_pos h0] at ih
        simp only [h2]
        simp only [Bool.false_eq_true, if_false]
        rw [if_pos (by omega)]
        push_cast
        omega

theorem splitL_join (l : List UInt8) : (splitL l).flatten = l := by
  induction l with
  | nil => rfl
  | cons c r ih =>
    unfold splitL
    split
    · simp [ih]
    · split
      · next h => rw [h] at ih; simp at ih; simp [← ih]
      · next h => rw [h] at ih; simp at ih ⊢; exact ih

/-- May the list be the lines of something? -/
def mayB : List (List UInt8) → Bool
  | [] => true
  | s :: r => !s.isEmpty && !decide (fe s < s.length) && (r.isEmpty || endedB s) && mayB r

/-- All texts of all lists. -/
def joinL (sss : List (List (List UInt8))) : List UInt8 := (sss.map List.flatten).flatten
theorem flat_take {ss : List (List UInt8)} {j : Nat} {t : List UInt8} (h : ss[j]? = some t) : (ss.take (j + 1)).flatten = (ss.take j).flatten ++ t := by
  rw [take_at h]; simp
theorem join_take {sss : List (List (List UInt8))} {k : Nat} {ss : List (List UInt8)} (h : sss[k]? = some ss) : joinL (sss.take (k + 1)) = joinL (sss.take k) ++ ss.flatten := by
  unfold joinL; rw [take_at h]; simp
theorem flat_len (ss : List (List UInt8)) (j : Nat) : (ss.take j).flatten.length ≤ ss.flatten.length := by
  conv => rhs; rw [← List.take_append_drop j ss]
  rw [List.flatten_append, List.length_append]
  omega
theorem join_len (sss : List (List (List UInt8))) (k : Nat) : (joinL (sss.take k)).length ≤ (joinL sss).length := by
  unfold joinL
  conv => rhs; rw [← List.take_append_drop k sss]
  rw [List.map_append, List.flatten_append, List.length_append]
  omega
theorem join_room {sss : List (List (List UInt8))} {k j : Nat} {ss : List (List UInt8)} {t : List UInt8} (h : sss[k]? = some ss) (h' : ss[j]? = some t) : (joinL (sss.take k)).length + (ss.take j).flatten.length + t.length ≤ (joinL sss).length := by
  have h1 := join_len sss (k + 1)
  have h2 := flat_len ss (j + 1)
  rw [join_take h, List.length_append] at h1
  rw [flat_take h', List.length_append] at h2
  omega

theorem splitL_seg {seg : List UInt8} (h : ∀ c ∈ seg, c ≠ 10) (rest : List UInt8) : splitL (seg ++ 10 :: rest) = (seg ++ [10]) :: splitL rest := by
  induction seg with
  | nil => simp [splitL]
  | cons c r ih =>
    have hc : c ≠ 10 := h c (by simp)
    rw [List.cons_append, splitL, if_neg hc, ih (fun d hd => h d (by simp [hd]))]
    simp
theorem splitL_one {l : List UInt8} (h : ∀ c ∈ l, c ≠ 10) (hne : l ≠ []) : splitL l = [l] := by
  induction l with
  | nil => exact absurd rfl hne
  | cons c r ih =>
    have hc : c ≠ 10 := h c (by simp)
    cases r with
    | nil => simp [splitL, hc]
    | cons d t =>
      rw [splitL, if_neg hc, ih (fun d hd => h d (by simp [hd])) (by simp)]

/-- Has the list texts, and is the last one not ended? -/
def openB (ss : List (List UInt8)) : Bool := match ss.getLast? with | none => false | some t => !endedB t

theorem splitL_nil {l : List UInt8} (h : splitL l = []) : l = [] := by
  have := splitL_join l
  rw [h] at this
  exact this.symm
theorem ended_cons (c : UInt8) {x : List UInt8} (h : x ≠ []) : endedB (c :: x) = endedB x := by
  cases x with
  | nil => exact absurd rfl h
  | cons d t => simp [endedB]
theorem open_cons (s : List UInt8) {ss : List (List UInt8)} (h : ss ≠ []) : openB (s :: ss) = openB ss := by
  cases ss with
  | nil => exact absurd rfl h
  | cons d t => simp [openB, List.getLast?_cons_cons]

theorem may_split (l : List UInt8) : mayB (splitL l) = true := by
  induction l with
  | nil => rfl
  | cons c r ih =>
    by_cases hc : c = 10
    · subst hc
      simp [splitL, mayB, ih, endedB, fe]
    · rw [splitL, if_neg hc]
      cases h : splitL r with
      | nil => simp [mayB, fe, hc]
      | cons x xs =>
        rw [h] at ih
        simp only [mayB, Bool.and_eq_true, Bool.not_eq_true'] at ih
        have hx : x ≠ [] := by have := ih.1.1.1; intro e; rw [e] at this; cases this
        simp only [mayB, ended_cons c hx, fe, if_neg hc, List.length_cons]
        have h2 := ih.1.1.2
        simp at h2
        simp [ih.1.2, ih.2]
        omega
theorem open_split (l : List UInt8) : openB (splitL l) = (!l.isEmpty && !endedB l) := by
  induction l with
  | nil => rfl
  | cons c r ih =>
    by_cases hc : c = 10
    · subst hc
      rw [splitL, if_pos rfl]
      by_cases hr : r = []
      · subst hr; rfl
      · rw [open_cons _ (fun e => hr (splitL_nil e)), ih, ended_cons _ hr]
        simp [hr]
    · rw [splitL, if_neg hc]
      cases h : splitL r with
      | nil =>
        have := splitL_nil h
        subst this
        simp [openB, endedB]
      | cons x xs =>
        rw [h] at ih
        have hr : r ≠ [] := by rintro rfl; simp [splitL] at h
        have hx : x ≠ [] := by
          have := may_split r
          rw [h] at this
          simp only [mayB, Bool.and_eq_true, Bool.not_eq_true'] at this
          intro e; rw [e] at this; exact absurd this.1.1.1 (by simp)
        rw [ended_cons _ hr]
        have e : openB ((c :: x) :: xs) = openB (x :: xs) := by
          cases xs with
          | nil => simp [openB, ended_cons c hx]
          | cons y ys => rw [open_cons (c :: x) (by simp : y :: ys ≠ []), open_cons x (by simp : y :: ys ≠ [])]
        dsimp only
        rw [e, ih]
        simp [hr]

end Go.Proofs.YtoephlkfejcadaaGreat
/- Proved here, without conditions: plain facts on pieces: texts put together, what is chosen, what all sides' texts are. -/
namespace Go.Proofs.YtoephlkfejcadaaGreat
set_option linter.unusedVariables false

/-- A piece: is it a conflict, its text, its base, its sides. -/
abbrev Pc := Bool × Txs × Txs × List Txs
instance txsDec : DecidableEq Txs := inferInstance
instance txssDec : DecidableEq (List Txs) := inferInstance
instance pcDec : DecidableEq Pc := instDecidableEqProd
instance pcsDec : DecidableEq (List Pc) := inferInstance
def tPc (t : Txs) : Pc := (false, t, [], [])
def cPc (b : Txs) (s : List Txs) : Pc := (true, [], b, s)

def joinT (t : Txs) : List Pc → List Pc
  | (false, t', b, s) :: r => (false, t ++ t', b, s) :: r
  | r => if t = [] then r else tPc t :: r
/-- Texts that stand side by side are one; empty ones are left out. -/
def normal : List Pc → List Pc
  | [] => []
  | (true, _, b, s) :: l => cPc b s :: normal l
  | (false, t, _, _) :: l => joinT t (normal l)
def cleanB (l : List Pc) : Bool := l.all fun p => !p.1
/-- What is chosen of a piece, and of pieces. -/
def chosen (n : Int) (p : Pc) : Txs := if p.1 = true then (if 1 ≤ n then (p.2.2.2[(n - 1).toNat]?).getD [] else []) else p.2.1
def choose (l : List Pc) (n : Int) : Txs := l.flatMap (chosen n)

/-- An open list's last text gets a line feed. -/
def closed (l : Txs) : Txs := match l.getLast? with | some s => if endedB s then l else l.dropLast ++ [s ++ [10]] | none => l
def unionT : List Txs → Txs
  | [] => []
  | d :: ds => (if ds.any (fun x => !x.isEmpty) then closed d else d) ++ unionT ds
/-- What becomes of a base, and parts. -/
def pieceD (base : Txs) (ps : List Txs) (fav : Int) (un : Bool) : Pc :=
  match diffs base ps with
  | [] => tPc base
  | [d] => tPc d
  | d :: e :: l => if 1 ≤ fav ∧ fav ≤ ps.length then tPc ((ps[(fav - 1).toNat]?).getD []) else if un = true then tPc (unionT (d :: e :: l)) else cPc base ps

section
variable {l r : List Pc} {t t' : Txs} {n : Int}
theorem joinT_append (t t' : Txs) : ∀ r : List Pc, joinT (t ++ t') r = joinT t (joinT t' r)
  | [] => by
    unfold joinT
    by_cases h : t' = []
    · subst h; simp
    · by_cases h2 : t = [] <;> simp [h, h2, tPc]
  | (false, x, b, s) :: r => by simp [joinT]
  | (true, x, b, s) :: r => by
    unfold joinT
    by_cases h : t' = []
    · subst h; simp
    · by_cases h2 : t = [] <;> simp [h, h2, tPc]
theorem joinT_nil : ∀ r : List Pc, joinT [] r = r
  | [] => by simp [joinT]
  | (false, x, b, s) :: r => by simp [joinT]
  | (true, x, b, s) :: r => by simp [joinT]

/-- Pieces that are put together already. -/
def Put : Bool → List Pc → Prop
  | _, [] => True
  | pv, (true, t, b, s) :: l => t = [] ∧ Put false l
  | pv, (false, t, b, s) :: l => pv = false ∧ t ≠ [] ∧ b = [] ∧ s = [] ∧ Put true l
theorem Put.weak : ∀ {l : List Pc} {pv : Bool}, Put true l → Put pv l
  | [], _, _ => trivial
  | (true, t, b, s) :: l, _, h => h
  | (false, t, b, s) :: l, _, h => by cases h.1
theorem put_join (t : Txs) : ∀ {r : List Pc}, Put false r → Put false (joinT t r)
  | [], h => by
    unfold joinT
    by_cases e : t = []
    · simp [e, Put]
    · simp [e, Put, tPc]
  | (false, x, b, s) :: r, h => by
    obtain ⟨h1, h2, h3, h4, h5⟩ := h
    exact ⟨rfl, by simp [h2], h3, h4, h5⟩
  | (true, x, b, s) :: r, h => by
    unfold joinT
    by_cases e : t = []
    · simp only [e, if_true]; exact h
    · simp only [e, if_false]
      exact ⟨rfl, e, rfl, rfl, h⟩
theorem put_normal : ∀ l : List Pc, Put false (normal l)
  | [] => trivial
  | (true, _, b, s) :: l => ⟨rfl, put_normal l⟩
  | (false, t, _, _) :: l => put_join t (put_normal l)
theorem normal_put : ∀ {l : List Pc} {pv : Bool}, Put pv l → normal l = l
  | [], _, _ => rfl
  | (true, t, b, s) :: l, _, h => by
    obtain ⟨rfl, h⟩ := h
    rw [normal, normal_put h]
    rfl
  | (false, t, b, s) :: l, _, h => by
    obtain ⟨h1, h2, rfl, rfl, h5⟩ := h
    rw [normal, normal_put h5]
    match l, h5 with
    | [], _ => simp [joinT, h2, tPc]
    | (true, x, b, s) :: l, _ => simp [joinT, h2, tPc]
    | (false, x, b, s) :: l, h5 => cases h5.1
theorem normal_twice (l : List Pc) : normal (normal l) = normal l := normal_put (put_normal l)
theorem clean_join (t : Txs) : ∀ r : List Pc, cleanB (joinT t r) = cleanB r
  | [] => by by_cases h : t = [] <;> simp [joinT, h, cleanB, tPc]
  | (false, x, b, s) :: r => by simp [joinT, cleanB]
  | (true, x, b, s) :: r => by by_cases h : t = [] <;> simp [joinT, h, cleanB, tPc]
theorem clean_normal : ∀ l : List Pc, cleanB (normal l) = cleanB l
  | [] => rfl
  | (true, _, b, s) :: l => by simp [normal, cleanB, cPc]
  | (false, t, b, s) :: l => by
    rw [normal, clean_join, clean_normal l]
    simp [cleanB]
theorem choose_join (t : Txs) (n : Int) : ∀ r : List Pc, choose (joinT t r) n = t ++ choose r n
  | [] => by
    unfold joinT
    by_cases h : t = [] <;> simp [h, choose, chosen, tPc]
  | (false, x, b, s) :: r => by simp [joinT, choose, chosen]
  | (true, x, b, s) :: r => by
    unfold joinT
    by_cases h : t = [] <;> simp [h, choose, chosen, tPc]
theorem choose_normal (n : Int) : ∀ l : List Pc, choose (normal l) n = choose l n
  | [] => rfl
  | (true, x, b, s) :: l => by
    have := choose_normal n l
    unfold choose at this ⊢
    rw [normal, List.flatMap_cons, List.flatMap_cons, this]
    rfl
  | (false, t, b, s) :: l => by
    rw [normal, choose_join, choose_normal n l]
    rfl
/-- Is a text neither empty nor behind a text? -/
theorem put_at : ∀ {l : List Pc} {pv : Bool} {i : Nat} {p : Pc}, Put pv l → l[i]? = some p → p.1 = false → p.2.1 ≠ [] ∧ (0 < i → ∀ q, l[i - 1]? = some q → q.1 = true) ∧ (i = 0 → pv = false)
  | (true, t, b, s) :: l, pv, 0, p, h, hp, hf => by simp at hp; subst hp; cases hf
  | (false, t, b, s) :: l, pv, 0, p, h, hp, hf => by
    simp at hp
    subst hp
    exact ⟨h.2.1, fun h => absurd h (by omega), fun _ => h.1⟩
  | (c, t, b, s) :: l, pv, i + 1, p, h, hp, hf => by
    have h' : Put (!c) l := by cases c with | true => exact h.2 | false => exact h.2.2.2.2
    obtain ⟨k1, k2, k3⟩ := put_at h' (show l[i]? = some p from by simpa using hp) hf
    refine ⟨k1, fun _ q hq => ?_, fun h => absurd h (by omega)⟩
    rcases Nat.eq_zero_or_pos i with rfl | hi
    · have := k3 rfl
      simp at hq
      subst hq
      simpa using this
    · rw [show i + 1 - 1 = (i - 1) + 1 by omega, List.getElem?_cons_succ] at hq
      exact k2 hi q hq
end

section
variable {base : Txs} {ps : List Txs}
theorem piece_fav {fav : Int} (h1 : 1 ≤ fav) (h2 : fav ≤ ps.length) (un : Bool) : (pieceD base ps fav un).1 = false := by
  unfold pieceD
  match diffs base ps with
  | [] => rfl
  | [d] => rfl
  | d :: e :: l => simp [h1, h2, tPc]
/-- FAVOUR IS A CHOICE. -/
theorem piece_choice {fav : Int} (h1 : 1 ≤ fav) (h2 : fav ≤ ps.length) : choose [pieceD base ps 0 false] fav = (pieceD base ps fav false).2.1 := by
  unfold pieceD
  match diffs base ps with
  | [] => simp [choose, chosen, tPc]
  | [d] => simp [choose, chosen, tPc]
  | d :: e :: l => simp [choose, chosen, tPc, cPc, h1, h2]
theorem piece_union : (pieceD base ps 0 true).1 = false := by
  unfold pieceD
  match diffs base ps with
  | [] => rfl
  | [d] => rfl
  | d :: e :: l => simp [tPc]
theorem closed_len (d : Txs) : (closed d).length = d.length := by
  unfold closed
  match h : d.getLast? with
  | none => rfl
  | some s =>
    dsimp only
    split
    · rfl
    · have : d ≠ [] := by rintro rfl; simp at h
      have := List.length_pos_iff.2 this
      simp
      omega
theorem closed_same {d : Txs} (h : openB d = false) : closed d = d := by
  unfold closed
  unfold openB at h
  match h2 : d.getLast? with
  | none => rfl
  | some s => rw [h2] at h; simp at h; simp [h]
theorem union_len : ∀ ds : List Txs, (unionT ds).length = ds.flatten.length
  | [] => rfl
  | d :: ds => by
    unfold unionT
    rw [List.length_append, union_len ds, List.flatten_cons, List.length_append]
    split
    · rw [closed_len]
    · rfl
theorem union_same : ∀ ds : List Txs, (∀ d ∈ ds, openB d = false) → unionT ds = ds.flatten
  | [], _ => rfl
  | d :: ds, h => by
    unfold unionT
    rw [closed_same (h d (List.mem_cons_self ..)), union_same ds fun e he => h e (List.mem_cons_of_mem _ he), List.flatten_cons]
    split <;> rfl
end
end Go.Proofs.YtoephlkfejcadaaGreat
/- Proved here, without conditions: plain facts on merges: the base as one more side; the parts of chunks, one behind the other; stable chunks have the same of all. -/
namespace Go.Proofs.YtoephlkfejcadaaGreat
set_option linter.unusedVariables false

/-- The match of a list with itself. -/
def idm (m : Nat) : List Int := (List.range m).map fun (i : Nat) => (i : Int)
/-- A chunk, the base as one more side. -/
def addB (c : Ck) : Ck := (c.1, c.2.1, c.2.2 ++ [c.2.1])
theorem pl_idm {m : Nat} {k : Int} (h0 : 0 ≤ k) (h1 : k < m) : pl (idm m) k = k := by
  unfold pl idm
  rw [List.getElem?_map, List.getElem?_range (by omega)]
  simp
  omega
theorem ends_addB (c : Ck) : ends (addB c) = ends c ++ [c.2.1.2] := by simp [ends, addB]
theorem empty_addB (c : Ck) : emptyB (addB c) = emptyB c := by
  unfold emptyB addB
  simp only [List.any_append, List.any_cons, List.any_nil, Bool.or_false]
  cases decide (c.2.1.1 < c.2.1.2) <;> cases (c.2.2.any fun s => decide (s.1 < s.2)) <;> rfl
theorem head_addB {c : Ck} {prev : Option Bool} {b : Int} {a : List Int} (h : Head c prev b a) : Head (addB c) prev b (a ++ [b]) where
  base := h.base
  le := h.le
  len := by simp [addB, h.len]
  alt := h.alt
  full := by rw [empty_addB]; exact h.full
  side := fun s sp v h1 h2 => by
    have hl := h.len
    unfold addB at h1 ⊢
    dsimp only at h1 ⊢
    rcases Nat.lt_or_ge s a.length with hs | hs
    · rw [List.getElem?_append_left (by omega)] at h1
      rw [List.getElem?_append_left hs] at h2
      exact h.side s sp v h1 h2
    · rw [List.getElem?_append_right (by omega)] at h1
      rw [List.getElem?_append_right hs] at h2
      have hs0 : s = a.length := by
        have := (List.getElem?_eq_some_iff.1 h2).1
        simp at this
        omega
      subst hs0
      rw [hl, Nat.sub_self] at h1
      rw [Nat.sub_self] at h2
      simp at h1 h2
      subst h1
      subst h2
      exact ⟨h.base, h.le, fun _ => rfl⟩
theorem cov_addB {m : Int} {sizes : List Int} : ∀ {cs : List Ck} {prev : Option Bool} {b : Int} {a : List Int}, Cov m sizes cs prev b a → Cov m (sizes ++ [m]) (cs.map addB) prev b (a ++ [b])
  | [], _, _, _, h => by
    obtain ⟨rfl, rfl⟩ := h
    exact ⟨rfl, rfl⟩
  | c :: cs, prev, b, a, h => by
    refine ⟨head_addB h.1, ?_⟩
    have h2 := cov_addB h.2
    rw [← ends_addB] at h2
    exact h2
/-- Where a chunk lies. -/
theorem cov_lies {m : Int} {sizes : List Int} : ∀ {cs : List Ck} {prev : Option Bool} {b : Int} {a : List Int}, Cov m sizes cs prev b a → ∀ c ∈ cs, b ≤ c.2.1.1 ∧ c.2.1.1 ≤ c.2.1.2 ∧ c.2.1.2 ≤ m ∧ c.2.2.length = sizes.length
  | [], _, _, _, _, c, hc => by cases hc
  | d :: cs, prev, b, a, h, c, hc => by
    have hb := h.1.base
    have hle := h.1.le
    have hm := Cov.le h.2
    rcases List.mem_cons.1 hc with rfl | hc
    · exact ⟨by omega, by omega, hm.1, by rw [← hm.2.1, ends_len]⟩
    · have := cov_lies h.2 c hc
      exact ⟨by omega, this.2.1, this.2.2.1, this.2.2.2⟩
theorem places_addB {m : Nat} {ms : List (List Int)} {c : Ck} (hl : c.2.2.length = ms.length) (h0 : 0 ≤ c.2.1.1) (h1 : c.2.1.2 ≤ m) (h : Places ms c) : Places (ms ++ [idm m]) (addB c) := by
  intro k k1 k2
  have k1' : c.2.1.1 ≤ k := k1
  have k2' : k < c.2.1.2 := k2
  obtain ⟨q1, q2⟩ := h k k1' k2'
  have hp := pl_idm (m := m) (k := k) (by omega) (by omega)
  refine ⟨?_, fun hc s l sp e1 e2 => ?_⟩
  · show allP (ms ++ [idm m]) k = c.1
    unfold allP at q1 ⊢
    rw [List.all_append, q1]
    simp [hp]
    omega
  · have e2' : (c.2.2 ++ [c.2.1])[s]? = some sp := e2
    show pl l k = sp.1 + k - c.2.1.1
    rcases Nat.lt_or_ge s ms.length with hs | hs
    · rw [List.getElem?_append_left hs] at e1
      rw [List.getElem?_append_left (by omega)] at e2'
      exact q2 hc s l sp e1 e2'
    · rw [List.getElem?_append_right hs] at e1
      rw [List.getElem?_append_right (by omega)] at e2'
      have hs0 : s = ms.length := by
        have := (List.getElem?_eq_some_iff.1 e1).1
        simp at this
        omega
      subst hs0
      rw [Nat.sub_self] at e1
      rw [hl, Nat.sub_self] at e2'
      simp at e1 e2'
      subst e1
      subst e2'
      rw [hp]
      omega
/-- The chunks, the base as one more side. -/
theorem cut_base {m : Nat} {sizes : List Int} {ms : List (List Int)} {cs : List Ck} (hl : ms.length = sizes.length) (h : IsCut m sizes ms cs) : IsCut m (sizes ++ [(m : Int)]) (ms ++ [idm m]) (cs.map addB) := by
  obtain ⟨h1, h2⟩ := h
  refine ⟨?_, fun e he => ?_⟩
  · have := cov_addB h1
    rw [List.length_append, List.length_singleton, ← List.replicate_append_replicate]
    exact this
  · obtain ⟨c, hc, rfl⟩ := List.mem_map.1 he
    obtain ⟨k1, k2, k3, k4⟩ := cov_lies h1 c hc
    exact places_addB (by omega) (by omega) k3 (h2 c hc)
theorem sel_addB (p : List Nat) (c : Ck) (n : Nat) (hn : c.2.2.length = n) : selC p (addB c) = (c.1, c.2.1, p.map fun i => if i = n then c.2.1 else (c.2.2[i]?).getD (0, 0)) := by
  unfold selC addB sel
  simp only [Prod.mk.injEq, true_and]
  apply List.map_congr_left
  intro i _
  subst hn
  rcases Nat.lt_trichotomy i c.2.2.length with h | h | h
  · rw [List.getElem?_append_left h, if_neg (by omega)]
  · subst h
    rw [List.getElem?_append_right (Nat.le_refl _)]
    simp
  · rw [List.getElem?_append_right (by omega), if_neg (by omega), List.getElem?_eq_none (by simp; omega), List.getElem?_eq_none (by omega)]
end Go.Proofs.YtoephlkfejcadaaGreat
/- Proved here: contracts of the document's own answers of layer 1: Same, Few (they only read). -/
namespace Go.Proofs.YtoephlkfejcadaaGreat
open Go.RowKit
set_option linter.unusedVariables false

theorem infoTxs : (Tryz.prog.info? 22).map (fun i => (i.zero, i.size, i.bytes)) = some (some (.slice none 0 0), 1, 24) := by kernel_rfl
theorem same_no {ss ss' : List (List UInt8)} {k : Nat} {t t' : List UInt8} (ht : ss[k]? = some t) (ht' : ss'[k]? = some t') (h : (!(str t).toList == (str t').toList) = true) : false = decide (ss = ss') := by
  rw [eq_comm, decide_eq_false_iff_not]
  rintro rfl
  rw [ht] at ht'
  injection ht' with e
  subst e
  simp at h
theorem same_yes {ss ss' : List (List UInt8)} {k : Nat} {t t' : List UInt8} (hq : ss.take k = ss'.take k) (ht : ss[k]? = some t) (ht' : ss'[k]? = some t') (h : (!(str t).toList == (str t').toList) = false) : ss.take (k + 1) = ss'.take (k + 1) := by
  rw [ByteArray.toList_eq, ByteArray.toList_eq, str_data, str_data] at h
  have e : t = t' := by simpa using h
  rw [take_at ht, take_at ht', hq, e]

set_option maxHeartbeats 400000 in
theorem Same_any (A A' : Option Addr) (n n' c c' B B' : Nat) (ss ss' : List (List UInt8)) (w : World) (hn : n ≤ maxLen) (hn' : n' ≤ maxLen) (hA : Strs w B A n ss) (hA' : Strs w B' A' n' ss') :
    Calls Tryz.prog 15 #[.slice A n c, .slice A' n' c'] w fun e w' => e = .returned (.bool (decide (ss = ss'))) ∧ ∃ k, w' = w.drewN k := by
  unfold maxLen at hn hn'
  have hl := hA.len
  have hl' := hA'.len
  by_cases hnn : n = n'
  · subst hnn
    go_enter Tryz.func15, Tryz.ntmps15
    go_wp2
    go_loopw [5] (fun i wr => ∃ k : Nat, k ≤ n ∧ i = .int .i64 k ∧ Hid (ss.take k = ss'.take k) ∧ ∃ q, wr = w.drewN q) (fun i _ => n - (intOf i).toNat)
    case atStart => exact ⟨0, Nat.zero_le _, rfl, Lib.hid rfl, 0, rfl⟩
    case round =>
      obtain ⟨k, hk, rfl, hq, q, rfl⟩ := hrel
      by_cases hlt : k < n
      · obtain ⟨b, o, t, rfl, hb, ht, hc0⟩ := hA.at_ (k := k) hlt
        obtain ⟨b', o', t', rfl, hb', ht', hc0'⟩ := hA'.at_ (k := k) hlt
        have hi1 : (0 : Int) ≤ (k : Int) := by omega
        have hi2 : (k : Int) < (n : Int) := by omega
        go_wp2
        go_quiet (fail)
        go_wp2
        · have h : (!(str t).toList == (str t').toList) = true := by assumption
          go_ret
          exact ⟨ret_bool (same_no ht ht' h), q + nq, World.drewN_drewN _ _ _⟩
        · have h : (!(str t).toList == (str t').toList) = false := by assumption
          go_roundw
          case rel => exact ⟨k + 1, by omega, by go_num, Lib.hid (same_yes hq.out ht ht' h), q + nq, rfl⟩
          case measure => simp [intOf]; omega
      · go_wp2
        go_ret
        exact ⟨ret_bool (by rw [eq_comm, decide_eq_true_iff]; have := hq.out; rwa [List.take_of_length_le (by omega), List.take_of_length_le (by omega)] at this), q, rfl⟩
  · have hne : (((n : Int) != (n' : Int))) = true := by simp; omega
    go_enter Tryz.func15, Tryz.ntmps15
    go_wp2
    go_ret
    exact ⟨ret_bool (by rw [eq_comm, decide_eq_false_iff_not]; rintro rfl; omega), 0, rfl⟩

/-- At most 'most' texts, of 100 bytes at most. -/
def fewB (ss : List (List UInt8)) (most : Nat) : Bool := decide (ss.length ≤ most) && (ss.take (most + 1)).all fun s => decide (s.length ≤ 100)

theorem few_step {ss : List (List UInt8)} {k : Nat} {t : List UInt8} (hq : (ss.take k).all (fun s => decide (s.length ≤ 100)) = true) (ht : ss[k]? = some t) (h : ¬ (100 : Int) < ((str t).size : Int)) : (ss.take (k + 1)).all (fun s => decide (s.length ≤ 100)) = true := by
  rw [str_size] at h
  rw [take_at ht, List.all_append, hq]
  simp; omega
theorem few_no {ss : List (List UInt8)} {k most : Nat} {t : List UInt8} (hk : k ≤ most) (ht : ss[k]? = some t) (h : (100 : Int) < ((str t).size : Int)) : false = fewB ss most := by
  rw [str_size] at h
  unfold fewB
  have hm : t ∈ ss.take (most + 1) := List.mem_of_getElem? (i := k) (by rw [List.getElem?_take]; rw [if_pos (by omega)]; exact ht)
  rw [eq_comm, Bool.and_eq_false_iff]
  right
  rw [Bool.eq_false_iff, ne_eq, List.all_eq_true]
  intro ha
  have := ha t hm
  simp at this
  omega

theorem few_end {ss : List (List UInt8)} {k n most : Nat} (hl : ss.length = n) (h : k = n ∨ most < k ∧ k < n) (hq : (ss.take k).all (fun s => decide (s.length ≤ 100)) = true) : decide (n ≤ most) = fewB ss most := by
  unfold fewB
  rw [hl]
  by_cases hm : n ≤ most
  · have : k = n := by omega
    subst this
    rw [List.take_of_length_le (by omega)] at hq
    rw [List.take_of_length_le (by omega), hq]
    simp
  · simp [hm]

set_option maxHeartbeats 400000 in
theorem Few_any (A : Option Addr) (n c most B : Nat) (ss : List (List UInt8)) (w : World) (hn : n ≤ maxLen) (hmo : most ≤ 1000000) (hA : Strs w B A n ss) :
    Calls Tryz.prog 18 #[.slice A n c, .int .i64 most] w fun e w' => e = .returned (.bool (fewB ss most)) ∧ w = w' := by
  unfold maxLen at hn
  have hl := hA.len
  go_enter Tryz.func18, Tryz.ntmps18
  go_wp2
  go_loop [5] (fun i => ∃ k : Nat, k ≤ n ∧ k ≤ most + 1 ∧ i = .int .i64 k ∧ Hid ((ss.take k).all (fun s => decide (s.length ≤ 100)) = true)) (fun i => n - (intOf i).toNat)
  case atStart => exact ⟨0, Nat.zero_le _, Nat.zero_le _, rfl, Lib.hid rfl⟩
  case round =>
    obtain ⟨k, hk, hkm, rfl, hq⟩ := hrel
    by_cases hlt : k < n
    · by_cases hm : k ≤ most
      · obtain ⟨b, o, t, rfl, hb, ht, hc⟩ := hA.at_ (k := k) hlt
        go_wp2
        · have h : (100 : Int) < ((str t).size : Int) := by assumption
          go_ret
          exact ⟨ret_bool (few_no hm ht h), rfl⟩
        · have h : ((str t).size : Int) ≤ 100 := by assumption
          go_round
          case rel => exact ⟨k + 1, by omega, by omega, by go_num, Lib.hid (few_step hq.out ht (by omega))⟩
          case measure => simp [intOf]; omega
      · go_wp2
        go_ret
        exact ⟨ret_bool (few_end hl (.inr ⟨by omega, hlt⟩) hq.out), rfl⟩
    · obtain rfl : k = n := by omega
      by_cases hm : k ≤ most
      · go_wp2
        go_ret
        exact ⟨ret_bool (by rw [← few_end hl (.inl rfl) hq.out]; simpa using hm), rfl⟩
      · go_wp2
        go_ret
        exact ⟨ret_bool (by rw [← few_end hl (.inl rfl) hq.out]; simpa using hm), rfl⟩

/-- What lies in a span. -/
def cutL {α : Type} (l : List α) (f t : Int) : List α := (l.drop f.toNat).take (t - f).toNat
theorem cutL_len {α : Type} {l : List α} {f t : Int} (h0 : 0 ≤ f) (h1 : f ≤ t) (h2 : t ≤ l.length) : (cutL l f t).length = (t - f).toNat := by
  unfold cutL
  rw [List.length_take, List.length_drop]
  omega
set_option maxRecDepth 100000 in
/-- A part of texts, cut by two indices. -/
theorem slice_txs {w : World} {B n c : Nat} {A : Option Addr} {ss : List (List UInt8)} {f t : Int} (h : TxR w B (A, n, c) ss) (h0 : 0 ≤ f) (h1 : f ≤ t) (h2 : t ≤ n) :
    ∃ A' m k, (∀ W : World, (Instr.slice 22 (.slice A n c) (some (.int .i64 f)) (some (.int .i64 t)) none).run Tryz.prog W = .ok (.slice A' m k) W) ∧ TxR w B (A', m, k) (cutL ss f t) ∧ (0 < m → ∀ q o, A' = some ⟨q, o, none⟩ → ∃ o', A = some ⟨q, o', none⟩) ∧ m = (t - f).toNat := by
  obtain ⟨e1, e2, e3⟩ := h
  dsimp only at e1 e2 e3
  have hl := e3.len
  have hm : t.toNat - f.toNat = (t - f).toNat := by omega
  refine ⟨(if c = f.toNat then A else A.map (·.add f.toNat)), t.toNat - f.toNat, c - f.toNat, fun W => ?_, ⟨?_, ?_, ?_⟩, fun hn q o e => ?_, hm⟩
  · rw [run_slice_lh (P := Tryz.prog) W 22 A n c Tryz.underlying22 .i64 .i64 f t h0 h1 (by omega)]
    go_simp
  · show t.toNat - f.toNat ≤ c - f.toNat
    omega
  · show c - f.toNat ≤ maxLen
    omega
  · show Reads _ _ _ (t.toNat - f.toNat) _
    refine ⟨by rw [List.length_map, cutL_len h0 h1 (by omega)]; omega, fun hn => ?_⟩
    obtain ⟨b, o, rfl, hb, hc⟩ := e3.2 (by omega)
    rw [if_neg (by omega)]
    refine ⟨b, o + f.toNat, ?_, hb, fun j u hu => ?_⟩
    · simp only [Option.map_some]
      unfold Addr.add
      split
      · rename_i h
        rw [h]; rfl
      · rfl
    · rw [Nat.add_assoc]
      refine hc _ u ?_
      have hj := (List.getElem?_eq_some_iff.1 hu).1
      rw [List.length_map, cutL_len h0 h1 (by omega)] at hj
      rw [← hu, List.getElem?_map, List.getElem?_map]
      unfold cutL
      rw [List.getElem?_take, if_pos hj, List.getElem?_drop]
  · obtain ⟨b, o', rfl, hb, hc⟩ := e3.2 (by omega)
    rw [if_neg (by omega)] at e
    simp only [Option.map_some, Option.some.injEq] at e
    unfold Addr.add at e
    refine ⟨o', ?_⟩
    split at e
    · injection e with e1 e2
      subst e1
      rfl
    · injection e with e1 e2
      subst e1
      rfl
end Go.Proofs.YtoephlkfejcadaaGreat

/- Proved here, without conditions: plain facts on pieces: texts put together, what is chosen, what all sides' texts are. -/
import Derived.Test.YtoamkfegjhailaaContPure
import Derived.Test.YtoamkfegjhailaaPure
namespace Go.Proofs.Ytoamkfegjhailaa
set_option linter.unusedVariables false

/-- A piece: is it a conflict, its text, its base, its sides. -/
abbrev Pc := Bool × Txs × Txs × List Txs
instance txsDec : DecidableEq Txs := inferInstance
instance txssDec : DecidableEq (List Txs) := inferInstance
instance pcDec : DecidableEq Pc := instDecidableEqProd
instance pcsDec : DecidableEq (List Pc) := inferInstance
def tPc (t : Txs) : Pc := (false, t, [], [])
def cPc (b : Txs) (s : List Txs) : Pc := (true, [], b, s)

def joinT (t : Txs) : List Pc → List Pc
  | (false, t', b, s) :: r => (false, t ++ t', b, s) :: r
  | r => if t = [] then r else tPc t :: r
/-- Texts that stand side by side are one; empty ones are left out. -/
def normal : List Pc → List Pc
  | [] => []
  | (true, _, b, s) :: l => cPc b s :: normal l
  | (false, t, _, _) :: l => joinT t (normal l)
def cleanB (l : List Pc) : Bool := l.all fun p => !p.1
/-- What is chosen of a piece, and of pieces. -/
def chosen (n : Int) (p : Pc) : Txs := if p.1 = true then (if 1 ≤ n then (p.2.2.2[(n - 1).toNat]?).getD [] else []) else p.2.1
def choose (l : List Pc) (n : Int) : Txs := l.flatMap (chosen n)

/-- An open list's last text gets a line feed. -/
def closed (l : Txs) : Txs := match l.getLast? with | some s => if endedB s then l else l.dropLast ++ [s ++ [10]] | none => l
def unionT : List Txs → Txs
  | [] => []
  | d :: ds => (if ds.any (fun x => !x.isEmpty) then closed d else d) ++ unionT ds
/-- What becomes of a base, and parts. -/
def pieceD (base : Txs) (ps : List Txs) (fav : Int) (un : Bool) : Pc :=
  match diffs base ps with
  | [] => tPc base
  | [d] => tPc d
  | d :: e :: l => if 1 ≤ fav ∧ fav ≤ ps.length then tPc ((ps[(fav - 1).toNat]?).getD []) else if un = true then tPc (unionT (d :: e :: l)) else cPc base ps

section
variable {l r : List Pc} {t t' : Txs} {n : Int}
theorem joinT_append (t t' : Txs) : ∀ r : List Pc, joinT (t ++ t') r = joinT t (joinT t' r)
  | [] => by
    unfold joinT
    by_cases h : t' = []
    · subst h; simp
    · by_cases h2 : t = [] <;> simp [h, h2, tPc]
  | (false, x, b, s) :: r => by simp [joinT]
  | (true, x, b, s) :: r => by
    unfold joinT
    by_cases h : t' = []
    · subst h; simp
    · by_cases h2 : t = [] <;> simp [h, h2, tPc]
theorem joinT_nil : ∀ r : List Pc, joinT [] r = r
  | [] => by simp [joinT]
  | (false, x, b, s) :: r => by simp [joinT]
  | (true, x, b, s) :: r => by simp [joinT]

/-- Pieces that are put together already. -/
def Put : Bool → List Pc → Prop
  | _, [] => True
  | pv, (true, t, b, s) :: l => t = [] ∧ Put false l
  | pv, (false, t, b, s) :: l => pv = false ∧ t ≠ [] ∧ b = [] ∧ s = [] ∧ Put true l
theorem Put.weak : ∀ {l : List Pc} {pv : Bool}, Put true l → Put pv l
  | [], _, _ => trivial
  | (true, t, b, s) :: l, _, h => h
  | (false, t, b, s) :: l, _, h => by cases h.1
theorem put_join (t : Txs) : ∀ {r : List Pc}, Put false r → Put false (joinT t r)
  | [], h => by
    unfold joinT
    by_cases e : t = []
    · simp [e, Put]
    · simp [e, Put, tPc]
  | (false, x, b, s) :: r, h => by
    obtain ⟨h1, h2, h3, h4, h5⟩ := h
    exact ⟨rfl, by simp [h2], h3, h4, h5⟩
  | (true, x, b, s) :: r, h => by
    unfold joinT
    by_cases e : t = []
    · simp only [e, if_true]; exact h
    · simp only [e, if_false]
      exact ⟨rfl, e, rfl, rfl, h⟩
theorem put_normal : ∀ l : List Pc, Put false (normal l)
  | [] => trivial
  | (true, _, b, s) :: l => ⟨rfl, put_normal l⟩
  | (false, t, _, _) :: l => put_join t (put_normal l)
theorem normal_put : ∀ {l : List Pc} {pv : Bool}, Put pv l → normal l = l
  | [], _, _ => rfl
  | (true, t, b, s) :: l, _, h => by
    obtain ⟨rfl, h⟩ := h
    rw [normal, normal_put h]
    rfl
  | (false, t, b, s) :: l, _, h => by
    obtain ⟨h1, h2, rfl, rfl, h5⟩ := h
    rw [normal, normal_put h5]
    match l, h5 with
    | [], _ => simp [joinT, h2, tPc]
    | (true, x, b, s) :: l, _ => simp [joinT, h2, tPc]
    | (false, x, b, s) :: l, h5 => cases h5.1
theorem normal_twice (l : List Pc) : normal (normal l) = normal l := normal_put (put_normal l)
theorem clean_join (t : Txs) : ∀ r : List Pc, cleanB (joinT t r) = cleanB r
  | [] => by by_cases h : t = [] <;> simp [joinT, h, cleanB, tPc]
  | (false, x, b, s) :: r => by simp [joinT, cleanB]
  | (true, x, b, s) :: r => by by_cases h : t = [] <;> simp [joinT, h, cleanB, tPc]
theorem clean_normal : ∀ l : List Pc, cleanB (normal l) = cleanB l
  | [] => rfl
  | (true, _, b, s) :: l => by simp [normal, cleanB, cPc]
  | (false, t, b, s) :: l => by
    rw [normal, clean_join, clean_normal l]
    simp [cleanB]
theorem choose_join (t : Txs) (n : Int) : ∀ r : List Pc, choose (joinT t r) n = t ++ choose r n
  | [] => by
    unfold joinT
    by_cases h : t = [] <;> simp [h, choose, chosen, tPc]
  | (false, x, b, s) :: r => by simp [joinT, choose, chosen]
  | (true, x, b, s) :: r => by
    unfold joinT
    by_cases h : t = [] <;> simp [h, choose, chosen, tPc]
theorem choose_normal (n : Int) : ∀ l : List Pc, choose (normal l) n = choose l n
  | [] => rfl
  | (true, x, b, s) :: l => by
    have := choose_normal n l
    unfold choose at this ⊢
    rw [normal, List.flatMap_cons, List.flatMap_cons, this]
    rfl
  | (false, t, b, s) :: l => by
    rw [normal, choose_join, choose_normal n l]
    rfl
/-- Is a text neither empty nor behind a text? -/
theorem put_at : ∀ {l : List Pc} {pv : Bool} {i : Nat} {p : Pc}, Put pv l → l[i]? = some p → p.1 = false → p.2.1 ≠ [] ∧ (0 < i → ∀ q, l[i - 1]? = some q → q.1 = true) ∧ (i = 0 → pv = false)
  | (true, t, b, s) :: l, pv, 0, p, h, hp, hf => by simp at hp; subst hp; cases hf
  | (false, t, b, s) :: l, pv, 0, p, h, hp, hf => by
    simp at hp
    subst hp
    exact ⟨h.2.1, fun h => absurd h (by omega), fun _ => h.1⟩
  | (c, t, b, s) :: l, pv, i + 1, p, h, hp, hf => by
    have h' : Put (!c) l := by cases c with | true => exact h.2 | false => exact h.2.2.2.2
    obtain ⟨k1, k2, k3⟩ := put_at h' (show l[i]? = some p from by simpa using hp) hf
    refine ⟨k1, fun _ q hq => ?_, fun h => absurd h (by omega)⟩
    rcases Nat.eq_zero_or_pos i with rfl | hi
    · have := k3 rfl
      simp at hq
      subst hq
      simpa using this
    · rw [show i + 1 - 1 = (i - 1) + 1 by omega, List.getElem?_cons_succ] at hq
      exact k2 hi q hq
end

section
variable {base : Txs} {ps : List Txs}
theorem piece_fav {fav : Int} (h1 : 1 ≤ fav) (h2 : fav ≤ ps.length) (un : Bool) : (pieceD base ps fav un).1 = false := by
  unfold pieceD
  match diffs base ps with
  | [] => rfl
  | [d] => rfl
  | d :: e :: l => simp [h1, h2, tPc]
/-- FAVOUR IS A CHOICE. -/
theorem piece_choice {fav : Int} (h1 : 1 ≤ fav) (h2 : fav ≤ ps.length) : choose [pieceD base ps 0 false] fav = (pieceD base ps fav false).2.1 := by
  unfold pieceD
  match diffs base ps with
  | [] => simp [choose, chosen, tPc]
  | [d] => simp [choose, chosen, tPc]
  | d :: e :: l => simp [choose, chosen, tPc, cPc, h1, h2]
theorem piece_union : (pieceD base ps 0 true).1 = false := by
  unfold pieceD
  match diffs base ps with
  | [] => rfl
  | [d] => rfl
  | d :: e :: l => simp [tPc]
theorem closed_len (d : Txs) : (closed d).length = d.length := by
  unfold closed
  match h : d.getLast? with
  | none => rfl
  | some s =>
    dsimp only
    split
    · rfl
    · have : d ≠ [] := by rintro rfl; simp at h
      have := List.length_pos_iff.2 this
      simp
      omega
theorem closed_same {d : Txs} (h : openB d = false) : closed d = d := by
  unfold closed
  unfold openB at h
  match h2 : d.getLast? with
  | none => rfl
  | some s => rw [h2] at h; simp at h; simp [h]
theorem union_len : ∀ ds : List Txs, (unionT ds).length = ds.flatten.length
  | [] => rfl
  | d :: ds => by
    unfold unionT
    rw [List.length_append, union_len ds, List.flatten_cons, List.length_append]
    split
    · rw [closed_len]
    · rfl
theorem union_same : ∀ ds : List Txs, (∀ d ∈ ds, openB d = false) → unionT ds = ds.flatten
  | [], _ => rfl
  | d :: ds, h => by
    unfold unionT
    rw [closed_same (h d (List.mem_cons_self ..)), union_same ds fun e he => h e (List.mem_cons_of_mem _ he), List.flatten_cons]
    split <;> rfl
end
end Go.Proofs.Ytoamkfegjhailaa

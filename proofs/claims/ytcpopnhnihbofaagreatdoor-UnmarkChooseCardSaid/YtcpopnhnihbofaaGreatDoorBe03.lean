/- Proved here: texts joined: Pure, PickPure, Pcs, FrameP. -/
import Derived.Test.YtcpopnhnihbofaaGreatDoorBe01
import Derived.Test.YtcpopnhnihbofaaGreatDoorBe02
import Derived.Lib.Bytealg
import Derived.Deep.Strs
import Derived.ChangeSame
/- Proved here, without conditions: plain facts on lists of bytes and their lines (no word of the program). -/
namespace Go.Proofs.YtcpopnhnihbofaaGreatDoor

/-- Where the first line of l ends. -/
def fe : List UInt8 → Nat
  | [] => 0
  | c :: r => if c = 10 then 1 else fe r + 1

/-- Is the last byte a line feed? -/
def endedB (l : List UInt8) : Bool := l.getLast? == some 10

/-- The lines of l. -/
def splitL : List UInt8 → List (List UInt8)
  | [] => []
  | c :: r => if c = 10 then [c] :: splitL r else match splitL r with
    | [] => [[c]]
    | x :: xs => (c :: x) :: xs

theorem fe_le (l : List UInt8) : fe l ≤ l.length := by
  induction l with
  | nil => simp [fe]
  | cons c r ih => unfold fe; split <;> simp <;> omega

theorem fe_pos {l : List UInt8} (h : l ≠ []) : 0 < fe l := by
  cases l with
  | nil => exact absurd rfl h
  | cons c r => unfold fe; split <;> omega

theorem splitL_step {l : List UInt8} (h : l ≠ []) : splitL l = l.take (fe l) :: splitL (l.drop (fe l)) := by
  induction l with
  | nil => exact absurd rfl h
  | cons c r ih =>
    by_cases hc : c = 10
    · simp [splitL, fe, hc]
    · cases r with
      | nil => simp [splitL, fe, hc]
      | cons d t =>
        have := ih (by simp)
        rw [splitL, fe, if_neg hc, if_neg hc, this]
        simp

theorem fe_index (l : List UInt8) : (fe l : Int) = if 0 ≤ Lib.indexByte l 10 then Lib.indexByte l 10 + 1 else l.length := by
  induction l with
  | nil => simp [fe, Lib.indexByte]
  | cons c r ih =>
    have hlo : -1 ≤ Lib.indexByte r 10 := Lib.indexByte_ge r 10
    by_cases hc : c = 10
    · simp [fe, Lib.indexByte, hc]
    · have hb : (c == 10) = false := by simpa using hc
      rw [fe, if_neg hc, Lib.indexByte, hb]
      by_cases h1 : Lib.indexByte r 10 = -1
      · rw [h1] at ih ⊢
        simp at ih ⊢
        omega
      · have h2 : (Lib.indexByte r 10 == -1) = false := by simpa using h1
        have h0 : 0 ≤ Lib.indexByte r 10 := by omega
        rw [if_pos h0] at ih
        simp only [h2]
        simp only [Bool.false_eq_true, if_false]
        rw [if_pos (by omega)]
        push_cast
        omega

theorem splitL_join (l : List UInt8) : (splitL l).flatten = l := by
  induction l with
  | nil => rfl
  | cons c r ih =>
    unfold splitL
    split
    · simp [ih]
    · split
      · next h => rw [h] at ih; simp at ih; simp [← ih]
      · next h => rw [h] at ih; simp at ih ⊢; exact ih

/-- May the list be the lines of something? -/
def mayB : List (List UInt8) → Bool
  | [] => true
  | s :: r => !s.isEmpty && !decide (fe s < s.length) && (r.isEmpty || endedB s) && mayB r

/-- All texts of all lists. -/
def joinL (sss : List (List (List UInt8))) : List UInt8 := (sss.map List.flatten).flatten
theorem flat_take {ss : List (List UInt8)} {j : Nat} {t : List UInt8} (h : ss[j]? = some t) : (ss.take (j + 1)).flatten = (ss.take j).flatten ++ t := by
  rw [take_at h]; simp
theorem join_take {sss : List (List (List UInt8))} {k : Nat} {ss : List (List UInt8)} (h : sss[k]? = some ss) : joinL (sss.take (k + 1)) = joinL (sss.take k) ++ ss.flatten := by
  unfold joinL; rw [take_at h]; simp
theorem flat_len (ss : List (List UInt8)) (j : Nat) : (ss.take j).flatten.length ≤ ss.flatten.length := by
  conv => rhs; rw [← List.take_append_drop j ss]
  rw [List.flatten_append, List.length_append]
  omega
theorem join_len (sss : List (List (List UInt8))) (k : Nat) : (joinL (sss.take k)).length ≤ (joinL sss).length := by
  unfold joinL
  conv => rhs; rw [← List.take_append_drop k sss]
  rw [List.map_append, List.flatten_append, List.length_append]
  omega
theorem join_room {sss : List (List (List UInt8))} {k j : Nat} {ss : List (List UInt8)} {t : List UInt8} (h : sss[k]? = some ss) (h' : ss[j]? = some t) : (joinL (sss.take k)).length + (ss.take j).flatten.length + t.length ≤ (joinL sss).length := by
  have h1 := join_len sss (k + 1)
  have h2 := flat_len ss (j + 1)
  rw [join_take h, List.length_append] at h1
  rw [flat_take h', List.length_append] at h2
  omega

theorem splitL_seg {seg : List UInt8} (h : ∀ c ∈ seg, c ≠ 10) (rest : List UInt8) : splitL (seg ++ 10 :: rest) = (seg ++ [10]) :: splitL rest := by
  induction seg with
  | nil => simp [splitL]
  | cons c r ih =>
    have hc : c ≠ 10 := h c (by simp)
    rw [List.cons_append, splitL, if_neg hc, ih (fun d hd => h d (by simp [hd]))]
    simp
theorem splitL_one {l : List UInt8} (h : ∀ c ∈ l, c ≠ 10) (hne : l ≠ []) : splitL l = [l] := by
  induction l with
  | nil => exact absurd rfl hne
  | cons c r ih =>
    have hc : c ≠ 10 := h c (by simp)
    cases r with
    | nil => simp [splitL, hc]
    | cons d t =>
      rw [splitL, if_neg hc, ih (fun d hd => h d (by simp [hd])) (by simp)]

/-- Has the list texts, and is the last one not ended? -/
def openB (ss : List (List UInt8)) : Bool := match ss.getLast? with | none => false | some t => !endedB t

theorem splitL_nil {l : List UInt8} (h : splitL l = []) : l = [] := by
  have := splitL_join l
  rw [h] at this
  exact this.symm
theorem ended_cons (c : UInt8) {x : List UInt8} (h : x ≠ []) : endedB (c :: x) = endedB x := by
  cases x with
  | nil => exact absurd rfl h
  | cons d t => simp [endedB]
theorem open_cons (s : List UInt8) {ss : List (List UInt8)} (h : ss ≠ []) : openB (s :: ss) = openB ss := by
  cases ss with
  | nil => exact absurd rfl h
  | cons d t => simp [openB, List.getLast?_cons_cons]

theorem may_split (l : List UInt8) : mayB (splitL l) = true := by
  induction l with
  | nil => rfl
  | cons c r ih =>
    by_cases hc : c = 10
    · subst hc
      simp [splitL, mayB, ih, endedB, fe]
    · rw [splitL, if_neg hc]
      cases h : splitL r with
      | nil => simp [mayB, fe, hc]
      | cons x xs =>
        rw [h] at ih
        simp only [mayB, Bool.and_eq_true, Bool.not_eq_true'] at ih
        have hx : x ≠ [] := by have := ih.1.1.1; intro e; rw [e] at this; cases this
        simp only [mayB, ended_cons c hx, fe, if_neg hc, List.length_cons]
        have h2 := ih.1.1.2
        simp at h2
        simp [ih.1.2, ih.2]
        omega
theorem open_split (l : List UInt8) : openB (splitL l) = (!l.isEmpty && !endedB l) := by
  induction l with
  | nil => rfl
  | cons c r ih =>
    by_cases hc : c = 10
    · subst hc
      rw [splitL, if_pos rfl]
      by_cases hr : r = []
      · subst hr; rfl
      · rw [open_cons _ (fun e => hr (splitL_nil e)), ih, ended_cons _ hr]
        simp [hr]
    · rw [splitL, if_neg hc]
      cases h : splitL r with
      | nil =>
        have := splitL_nil h
        subst this
        simp [openB, endedB]
      | cons x xs =>
        rw [h] at ih
        have hr : r ≠ [] := by rintro rfl; simp [splitL] at h
        have hx : x ≠ [] := by
          have := may_split r
          rw [h] at this
          simp only [mayB, Bool.and_eq_true, Bool.not_eq_true'] at this
          intro e; rw [e] at this; exact absurd this.1.1.1 (by simp)
        rw [ended_cons _ hr]
        have e : openB ((c :: x) :: xs) = openB (x :: xs) := by
          cases xs with
          | nil => simp [openB, ended_cons c hx]
          | cons y ys => rw [open_cons (c :: x) (by simp : y :: ys ≠ []), open_cons x (by simp : y :: ys ≠ [])]
        dsimp only
        rw [e, ih]
        simp [hr]

end Go.Proofs.YtcpopnhnihbofaaGreatDoor
/- Proved here, without conditions: plain facts on pieces: texts put together, what is chosen, what all sides' texts are. -/
namespace Go.Proofs.YtcpopnhnihbofaaGreatDoor
set_option linter.unusedVariables false

/-- A piece: is it a conflict, its text, its base, its sides. -/
abbrev Pc := Bool × Txs × Txs × List Txs
instance txsDec : DecidableEq Txs := inferInstance
instance txssDec : DecidableEq (List Txs) := inferInstance
instance pcDec : DecidableEq Pc := instDecidableEqProd
instance pcsDec : DecidableEq (List Pc) := inferInstance
def tPc (t : Txs) : Pc := (false, t, [], [])
def cPc (b : Txs) (s : List Txs) : Pc := (true, [], b, s)

def joinT (t : Txs) : List Pc → List Pc
  | (false, t', b, s) :: r => (false, t ++ t', b, s) :: r
  | r => if t = [] then r else tPc t :: r
/-- Texts that stand side by side are one; empty ones are left out. -/
def normal : List Pc → List Pc
  | [] => []
  | (true, _, b, s) :: l => cPc b s :: normal l
  | (false, t, _, _) :: l => joinT t (normal l)
def cleanB (l : List Pc) : Bool := l.all fun p => !p.1
/-- What is chosen of a piece, and of pieces. -/
def chosen (n : Int) (p : Pc) : Txs := if p.1 = true then (if 1 ≤ n then (p.2.2.2[(n - 1).toNat]?).getD [] else []) else p.2.1
def choose (l : List Pc) (n : Int) : Txs := l.flatMap (chosen n)

/-- An open list's last text gets a line feed. -/
def closed (l : Txs) : Txs := match l.getLast? with | some s => if endedB s then l else l.dropLast ++ [s ++ [10]] | none => l
def unionT : List Txs → Txs
  | [] => []
  | d :: ds => (if ds.any (fun x => !x.isEmpty) then closed d else d) ++ unionT ds
/-- What becomes of a base, and parts. -/
def pieceD (base : Txs) (ps : List Txs) (fav : Int) (un : Bool) : Pc :=
  match diffs base ps with
  | [] => tPc base
  | [d] => tPc d
  | d :: e :: l => if 1 ≤ fav ∧ fav ≤ ps.length then tPc ((ps[(fav - 1).toNat]?).getD []) else if un = true then tPc (unionT (d :: e :: l)) else cPc base ps

section
variable {l r : List Pc} {t t' : Txs} {n : Int}
theorem joinT_append (t t' : Txs) : ∀ r : List Pc, joinT (t ++ t') r = joinT t (joinT t' r)
  | [] => by
    unfold joinT
    by_cases h : t' = []
    · subst h; simp
    · by_cases h2 : t = [] <;> simp [h, h2, tPc]
  | (false, x, b, s) :: r => by simp [joinT]
  | (true, x, b, s) :: r => by
    unfold joinT
    by_cases h : t' = []
    · subst h; simp
    · by_cases h2 : t = [] <;> simp [h, h2, tPc]
theorem joinT_nil : ∀ r : List Pc, joinT [] r = r
  | [] => by simp [joinT]
  | (false, x, b, s) :: r => by simp [joinT]
  | (true, x, b, s) :: r => by simp [joinT]

/-- Pieces that are put together already. -/
def Put : Bool → List Pc → Prop
  | _, [] => True
  | pv, (true, t, b, s) :: l => t = [] ∧ Put false l
  | pv, (false, t, b, s) :: l => pv = false ∧ t ≠ [] ∧ b = [] ∧ s = [] ∧ Put true l
theorem Put.weak : ∀ {l : List Pc} {pv : Bool}, Put true l → Put pv l
  | [], _, _ => trivial
  | (true, t, b, s) :: l, _, h => h
  | (false, t, b, s) :: l, _, h => by cases h.1
theorem put_join (t : Txs) : ∀ {r : List Pc}, Put false r → Put false (joinT t r)
  | [], h => by
    unfold joinT
    by_cases e : t = []
    · simp [e, Put]
    · simp [e, Put, tPc]
  | (false, x, b, s) :: r, h => by
    obtain ⟨h1, h2, h3, h4, h5⟩ := h
    exact ⟨rfl, by simp [h2], h3, h4, h5⟩
  | (true, x, b, s) :: r, h => by
    unfold joinT
    by_cases e : t = []
    · simp only [e, if_true]; exact h
    · simp only [e, if_false]
      exact ⟨rfl, e, rfl, rfl, h⟩
theorem put_normal : ∀ l : List Pc, Put false (normal l)
  | [] => trivial
  | (true, _, b, s) :: l => ⟨rfl, put_normal l⟩
  | (false, t, _, _) :: l => put_join t (put_normal l)
theorem normal_put : ∀ {l : List Pc} {pv : Bool}, Put pv l → normal l = l
  | [], _, _ => rfl
  | (true, t, b, s) :: l, _, h => by
    obtain ⟨rfl, h⟩ := h
    rw [normal, normal_put h]
    rfl
  | (false, t, b, s) :: l, _, h => by
    obtain ⟨h1, h2, rfl, rfl, h5⟩ := h
    rw [normal, normal_put h5]
    match l, h5 with
    | [], _ => simp [joinT, h2, tPc]
    | (true, x, b, s) :: l, _ => simp [joinT, h2, tPc]
    | (false, x, b, s) :: l, h5 => cases h5.1
theorem normal_twice (l : List Pc) : normal (normal l) = normal l := normal_put (put_normal l)
theorem clean_join (t : Txs) : ∀ r : List Pc, cleanB (joinT t r) = cleanB r
  | [] => by by_cases h : t = [] <;> simp [joinT, h, cleanB, tPc]
  | (false, x, b, s) :: r => by simp [joinT, cleanB]
  | (true, x, b, s) :: r => by by_cases h : t = [] <;> simp [joinT, h, cleanB, tPc]
theorem clean_normal : ∀ l : List Pc, cleanB (normal l) = cleanB l
  | [] => rfl
  | (true, _, b, s) :: l => by simp [normal, cleanB, cPc]
  | (false, t, b, s) :: l => by
    rw [normal, clean_join, clean_normal l]
    simp [cleanB]
theorem choose_join (t : Txs) (n : Int) : ∀ r : List Pc, choose (joinT t r) n = t ++ choose r n
  | [] => by
    unfold joinT
    by_cases h : t = [] <;> simp [h, choose, chosen, tPc]
  | (false, x, b, s) :: r => by simp [joinT, choose, chosen]
  | (true, x, b, s) :: r => by
    unfold joinT
    by_cases h : t = [] <;> simp [h, choose, chosen, tPc]
theorem choose_normal (n : Int) : ∀ l : List Pc, choose (normal l) n = choose l n
  | [] => rfl
  | (true, x, b, s) :: l => by
    have := choose_normal n l
    unfold choose at this ⊢
    rw [normal, List.flatMap_cons, List.flatMap_cons, this]
    rfl
  | (false, t, b, s) :: l => by
    rw [normal, choose_join, choose_normal n l]
    rfl
/-- Is a text neither empty nor behind a text? -/
theorem put_at : ∀ {l : List Pc} {pv : Bool} {i : Nat} {p : Pc}, Put pv l → l[i]? = some p → p.1 = false → p.2.1 ≠ [] ∧ (0 < i → ∀ q, l[i - 1]? = some q → q.1 = true) ∧ (i = 0 → pv = false)
  | (true, t, b, s) :: l, pv, 0, p, h, hp, hf => by simp at hp; subst hp; cases hf
  | (false, t, b, s) :: l, pv, 0, p, h, hp, hf => by
    simp at hp
    subst hp
    exact ⟨h.2.1, fun h => absurd h (by omega), fun _ => h.1⟩
  | (c, t, b, s) :: l, pv, i + 1, p, h, hp, hf => by
    have h' : Put (!c) l := by cases c with | true => exact h.2 | false => exact h.2.2.2.2
    obtain ⟨k1, k2, k3⟩ := put_at h' (show l[i]? = some p from by simpa using hp) hf
    refine ⟨k1, fun _ q hq => ?_, fun h => absurd h (by omega)⟩
    rcases Nat.eq_zero_or_pos i with rfl | hi
    · have := k3 rfl
      simp at hq
      subst hq
      simpa using this
    · rw [show i + 1 - 1 = (i - 1) + 1 by omega, List.getElem?_cons_succ] at hq
      exact k2 hi q hq
end

section
variable {base : Txs} {ps : List Txs}
theorem piece_fav {fav : Int} (h1 : 1 ≤ fav) (h2 : fav ≤ ps.length) (un : Bool) : (pieceD base ps fav un).1 = false := by
  unfold pieceD
  match diffs base ps with
  | [] => rfl
  | [d] => rfl
  | d :: e :: l => simp [h1, h2, tPc]
/-- FAVOUR IS A CHOICE. -/
theorem piece_choice {fav : Int} (h1 : 1 ≤ fav) (h2 : fav ≤ ps.length) : choose [pieceD base ps 0 false] fav = (pieceD base ps fav false).2.1 := by
  unfold pieceD
  match diffs base ps with
  | [] => simp [choose, chosen, tPc]
  | [d] => simp [choose, chosen, tPc]
  | d :: e :: l => simp [choose, chosen, tPc, cPc, h1, h2]
theorem piece_union : (pieceD base ps 0 true).1 = false := by
  unfold pieceD
  match diffs base ps with
  | [] => rfl
  | [d] => rfl
  | d :: e :: l => simp [tPc]
theorem closed_len (d : Txs) : (closed d).length = d.length := by
  unfold closed
  match h : d.getLast? with
  | none => rfl
  | some s =>
    dsimp only
    split
    · rfl
    · have : d ≠ [] := by rintro rfl; simp at h
      have := List.length_pos_iff.2 this
      simp
      omega
theorem closed_same {d : Txs} (h : openB d = false) : closed d = d := by
  unfold closed
  unfold openB at h
  match h2 : d.getLast? with
  | none => rfl
  | some s => rw [h2] at h; simp at h; simp [h]
theorem union_len : ∀ ds : List Txs, (unionT ds).length = ds.flatten.length
  | [] => rfl
  | d :: ds => by
    unfold unionT
    rw [List.length_append, union_len ds, List.flatten_cons, List.length_append]
    split
    · rw [closed_len]
    · rfl
theorem union_same : ∀ ds : List Txs, (∀ d ∈ ds, openB d = false) → unionT ds = ds.flatten
  | [], _ => rfl
  | d :: ds, h => by
    unfold unionT
    rw [closed_same (h d (List.mem_cons_self ..)), union_same ds fun e he => h e (List.mem_cons_of_mem _ he), List.flatten_cons]
    split <;> rfl
end
end Go.Proofs.YtcpopnhnihbofaaGreatDoor
/- Proved here, without conditions on the program: slices of pieces that read as lists. -/
namespace Go.Proofs.YtcpopnhnihbofaaGreatDoor
open Go.RowKit
set_option linter.unusedVariables false

/-- A piece's text, base and sides, as slices. -/
abbrev PcV := Slc × Slc × Slc
/-- A slice of slices of texts, by its parts. -/
def SlcR (w : World) (B : Nat) (r : Slc) (sss : List Txs) : Prop := r.2.1 ≤ r.2.2 ∧ r.2.2 ≤ maxLen ∧ ∃ rows, RowsT w B r.1 r.2.1 rows sss
def PcR (w : World) (B : Nat) (v : PcV) (p : Pc) : Prop := TxR w B v.1 p.2.1 ∧ TxR w B v.2.1 p.2.2.1 ∧ SlcR w B v.2.2 p.2.2.2
/-- The cells of a piece. -/
def pcC (c : Bool) (v : PcV) : List Value := [.bool c, slcV v.1, slcV v.2.1, slcV v.2.2]
/-- A slice of pieces. -/
def Pcs (w : World) (B : Nat) (A : Option Addr) (n : Nat) (vs : List PcV) (ps : List Pc) : Prop :=
  ps.length = n ∧ vs.length = n ∧ (0 < n → ∃ b o : Nat, A = some ⟨b, o, none⟩ ∧ b < B ∧ ∀ (j : Nat) (v : PcV) (p : Pc), vs[j]? = some v → ps[j]? = some p →
    w.cell? ⟨b, o + j * 4, none⟩ = some (.bool p.1) ∧ w.cell? ⟨b, o + j * 4 + 1, none⟩ = some (slcV v.1) ∧ w.cell? ⟨b, o + j * 4 + 2, none⟩ = some (slcV v.2.1) ∧ w.cell? ⟨b, o + j * 4 + 3, none⟩ = some (slcV v.2.2)) ∧
  ∀ (j : Nat) (v : PcV) (p : Pc), vs[j]? = some v → ps[j]? = some p → PcR w B v p

section
variable {w w' : World} {B B' n : Nat} {A : Option Addr} {r : Slc} {v : PcV} {p : Pc} {vs : List PcV} {ps : List Pc} {sss : List Txs}
theorem SlcR.keep (h : SlcR w B r sss) (hk : ∀ p : Addr, p.block < B → w'.cell? p = w.cell? p) : SlcR w' B r sss := by
  obtain ⟨h1, h2, rows, h3⟩ := h
  exact ⟨h1, h2, rows, h3.keep hk⟩
theorem SlcR.more (h : SlcR w B r sss) (hB : B ≤ B') : SlcR w B' r sss := by
  obtain ⟨h1, h2, rows, h3⟩ := h
  exact ⟨h1, h2, rows, h3.more hB⟩
theorem SlcR.nil (w : World) (B : Nat) : SlcR w B (none, 0, 0) [] := ⟨Nat.le_refl _, Nat.zero_le _, [], RowsT.nil _ _ _⟩
theorem PcR.keep (h : PcR w B v p) (hk : ∀ p : Addr, p.block < B → w'.cell? p = w.cell? p) : PcR w' B v p := ⟨h.1.keep hk, h.2.1.keep hk, h.2.2.keep hk⟩
theorem PcR.more (h : PcR w B v p) (hB : B ≤ B') : PcR w B' v p := ⟨h.1.more hB, h.2.1.more hB, h.2.2.more hB⟩
theorem PcR.up (h : PcR w w.heap.size v p) (hb : Below w.heap.size w w') : PcR w' w'.heap.size v p := (h.keep fun _ hp => hb.cell hp).more hb.size
theorem Pcs.len (h : Pcs w B A n vs ps) : ps.length = n := h.1
theorem Pcs.keep (h : Pcs w B A n vs ps) (hk : ∀ p : Addr, p.block < B → w'.cell? p = w.cell? p) : Pcs w' B A n vs ps := by
  obtain ⟨h1, h2, h3, h4⟩ := h
  refine ⟨h1, h2, fun hn => ?_, fun j v p a b => (h4 j v p a b).keep hk⟩
  obtain ⟨b, o, e, hb, hc⟩ := h3 hn
  refine ⟨b, o, e, hb, fun j v p a b' => ?_⟩
  obtain ⟨k1, k2, k3, k4⟩ := hc j v p a b'
  exact ⟨(hk _ hb).trans k1, (hk _ hb).trans k2, (hk _ hb).trans k3, (hk _ hb).trans k4⟩
theorem Pcs.more (h : Pcs w B A n vs ps) (hB : B ≤ B') : Pcs w B' A n vs ps := by
  obtain ⟨h1, h2, h3, h4⟩ := h
  refine ⟨h1, h2, fun hn => ?_, fun j v p a b => (h4 j v p a b).more hB⟩
  obtain ⟨b, o, e, hb, hc⟩ := h3 hn
  exact ⟨b, o, e, by omega, hc⟩
theorem Pcs.below (h : Pcs w B A n vs ps) (hb : Below B w w') : Pcs w' B A n vs ps := h.keep fun _ hp => hb.cell hp
theorem Pcs.up (h : Pcs w w.heap.size A n vs ps) (hb : Below w.heap.size w w') : Pcs w' w'.heap.size A n vs ps := (h.below hb).more hb.size
theorem Pcs.drewN (h : Pcs w B A n vs ps) (q : Nat) : Pcs (w.drewN q) B A n vs ps := h.keep fun _ _ => rfl
theorem Pcs.drew (h : Pcs w B A n vs ps) : Pcs w.drew B A n vs ps := h.keep fun _ _ => rfl
theorem Pcs.nil (w : World) (B : Nat) (A : Option Addr) : Pcs w B A 0 [] [] := ⟨rfl, rfl, fun h => absurd h (by omega), fun j v p h => by simp at h⟩
theorem Pcs.at_ {k : Nat} (h : Pcs w B A n vs ps) (hk : k < n) : ∃ b o cf At nt ct Ab nb cb As ns cs t bs ss, A = some ⟨b, o, none⟩ ∧ b < B ∧ vs[k]? = some ((At, nt, ct), (Ab, nb, cb), (As, ns, cs)) ∧ ps[k]? = some (cf, t, bs, ss) ∧
    w.cell? ⟨b, o + k * 4, none⟩ = some (.bool cf) ∧ w.cell? ⟨b, o + k * 4 + 1, none⟩ = some (.slice At nt ct) ∧ w.cell? ⟨b, o + k * 4 + 2, none⟩ = some (.slice Ab nb cb) ∧ w.cell? ⟨b, o + k * 4 + 3, none⟩ = some (.slice As ns cs) ∧
    TxR w B (At, nt, ct) t ∧ TxR w B (Ab, nb, cb) bs ∧ SlcR w B (As, ns, cs) ss := by
  obtain ⟨h1, h2, h3, h4⟩ := h
  obtain ⟨b, o, e, hb, hc⟩ := h3 (by omega)
  have hv : vs[k]? = some (vs[k]'(by omega)) := List.getElem?_eq_getElem _
  have hp : ps[k]? = some (ps[k]'(by omega)) := List.getElem?_eq_getElem _
  obtain ⟨k1, k2, k3, k4⟩ := hc k _ _ hv hp
  obtain ⟨j1, j2, j3⟩ := h4 k _ _ hv hp
  exact ⟨b, o, _, _, _, _, _, _, _, _, _, _, _, _, _, e, hb, hv, hp, k1, k2, k3, k4, j1, j2, j3⟩
end
theorem pcC_one (c : Bool) (v : PcV) : ∀ u ∈ pcC c v, u.oneCell' = true := by
  intro u hu
  simp [pcC] at hu
  rcases hu with rfl | rfl | rfl | rfl <;> rfl
end Go.Proofs.YtcpopnhnihbofaaGreatDoor
/- Proved here: what comes in as a slice of pieces reads as a list; what comes in as a way to resolve conflicts has a number and a Bool. -/
namespace Go.Proofs.YtcpopnhnihbofaaGreatDoor
open Go.ChangeShapes Go.WideShapes Go.ChangeAt Go.RowKit
set_option linter.unusedVariables false

section
variable {H : Type} {enc : TypeId × Value → H} {P : Program} {W : World} {base : Nat} {spare : Nat → Bool} {held : Bool}
theorem trod_struct4 {t : TypeId} {f0 f1 f2 f3 : Field} {fuel : Nat} {cs : List Value} {x : DataW H × List MemPlace} (ht : P.underlying t = some (.struct #[f0, f1, f2, f3])) (h : DataW.trod enc P W base spare held fuel t cs = some x) :
    ∃ y0 y1 y2 y3 n, cs.length = P.cellsOf t ∧ DataW.trod enc P W base spare held n f0.type ((cs.drop f0.offset).take (P.cellsOf f0.type)) = some y0 ∧ DataW.trod enc P W base spare held n f1.type ((cs.drop f1.offset).take (P.cellsOf f1.type)) = some y1 ∧
      DataW.trod enc P W base spare held n f2.type ((cs.drop f2.offset).take (P.cellsOf f2.type)) = some y2 ∧ DataW.trod enc P W base spare held n f3.type ((cs.drop f3.offset).take (P.cellsOf f3.type)) = some y3 := by
  obtain ⟨xs, n, _, rfl, hl, hlen, hf⟩ := DataW.trod_struct ht h
  match xs, hlen with
  | [y0, y1, y2, y3], _ => exact ⟨y0, y1, y2, y3, n, hl, by simpa using hf 0 f0 rfl, by simpa using hf 1 f1 rfl, by simpa using hf 2 f2 rfl, by simpa using hf 3 f3 rfl⟩
theorem slc_of {t e : TypeId} {fuel : Nat} {u : Value} {x : DataW H × List MemPlace} (ht : P.underlying t = some (.slice e)) (h : DataW.trod enc P W base spare held fuel t [u] = some x) : ∃ A n c, u = .slice A n c := by
  rcases Go.Deep.open_slice ht h with ⟨h3, _⟩ | ⟨a', l', c', _, _, _, _, h3, _⟩
  · exact ⟨_, _, _, by simpa using h3⟩
  · exact ⟨_, _, _, by simpa using h3⟩
end
theorem addr_plus (b o k : Nat) : (⟨b, o, none⟩ : Addr).add k = ⟨b, o + k, none⟩ := by unfold Addr.add; split <;> simp_all
theorem fourP {α : Type} (l : List α) (h : l.length = 4) : ∃ a b c d, l = [a, b, c, d] := by
  match l, h with
  | [a, b, c, d], _ => exact ⟨a, b, c, d, rfl⟩
theorem twoP {α : Type} (l : List α) (h : l.length = 2) : ∃ a b, l = [a, b] := by
  match l, h with
  | [a, b], _ => exact ⟨a, b, rfl⟩

/-- Pieces that came in. -/
theorem argPcs {H : Type} {enc : TypeId × Value → H} {P : Program} {W : World} {base : Nat} {held : Bool} {t e sl ss s b : TypeId} {f0 f1 f2 f3 : Field} {fuel : Nat} {A : Option Addr} {n c : Nat} {x : DataW H × List MemPlace}
    (ht : P.underlying t = some (.slice e)) (he : P.underlying e = some (.struct #[f0, f1, f2, f3])) (a0 : f0.type = b) (a1 : f1.type = sl) (a2 : f2.type = sl) (a3 : f3.type = ss) (b0 : f0.offset = 0) (b1 : f1.offset = 1) (b2 : f2.offset = 2) (b3 : f3.offset = 3)
    (hb : P.underlying b = some .bool) (hsl : P.underlying sl = some (.slice s)) (hss : P.underlying ss = some (.slice sl)) (hs : P.underlying s = some .string)
    (ce : P.cellsOf e = 4) (cb : P.cellsOf b = 1) (csl : P.cellsOf sl = 1) (css : P.cellsOf ss = 1) (cs : P.cellsOf s = 1)
    (h : DataW.trod enc P W base (fun _ => true) held fuel t [.slice A n c] = some x) : ∃ vs ps, n ≤ c ∧ c ≤ maxLen ∧ Pcs W W.heap.size A n vs ps := by
  rcases Go.Deep.open_slice ht h with ⟨hcs, _⟩ | ⟨a, len, cap, m, m', D, Pl, hcs, _, hl, hm, hmm, _, hx⟩
  · simp at hcs
    obtain ⟨rfl, rfl, rfl⟩ := hcs
    exact ⟨[], [], Nat.le_refl _, Nat.zero_le _, Pcs.nil _ _ _⟩
  · simp at hcs
    obtain ⟨rfl, rfl, rfl⟩ := hcs
    simp only [if_true] at hmm
    subst hmm
    rw [ce] at hx
    have each : ∀ k, k < n → ∃ p : PcV × Pc, W.cell? (a.add (k * 4)) = some (.bool p.2.1) ∧ W.cell? ((a.add (k * 4)).add 1) = some (slcV p.1.1) ∧ W.cell? ((a.add (k * 4)).add 2) = some (slcV p.1.2.1) ∧ W.cell? ((a.add (k * 4)).add 3) = some (slcV p.1.2.2) ∧ PcR W W.heap.size p.1 p.2 := by
      intro k hk
      obtain ⟨cs', h1, h2⟩ := hx k (by omega)
      obtain ⟨_, hlen, hcell⟩ := World.cells?_some h1
      obtain ⟨c0, c1, c2, c3, rfl⟩ := fourP cs' hlen
      obtain ⟨y0, y1, y2, y3, m2, _, s0, s1, s2, s3⟩ := trod_struct4 he h2
      rw [a0, b0, cb] at s0
      rw [a1, b1, csl] at s1
      rw [a2, b2, csl] at s2
      rw [a3, b3, css] at s3
      simp at s0 s1 s2 s3
      obtain ⟨u, hu, _⟩ := DataW.trod_bool hb s0
      simp at hu
      subst hu
      obtain ⟨A1, n1, k1, rfl⟩ := slc_of hsl s1
      obtain ⟨A2, n2, k2, rfl⟩ := slc_of hsl s2
      obtain ⟨A3, n3, k3, rfl⟩ := slc_of hss s3
      obtain ⟨t1, w1⟩ := argStrs hsl hs cs s1
      obtain ⟨t2, w2⟩ := argStrs hsl hs cs s2
      obtain ⟨r3, t3, d1, d2, d3⟩ := argTs hss hsl hs csl cs s3
      have hadd : (a.add (k * 4)).add 0 = a.add (k * 4) := by simp [Addr.add]
      have q0 := hcell 0 (by omega)
      rw [hadd] at q0
      exact ⟨(((A1, n1, k1), (A2, n2, k2), (A3, n3, k3)), (u, t1, t2, t3)), by rw [q0]; rfl, by rw [hcell 1 (by omega)]; rfl, by rw [hcell 2 (by omega)]; rfl, by rw [hcell 3 (by omega)]; rfl, w1.txR, w2.txR, d1, d2, r3, d3⟩
    obtain ⟨p, hp⟩ := Go.Deep.choose_lt each
    have key : ∀ (j : Nat) (v : PcV) (q : Pc), ((List.range n).map fun k => (p k).1)[j]? = some v → ((List.range n).map fun k => (p k).2)[j]? = some q → j < n ∧ (p j).1 = v ∧ (p j).2 = q := by
      intro j v q hv hq
      have hj : j < n := by
        have := (List.getElem?_eq_some_iff.1 hv).1
        simpa using this
      simp [hj] at hv hq
      exact ⟨hj, hv, hq⟩
    refine ⟨(List.range n).map fun k => (p k).1, (List.range n).map fun k => (p k).2, hl, hm, by simp, by simp, fun hn => ?_, fun j v q hv hq => ?_⟩
    · obtain ⟨b, off, spot⟩ := a
      have h0 := (hp 0 hn).1
      have hspot : spot = none := by simpa [Addr.add] using World.cell?_spot h0
      subst hspot
      refine ⟨b, off, rfl, by simpa [Addr.add] using World.block_lt_of_cell? _ _ h0, fun j v q hv hq => ?_⟩
      obtain ⟨hj, rfl, rfl⟩ := key j v q hv hq
      obtain ⟨h1, h2, h3, h4, h5⟩ := hp j hj
      have e1 : (⟨b, off, none⟩ : Addr).add (j * 4) = ⟨b, off + j * 4, none⟩ := addr_plus _ _ _
      have er : ∀ r, (⟨b, off + j * 4, none⟩ : Addr).add r = ⟨b, off + j * 4 + r, none⟩ := fun r => addr_plus _ _ _
      rw [e1] at h1 h2 h3 h4
      rw [er] at h2 h3 h4
      exact ⟨h1, h2, h3, h4⟩
    · obtain ⟨hj, rfl, rfl⟩ := key j v q hv hq
      exact (hp j hj).2.2.2.2

/-- A way to resolve conflicts that came in. -/
theorem argHow {H : Type} {enc : TypeId × Value → H} {P : Program} {W : World} {r : Reach} {base b0 : Nat} {held : Bool} {e i b : TypeId} {f0 f1 : Field} {v : Value} {d : DataW H} {p : List MemPlace}
    (he : P.underlying e = some (.struct #[f0, f1])) (a0 : f0.type = i) (a1 : f1.type = b) (o0 : f0.offset = 0) (o1 : f1.offset = 1) (hi : P.underlying i = some (.int .i64)) (hb : P.underlying b = some .bool) (ce : P.cellsOf e = 2) (ci : P.cellsOf i = 1) (cb : P.cellsOf b = 1) (hv : Value.okWide P W r b0 e v)
    (h : DataW.Trod enc P W base (fun _ => true) held e v d p) : ∃ fav un, v = .agg #[.int .i64 fav, .bool un] ∧ -9223372036854775808 ≤ fav ∧ fav ≤ 9223372036854775807 := by
  obtain ⟨cells, rfl, hsz, _⟩ : ∃ cs, v = .agg cs ∧ cs.size = P.cellsOf e ∧ Row.okWide P W r b0 e cs := by
    simpa [Value.okWide, he] using hv
  rw [ce] at hsz
  obtain ⟨l⟩ := cells
  obtain ⟨c0, c1, rfl⟩ := twoP l hsz
  obtain ⟨fuel, hf⟩ := h
  obtain ⟨y0, y1, m2, _, _, s0, s1⟩ := trod_struct2 he hf
  rw [a0, o0, ci] at s0
  rw [a1, o1, cb] at s1
  simp [Value.cells] at s0 s1
  obtain ⟨u, e0, _, w0⟩ := DataW.trod_int hi s0
  obtain ⟨q, e1, _⟩ := DataW.trod_bool hb s1
  simp at e0 e1
  subst e0
  subst e1
  exact ⟨u, q, rfl, bounds_i64 w0⟩
end Go.Proofs.YtcpopnhnihbofaaGreatDoor

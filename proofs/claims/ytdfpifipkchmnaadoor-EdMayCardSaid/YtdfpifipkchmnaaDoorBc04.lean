/- Proved here: texts joined: FrameT, ContPure, SizePure. -/
import Derived.Test.YtdfpifipkchmnaaDoorBc01
import Derived.Test.YtdfpifipkchmnaaDoorBc03
import Derived.Deep.Slices
import Derived.WalkKit
/- Proved here: what comes in as a slice of strings, or a slice of slices of strings, reads as lists, with its bounds. -/
namespace Go.Proofs.YtdfpifipkchmnaaDoor
open Go.ChangeShapes Go.WideShapes Go.ChangeAt Go.RowKit
open Go.ChangeMaps (open_string shut_string)
set_option linter.unusedVariables false

theorem ArgStrs.txR {w : World} {A : Option Addr} {n c : Nat} {ss : List (List UInt8)} (h : ArgStrs w A n c ss) : TxR w w.heap.size (A, n, c) ss := ⟨h.1, h.2.1, h.2.2.2⟩
theorem argTs {H : Type} {enc : TypeId × Value → H} {P : Program} {W : World} {base : Nat} {held : Bool} {t e q : TypeId} {fuel : Nat} {A : Option Addr} {n c : Nat} {x : DataW H × List MemPlace}
    (ht : P.underlying t = some (.slice e)) (he : P.underlying e = some (.slice q)) (hq : P.underlying q = some .string) (ce : P.cellsOf e = 1) (cq : P.cellsOf q = 1) (h : DataW.trod enc P W base (fun _ => true) held fuel t [.slice A n c] = some x) :
    ∃ rows files, n ≤ c ∧ c ≤ maxLen ∧ RowsT W W.heap.size A n rows files := by
  rcases Go.Deep.open_slice1 ht ce h with ⟨hcs, _⟩ | ⟨a, len, cap, m, m', V, D, Pl, hcs, _, hl, hm, hmm, _, hx⟩
  · simp at hcs
    obtain ⟨rfl, rfl, rfl⟩ := hcs
    exact ⟨[], [], Nat.le_refl _, Nat.zero_le _, RowsT.nil _ _ _⟩
  · simp at hcs
    obtain ⟨rfl, rfl, rfl⟩ := hcs
    simp only [if_true] at hmm
    subst hmm
    have each : ∀ i, i < n → ∃ y : (Option Addr × Nat × Nat) × List (List UInt8), V i = .slice y.1.1 y.1.2.1 y.1.2.2 ∧ ArgStrs W y.1.1 y.1.2.1 y.1.2.2 y.2 := by
      intro i hi
      have h2 := (hx i (by omega)).2
      obtain ⟨A', n', c', hV⟩ : ∃ A' n' c', V i = .slice A' n' c' := by
        rcases open_strings he hq cq h2 with ⟨h3, _⟩ | ⟨a', l', c', _, h3, _⟩
        · exact ⟨_, _, _, by simpa using h3⟩
        · exact ⟨_, _, _, by simpa using h3⟩
      rw [hV] at h2
      obtain ⟨ss, hss⟩ := argStrs he hq cq h2
      exact ⟨((A', n', c'), ss), hV, hss⟩
    obtain ⟨y, hy⟩ := Go.Deep.choose_lt each
    refine ⟨(List.range n).map fun i => (y i).1, (List.range n).map fun i => (y i).2, hl, hm, ⟨by simp, fun hn => ?_⟩, by simp, fun k r ss hr hs => ?_⟩
    · obtain ⟨b, off, spot⟩ := a
      have h0 := (hx 0 (by omega)).1
      have hspot : spot = none := by simpa [Addr.add] using World.cell?_spot h0
      subst hspot
      refine ⟨b, off, rfl, by simpa [Addr.add] using World.block_lt_of_cell? _ _ h0, fun j u hu => ?_⟩
      have hj : j < n := by
        have := (List.getElem?_eq_some_iff.1 hu).1
        simp at this; omega
      have hcj := (hx j (by omega)).1
      rw [show (⟨b, off, none⟩ : Addr).add j = ⟨b, off + j, none⟩ from by unfold Addr.add; split <;> simp_all] at hcj
      rw [hcj, ← hu, (hy j hj).1]
      simp [hj, slcV]
    · have hk : k < n := by have := (List.getElem?_eq_some_iff.1 hr).1; simpa using this
      simp [hk] at hr hs
      subst hr; subst hs
      exact (hy k hk).2.txR
end Go.Proofs.YtdfpifipkchmnaaDoor
/- Proved here, without conditions: plain facts on the contents that differ from a base, each once. -/
namespace Go.Proofs.YtdfpifipkchmnaaDoor
set_option linter.unusedVariables false

/-- A text; texts. -/
abbrev Tx := List UInt8
abbrev Txs := List Tx

def diffStep (base : Txs) (out : List Txs) (p : Txs) : List Txs := if p = base ∨ p ∈ out then out else out ++ [p]
/-- The parts that differ from the base, each once. -/
def diffs (base : Txs) (ps : List Txs) : List Txs := ps.foldl (diffStep base) []
def kindN (base : Txs) (ps : List Txs) : Nat := min (diffs base ps).length 2

section
variable {base : Txs} {ps out : List Txs}
theorem diffs_snoc (base : Txs) (ps : List Txs) (p : Txs) : diffs base (ps ++ [p]) = diffStep base (diffs base ps) p := by
  unfold diffs
  rw [List.foldl_append]
  rfl
theorem mem_fold (q : Txs) : ∀ (ps out : List Txs), q ∈ ps.foldl (diffStep base) out ↔ q ∈ out ∨ (q ∈ ps ∧ q ≠ base)
  | [], out => by simp
  | p :: ps, out => by
    rw [List.foldl_cons, mem_fold q ps]
    unfold diffStep
    split
    · rename_i h
      constructor
      · rintro (h1 | ⟨h1, h2⟩)
        · exact .inl h1
        · exact .inr ⟨List.mem_cons_of_mem _ h1, h2⟩
      · rintro (h1 | ⟨h1, h2⟩)
        · exact .inl h1
        · rcases List.mem_cons.1 h1 with rfl | h1
          · rcases h with h | h
            · exact absurd h h2
            · exact .inl h
          · exact .inr ⟨h1, h2⟩
    · rename_i h
      constructor
      · rintro (h1 | ⟨h1, h2⟩)
        · rcases List.mem_append.1 h1 with h1 | h1
          · exact .inl h1
          · rw [List.mem_singleton] at h1
            subst h1
            exact .inr ⟨List.mem_cons_self .., fun e => h (.inl e)⟩
        · exact .inr ⟨List.mem_cons_of_mem _ h1, h2⟩
      · rintro (h1 | ⟨h1, h2⟩)
        · exact .inl (List.mem_append.2 (.inl h1))
        · rcases List.mem_cons.1 h1 with rfl | h1
          · exact .inl (by simp)
          · exact .inr ⟨h1, h2⟩
theorem mem_diffs {q : Txs} : q ∈ diffs base ps ↔ q ∈ ps ∧ q ≠ base := by
  unfold diffs
  rw [mem_fold]
  simp
theorem nodup_fold : ∀ (ps out : List Txs), out.Nodup → (ps.foldl (diffStep base) out).Nodup
  | [], out, h => h
  | p :: ps, out, h => by
    rw [List.foldl_cons]
    refine nodup_fold ps _ ?_
    unfold diffStep
    split
    · exact h
    · rename_i h2
      refine List.nodup_append.2 ⟨h, by simp, fun a ha b hb => ?_⟩
      rw [List.mem_singleton] at hb
      subst hb
      rintro rfl
      exact h2 (.inr ha)
theorem nodup_diffs : (diffs base ps).Nodup := nodup_fold ps [] List.nodup_nil
theorem diffs_old {p : Txs} (h : p = base ∨ p ∈ ps) : diffs base (ps ++ [p]) = diffs base ps := by
  rw [diffs_snoc]
  unfold diffStep
  rw [if_pos]
  rcases h with h | h
  · exact .inl h
  · by_cases e : p = base
    · exact .inl e
    · exact .inr (mem_diffs.2 ⟨h, e⟩)
theorem diffs_new {p : Txs} (h : p ≠ base) (h2 : p ∉ ps) : diffs base (ps ++ [p]) = diffs base ps ++ [p] := by
  rw [diffs_snoc]
  unfold diffStep
  rw [if_neg]
  rintro (e | e)
  · exact h e
  · exact h2 (mem_diffs.1 e).1
theorem diffs_len (base : Txs) (ps : List Txs) : (diffs base ps).length ≤ ps.length := (nodup_diffs (base := base) (ps := ps)).length_le_of_subset fun q hq => (mem_diffs.1 hq).1
/-- In whatever turn. -/
theorem diffs_turn {qs : List Txs} (h : ∀ q, q ∈ ps ↔ q ∈ qs) : (diffs base ps).length = (diffs base qs).length := by
  have h1 := (nodup_diffs (base := base) (ps := ps)).length_le_of_subset (l₂ := diffs base qs) fun q hq => mem_diffs.2 ⟨(h q).1 (mem_diffs.1 hq).1, (mem_diffs.1 hq).2⟩
  have h2 := (nodup_diffs (base := base) (ps := qs)).length_le_of_subset (l₂ := diffs base ps) fun q hq => mem_diffs.2 ⟨(h q).2 (mem_diffs.1 hq).1, (mem_diffs.1 hq).2⟩
  omega
theorem turn_mem (ps : List Txs) (n : Nat) (q : Txs) : q ∈ ps.drop n ++ ps.take n ↔ q ∈ ps := by
  conv => rhs; rw [← List.take_append_drop n ps]
  simp only [List.mem_append]
  exact Or.comm
theorem diffs_more {n : Nat} {p : Txs} (h : ps[n]? = some p) : diffs base (ps ++ [p, base]) = diffs base ps := by
  rw [show ps ++ [p, base] = (ps ++ [p]) ++ [base] by simp, diffs_old (.inl rfl), diffs_old (.inr (List.mem_of_getElem? h))]
/-- Two of three are the same. -/
def pairOk (base x y : Txs) : Prop := x = base ∨ y = base ∨ x = y
theorem diffs_one : (diffs base ps).length ≤ 1 ↔ ∀ x ∈ ps, ∀ y ∈ ps, pairOk base x y := by
  constructor
  · intro h x hx y hy
    by_cases h1 : x = base
    · exact .inl h1
    · by_cases h2 : y = base
      · exact .inr (.inl h2)
      · have k1 : x ∈ diffs base ps := mem_diffs.2 ⟨hx, h1⟩
        have k2 : y ∈ diffs base ps := mem_diffs.2 ⟨hy, h2⟩
        match hd : diffs base ps, h, k1, k2 with
        | [], _, k1, _ => simp at k1
        | [d], _, k1, k2 =>
          rw [List.mem_singleton] at k1 k2
          exact .inr (.inr (k1.trans k2.symm))
        | _ :: _ :: _, h, _, _ => simp at h
  · intro h
    match hd : diffs base ps with
    | [] => simp
    | [d] => simp
    | d :: e :: l =>
      exfalso
      have hn := nodup_diffs (base := base) (ps := ps)
      rw [hd] at hn
      have h1 := mem_diffs.1 (show d ∈ diffs base ps by rw [hd]; simp)
      have h2 := mem_diffs.1 (show e ∈ diffs base ps by rw [hd]; simp)
      rcases h d h1.1 e h2.1 with k | k | k
      · exact h1.2 k
      · exact h2.2 k
      · subst k
        simp at hn
theorem diffs_zero : (diffs base ps).length = 0 ↔ ∀ x ∈ ps, x = base := by
  constructor
  · intro h x hx
    by_cases e : x = base
    · exact e
    · have := List.length_pos_of_mem (mem_diffs.2 ⟨hx, e⟩)
      omega
  · intro h
    match hd : diffs base ps with
    | [] => rfl
    | d :: l =>
      have h1 := mem_diffs.1 (show d ∈ diffs base ps by rw [hd]; simp)
      exact absurd (h d h1.1) h1.2
/-- The base, and what differs, have each part once. -/
theorem once {p : Txs} (h : p ∈ ps) : (base :: diffs base ps).count p = 1 := by
  have hn : (base :: diffs base ps).Nodup := List.nodup_cons.2 ⟨fun hm => (mem_diffs.1 hm).2 rfl, nodup_diffs⟩
  rw [hn.count, if_pos]
  by_cases e : p = base
  · rw [e]; exact List.mem_cons_self ..
  · exact List.mem_cons_of_mem _ (mem_diffs.2 ⟨h, e⟩)
theorem pairs_at : (∀ (i k : Nat) (x y : Txs), k < i → ps[i]? = some x → ps[k]? = some y → pairOk base x y) ↔ ∀ x ∈ ps, ∀ y ∈ ps, pairOk base x y := by
  constructor
  · intro h x hx y hy
    obtain ⟨i, hi⟩ := List.mem_iff_getElem?.1 hx
    obtain ⟨k, hk⟩ := List.mem_iff_getElem?.1 hy
    rcases Nat.lt_trichotomy k i with hlt | rfl | hlt
    · exact h i k x y hlt hi hk
    · rw [hi] at hk
      injection hk with hk
      exact .inr (.inr hk)
    · rcases h k i y x hlt hk hi with e | e | e
      · exact .inr (.inl e)
      · exact .inl e
      · exact .inr (.inr e.symm)
  · intro h i k x y _ hi hk
    exact h x (List.mem_of_getElem? hi) y (List.mem_of_getElem? hk)
end
end Go.Proofs.YtdfpifipkchmnaaDoor
/- Proved here, without conditions: plain facts on marks' sizes (layer 11): runs of signs; what fits. -/
namespace Go.Proofs.YtdfpifipkchmnaaDoor
set_option linter.unusedVariables false

/-- Is a byte a marker sign? -/
def signB (c : UInt8) : Bool := c == 60 || c == 124 || c == 61 || c == 62
/-- How many bytes a text begins with that are the same marker sign. -/
def runN : Tx → Nat
  | [] => 0
  | c :: s => if signB c = true then 1 + (s.takeWhile fun x => x == c).length else 0
def maxR (n : Nat) (l : Txs) : Nat := l.foldl (fun n t => max n (runN t + 1)) n
def autoN (files : List Txs) : Nat := maxR 7 files.flatten
def fitsB (size : Int) (files : List Txs) : Bool := decide (1 ≤ size) && files.flatten.all fun t => decide ((runN t : Int) < size)

section
variable {n k : Nat} {l : Txs} {t s : Tx} {files a b : List Txs} {c : UInt8}
theorem run_cons (c : UInt8) (s : Tx) : runN (c :: s) = if signB c = true then 1 + (s.takeWhile fun x => x == c).length else 0 := rfl
theorem run_le : ∀ t : Tx, runN t ≤ t.length
  | [] => Nat.le_refl _
  | c :: s => by
    have h := (List.takeWhile_sublist (l := s) (fun x => x == c)).length_le
    rw [run_cons, List.length_cons]
    split <;> omega
theorem maxR_ge : ∀ {l : Txs} {n : Nat}, n ≤ maxR n l ∧ ∀ t ∈ l, runN t + 1 ≤ maxR n l
  | [], n => ⟨Nat.le_refl _, fun t h => by cases h⟩
  | t :: l, n => by
    obtain ⟨h1, h2⟩ := maxR_ge (l := l) (n := max n (runN t + 1))
    refine ⟨?_, fun x hx => ?_⟩
    · show n ≤ maxR (max n (runN t + 1)) l
      omega
    · show runN x + 1 ≤ maxR (max n (runN t + 1)) l
      rcases List.mem_cons.1 hx with rfl | hx
      · omega
      · exact h2 x hx
theorem maxR_is : ∀ {l : Txs} {n : Nat}, maxR n l = n ∨ ∃ t ∈ l, maxR n l = runN t + 1
  | [], n => .inl rfl
  | t :: l, n => by
    rcases maxR_is (l := l) (n := max n (runN t + 1)) with h | ⟨x, hx, h⟩
    · have e : maxR n (t :: l) = max n (runN t + 1) := h
      rcases Nat.le_total n (runN t + 1) with h' | h'
      · exact .inr ⟨t, List.mem_cons_self .., by rw [e, Nat.max_eq_right h']⟩
      · exact .inl (by rw [e, Nat.max_eq_left h'])
    · exact .inr ⟨x, List.mem_cons_of_mem _ hx, h⟩
theorem maxR_max : ∀ {l : Txs} {n m : Nat}, maxR (max n m) l = max n (maxR m l)
  | [], n, m => rfl
  | t :: l, n, m => by
    show maxR (max (max n m) (runN t + 1)) l = max n (maxR (max m (runN t + 1)) l)
    rw [Nat.max_assoc, maxR_max]
theorem maxR_append (n : Nat) (l m : Txs) : maxR n (l ++ m) = maxR (maxR n l) m := by unfold maxR; rw [List.foldl_append]
/-- OF MORE FILES IT IS THE GREATER ONE. -/
theorem auto_more : autoN (a ++ b) = max (autoN a) (autoN b) := by
  unfold autoN
  rw [List.flatten_append, maxR_append]
  have h := (maxR_ge (l := a.flatten) (n := 7)).1
  conv => lhs; rw [show maxR 7 a.flatten = max (maxR 7 a.flatten) 7 by omega]
  exact maxR_max
theorem auto_ge : 7 ≤ autoN files := maxR_ge.1
theorem fits_iff {z : Int} : fitsB z files = true ↔ 1 ≤ z ∧ ∀ t ∈ files.flatten, (runN t : Int) < z := by
  unfold fitsB
  rw [Bool.and_eq_true, decide_eq_true_eq, List.all_eq_true]
  exact ⟨fun h => ⟨h.1, fun t ht => by simpa using h.2 t ht⟩, fun h => ⟨h.1, fun t ht => by simpa using h.2 t ht⟩⟩
/-- WHAT IS TOLD FITS, AND ALL THAT IS LONGER; WHAT IS SHORTER DOESN'T. -/
theorem fits_auto (k : Nat) : fitsB ((autoN files : Int) + k) files = true := fits_iff.2 ⟨by have := auto_ge (files := files); omega, fun t ht => by
  have := (maxR_ge (l := files.flatten) (n := 7)).2 t ht
  unfold autoN
  omega⟩
theorem fits_less (h : autoN files ≠ 7) : fitsB ((autoN files : Int) - 1) files = false := by
  rcases maxR_is (l := files.flatten) (n := 7) with h' | ⟨t, ht, h'⟩
  · exact absurd h' h
  · cases hf : fitsB ((autoN files : Int) - 1) files with
    | false => rfl
    | true =>
      have := (fits_iff.1 hf).2 t ht
      unfold autoN at this
      omega
theorem takeW_take (P : UInt8 → Bool) : ∀ (s : Tx) (k : Nat), ((s.take k).takeWhile P).length = min k (s.takeWhile P).length
  | [], k => by simp
  | x :: s, 0 => by simp
  | x :: s, k + 1 => by
    have := takeW_take P s k
    rw [List.take_succ_cons, List.takeWhile_cons, List.takeWhile_cons]
    split
    · rw [List.length_cons, List.length_cons, this]; omega
    · simp
theorem run_take : ∀ (t : Tx) (k : Nat), runN (t.take k) = min k (runN t)
  | [], k => by simp [runN]
  | c :: s, 0 => by simp [runN]
  | c :: s, k + 1 => by
    rw [List.take_succ_cons, run_cons, run_cons]
    split
    · rw [takeW_take]; omega
    · simp
theorem run_marks (hc : signB c = true) : ∀ (k : Nat), k ≤ runN (List.replicate k c ++ s)
  | 0 => Nat.zero_le _
  | k + 1 => by
    rw [List.replicate_succ, List.cons_append, run_cons, if_pos hc]
    have : ∀ k : Nat, k ≤ ((List.replicate k c ++ s).takeWhile fun x => x == c).length := by
      intro k
      induction k with
      | zero => exact Nat.zero_le _
      | succ k ih =>
        rw [List.replicate_succ, List.cons_append, List.takeWhile_cons, if_pos (by simp), List.length_cons]
        omega
    have := this k
    omega
/-- A MARK OF A SIZE THAT FITS IS THE BEGIN OF NO TEXT. -/
theorem fits_mark (h : fitsB k files = true) (ht : t ∈ files.flatten) : runN (t.take k) ≠ k ∨ t.length < k := by
  have h1 := (fits_iff.1 h).2 t ht
  rw [run_take]
  left
  omega
theorem fits_begin (hc : signB c = true) : fitsB k (files ++ [[List.replicate k c ++ s]]) = false := by
  cases hf : fitsB k (files ++ [[List.replicate k c ++ s]]) with
  | false => rfl
  | true =>
    have h1 := (fits_iff.1 hf).2 (List.replicate k c ++ s) (by simp)
    have h2 := run_marks (s := s) hc k
    omega
end
end Go.Proofs.YtdfpifipkchmnaaDoor

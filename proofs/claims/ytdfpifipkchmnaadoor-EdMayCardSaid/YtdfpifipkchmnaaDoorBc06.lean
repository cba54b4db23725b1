/- Proved here: texts joined: ZealPure. -/
import Derived.Test.YtdfpifipkchmnaaDoorBc05
/- Proved here, without conditions: plain facts on conflicts made smaller (layer 10): the same chosen; no side begins or ends with a line that all begin or end with; twice as once; part by part; in another turn. -/
namespace Go.Proofs.YtdfpifipkchmnaaDoor
set_option linter.unusedVariables false

section
/-- A piece laid ahead of pieces that are put together. -/
def layP (p : Pc) (r : List Pc) : List Pc := if p.1 = true then cPc p.2.2.1 p.2.2.2 :: r else joinT p.2.1 r
theorem normal_cons (p : Pc) (l : List Pc) : normal (p :: l) = layP p (normal l) := by
  obtain ⟨c, t, b, s⟩ := p
  cases c <;> rfl
theorem normal_fold : ∀ a b : List Pc, normal (a ++ b) = a.foldr layP (normal b)
  | [], _ => rfl
  | p :: a, b => by rw [List.cons_append, normal_cons, normal_fold a b]; rfl
theorem fold_join (t : Txs) (r : List Pc) : ∀ l : List Pc, (joinT t l).foldr layP r = joinT t (l.foldr layP r)
  | [] => by
    show ((if t = [] then [] else [tPc t] : List Pc)).foldr layP r = joinT t r
    by_cases h : t = []
    · subst h
      rw [if_pos rfl, joinT_nil]
      rfl
    · rw [if_neg h]
      rfl
  | (false, x, b, s) :: l => by
    show layP (false, t ++ x, b, s) (l.foldr layP r) = joinT t (layP (false, x, b, s) (l.foldr layP r))
    exact joinT_append t x _
  | (true, x, b, s) :: l => by
    show ((if t = [] then (true, x, b, s) :: l else tPc t :: (true, x, b, s) :: l)).foldr layP r = joinT t (layP (true, x, b, s) (l.foldr layP r))
    by_cases h : t = []
    · subst h
      rw [if_pos rfl, joinT_nil]
      rfl
    · rw [if_neg h]
      rfl
theorem fold_normal (r : List Pc) : ∀ l : List Pc, (normal l).foldr layP r = l.foldr layP r
  | [] => rfl
  | (true, x, b, s) :: l => by
    show layP (cPc b s) ((normal l).foldr layP r) = layP (true, x, b, s) (l.foldr layP r)
    rw [fold_normal r l]
    rfl
  | (false, x, b, s) :: l => by
    show (joinT x (normal l)).foldr layP r = joinT x (l.foldr layP r)
    rw [fold_join, fold_normal r l]
theorem normal_parts (a b : List Pc) : normal (normal a ++ normal b) = normal (a ++ b) := by
  rw [normal_fold, normal_fold, fold_normal, normal_twice]
theorem normal_left (a b : List Pc) : normal (normal a ++ b) = normal (a ++ b) := by rw [normal_fold, normal_fold, fold_normal]
theorem normal_right (a b : List Pc) : normal (a ++ normal b) = normal (a ++ b) := by rw [normal_fold, normal_fold, normal_twice]
theorem choose_app (a b : List Pc) (n : Int) : choose (a ++ b) n = choose a n ++ choose b n := by simp [choose]
theorem clean_app (a b : List Pc) : cleanB (a ++ b) = (cleanB a && cleanB b) := by simp [cleanB]
end

/-- From a on: as far as P goes. -/
def upTo (P : Nat → Bool) : Nat → Nat → Nat
  | 0, a => a
  | k + 1, a => if P (a + 1) then upTo P k (a + 1) else a
theorem upTo_spec {P : Nat → Bool} : ∀ {k a : Nat}, P a = true → P (upTo P k a) = true ∧ a ≤ upTo P k a ∧ upTo P k a ≤ a + k ∧ (upTo P k a < a + k → P (upTo P k a + 1) = false)
  | 0, a, h => ⟨h, Nat.le_refl _, Nat.le_refl _, fun h => absurd h (by simp [upTo])⟩
  | k + 1, a, h => by
    unfold upTo
    by_cases hp : P (a + 1) = true
    · rw [if_pos hp]
      obtain ⟨h1, h2, h3, h4⟩ := upTo_spec (k := k) hp
      exact ⟨h1, by omega, by omega, fun h => h4 (by omega)⟩
    · rw [if_neg hp]
      exact ⟨h, Nat.le_refl _, by omega, fun _ => by simpa using hp⟩
theorem upTo_zero {P : Nat → Bool} {k : Nat} (h : P 1 = false) : upTo P k 0 = 0 := by
  cases k with
  | zero => rfl
  | succ k => unfold upTo; rw [if_neg (by rw [h]; simp)]
theorem upTo_eq {P : Nat → Bool} : ∀ {k a r : Nat}, a ≤ r → r ≤ a + k → (∀ i, a < i → i ≤ r → P i = true) → (r < a + k → P (r + 1) = false) → upTo P k a = r
  | 0, a, r, h1, h2, _, _ => by unfold upTo; omega
  | k + 1, a, r, h1, h2, h3, h4 => by
    unfold upTo
    by_cases hr : a = r
    · subst hr
      rw [if_neg (by rw [h4 (by omega)]; simp)]
    · rw [if_pos (h3 _ (by omega) (by omega))]
      exact upTo_eq (by omega) (by omega) (fun i hi hi' => h3 i (by omega) hi') (fun h => h4 (by omega))

/-- Do all begin with as many lines of f; do all end so? -/
def begB (f : Txs) (ds : List Txs) (n : Nat) : Bool := ds.all fun d => decide (n ≤ d.length) && decide (d.take n = f.take n)
def tailB (f : Txs) (ds : List Txs) (n : Nat) : Bool := ds.all fun d => decide (n ≤ d.length) && decide (d.drop (d.length - n) = f.drop (f.length - n))
def begN (f : Txs) (ds : List Txs) : Nat := upTo (begB f ds) f.length 0
def tailN (f : Txs) (ds : List Txs) : Nat := upTo (tailB f ds) f.length 0
/-- What is left of a side. -/
def leftD (a b : Nat) (d : Txs) : Txs := (d.drop a).take ((d.drop a).length - b)
/-- What a piece is made: its text ahead, the conflict, the text behind. -/
def trimL (base f : Txs) (ds : List Txs) : List Pc :=
  let a := begN f ds
  if (ds.all fun d => decide (d.length = a)) = true then [tPc f]
  else let b := tailN (f.drop a) (ds.map fun d => d.drop a)
    [tPc (f.take a), cPc base (ds.map (leftD a b)), tPc (f.drop (f.length - b))]
def trimD (p : Pc) : List Pc := match p.1, p.2.2.2 with
  | true, f :: ds => normal (trimL p.2.2.1 f (f :: ds))
  | _, _ => normal [p]
def zealD (l : List Pc) : List Pc := normal (l.flatMap trimD)

section
variable {f base : Txs} {ds : List Txs} {a b n : Nat}
theorem begB_iff : begB f ds n = true ↔ ∀ d ∈ ds, n ≤ d.length ∧ d.take n = f.take n := by simp [begB]
theorem tailB_iff : tailB f ds n = true ↔ ∀ d ∈ ds, n ≤ d.length ∧ d.drop (d.length - n) = f.drop (f.length - n) := by simp [tailB]
theorem begB_zero : begB f ds 0 = true := begB_iff.2 fun d _ => ⟨Nat.zero_le _, by simp⟩
theorem tailB_zero : tailB f ds 0 = true := tailB_iff.2 fun d _ => ⟨Nat.zero_le _, by simp⟩
theorem begB_less (h : begB f ds n = true) (hl : a ≤ n) : begB f ds a = true := begB_iff.2 fun d hd => by
  obtain ⟨h1, h2⟩ := begB_iff.1 h d hd
  refine ⟨by omega, ?_⟩
  have := congrArg (List.take a) h2
  rw [List.take_take, List.take_take, Nat.min_eq_left hl] at this
  exact this
theorem tailB_less (hf : f ∈ ds) (h : tailB f ds n = true) (hl : a ≤ n) : tailB f ds a = true := tailB_iff.2 fun d hd => by
  obtain ⟨h1, h2⟩ := tailB_iff.1 h d hd
  have h3 := (tailB_iff.1 h f hf).1
  refine ⟨by omega, ?_⟩
  have := congrArg (List.drop (n - a)) h2
  rw [List.drop_drop, List.drop_drop] at this
  rw [show d.length - n + (n - a) = d.length - a by omega, show f.length - n + (n - a) = f.length - a by omega] at this
  exact this
/-- How much all begin with: it is so, and no more is. -/
theorem begN_spec (hf : f ∈ ds) : begB f ds (begN f ds) = true ∧ begN f ds ≤ f.length ∧ begB f ds (begN f ds + 1) = false := by
  obtain ⟨h1, h2, h3, h4⟩ := upTo_spec (P := begB f ds) (k := f.length) (a := 0) begB_zero
  have e : upTo (begB f ds) f.length 0 = begN f ds := rfl
  rw [e] at h1 h2 h3 h4
  refine ⟨h1, by omega, ?_⟩
  rcases Nat.lt_or_ge (begN f ds) f.length with h | h
  · exact h4 (by omega)
  · cases hb : begB f ds (begN f ds + 1) with
    | false => rfl
    | true => have := (begB_iff.1 hb f hf).1; omega
theorem tailN_spec (hf : f ∈ ds) : tailB f ds (tailN f ds) = true ∧ tailN f ds ≤ f.length ∧ tailB f ds (tailN f ds + 1) = false := by
  obtain ⟨h1, h2, h3, h4⟩ := upTo_spec (P := tailB f ds) (k := f.length) (a := 0) tailB_zero
  have e : upTo (tailB f ds) f.length 0 = tailN f ds := rfl
  rw [e] at h1 h2 h3 h4
  refine ⟨h1, by omega, ?_⟩
  rcases Nat.lt_or_ge (tailN f ds) f.length with h | h
  · exact h4 (by omega)
  · cases hb : tailB f ds (tailN f ds + 1) with
    | false => rfl
    | true => have := (tailB_iff.1 hb f hf).1; omega
theorem begN_is (hf : f ∈ ds) (h1 : begB f ds n = true) (h2 : begB f ds (n + 1) = false) : begN f ds = n := by
  obtain ⟨k1, _, k2⟩ := begN_spec hf
  rcases Nat.lt_trichotomy (begN f ds) n with h | h | h
  · rw [begB_less h1 (show begN f ds + 1 ≤ n by omega)] at k2; cases k2
  · exact h
  · rw [begB_less k1 (show n + 1 ≤ begN f ds by omega)] at h2; cases h2
theorem tailN_is (hf : f ∈ ds) (h1 : tailB f ds n = true) (h2 : tailB f ds (n + 1) = false) : tailN f ds = n := by
  obtain ⟨k1, _, k2⟩ := tailN_spec hf
  rcases Nat.lt_trichotomy (tailN f ds) n with h | h | h
  · rw [tailB_less hf h1 (show tailN f ds + 1 ≤ n by omega)] at k2; cases k2
  · exact h
  · rw [tailB_less hf k1 (show n + 1 ≤ tailN f ds by omega)] at h2; cases h2
/-- The side that is asked first doesn't matter. -/
theorem begB_other {g : Txs} (hf : f ∈ ds) (hg : g ∈ ds) : begB f ds n = true → begB g ds n = true := fun h => begB_iff.2 fun d hd => by
  obtain ⟨h1, h2⟩ := begB_iff.1 h d hd
  exact ⟨h1, h2.trans (begB_iff.1 h g hg).2.symm⟩
theorem tailB_other {g : Txs} (hf : f ∈ ds) (hg : g ∈ ds) : tailB f ds n = true → tailB g ds n = true := fun h => tailB_iff.2 fun d hd => by
  obtain ⟨h1, h2⟩ := tailB_iff.1 h d hd
  exact ⟨h1, h2.trans (tailB_iff.1 h g hg).2.symm⟩
theorem begB_mem {es : List Txs} (he : ∀ d, d ∈ es ↔ d ∈ ds) : begB f es n = begB f ds n := by
  rw [Bool.eq_iff_iff, begB_iff, begB_iff]
  exact ⟨fun h d hd => h d ((he d).2 hd), fun h d hd => h d ((he d).1 hd)⟩
theorem tailB_mem {es : List Txs} (he : ∀ d, d ∈ es ↔ d ∈ ds) : tailB f es n = tailB f ds n := by
  rw [Bool.eq_iff_iff, tailB_iff, tailB_iff]
  exact ⟨fun h d hd => h d ((he d).2 hd), fun h d hd => h d ((he d).1 hd)⟩
theorem begN_other {g : Txs} {es : List Txs} (he : ∀ d, d ∈ es ↔ d ∈ ds) (hf : f ∈ ds) (hg : g ∈ ds) : begN g es = begN f ds := by
  obtain ⟨k1, _, k2⟩ := begN_spec hf
  refine begN_is ((he g).2 hg) (by rw [begB_mem he]; exact begB_other hf hg k1) ?_
  rw [begB_mem he]
  cases h : begB g ds (begN f ds + 1) with
  | false => rfl
  | true => rw [begB_other hg hf h] at k2; cases k2
theorem tailN_other {g : Txs} {es : List Txs} (he : ∀ d, d ∈ es ↔ d ∈ ds) (hf : f ∈ ds) (hg : g ∈ ds) : tailN g es = tailN f ds := by
  obtain ⟨k1, _, k2⟩ := tailN_spec hf
  refine tailN_is ((he g).2 hg) (by rw [tailB_mem he]; exact tailB_other hf hg k1) ?_
  rw [tailB_mem he]
  cases h : tailB g ds (tailN f ds + 1) with
  | false => rfl
  | true => rw [tailB_other hg hf h] at k2; cases k2

/-- Are all sides the same? -/
theorem all_same (hf : f ∈ ds) : (ds.all fun d => decide (d.length = begN f ds)) = true ↔ ∀ d ∈ ds, d = f := by
  obtain ⟨k1, k3, k2⟩ := begN_spec hf
  rw [List.all_eq_true]
  constructor
  · intro h d hd
    have h1 := h d hd
    have h2 := h f hf
    rw [decide_eq_true_eq] at h1 h2
    have := (begB_iff.1 k1 d hd).2
    rw [← h1, List.take_length, h1, ← h2, List.take_length] at this
    exact this
  · intro h d hd
    have e : begN f ds = f.length := begN_is hf (begB_iff.2 fun d hd => by rw [h d hd]; exact ⟨Nat.le_refl _, rfl⟩) (by
      cases hb : begB f ds (f.length + 1) with
      | false => rfl
      | true => have := (begB_iff.1 hb f hf).1; omega)
    rw [h d hd, e]
    simp
/-- A side is put together of what all begin with, what is left, what all end with. -/
theorem side_parts (hf : f ∈ ds) {d : Txs} (hd : d ∈ ds) :
    f.take (begN f ds) ++ leftD (begN f ds) (tailN (f.drop (begN f ds)) (ds.map fun d => d.drop (begN f ds))) d ++ f.drop (f.length - tailN (f.drop (begN f ds)) (ds.map fun d => d.drop (begN f ds))) = d := by
  obtain ⟨k1, k2, _⟩ := begN_spec hf
  obtain ⟨a, ha⟩ : ∃ a, begN f ds = a := ⟨_, rfl⟩
  rw [ha] at k1 k2 ⊢
  have hfm : f.drop a ∈ ds.map fun d => d.drop a := List.mem_map.2 ⟨f, hf, rfl⟩
  obtain ⟨j1, j2, _⟩ := tailN_spec hfm
  obtain ⟨b, hb⟩ : ∃ b, tailN (f.drop a) (ds.map fun d => d.drop a) = b := ⟨_, rfl⟩
  rw [hb] at j1 j2 ⊢
  have h1 := begB_iff.1 k1 d hd
  have h2 := tailB_iff.1 j1 (d.drop a) (List.mem_map.2 ⟨d, hd, rfl⟩)
  have e1 : f.drop (f.length - b) = (d.drop a).drop ((d.drop a).length - b) := by
    rw [h2.2, List.drop_drop]
    rw [List.length_drop] at j2 ⊢
    rw [show a + (f.length - a - b) = f.length - b by omega]
  unfold leftD
  rw [e1, ← h1.2, List.append_assoc, List.take_append_drop, List.take_append_drop]
theorem trimL_choose (hf : f ∈ ds) {n : Int} (h1 : 1 ≤ n) (h2 : n ≤ ds.length) : choose (trimL base f ds) n = (ds[(n - 1).toNat]?).getD [] := by
  have hd : ds[(n - 1).toNat]? = some (ds[(n - 1).toNat]'(by omega)) := List.getElem?_eq_getElem _
  obtain ⟨d, hd'⟩ : ∃ d, ds[(n - 1).toNat]'(by omega) = d := ⟨_, rfl⟩
  rw [hd'] at hd
  have hm := List.mem_of_getElem? hd
  rw [hd]
  unfold trimL
  dsimp only
  split
  · rename_i h
    have := (all_same hf).1 h d hm
    simp [choose, chosen, tPc, this]
  · have := side_parts hf hm
    simp only [choose, List.flatMap_cons, List.flatMap_nil, List.append_nil, Option.getD_some]
    simp only [chosen, tPc, cPc, Bool.false_eq_true, if_false, if_true, h1]
    rw [List.getElem?_map, hd]
    simpa using this
/-- What is left begins, and ends, with no line that all begin, or end, with. -/
theorem left_beg (hf : f ∈ ds) {b : Nat} {x : Tx} : ¬ ∀ d ∈ ds, (leftD (begN f ds) b d).head? = some x := by
  intro h
  obtain ⟨k1, k2, k3⟩ := begN_spec hf
  obtain ⟨a, ha⟩ : ∃ a, begN f ds = a := ⟨_, rfl⟩
  rw [ha] at k1 k2 k3 h
  have key : ∀ d ∈ ds, d[a]? = some x := by
    intro d hd
    have := h d hd
    unfold leftD at this
    rw [List.head?_eq_getElem?, List.getElem?_take] at this
    split at this
    · rw [List.getElem?_drop] at this
      simpa using this
    · cases this
  have : begB f ds (a + 1) = true := begB_iff.2 fun d hd => by
    have hx := key d hd
    have hlt := (List.getElem?_eq_some_iff.1 hx).1
    refine ⟨hlt, ?_⟩
    rw [List.take_add_one, List.take_add_one, hx, key f hf, (begB_iff.1 k1 d hd).2]
  rw [this] at k3
  cases k3
theorem drop_last {α : Type} {l : List α} {n : Nat} (h : n + 1 ≤ l.length) : l.drop (l.length - (n + 1)) = (l[l.length - (n + 1)]?).toList ++ l.drop (l.length - n) := by
  have hlt : l.length - (n + 1) < l.length := by omega
  rw [List.drop_eq_getElem_cons hlt, List.getElem?_eq_getElem hlt, show l.length - (n + 1) + 1 = l.length - n by omega]
  rfl
theorem tail_end {es : List Txs} {g : Txs} (hg : g ∈ es) {x : Tx} : ¬ ∀ d ∈ es, (d.take (d.length - tailN g es)).getLast? = some x := by
  intro h
  obtain ⟨k1, k2, k3⟩ := tailN_spec hg
  obtain ⟨b, hb⟩ : ∃ b, tailN g es = b := ⟨_, rfl⟩
  rw [hb] at k1 k2 k3 h
  have key : ∀ d ∈ es, b + 1 ≤ d.length ∧ d[d.length - (b + 1)]? = some x := by
    intro d hd
    have h0 := h d hd
    rw [List.getLast?_eq_getElem?, List.length_take] at h0
    have h1 := (tailB_iff.1 k1 d hd).1
    rw [Nat.min_eq_left (by omega), List.getElem?_take] at h0
    split at h0
    · rename_i hlt
      rw [show d.length - b - 1 = d.length - (b + 1) by omega] at h0
      exact ⟨by omega, h0⟩
    · cases h0
  have : tailB g es (b + 1) = true := tailB_iff.2 fun d hd => by
    obtain ⟨q1, q2⟩ := key d hd
    obtain ⟨r1, r2⟩ := key g hg
    refine ⟨q1, ?_⟩
    rw [drop_last q1, drop_last r1, q2, r2, (tailB_iff.1 k1 d hd).2]
  rw [this] at k3
  cases k3
theorem left_end (hf : f ∈ ds) {x : Tx} : ¬ ∀ d ∈ ds, (leftD (begN f ds) (tailN (f.drop (begN f ds)) (ds.map fun d => d.drop (begN f ds))) d).getLast? = some x := by
  intro h
  refine tail_end (g := f.drop (begN f ds)) (es := ds.map fun d => d.drop (begN f ds)) (List.mem_map.2 ⟨f, hf, rfl⟩) (x := x) ?_
  intro e he
  obtain ⟨d, hd, rfl⟩ := List.mem_map.1 he
  exact h d hd
end

section
variable {f base : Txs} {ds : List Txs} {p q : Pc} {l : List Pc} {n : Int}
theorem trimD_text (h : p.1 = false) : trimD p = normal [p] := by
  obtain ⟨c, t, b, s⟩ := p
  cases h
  rfl
theorem trimD_bare (h : p.2.2.2 = []) : trimD p = normal [p] := by
  obtain ⟨c, t, b, s⟩ := p
  dsimp only at h
  subst h
  cases c <;> rfl
theorem trimD_conf (h : p.1 = true) (hs : p.2.2.2 = f :: ds) : trimD p = normal (trimL p.2.2.1 f (f :: ds)) := by
  obtain ⟨c, t, b, s⟩ := p
  dsimp only at h hs
  subst h hs
  rfl
theorem choose_one (p : Pc) (n : Int) : choose [p] n = chosen n p := by simp [choose]
theorem trim_choose (h1 : 1 ≤ n) (h : p.1 = true → n ≤ p.2.2.2.length) : choose (trimD p) n = chosen n p := by
  cases hc : p.1 with
  | false => rw [trimD_text hc, choose_normal, choose_one]
  | true =>
    cases hs : p.2.2.2 with
    | nil => rw [trimD_bare hs, choose_normal, choose_one]
    | cons f ds =>
      have hl := h hc
      rw [hs] at hl
      rw [trimD_conf hc hs, choose_normal, trimL_choose (List.mem_cons_self ..) h1 hl]
      unfold chosen
      rw [if_pos hc, if_pos h1, hs]
/-- OF EACH SIDE THE SAME IS CHOSEN. -/
theorem zeal_choose (h1 : 1 ≤ n) (h : ∀ p ∈ l, p.1 = true → n ≤ p.2.2.2.length) : choose (zealD l) n = choose l n := by
  unfold zealD
  rw [choose_normal]
  induction l with
  | nil => rfl
  | cons p l ih =>
    rw [List.flatMap_cons, choose_app, ih fun q hq => h q (List.mem_cons_of_mem _ hq), trim_choose h1 (h p (List.mem_cons_self ..))]
    simp [choose]
theorem conf_join (hq : q.1 = true) (t : Txs) : ∀ {r : List Pc}, q ∈ joinT t r → q ∈ r
  | [], h => by
    have h : q ∈ (if t = [] then [] else [tPc t] : List Pc) := h
    by_cases e : t = []
    · rw [if_pos e] at h; cases h
    · rw [if_neg e, List.mem_singleton] at h
      subst h
      cases hq
  | (false, x, b, s) :: r, h => by
    rcases List.mem_cons.1 h with rfl | h
    · cases hq
    · exact List.mem_cons_of_mem _ h
  | (true, x, b, s) :: r, h => by
    have h : q ∈ (if t = [] then (true, x, b, s) :: r else tPc t :: (true, x, b, s) :: r) := h
    by_cases e : t = []
    · rw [if_pos e] at h; exact h
    · rw [if_neg e] at h
      rcases List.mem_cons.1 h with rfl | h
      · cases hq
      · exact h
theorem conf_normal (hq : q.1 = true) : ∀ {l : List Pc}, q ∈ normal l → ∃ t, (true, t, q.2.2.1, q.2.2.2) ∈ l
  | (true, t, b, s) :: l, h => by
    rcases List.mem_cons.1 h with rfl | h
    · exact ⟨t, List.mem_cons_self ..⟩
    · obtain ⟨t', h'⟩ := conf_normal hq h
      exact ⟨t', List.mem_cons_of_mem _ h'⟩
  | (false, t, b, s) :: l, h => by
    obtain ⟨t', h'⟩ := conf_normal hq (conf_join hq t h)
    exact ⟨t', List.mem_cons_of_mem _ h'⟩
theorem trimD_txt (t t' : Txs) (b : Txs) : ∀ s : List Txs, trimD (true, t, b, s) = trimD (true, t', b, s)
  | [] => rfl
  | f :: ds => rfl
/-- The conflict that is left, with what it is of. -/
theorem trimL_conf (hf : f ∈ ds) {q : Pc} (hq : q ∈ trimL base f ds) (hc : q.1 = true) :
    (¬ ∀ d ∈ ds, d = f) ∧ q = cPc base (ds.map (leftD (begN f ds) (tailN (f.drop (begN f ds)) (ds.map fun d => d.drop (begN f ds))))) := by
  unfold trimL at hq
  dsimp only at hq
  split at hq
  · simp at hq; subst hq; cases hc
  · rename_i h
    refine ⟨fun hs => h ((all_same hf).2 hs), ?_⟩
    simp at hq
    rcases hq with rfl | rfl | rfl
    · cases hc
    · rfl
    · cases hc
/-- A conflict made smaller stays so. -/
theorem trim_fix (hb : ∀ x : Tx, ¬ ∀ d ∈ f :: ds, d.head? = some x) (he : ∀ x : Tx, ¬ ∀ d ∈ f :: ds, d.getLast? = some x) (hn : ¬ ∀ d ∈ f :: ds, d = []) (t : Txs) : trimD (true, t, base, f :: ds) = normal [(true, t, base, f :: ds)] := by
  have h1 : begB f (f :: ds) 1 = false := by
    cases h : begB f (f :: ds) 1 with
    | false => rfl
    | true =>
      have h0 := begB_iff.1 h
      cases hx : f.head? with
      | none =>
        have := (h0 f (List.mem_cons_self ..)).1
        rw [List.head?_eq_none_iff] at hx
        rw [hx] at this
        simp at this
      | some x =>
        refine absurd (fun d hd => ?_) (hb x)
        have h2 := (h0 d hd).2
        have h3 := congrArg List.head? h2
        rw [List.head?_take, List.head?_take, if_neg (by omega), if_neg (by omega)] at h3
        rw [h3, hx]
  have h2 : tailB f (f :: ds) 1 = false := by
    cases h : tailB f (f :: ds) 1 with
    | false => rfl
    | true =>
      have h0 := tailB_iff.1 h
      cases hx : f.getLast? with
      | none =>
        have := (h0 f (List.mem_cons_self ..)).1
        rw [List.getLast?_eq_none_iff] at hx
        rw [hx] at this
        simp at this
      | some x =>
        refine absurd (fun d hd => ?_) (he x)
        obtain ⟨q1, q2⟩ := h0 d hd
        have q3 := (h0 f (List.mem_cons_self ..)).1
        have h3 := congrArg List.getLast? q2
        rw [List.getLast?_drop, List.getLast?_drop, if_neg (by omega), if_neg (by omega)] at h3
        rw [h3, hx]
  have e1 : begN f (f :: ds) = 0 := upTo_zero h1
  have e2 : tailN f (f :: ds) = 0 := upTo_zero h2
  have e3 : (fun d : Txs => d.drop 0) = id := by funext d; rfl
  rw [trimD_conf rfl rfl]
  unfold trimL
  dsimp only
  rw [e1, if_neg, e3, List.map_id]
  · show normal [tPc (f.take 0), cPc base ((f :: ds).map (leftD 0 (tailN f (f :: ds)))), tPc (f.drop (f.length - tailN f (f :: ds)))] = normal [(true, t, base, f :: ds)]
    rw [e2]
    have e4 : leftD 0 0 = id := by funext d; unfold leftD; simp
    rw [e4, List.map_id]
    simp [normal, tPc, cPc, joinT]
  · intro h
    rw [List.all_eq_true] at h
    exact hn fun d hd => by simpa using h d hd
theorem conf_again (hq : q.1 = true) (h : q ∈ trimD p) : trimD q = normal [q] := by
  cases hc : p.1 with
  | false =>
    rw [trimD_text hc] at h
    obtain ⟨t, ht⟩ := conf_normal hq h
    simp at ht
    rw [← ht] at hc
    cases hc
  | true =>
    cases hs : p.2.2.2 with
    | nil =>
      rw [trimD_bare hs] at h
      obtain ⟨t, ht⟩ := conf_normal hq h
      simp at ht
      rw [← ht] at hs
      exact trimD_bare hs
    | cons f ds =>
      rw [trimD_conf hc hs] at h
      obtain ⟨t, ht⟩ := conf_normal hq h
      have hf : f ∈ f :: ds := List.mem_cons_self ..
      obtain ⟨h1, h2⟩ := trimL_conf hf ht rfl
      obtain ⟨c, t', b, s⟩ := q
      dsimp only at hq h2
      subst hq
      have hs' : s = (f :: ds).map (leftD (begN f (f :: ds)) (tailN (f.drop (begN f (f :: ds))) ((f :: ds).map fun d => d.drop (begN f (f :: ds))))) := congrArg (fun x => x.2.2.2) h2
      rw [List.map_cons] at hs'
      have hall : ∀ P : Txs → Prop, (∀ d ∈ s, P d) → ∀ d ∈ f :: ds, P (leftD (begN f (f :: ds)) (tailN (f.drop (begN f (f :: ds))) ((f :: ds).map fun d => d.drop (begN f (f :: ds)))) d) := by
        intro P hP d hd
        refine hP _ ?_
        rw [hs', ← List.map_cons]
        exact List.mem_map.2 ⟨d, hd, rfl⟩
      rw [hs'] at hall ⊢
      refine trim_fix (fun x hx => left_beg hf (hall (fun d => d.head? = some x) hx)) (fun x hx => left_end hf (hall (fun d => d.getLast? = some x) hx)) (fun hx => ?_) t'
      refine h1 fun d hd => ?_
      have e1 := side_parts hf hd
      have e2 := side_parts hf hf
      rw [hall (fun d => d = []) hx d hd] at e1
      rw [hall (fun d => d = []) hx f hf] at e2
      exact e1.symm.trans e2
theorem zeal_fix : ∀ {l : List Pc}, (∀ q ∈ l, trimD q = normal [q]) → zealD l = normal l
  | [], _ => rfl
  | q :: l, h => by
    have ih := zeal_fix (l := l) fun p hp => h p (List.mem_cons_of_mem _ hp)
    unfold zealD at ih ⊢
    rw [List.flatMap_cons, h q (List.mem_cons_self ..), normal_left, List.singleton_append, normal_cons, normal_cons, ih]
/-- TWICE AS ONCE. -/
theorem zeal_twice (l : List Pc) : zealD (zealD l) = zealD l := by
  have e : normal (zealD l) = zealD l := by unfold zealD; exact normal_twice _
  rw [zeal_fix, e]
  intro q hq
  cases hc : q.1 with
  | false => exact trimD_text hc
  | true =>
    obtain ⟨t, ht⟩ := conf_normal hc hq
    obtain ⟨p, hp, hm⟩ := List.mem_flatMap.1 ht
    have := conf_again (q := (true, t, q.2.2.1, q.2.2.2)) rfl hm
    obtain ⟨c, t', b, s⟩ := q
    dsimp only at hc this
    subst hc
    rw [trimD_txt t' t, this]
    rfl
/-- PART BY PART. -/
theorem zeal_parts (a b : List Pc) : normal (zealD a ++ zealD b) = zealD (a ++ b) := by
  unfold zealD
  rw [normal_parts, List.flatMap_append]
theorem zeal_clean (h : cleanB l = true) : zealD l = normal l := by
  refine zeal_fix fun q hq => trimD_text ?_
  unfold cleanB at h
  rw [List.all_eq_true] at h
  simpa using h q hq
/-- IN ANOTHER TURN. -/
theorem trim_turn {g : Txs} {es : List Txs} (he : ∀ d, d ∈ es ↔ d ∈ ds) (hf : f ∈ ds) (hg : g ∈ ds) :
    ((∀ d ∈ ds, d = f) ∧ trimL base f ds = [tPc f] ∧ trimL base g es = [tPc f]) ∨
    ((¬ ∀ d ∈ ds, d = f) ∧ ∃ (t1 t2 : Txs) (k : Txs → Txs), trimL base f ds = [tPc t1, cPc base (ds.map k), tPc t2] ∧ trimL base g es = [tPc t1, cPc base (es.map k), tPc t2]) := by
  have hb := begN_other he hf hg
  have hge : g ∈ es := (he g).2 hg
  by_cases hs : ∀ d ∈ ds, d = f
  · refine .inl ⟨hs, ?_, ?_⟩
    · unfold trimL
      dsimp only
      rw [if_pos ((all_same hf).2 hs)]
    · unfold trimL
      dsimp only
      rw [if_pos ((all_same hge).2 fun d hd => by rw [hs d ((he d).1 hd), hs g hg]), hs g hg]
  · refine .inr ⟨hs, ?_⟩
    have hn : ¬ (ds.all fun d => decide (d.length = begN f ds)) = true := fun h => hs ((all_same hf).1 h)
    have hn' : ¬ (es.all fun d => decide (d.length = begN g es)) = true := fun h => hs fun d hd => by
      have := (all_same hge).1 h
      rw [this d ((he d).2 hd), this f ((he f).2 hf)]
    unfold trimL
    dsimp only
    rw [if_neg hn, if_neg hn', hb]
    obtain ⟨k1, k2, _⟩ := begN_spec hf
    obtain ⟨a, ha⟩ : ∃ a, begN f ds = a := ⟨_, rfl⟩
    rw [ha] at k1 k2 ⊢
    have hfm : f.drop a ∈ ds.map fun d => d.drop a := List.mem_map.2 ⟨f, hf, rfl⟩
    have hgm : g.drop a ∈ ds.map fun d => d.drop a := List.mem_map.2 ⟨g, hg, rfl⟩
    have hm : ∀ d, (d ∈ es.map fun d => d.drop a) ↔ (d ∈ ds.map fun d => d.drop a) := fun d => by
      simp only [List.mem_map]
      exact ⟨fun ⟨x, h1, h2⟩ => ⟨x, (he x).1 h1, h2⟩, fun ⟨x, h1, h2⟩ => ⟨x, (he x).2 h1, h2⟩⟩
    have ht := tailN_other hm hfm hgm
    obtain ⟨j1, j2, _⟩ := tailN_spec hfm
    rw [ht]
    obtain ⟨b, hb'⟩ : ∃ b, tailN (f.drop a) (ds.map fun d => d.drop a) = b := ⟨_, rfl⟩
    rw [hb'] at j1 j2 ⊢
    have g1 := (begB_iff.1 k1 g hg)
    have g2 := (tailB_iff.1 j1 _ hgm)
    have e2 : g.drop (g.length - b) = f.drop (f.length - b) := by
      have h := g2.2
      rw [List.drop_drop, List.drop_drop] at h
      have q1 := g2.1
      rw [List.length_drop] at j2 q1 h
      rw [List.length_drop, show a + (g.length - a - b) = g.length - b by omega, show a + (f.length - a - b) = f.length - b by omega] at h
      exact h
    rw [g1.2, e2]
    exact ⟨_, _, _, rfl, rfl⟩
end
end Go.Proofs.YtdfpifipkchmnaaDoor

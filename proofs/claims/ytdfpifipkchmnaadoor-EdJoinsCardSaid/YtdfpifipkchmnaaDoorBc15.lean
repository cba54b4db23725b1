/- Proved here: texts joined: UnmPure. -/
import Derived.Test.YtdfpifipkchmnaaDoorBc14
/- Proved here, without conditions: marks read (layer 13), as a walk from text to text; lines opened and ended; marks told apart. -/
namespace Go.Proofs.YtdfpifipkchmnaaDoor
set_option linter.unusedVariables false

/-- Is a text a line, with its feed? -/
def lnB (t : Tx) : Bool := mayB [t] && endedB t
/-- Lines, the last one opened, if a mark tells so. -/
def openT (how : Bool) (d : Txs) : Option Txs :=
  if how = true then (match d.getLast? with | some s => if s.length < 2 then none else some (d.dropLast ++ [s.dropLast]) | none => none) else some d
def markX (sign : UInt8) (long : Nat) (ex : Bool) (label : Tx) : Tx := List.replicate long sign ++ (if ex = true then [33] else []) ++ label ++ [10]
/-- Such a mark? And does it tell that what is ahead is open? -/
def fitM (long : Nat) (t : Tx) (sign : UInt8) (label : Tx) : Option Bool := if t = markX sign long false label then some false else if t = markX sign long true label then some true else none
/-- What is read so far: the pieces, the part begun last, the style (0: of none yet), the conflict: is the part its base, its base, its sides. -/
structure MSt where
  out : List Pc
  cur : Txs
  style : Int
  conf : Option (Bool × Txs × List Txs)
def flushM (out : List Pc) (cur : Txs) : List Pc := if cur = [] then out else out ++ [tPc cur]
/-- A mark behind a part of a conflict. -/
def markStep (long : Nat) (s : MSt) (isB : Bool) (b : Txs) (ds : List Txs) (t : Tx) : Option MSt :=
  let first := !isB && ds.isEmpty
  let n := if isB = true then ds.length else ds.length + 1
  let put := fun q => if isB = true then (q, ds) else (b, ds ++ [q])
  match fitM long t 124 [32, 98, 97, 115, 101] with
  | some ex => if first = true ∧ s.style ≠ 1 then (openT ex s.cur).map fun q => ⟨s.out, [], 2, some (true, (put q).1, (put q).2)⟩ else none
  | none =>
    if first = true ∧ s.style = 2 then none else
    let st := if first = true then 1 else s.style
    match (if n < 16 then fitM long t 61 (32 :: numT (n + 1)) else none) with
    | some ex => (openT ex s.cur).map fun q => ⟨s.out, [], st, some (false, (put q).1, (put q).2)⟩
    | none => match fitM long t 62 [] with
      | some ex => (openT ex s.cur).map fun q => ⟨s.out ++ [cPc (put q).1 (put q).2], [], st, none⟩
      | none => none
def stepM (long : Nat) (s : MSt) (t : Tx) (last : Bool) : Option MSt :=
  match s.conf with
  | none =>
    if long ≤ runN t then (if t = markX 60 long false [32, 49] then some ⟨flushM s.out s.cur, [], s.style, some (false, [], [])⟩ else none)
    else if (lnB t || (last && mayB [t])) = true then some ⟨s.out, s.cur ++ [t], s.style, none⟩ else none
  | some (isB, b, ds) =>
    if long ≤ runN t then markStep long s isB b ds t
    else if lnB t = true then some ⟨s.out, s.cur ++ [t], s.style, some (isB, b, ds)⟩ else none
/-- All of it: what is read at last, or the number of the first text that is wrong. -/
def walkM (long : Nat) : MSt → List Tx → Nat → Except Nat MSt
  | s, [], i => if s.conf.isSome = true then .error (i + 1) else .ok s
  | s, t :: r, i => match stepM long s t r.isEmpty with
    | none => .error (i + 1)
    | some s' => walkM long s' r (i + 1)
def startM : MSt := ⟨[], [], 0, none⟩

section
variable {sign : UInt8} {long n : Nat} {ahead d q base : Txs} {ds : List Txs} {label w t : Tx} {style : Int} {l : List Pc} {p : Pc} {ex : Bool} {s s' : MSt}
theorem markT_X (ahead : Txs) : markT sign long ahead label = markX sign long (openB ahead) label := rfl
theorem open_one (t : Tx) : openB [t] = !endedB t := rfl
theorem lnB_iff : lnB t = true ↔ mayB [t] = true ∧ openB [t] = false := by
  unfold lnB
  rw [Bool.and_eq_true, open_one]
  simp
theorem lines_iff : ∀ {d : Txs}, (mayB d = true ∧ openB d = false) ↔ ∀ t ∈ d, lnB t = true
  | [] => by simp [mayB, openB]
  | [t] => by simp [lnB_iff]
  | t :: u :: d => by
    have ih := lines_iff (d := u :: d)
    have e : t :: u :: d = [t] ++ (u :: d) := rfl
    constructor
    · rintro ⟨h1, h2⟩ x hx
      rw [e, may_append] at h1
      rw [e, open_append, if_neg (by simp)] at h2
      simp only [Bool.and_eq_true, List.isEmpty_cons, Bool.false_or, Bool.not_eq_true'] at h1
      rcases List.mem_cons.1 hx with rfl | hx
      · exact lnB_iff.2 ⟨h1.1.1, h1.2⟩
      · exact ih.1 ⟨h1.1.2, h2⟩ x hx
    · intro h
      have h1 := lnB_iff.1 (h t (List.mem_cons_self ..))
      have h2 := ih.2 fun x hx => h x (List.mem_cons_of_mem _ hx)
      exact ⟨may_join (a := [t]) h1.1 h2.1 h1.2, open_join (a := [t]) h1.2 h2.2⟩
theorem line_of (h : lnB t = true) : ∃ w, t = w ++ [10] ∧ (10 : UInt8) ∉ w := by
  unfold lnB at h
  rw [Bool.and_eq_true] at h
  obtain ⟨h1, h2⟩ := h
  have hne : t ≠ [] := by rintro rfl; simp [endedB] at h2
  refine ⟨t.dropLast, ?_, ?_⟩
  · have : t.getLast? = some 10 := by simpa [endedB] using h2
    rw [List.getLast?_eq_some_getLast hne] at this
    injection this with this
    conv => lhs; rw [← List.dropLast_concat_getLast hne, this]
  · have hf : ¬ fe t < t.length := by
      unfold mayB at h1
      simp only [Bool.and_eq_true, Bool.not_eq_true', decide_eq_false_iff_not] at h1
      exact h1.1.1.2
    have key : ∀ t : Tx, ¬ fe t < t.length → (10 : UInt8) ∉ t.dropLast := by
      intro t
      induction t with
      | nil => intro _ h; cases h
      | cons c r ih =>
        intro h hx
        cases r with
        | nil => simp at hx
        | cons e r =>
          rw [List.dropLast_cons_cons] at hx
          by_cases hc : c = 10
          · rw [fe, if_pos hc] at h; simp at h
          · rw [fe, if_neg hc] at h
            rcases List.mem_cons.1 hx with hx | hx
            · exact hc hx.symm
            · exact ih (by rw [List.length_cons] at h; omega) hx
    exact key t hf
theorem free_may (hw : w ≠ []) (h : (10 : UInt8) ∉ w) : mayB [w] = true ∧ endedB w = false := by
  have h1 : fe w = w.length := by
    have key : ∀ w : Tx, (10 : UInt8) ∉ w → fe w = w.length := by
      intro w
      induction w with
      | nil => intro _; rfl
      | cons c r ih =>
        intro h
        rw [fe, if_neg fun e => h (by rw [e]; exact List.mem_cons_self ..), ih fun hx => h (List.mem_cons_of_mem _ hx)]
        rfl
    exact key w h
  constructor
  · unfold mayB
    rw [h1]
    cases w with
    | nil => exact absurd rfl hw
    | cons => simp [mayB]
  · cases he : endedB w with
    | false => rfl
    | true =>
      have : w.getLast? = some 10 := by simpa [endedB] using he
      exact absurd (List.mem_of_getLast? this) h
/-- ENDED AND OPENED. -/
theorem open_closed (h : mayB d = true) : openT (openB d) (closed d) = some d := by
  cases ho : openB d with
  | false => rw [closed_same ho]; rfl
  | true =>
    unfold openB at ho
    unfold closed
    cases hl : d.getLast? with
    | none => rw [hl] at ho; cases ho
    | some s =>
      rw [hl] at ho
      have ho : endedB s = false := by simpa using ho
      dsimp only
      rw [ho, if_neg (by simp)]
      have hd : d = d.dropLast ++ [s] := by
        have hne : d ≠ [] := by rintro rfl; simp at hl
        rw [List.getLast?_eq_some_getLast hne] at hl
        injection hl with hl
        rw [← hl, List.dropLast_concat_getLast hne]
      have hs : s ≠ [] := by
        rw [hd, may_append] at h
        simp only [Bool.and_eq_true] at h
        rintro rfl
        have := h.1.2
        simp [mayB] at this
      unfold openT
      rw [if_pos rfl, List.getLast?_concat]
      dsimp only
      rw [if_neg (by have := List.length_pos_iff.2 hs; simp; omega), List.dropLast_concat, List.dropLast_concat, ← hd]
theorem closed_open (h : ∀ t ∈ d, lnB t = true) (hq : openT ex d = some q) : closed q = d ∧ openB q = ex ∧ mayB q = true := by
  have hL := lines_iff.2 h
  cases ex with
  | false =>
    have : d = q := by simpa [openT] using hq
    subst this
    exact ⟨closed_same hL.2, hL.2, hL.1⟩
  | true =>
    unfold openT at hq
    rw [if_pos rfl] at hq
    cases hl : d.getLast? with
    | none => rw [hl] at hq; cases hq
    | some s =>
      rw [hl] at hq
      dsimp only at hq
      split at hq
      · cases hq
      · rename_i hlen
        injection hq with hq
        have hd : d = d.dropLast ++ [s] := by
          have hne : d ≠ [] := by rintro rfl; simp at hl
          rw [List.getLast?_eq_some_getLast hne] at hl
          injection hl with hl
          rw [← hl, List.dropLast_concat_getLast hne]
        obtain ⟨w, hw, hf⟩ := line_of (h s (List.mem_of_getLast? hl))
        subst hw
        rw [List.dropLast_concat] at hq
        have hw0 : w ≠ [] := by rintro rfl; simp at hlen
        obtain ⟨m1, m2⟩ := free_may hw0 hf
        subst hq
        refine ⟨?_, ?_, ?_⟩
        · unfold closed
          rw [List.getLast?_concat]
          dsimp only
          rw [m2, if_neg (by simp), List.dropLast_concat, ← hd]
        · unfold openB
          rw [List.getLast?_concat]
          simp [m2]
        · have h0 := lines_iff.2 fun t ht => h t (List.dropLast_subset _ ht)
          exact may_join h0.1 m1 h0.2
theorem open_runs (h : ∀ t ∈ d, lnB t = true ∧ runN t < long) (hq : openT ex d = some q) : ∀ t ∈ q, runN t < long := by
  cases ex with
  | false =>
    have : d = q := by simpa [openT] using hq
    subst this
    exact fun t ht => (h t ht).2
  | true =>
    unfold openT at hq
    rw [if_pos rfl] at hq
    cases hl : d.getLast? with
    | none => rw [hl] at hq; cases hq
    | some s =>
      rw [hl] at hq
      dsimp only at hq
      split at hq
      · cases hq
      · injection hq with hq
        subst hq
        intro t ht
        rcases List.mem_append.1 ht with ht | ht
        · exact (h t (List.dropLast_subset _ ht)).2
        · rw [List.mem_singleton] at ht
          subst ht
          have hs := h s (List.mem_of_getLast? hl)
          obtain ⟨w, hw, hf⟩ := line_of hs.1
          subst hw
          rw [List.dropLast_concat]
          have := hs.2
          rw [run_feed] at this
          exact this
/-- MARKS TOLD APART. -/
theorem markX_head (h : 1 ≤ long) : (markX sign long ex label).head? = some sign := by
  obtain ⟨k, rfl⟩ : ∃ k, long = k + 1 := ⟨long - 1, by omega⟩
  unfold markX
  rw [List.replicate_succ]
  rfl
theorem fit_other {sign' : UInt8} {label' : Tx} (h : 1 ≤ long) (hs : sign ≠ sign') : fitM long (markX sign long ex label) sign' label' = none := by
  have key : ∀ e, markX sign long ex label ≠ markX sign' long e label' := by
    intro e he
    have := congrArg List.head? he
    rw [markX_head h, markX_head h] at this
    injection this with this
    exact hs this
  unfold fitM
  rw [if_neg (key false), if_neg (key true)]
theorem markX_len : (markX sign long ex label).length = long + (if ex = true then 1 else 0) + label.length + 1 := by
  unfold markX
  cases ex <;> simp <;> omega
theorem fit_self : fitM long (markX sign long ex label) sign label = some ex := by
  unfold fitM
  cases ex with
  | false => rw [if_pos rfl]
  | true =>
    rw [if_neg, if_pos rfl]
    intro h
    have := congrArg List.length h
    rw [markX_len, markX_len] at this
    simp at this
theorem fit_eq (h : fitM long t sign label = some ex) : t = markX sign long ex label := by
  unfold fitM at h
  split at h
  · rename_i e; injection h with h; subst h; exact e
  · split at h
    · rename_i e; injection h with h; subst h; exact e
    · cases h
theorem run_markX (hs : signB sign = true) : long ≤ runN (markX sign long ex label) := by
  unfold markX
  rw [List.append_assoc, List.append_assoc]
  exact run_marks hs long

/-- What is put of the part begun last. -/
def putM (isB : Bool) (b : Txs) (ds : List Txs) (q : Txs) : Txs × List Txs := if isB = true then (q, ds) else (b, ds ++ [q])
def nM (isB : Bool) (ds : List Txs) : Nat := if isB = true then ds.length else ds.length + 1
def firstM (isB : Bool) (ds : List Txs) : Bool := !isB && ds.isEmpty
def stM (isB : Bool) (ds : List Txs) (style : Int) : Int := if firstM isB ds = true then 1 else style
theorem mark_base {isB : Bool} {b : Txs} (h : 1 ≤ long) (hf : firstM isB ds = true) (hs : s.style ≠ 1) (hq : openT ex s.cur = some q) :
    markStep long s isB b ds (markX 124 long ex [32, 98, 97, 115, 101]) = some ⟨s.out, [], 2, some (true, (putM isB b ds q).1, (putM isB b ds q).2)⟩ := by
  unfold markStep
  rw [fit_self]
  dsimp only
  rw [if_pos ⟨hf, hs⟩, hq]
  rfl
theorem mark_side {isB : Bool} {b : Txs} (h : 1 ≤ long) (hf : firstM isB ds = true → s.style ≠ 2) (hn : nM isB ds < 16) (hq : openT ex s.cur = some q) :
    markStep long s isB b ds (markX 61 long ex (32 :: numT (nM isB ds + 1))) = some ⟨s.out, [], stM isB ds s.style, some (false, (putM isB b ds q).1, (putM isB b ds q).2)⟩ := by
  unfold markStep
  rw [fit_other h (by decide)]
  dsimp only
  rw [if_neg (fun hx => hf hx.1 hx.2)]
  unfold nM at hn ⊢
  rw [if_pos hn, fit_self]
  dsimp only
  rw [hq]
  rfl
theorem mark_fin {isB : Bool} {b : Txs} (h : 1 ≤ long) (hf : firstM isB ds = true → s.style ≠ 2) (hq : openT ex s.cur = some q) :
    markStep long s isB b ds (markX 62 long ex []) = some ⟨s.out ++ [cPc (putM isB b ds q).1 (putM isB b ds q).2], [], stM isB ds s.style, none⟩ := by
  unfold markStep
  rw [fit_other h (by decide)]
  dsimp only
  rw [if_neg (fun hx => hf hx.1 hx.2), fit_other h (by decide)]
  have : ∀ c : Prop, [Decidable c] → (if c then (none : Option Bool) else none) = none := fun c _ => by split <;> rfl
  rw [this]
  dsimp only
  rw [fit_self]
  dsimp only
  rw [hq]
  rfl
/-- Lines that are no marks, one behind the other. -/
theorem walk_lines : ∀ {d : Txs} {s : MSt} {r : Txs} {i : Nat}, (∀ t ∈ d, lnB t = true ∧ runN t < long) → walkM long s (d ++ r) i = walkM long ⟨s.out, s.cur ++ d, s.style, s.conf⟩ r (i + d.length)
  | [], s, r, i, _ => by simp
  | t :: d, s, r, i, h => by
    have ht := h t (List.mem_cons_self ..)
    have e : stepM long s t (d ++ r).isEmpty = some ⟨s.out, s.cur ++ [t], s.style, s.conf⟩ := by
      unfold stepM
      obtain ⟨o, c, st, cf⟩ := s
      cases cf with
      | none => dsimp only; rw [if_neg (by omega), ht.1]; rfl
      | some x => obtain ⟨x, y, z⟩ := x; dsimp only; rw [if_neg (by omega), if_pos ht.1]
    rw [List.cons_append, walkM, e]
    dsimp only
    rw [walk_lines (d := d) fun u hu => h u (List.mem_cons_of_mem _ hu), List.length_cons]
    simp [Nat.add_assoc, Nat.add_comm 1]
theorem walk_mark {r : Txs} {i : Nat} {x : Bool × Txs × List Txs} (hx : s.conf = some x) (hr : long ≤ runN t) (hm : markStep long s x.1 x.2.1 x.2.2 t = some s') : walkM long s (t :: r) i = walkM long s' r (i + 1) := by
  have : stepM long s t r.isEmpty = some s' := by
    unfold stepM
    rw [hx]
    dsimp only
    rw [if_pos hr, hm]
  rw [walkM, this]
/-- A side, or a base, that may be printed. -/
def partB (long : Nat) (d : Txs) : Prop := mayB d = true ∧ ∀ t ∈ d, runN t < long
theorem partB.closed (h : partB long d) : ∀ t ∈ closed d, lnB t = true ∧ runN t < long := fun t ht => ⟨lines_iff.1 (closed_may h.1) t ht, closed_runs h.2 t ht⟩
theorem walk_sides (h1 : 1 ≤ long) : ∀ {ds : List Txs} {a b : Txs} {isB : Bool} {ds0 : List Txs} {out : List Pc} {st : Int} {r : Txs} {i : Nat},
    mayB a = true → (∀ d ∈ ds, partB long d) → (firstM isB ds0 = true → st ≠ 2) → (isB = true → ds0 ≠ []) → nM isB ds0 + ds.length ≤ 16 →
    walkM long ⟨out, closed a, st, some (isB, b, ds0)⟩ (sidesM long a (nM isB ds0 + 1) ds ++ r) i = walkM long ⟨out ++ [cPc (putM isB b ds0 a).1 ((putM isB b ds0 a).2 ++ ds)], [], stM isB ds0 st, none⟩ r (i + (sidesM long a (nM isB ds0 + 1) ds).length)
  | [], a, b, isB, ds0, out, st, r, i, ha, _, hf, _, _ => by
    have e := mark_fin (s := ⟨out, closed a, st, some (isB, b, ds0)⟩) (b := b) (q := a) (ex := openB a) h1 hf (open_closed ha)
    unfold sidesM
    rw [List.singleton_append, markT_X, walk_mark (x := (isB, b, ds0)) rfl (run_markX (by decide)) e, List.append_nil]
    rfl
  | d :: ds, a, b, isB, ds0, out, st, r, i, ha, hd, hf, hB, hn => by
    rw [List.length_cons] at hn
    have e := mark_side (s := ⟨out, closed a, st, some (isB, b, ds0)⟩) (b := b) (q := a) (ex := openB a) (ds := ds0) (isB := isB) h1 hf (by omega) (open_closed ha)
    have hp := hd d (List.mem_cons_self ..)
    unfold sidesM
    rw [List.cons_append, markT_X, walk_mark (x := (isB, b, ds0)) rfl (run_markX (by decide)) e, List.append_assoc, walk_lines hp.closed]
    have hn2 : nM false (putM isB b ds0 a).2 = nM isB ds0 + 1 := by
      unfold nM putM
      cases isB <;> simp
    have hf2 : firstM false (putM isB b ds0 a).2 = false := by
      unfold firstM putM
      cases isB with
      | false => simp
      | true => have := hB rfl; simpa using this
    have ih := walk_sides h1 (ds := ds) (a := d) (b := (putM isB b ds0 a).1) (isB := false) (ds0 := (putM isB b ds0 a).2) (out := out) (st := stM isB ds0 st) (r := r) (i := i + 1 + (closed d).length) hp.1 (fun e he => hd e (List.mem_cons_of_mem _ he)) (fun h => by rw [hf2] at h; cases h) (fun h => by cases h) (by omega)
    rw [hn2] at ih
    show walkM long ⟨out, [] ++ closed d, stM isB ds0 st, some (false, (putM isB b ds0 a).1, (putM isB b ds0 a).2)⟩ (sidesM long d (nM isB ds0 + 1 + 1) ds ++ r) (i + 1 + (closed d).length) = _
    rw [List.nil_append, ih]
    have e1 : stM false (putM isB b ds0 a).2 (stM isB ds0 st) = stM isB ds0 st := by
      show (if firstM false (putM isB b ds0 a).2 = true then 1 else stM isB ds0 st) = stM isB ds0 st
      rw [hf2]
      rfl
    have e2 : putM false (putM isB b ds0 a).1 (putM isB b ds0 a).2 d = ((putM isB b ds0 a).1, (putM isB b ds0 a).2 ++ [d]) := rfl
    rw [e1, e2, List.length_cons, List.length_append]
    dsimp only
    rw [List.append_assoc, List.singleton_append]
    congr 1
    omega
theorem walk_begin {out : List Pc} {cur : Txs} {st : Int} {r : Txs} {i : Nat} : walkM long ⟨out, cur, st, none⟩ (markT 60 long [] [32, 49] :: r) i = walkM long ⟨flushM out cur, [], st, some (false, [], [])⟩ r (i + 1) := by
  have : stepM long ⟨out, cur, st, none⟩ (markT 60 long [] [32, 49]) r.isEmpty = some ⟨flushM out cur, [], st, some (false, [], [])⟩ := by
    unfold stepM
    dsimp only
    rw [if_pos (run_mark (by decide)), if_pos (show markT 60 long [] [32, 49] = markX 60 long false [32, 49] from rfl)]
  rw [walkM, this]
/-- A conflict's base in a style. -/
def baseM (style : Int) (b : Txs) : Txs := if style = 1 then [] else b
theorem walk_conf (h1 : 1 ≤ long) {f b : Txs} {out : List Pc} {cur : Txs} {st : Int} {r : Txs} {i : Nat} (hst : style = 1 ∨ style = 2) (h0 : st = 0 ∨ st = style) (hb : partB long b) (hd : ∀ d ∈ f :: ds, partB long d) (hn : (f :: ds).length ≤ 16) :
    walkM long ⟨out, cur, st, none⟩ (confM style long b (f :: ds) ++ r) i = walkM long ⟨flushM out cur ++ [cPc (baseM style b) (f :: ds)], [], style, none⟩ r (i + (confM style long b (f :: ds)).length) := by
  rw [List.length_cons] at hn
  have hf := hd f (List.mem_cons_self ..)
  have hds : ∀ d ∈ ds, partB long d := fun d h => hd d (List.mem_cons_of_mem _ h)
  unfold confM
  rw [List.cons_append, walk_begin, List.append_assoc, walk_lines hf.closed]
  dsimp only
  rw [List.nil_append]
  rcases hst with rfl | rfl
  · rw [if_pos rfl]
    have e := walk_sides (long := long) h1 (ds := ds) (a := f) (b := []) (isB := false) (ds0 := []) (out := flushM out cur) (st := st) (r := r) (i := i + 1 + (closed f).length) hf.1 hds (fun _ => by omega) (fun h => by cases h) (by simp [nM]; omega)
    have e1 : nM false [] + 1 = 2 := rfl
    rw [e1] at e
    rw [e, List.length_cons, List.length_append]
    have e2 : stM false [] st = 1 := rfl
    rw [e2]
    show walkM long ⟨flushM out cur ++ [cPc [] ([f] ++ ds)], [], 1, none⟩ r _ = _
    congr 1
    omega
  · rw [if_neg (by decide)]
    have e0 := mark_base (s := ⟨flushM out cur, closed f, st, some (false, [], [])⟩) (b := []) (ds := []) (isB := false) (q := f) (ex := openB f) h1 rfl (by show st ≠ 1; omega) (open_closed hf.1)
    have e := walk_sides (long := long) h1 (ds := ds) (a := b) (b := []) (isB := true) (ds0 := [f]) (out := flushM out cur) (st := 2) (r := r) (i := i + 1 + (closed f).length + 1 + (closed b).length) hb.1 hds (fun h => by cases h) (fun _ => by simp) (by simp [nM]; omega)
    have e1 : nM true [f] + 1 = 2 := rfl
    rw [e1] at e
    rw [List.cons_append, markT_X, walk_mark (x := (false, [], [])) rfl (run_markX (by decide)) e0, List.append_assoc, walk_lines hb.closed]
    show walkM long ⟨flushM out cur, [] ++ closed b, 2, some (true, [], [f])⟩ (sidesM long b 2 ds ++ r) (i + 1 + (closed f).length + 1 + (closed b).length) = _
    rw [List.nil_append, e, List.length_cons, List.length_append, List.length_cons, List.length_append]
    show walkM long ⟨flushM out cur ++ [cPc b ([f] ++ ds)], [], 2, none⟩ r _ = _
    congr 1
    omega
/-- The last text may be open. -/
theorem walk_last {out : List Pc} {st : Int} : ∀ {d cur : Txs} {i : Nat}, partB long d → walkM long ⟨out, cur, st, none⟩ d i = .ok ⟨out, cur ++ d, st, none⟩
  | [], cur, i, _ => by simp [walkM]
  | t :: d, cur, i, h => by
    obtain ⟨h1, h2⟩ := h
    have e : t :: d = [t] ++ d := rfl
    rw [e, may_append] at h1
    simp only [Bool.and_eq_true, Bool.or_eq_true, Bool.not_eq_true'] at h1
    have hr := h2 t (List.mem_cons_self ..)
    have hs : stepM long ⟨out, cur, st, none⟩ t d.isEmpty = some ⟨out, cur ++ [t], st, none⟩ := by
      unfold stepM
      dsimp only
      rw [if_neg (by omega), if_pos]
      rcases h1.2 with h3 | h3
      · rw [h3, h1.1.1]; simp
      · rw [lnB_iff.2 ⟨h1.1.1, h3⟩]; rfl
    rw [walkM, hs]
    dsimp only
    rw [walk_last ⟨h1.1.2, fun u hu => h2 u (List.mem_cons_of_mem _ hu)⟩, List.append_assoc]
    rfl
def styP (style : Int) (p : Pc) : Pc := (p.1, p.2.1, baseM style p.2.2.1, p.2.2.2)
/-- PRINTED, AND READ. -/
theorem walk_back (h1 : 1 ≤ long) (hst : style = 1 ∨ style = 2) : ∀ {l : List Pc} {out : List Pc} {cur : Txs} {st : Int} {i : Nat}, FormP l → Put (!cur.isEmpty) l → (∀ p ∈ l, p.1 = true → p.2.2.2 ≠ [] ∧ p.2.2.2.length ≤ 16) → (∀ t ∈ (listsP l).flatten, runN t < long) → (st = 0 ∨ st = style) →
    ∃ s, walkM long ⟨out, cur, st, none⟩ (linesM style long l) i = .ok s ∧ flushM s.out s.cur = flushM out cur ++ l.map (styP style) ∧ s.style = (if cleanB l = true then st else style)
  | [], out, cur, st, i, _, _, _, _, _ => ⟨⟨out, cur, st, none⟩, by simp [linesM, walkM], by simp, by simp [cleanB]⟩
  | (true, t, b, s) :: l, out, cur, st, i, ⟨⟨f1, f2, f3⟩, f4, f5⟩, hP, hs, hr, h0 => by
    obtain ⟨rfl, hP⟩ := hP
    obtain ⟨k1, k2⟩ := hs _ (List.mem_cons_self ..) rfl
    have hr0 : ∀ d, d = b ∨ d ∈ s → ∀ t ∈ d, runN t < long := by
      intro d hd t ht
      refine hr t (mem_lines.2 ⟨_, List.mem_cons_self .., ?_⟩)
      rcases hd with rfl | hd
      · exact .inr (.inl ht)
      · exact .inr (.inr ⟨d, hd, ht⟩)
    have hrl : ∀ t ∈ (listsP l).flatten, runN t < long := fun t ht => by
      obtain ⟨q, hq, hx⟩ := mem_lines.1 ht
      exact hr t (mem_lines.2 ⟨q, List.mem_cons_of_mem _ hq, hx⟩)
    dsimp only at k1 k2 f2 f3
    match s, k1 with
    | f :: ds, _ =>
      obtain ⟨s', e1, e2, e3⟩ := walk_back h1 hst (l := l) (out := flushM out cur ++ [cPc (baseM style b) (f :: ds)]) (cur := []) (st := style) (i := i + (confM style long b (f :: ds)).length) f5 hP (fun p hp => hs p (List.mem_cons_of_mem _ hp)) hrl (.inr rfl)
      have e := walk_conf (long := long) (style := style) (ds := ds) h1 (f := f) (b := b) (out := out) (cur := cur) (st := st) (r := linesM style long l) (i := i) hst h0 ⟨f2, hr0 b (.inl rfl)⟩ (fun d hd => ⟨f3 d hd, hr0 d (.inr hd)⟩) k2
      refine ⟨s', ?_, ?_, ?_⟩
      · show walkM long ⟨out, cur, st, none⟩ (confM style long b (f :: ds) ++ linesM style long l) i = _
        rw [e, e1]
      · rw [e2]
        have : flushM (flushM out cur ++ [cPc (baseM style b) (f :: ds)]) [] = flushM out cur ++ [cPc (baseM style b) (f :: ds)] := rfl
        rw [this, List.append_assoc]
        rfl
      · rw [e3, ite_self, if_neg (by simp [cleanB])]
  | (false, t, b, s) :: l, out, cur, st, i, ⟨⟨f1, f2, f3⟩, f4, f5⟩, hP, hs, hr, h0 => by
    obtain ⟨hcur, ht, rfl, rfl, hP⟩ := hP
    have hc : cur = [] := by simpa using hcur
    subst hc
    have hrt : ∀ u ∈ t, runN u < long := fun u hu => hr u (mem_lines.2 ⟨_, List.mem_cons_self .., .inl hu⟩)
    have hrl : ∀ t ∈ (listsP l).flatten, runN t < long := fun t ht => by
      obtain ⟨q, hq, hx⟩ := mem_lines.1 ht
      exact hr t (mem_lines.2 ⟨q, List.mem_cons_of_mem _ hq, hx⟩)
    have hfl : flushM out t = out ++ [tPc t] := by unfold flushM; rw [if_neg ht]
    have hb : styP style (false, t, [], []) = tPc t := by unfold styP baseM; simp [tPc]
    cases l with
    | nil =>
      refine ⟨⟨out, [] ++ t, st, none⟩, ?_, ?_, ?_⟩
      · show walkM long ⟨out, [], st, none⟩ (t ++ []) i = _
        rw [List.append_nil]
        exact walk_last ⟨f1, hrt⟩
      · rw [List.map_cons, hb]
        exact hfl
      · simp [cleanB]
    | cons q l =>
      have ho := f4 (by simp)
      have hP' : Put (!t.isEmpty) (q :: l) := by
        have : (!t.isEmpty) = true := by simpa using ht
        rw [this]
        exact hP
      obtain ⟨s', e1, e2, e3⟩ := walk_back h1 hst (l := q :: l) (out := out) (cur := t) (st := st) (i := i + t.length) f5 hP' (fun p hp => hs p (List.mem_cons_of_mem _ hp)) hrl h0
      refine ⟨s', ?_, ?_, ?_⟩
      · show walkM long ⟨out, [], st, none⟩ (t ++ linesM style long (q :: l)) i = _
        rw [walk_lines fun u hu => ⟨lines_iff.1 ⟨f1, ho⟩ u hu, hrt u hu⟩]
        exact e1
      · rw [e2, hfl, List.append_assoc]
        show out ++ ([tPc t] ++ (q :: l).map (styP style)) = out ++ (styP style (false, t, [], []) :: (q :: l).map (styP style))
        rw [hb]
        rfl
      · rw [e3]
        rfl
end
end Go.Proofs.YtdfpifipkchmnaaDoor

/- Proved here: texts joined: UnmWr, UnDoc, Push, TxO. -/
import Derived.Test.YtcpopnhnihbofaaGreatDoorBe01
import Derived.Test.YtcpopnhnihbofaaGreatDoorBe02
import Derived.Test.YtcpopnhnihbofaaGreatDoorBe11
import Derived.Test.YtcpopnhnihbofaaGreatDoorChecked
import Derived.WalkLawsBesides
import Derived.IntWalk
import Derived.OwnWalk
import Derived.Maps.AppendAt
/- Proved here, without conditions: which text is wrong (layer 13): lines without a mark are one text; a conflict that isn't ended is wrong behind all; the first one that is wrong stays so, whatever stands behind; the side chosen in what is read. -/
namespace Go.Proofs.YtcpopnhnihbofaaGreatDoor
set_option linter.unusedVariables false

section
variable {long n i : Nat} {s s' : MSt} {a b l : Txs} {t : Tx}
theorem flush_nil (l : Txs) : flushM [] l = normal [tPc l] := by
  show (if l = [] then [] else [] ++ [tPc l]) = (if l = [] then [] else [tPc l])
  split <;> rfl
/-- Lines without a mark are one text. -/
theorem walk_plain (h : partB long l) : walkM long startM l 0 = .ok ⟨[], l, 0, none⟩ := by
  have := walk_last (out := []) (st := 0) (cur := []) (i := 0) h
  rwa [List.nil_append] at this
/-- A conflict that isn't ended. -/
theorem walk_cut (h : partB long l) : walkM long startM (markT 60 long [] [32, 49] :: l) 0 = .error (if openB l = true then l.length + 1 else l.length + 2) := by
  show walkM long ⟨[], [], 0, none⟩ (markT 60 long [] [32, 49] :: l) 0 = _
  rw [walk_begin]
  cases ho : openB l with
  | false =>
    have e := walk_lines (long := long) (d := l) (s := ⟨flushM [] [], [], 0, some (false, [], [])⟩) (r := []) (i := 0 + 1) fun t ht => ⟨lines_iff.1 ⟨h.1, ho⟩ t ht, h.2 t ht⟩
    rw [List.append_nil] at e
    rw [e]
    unfold walkM
    show Except.error (0 + 1 + l.length + 1) = Except.error (if false = true then l.length + 1 else l.length + 2)
    rw [if_neg (by simp)]
    congr 1
    omega
  | true =>
    have hne : l ≠ [] := by rintro rfl; cases ho
    obtain ⟨d, x, rfl⟩ : ∃ d x, l = d ++ [x] := ⟨l.dropLast, l.getLast hne, (List.dropLast_concat_getLast hne).symm⟩
    obtain ⟨h1, h2⟩ := h
    have hx : openB [x] = true := by
      rw [open_append, if_neg (by simp)] at ho
      exact ho
    rw [may_append] at h1
    simp only [Bool.and_eq_true, Bool.or_eq_true, Bool.not_eq_true'] at h1
    have hd : openB d = false := by
      rcases h1.2 with h | h
      · simp at h
      · exact h
    rw [walk_lines fun t ht => ⟨lines_iff.1 ⟨h1.1.1, hd⟩ t ht, h2 t (List.mem_append_left _ ht)⟩]
    have hr := h2 x (by simp)
    have hln : lnB x = false := by
      cases hl : lnB x with
      | false => rfl
      | true => have := (lnB_iff.1 hl).2; rw [hx] at this; cases this
    have hs : stepM long ⟨flushM [] [], [] ++ d, 0, some (false, [], [])⟩ x ([] : Txs).isEmpty = none := by
      unfold stepM
      dsimp only
      rw [if_neg (by omega), if_neg (by rw [hln]; simp)]
    show walkM long ⟨flushM [] [], [] ++ d, 0, some (false, [], [])⟩ [x] (0 + 1 + d.length) = _
    rw [walkM, hs]
    dsimp only
    rw [if_pos rfl, List.length_append]
    congr 1
    simp
    omega
/-- Texts read one by one, none of them the last one. -/
def runF (long : Nat) : MSt → Txs → Option MSt
  | s, [] => some s
  | s, t :: r => match stepM long s t false with
    | none => none
    | some s' => runF long s' r
theorem step_last (h : stepM long s t false = some s') : stepM long s t true = some s' := by
  unfold stepM at h ⊢
  cases hc : s.conf with
  | some x => rw [hc] at h; exact h
  | none =>
    rw [hc] at h
    dsimp only at h ⊢
    split at h
    · rename_i hr
      rw [if_pos hr]
      exact h
    · rename_i hr
      rw [if_neg hr]
      split at h
      · rename_i hl
        have hl : lnB t = true := by simpa using hl
        rw [if_pos (by simp [hl])]
        exact h
      · cases h
theorem step_flag (f : Bool) (h : stepM long s t false = some s') : stepM long s t f = some s' := by
  cases f with
  | false => exact h
  | true => exact step_last h
theorem walk_run : ∀ {a : Txs} {s s' : MSt} {i : Nat}, runF long s a = some s' → walkM long s (a ++ b) i = walkM long s' b (i + a.length)
  | [], s, s', i, h => by
    have e : s = s' := by simpa [runF] using h
    subst e
    rfl
  | t :: a, s, s', i, h => by
    unfold runF at h
    cases hs : stepM long s t false with
    | none => rw [hs] at h; cases h
    | some s1 =>
      rw [hs] at h
      dsimp only at h
      rw [List.cons_append, walkM, step_flag _ hs]
      dsimp only
      rw [walk_run h, List.length_cons]
      congr 1
      omega
theorem walk_wrong : ∀ {l : Txs} {s : MSt} {i : Nat}, walkM long s l i = .error n → i + 1 ≤ n ∧ n ≤ i + l.length + 1 ∧ (n < i + l.length → ∃ a t b s', l = a ++ t :: b ∧ b ≠ [] ∧ runF long s a = some s' ∧ stepM long s' t false = none ∧ n = i + a.length + 1)
  | [], s, i, h => by
    unfold walkM at h
    split at h
    · injection h with h
      subst h
      exact ⟨Nat.le_refl _, Nat.le_refl _, fun h => absurd h (by simp)⟩
    · cases h
  | t :: r, s, i, h => by
    unfold walkM at h
    cases hs : stepM long s t r.isEmpty with
    | none =>
      rw [hs] at h
      injection h with h
      subst h
      refine ⟨Nat.le_refl _, by simp, fun hlt => ?_⟩
      rw [List.length_cons] at hlt
      have hr : r ≠ [] := by rintro rfl; simp at hlt
      have hf : r.isEmpty = false := by simpa using hr
      rw [hf] at hs
      exact ⟨[], t, r, s, rfl, hr, rfl, hs, rfl⟩
    | some s1 =>
      rw [hs] at h
      dsimp only at h
      obtain ⟨h1, h2, h3⟩ := walk_wrong h
      rw [List.length_cons]
      refine ⟨by omega, by omega, fun hlt => ?_⟩
      obtain ⟨a, t', b, s', e1, e2, e3, e4, e5⟩ := h3 (by omega)
      have hr : r ≠ [] := by rw [e1]; simp
      have hf : r.isEmpty = false := by simpa using hr
      rw [hf] at hs
      refine ⟨t :: a, t', b, s', by rw [e1]; rfl, e2, ?_, e4, by rw [List.length_cons]; omega⟩
      rw [runF, hs]
      exact e3
/-- THE FIRST ONE THAT IS WRONG STAYS SO, WHATEVER STANDS BEHIND; WITHOUT IT ALL IS READ, BUT FOR A CONFLICT THAT ISN'T ENDED. -/
theorem walk_more (h : walkM long s l 0 = .error n) (hn : n < l.length) (more : Txs) : walkM long s (l ++ more) 0 = .error n ∧ ((∃ s', walkM long s (l.take (n - 1)) 0 = .ok s') ∨ walkM long s (l.take (n - 1)) 0 = .error n) := by
  obtain ⟨-, -, h3⟩ := walk_wrong h
  obtain ⟨a, t, b, s', rfl, hb, hr, hs, rfl⟩ := h3 (by omega)
  have hbm : (b ++ more).isEmpty = false := by
    cases b with
    | nil => exact absurd rfl hb
    | cons x b => rfl
  constructor
  · rw [List.append_assoc, walk_run hr, List.cons_append, walkM, hbm, hs]
  · have e : (a ++ t :: b).take (0 + a.length + 1 - 1) = a := by
      rw [show 0 + a.length + 1 - 1 = a.length by omega, List.take_left]
    rw [e]
    have hw := walk_run (b := []) (i := 0) hr
    rw [List.append_nil] at hw
    rw [hw]
    unfold walkM
    cases hc : s'.conf.isSome with
    | true =>
      rw [if_pos rfl]
      exact .inr (by congr 1)
    | false =>
      rw [if_neg (by simp)]
      exact .inl ⟨s', rfl⟩
theorem walk_bounds (h : walkM long s l 0 = .error n) : 1 ≤ n ∧ n ≤ l.length + 1 := by
  obtain ⟨h1, h2, -⟩ := walk_wrong h
  omega
/-- The side chosen doesn't hang on bases. -/
theorem choose_sty (style : Int) {l : List Pc} {z : Int} (h : 1 ≤ z) : choose (l.map (styP style)) z = choose l z := by
  unfold choose
  rw [List.flatMap_map]
  refine congrArg (fun g => l.flatMap g) (funext fun p => ?_)
  obtain ⟨c, t, b, s⟩ := p
  cases c with
  | false => rfl
  | true => simp [chosen, styP, h]
end
end Go.Proofs.YtcpopnhnihbofaaGreatDoor
/- Proved here, without a word of the program: marks read part by part, as the document's own answer does, are read text by text; which mark stands behind a part. -/
namespace Go.Proofs.YtcpopnhnihbofaaGreatDoor
set_option linter.unusedVariables false

section
variable {long : Nat} {out : List Pc} {cur ds l : Txs} {st : Int} {x : Bool × Txs × List Txs} {t : Tx} {a b : Nat}

/-- Lines ahead of the next mark, outside of a conflict: how many; is what stands behind them wrong? -/
def outD (long : Nat) : Txs → Nat × Bool
  | [] => (0, false)
  | t :: r => if long ≤ runN t then (0, false) else if (lnB t || (r.isEmpty && mayB [t])) = true then ((outD long r).1 + 1, (outD long r).2) else (0, true)
theorem outD_mark {r : Txs} (h : long ≤ runN t) : outD long (t :: r) = (0, false) := by unfold outD; rw [if_pos h]
theorem outD_line {r : Txs} (h : ¬ long ≤ runN t) (h2 : (lnB t || (r.isEmpty && mayB [t])) = true) : outD long (t :: r) = ((outD long r).1 + 1, (outD long r).2) := by rw [outD, if_neg h, if_pos h2]
theorem outD_bad {r : Txs} (h : ¬ long ≤ runN t) (h2 : ¬ (lnB t || (r.isEmpty && mayB [t])) = true) : outD long (t :: r) = (0, true) := by rw [outD, if_neg h, if_neg h2]
theorem walk_outD : ∀ {r : Txs} {cur : Txs} {i : Nat}, walkM long ⟨out, cur, st, none⟩ r i = if (outD long r).2 = true then .error (i + (outD long r).1 + 1) else walkM long ⟨out, cur ++ r.take (outD long r).1, st, none⟩ (r.drop (outD long r).1) (i + (outD long r).1)
  | [], cur, i => by simp [outD]
  | t :: r, cur, i => by
    by_cases h1 : long ≤ runN t
    · rw [outD_mark h1]; simp
    · by_cases h2 : (lnB t || (r.isEmpty && mayB [t])) = true
      · have hs : stepM long ⟨out, cur, st, none⟩ t r.isEmpty = some ⟨out, cur ++ [t], st, none⟩ := by
          unfold stepM
          dsimp only
          rw [if_neg h1, if_pos h2]
        have hw : walkM long ⟨out, cur, st, none⟩ (t :: r) i = walkM long ⟨out, cur ++ [t], st, none⟩ r (i + 1) := by
          rw [walkM, hs]
        rw [hw, walk_outD (r := r), outD_line h1 h2]
        simp only [List.take_succ_cons, List.drop_succ_cons, List.append_assoc, List.singleton_append]
        rw [show i + 1 + (outD long r).1 = i + ((outD long r).1 + 1) by omega]
      · have hs : stepM long ⟨out, cur, st, none⟩ t r.isEmpty = none := by
          unfold stepM
          dsimp only
          rw [if_neg h1, if_neg h2]
        rw [outD_bad h1 h2, walkM, hs]
        simp

/-- Lines ahead of the next mark, in a conflict. -/
def partD (long : Nat) : Txs → Nat × Bool
  | [] => (0, true)
  | t :: r => if lnB t = true ∧ ¬ long ≤ runN t then ((partD long r).1 + 1, (partD long r).2) else (0, !lnB t)
theorem partD_line {r : Txs} (h : lnB t = true) (h2 : ¬ long ≤ runN t) : partD long (t :: r) = ((partD long r).1 + 1, (partD long r).2) := by rw [partD, if_pos ⟨h, h2⟩]
theorem partD_mark {r : Txs} (h : lnB t = true) (h2 : long ≤ runN t) : partD long (t :: r) = (0, false) := by rw [partD, if_neg (fun x => x.2 h2), h]; rfl
theorem partD_bad {r : Txs} (h : lnB t = false) : partD long (t :: r) = (0, true) := by rw [partD, if_neg (fun x => by rw [h] at x; cases x.1), h]; rfl
theorem lnB_line {w : Tx} (h : (10 : UInt8) ∉ w) : lnB (w ++ [10]) = true := lnB_iff.2 (line_may h)
theorem lnB_markX {sign : UInt8} {ex : Bool} {label : Tx} (hs : sign ≠ 10) (hl : (10 : UInt8) ∉ label) : lnB (markX sign long ex label) = true := by
  unfold markX
  refine lnB_line ?_
  rw [List.mem_append, List.mem_append]
  rintro ((h | h) | h)
  · exact hs (List.eq_of_mem_replicate h).symm
  · cases ex
    · cases h
    · simp at h
  · exact hl h
theorem num_free (n : Nat) : n ≤ 16 → (10 : UInt8) ∉ (32 :: numT n) := by
  intro h
  obtain rfl | rfl | rfl | rfl | rfl | rfl | rfl | rfl | rfl | rfl | rfl | rfl | rfl | rfl | rfl | rfl | rfl : n = 0 ∨ n = 1 ∨ n = 2 ∨ n = 3 ∨ n = 4 ∨ n = 5 ∨ n = 6 ∨ n = 7 ∨ n = 8 ∨ n = 9 ∨ n = 10 ∨ n = 11 ∨ n = 12 ∨ n = 13 ∨ n = 14 ∨ n = 15 ∨ n = 16 := by omega
  all_goals decide

/-- Which mark stands there? -/
theorem mark_kinds (h1 : 1 ≤ long) (t : Tx) (isB : Bool) (dss : List Txs) : (∃ ex, t = markX 124 long ex [32, 98, 97, 115, 101]) ∨ (nM isB dss < 16 ∧ ∃ ex, t = markX 61 long ex (32 :: numT (nM isB dss + 1))) ∨ (∃ ex, t = markX 62 long ex []) ∨
    (fitM long t 124 [32, 98, 97, 115, 101] = none ∧ (nM isB dss < 16 → fitM long t 61 (32 :: numT (nM isB dss + 1)) = none) ∧ fitM long t 62 [] = none) := by
  cases hb : fitM long t 124 [32, 98, 97, 115, 101] with
  | some ex => exact .inl ⟨ex, fit_eq hb⟩
  | none =>
    by_cases hn : nM isB dss < 16
    · cases hf : fitM long t 61 (32 :: numT (nM isB dss + 1)) with
      | some ex => exact .inr (.inl ⟨hn, ex, fit_eq hf⟩)
      | none =>
        cases he : fitM long t 62 [] with
        | some ex => exact .inr (.inr (.inl ⟨ex, fit_eq he⟩))
        | none => exact .inr (.inr (.inr ⟨rfl, fun _ => rfl, rfl⟩))
    · cases he : fitM long t 62 [] with
      | some ex => exact .inr (.inr (.inl ⟨ex, fit_eq he⟩))
      | none => exact .inr (.inr (.inr ⟨rfl, fun h => absurd h hn, rfl⟩))
theorem mark_none {s : MSt} {isB : Bool} {b : Txs} {dss : List Txs} (h1 : fitM long t 124 [32, 98, 97, 115, 101] = none) (h2 : nM isB dss < 16 → fitM long t 61 (32 :: numT (nM isB dss + 1)) = none) (h3 : fitM long t 62 [] = none) : markStep long s isB b dss t = none := by
  unfold markStep
  rw [h1]
  dsimp only
  split
  · rfl
  · have : (if nM isB dss < 16 then fitM long t 61 (32 :: numT (nM isB dss + 1)) else none) = none := by
      split
      · rename_i h; exact h2 h
      · rfl
    unfold nM at this
    rw [this]
    dsimp only
    rw [h3]
theorem mark_free {s : MSt} {isB : Bool} {b : Txs} {dss : List Txs} (h1 : 1 ≤ long) (h : lnB t = false) (hn : nM isB dss ≤ 16) : markStep long s isB b dss t = none := by
  rcases mark_kinds h1 t isB dss with ⟨ex, rfl⟩ | ⟨h2, ex, rfl⟩ | ⟨ex, rfl⟩ | ⟨k1, k2, k3⟩
  · rw [lnB_markX (by decide) (by decide)] at h; cases h
  · rw [lnB_markX (by decide) (num_free _ (by omega))] at h; cases h
  · rw [lnB_markX (by decide) (by decide)] at h; cases h
  · exact mark_none k1 k2 k3
/-- The base's mark where there may be none. -/
theorem mark_base_no {s : MSt} {isB : Bool} {b : Txs} {dss : List Txs} {ex : Bool} (h : ¬ (firstM isB dss = true ∧ s.style ≠ 1) ∨ openT ex s.cur = none) : markStep long s isB b dss (markX 124 long ex [32, 98, 97, 115, 101]) = none := by
  unfold markStep
  rw [fit_self]
  dsimp only
  split
  · rename_i hc
    rcases h with h | h
    · exact absurd hc h
    · rw [h]; rfl
  · rfl
theorem mark_side_no {s : MSt} {isB : Bool} {b : Txs} {dss : List Txs} {ex : Bool} (h1 : 1 ≤ long) (hn : nM isB dss < 16) (h : (firstM isB dss = true ∧ s.style = 2) ∨ openT ex s.cur = none) : markStep long s isB b dss (markX 61 long ex (32 :: numT (nM isB dss + 1))) = none := by
  unfold markStep
  rw [fit_other h1 (by decide)]
  dsimp only
  split
  · rfl
  · rename_i hc
    have : (if nM isB dss < 16 then fitM long (markX 61 long ex (32 :: numT (nM isB dss + 1))) 61 (32 :: numT (nM isB dss + 1)) else none) = some ex := by rw [if_pos hn, fit_self]
    unfold nM at this ⊢
    rw [this]
    dsimp only
    rcases h with h | h
    · exact absurd h hc
    · rw [h]; rfl
theorem mark_fin_no {s : MSt} {isB : Bool} {b : Txs} {dss : List Txs} {ex : Bool} (h1 : 1 ≤ long) (h : (firstM isB dss = true ∧ s.style = 2) ∨ openT ex s.cur = none) : markStep long s isB b dss (markX 62 long ex []) = none := by
  unfold markStep
  rw [fit_other h1 (by decide)]
  dsimp only
  split
  · rfl
  · rename_i hc
    have hx : ∀ k : Nat, (if k < 16 then fitM long (markX 62 long ex []) 61 (32 :: numT (k + 1)) else none) = none := fun k => by
      split
      · exact fit_other h1 (by decide)
      · rfl
    rw [hx]
    dsimp only
    rw [fit_self]
    dsimp only
    rcases h with h | h
    · exact absurd h hc
    · rw [h]; rfl

theorem walk_partD (h1 : 1 ≤ long) (hn : nM x.1 x.2.2 ≤ 16) : ∀ {r : Txs} {cur : Txs} {i : Nat}, walkM long ⟨out, cur, st, some x⟩ r i = if (partD long r).2 = true then .error (i + (partD long r).1 + 1) else walkM long ⟨out, cur ++ r.take (partD long r).1, st, some x⟩ (r.drop (partD long r).1) (i + (partD long r).1)
  | [], cur, i => by simp [partD, walkM]
  | t :: r, cur, i => by
    cases hl : lnB t with
    | false =>
      have hs : stepM long ⟨out, cur, st, some x⟩ t r.isEmpty = none := by
        unfold stepM
        dsimp only
        split
        · exact mark_free h1 hl hn
        · rw [if_neg (by rw [hl]; simp)]
      rw [partD_bad hl, walkM, hs]
      simp
    | true =>
      by_cases h2 : long ≤ runN t
      · rw [partD_mark hl h2]; simp
      · have hs : stepM long ⟨out, cur, st, some x⟩ t r.isEmpty = some ⟨out, cur ++ [t], st, some x⟩ := by
          unfold stepM
          dsimp only
          rw [if_neg h2, if_pos hl]
        have hw : walkM long ⟨out, cur, st, some x⟩ (t :: r) i = walkM long ⟨out, cur ++ [t], st, some x⟩ r (i + 1) := by
          rw [walkM, hs]
        rw [hw, walk_partD h1 hn (r := r), partD_line hl h2]
        simp only [List.take_succ_cons, List.drop_succ_cons, List.append_assoc, List.singleton_append]
        rw [show i + 1 + (partD long r).1 = i + ((partD long r).1 + 1) by omega]
/-- Where a part ends that isn't wrong. -/
theorem partD_end : ∀ {r : Txs}, (partD long r).2 = false → ∃ t, r[(partD long r).1]? = some t ∧ lnB t = true ∧ long ≤ runN t
  | [], h => by simp [partD] at h
  | t :: r, h => by
    cases hl : lnB t with
    | false => rw [partD_bad hl] at h; cases h
    | true =>
      by_cases h2 : long ≤ runN t
      · rw [partD_mark hl h2]; exact ⟨t, rfl, hl, h2⟩
      · rw [partD_line hl h2] at h ⊢
        obtain ⟨u, h3, h4⟩ := partD_end (r := r) h
        exact ⟨u, by simpa using h3, h4⟩
theorem partD_le : ∀ {r : Txs}, (partD long r).1 ≤ r.length
  | [] => by simp [partD]
  | t :: r => by
    have := partD_le (r := r)
    unfold partD
    split
    · simp; omega
    · simp
theorem outD_le : ∀ {r : Txs}, (outD long r).1 ≤ r.length
  | [] => by simp [outD]
  | t :: r => by
    have := outD_le (r := r)
    unfold outD
    split
    · simp
    · split
      · simp; omega
      · simp
/-- Where lines end outside of a conflict, if nothing is wrong. -/
theorem outD_end : ∀ {r : Txs}, (outD long r).2 = false → (outD long r).1 = r.length ∨ ∃ t, r[(outD long r).1]? = some t ∧ long ≤ runN t
  | [], h => .inl rfl
  | t :: r, h => by
    by_cases h1 : long ≤ runN t
    · rw [outD_mark h1]; exact .inr ⟨t, rfl, h1⟩
    · by_cases h2 : (lnB t || (r.isEmpty && mayB [t])) = true
      · rw [outD_line h1 h2] at h ⊢
        rcases outD_end (r := r) h with h3 | ⟨u, h3, h4⟩
        · exact .inl (by simp; omega)
        · exact .inr ⟨u, by simpa using h3, h4⟩
      · rw [outD_bad h1 h2] at h; cases h
/-- A mark outside of a conflict. -/
theorem walk_open {r : Txs} {i : Nat} (h : long ≤ runN t) : walkM long ⟨out, cur, st, none⟩ (t :: r) i = if t = markX 60 long false [32, 49] then walkM long ⟨flushM out cur, [], st, some (false, [], [])⟩ r (i + 1) else .error (i + 1) := by
  rw [walkM]
  unfold stepM
  dsimp only
  rw [if_pos h]
  by_cases ht : t = markX 60 long false [32, 49]
  · rw [if_pos ht, if_pos ht]
  · rw [if_neg ht, if_neg ht]
theorem walk_step {r : Txs} {i : Nat} {isB : Bool} {b : Txs} {dss : List Txs} (h : long ≤ runN t) : walkM long ⟨out, cur, st, some (isB, b, dss)⟩ (t :: r) i = match markStep long ⟨out, cur, st, some (isB, b, dss)⟩ isB b dss t with | none => .error (i + 1) | some s' => walkM long s' r (i + 1) := by
  rw [walkM]
  unfold stepM
  dsimp only
  rw [if_pos h]
  cases markStep long ⟨out, cur, st, some (isB, b, dss)⟩ isB b dss t <;> rfl

/-- Does a mark fit, as a number? -/
def fitI : Option Bool → Nat
  | none => 0
  | some false => 1
  | some true => 2
/-- What texts are read as: the pieces, the style, the text that is wrong, the error. -/
def parseM (l : Txs) (long : Int) : List Pc × Int × Int × Int :=
  if long < 1 ∨ 4096 < long then ([], 0, 0, 1) else match walkM long.toNat startM l 0 with
    | .ok s => (flushM s.out s.cur, max s.style 1, 0, 0)
    | .error n => ([], 0, n, 2)
end
end Go.Proofs.YtcpopnhnihbofaaGreatDoor
/- Proved here, without conditions on the program: what lies in a world behind allocs; new blocks that read as texts, as lists of texts. -/
namespace Go.Proofs.YtcpopnhnihbofaaGreatDoor
open Go.RowKit
set_option linter.unusedVariables false

theorem push_at (w : World) (o : Obj) (k : Nat) : (w.alloc o).heap[k]? = if k = w.heap.size then some o else w.heap[k]? := by
  show (w.heap.push o)[k]? = _
  rw [Array.getElem?_push]
theorem push_size (w : World) (o : Obj) : (w.alloc o).heap.size = w.heap.size + 1 := by simp
theorem below_alloc {a w : World} (h : Below a.heap.size a w) (o : Obj) : Below a.heap.size a (w.alloc o) := h.alloc h.size o
theorem below_drew {a w : World} (h : Below a.heap.size a w) : Below a.heap.size a w.drew := below_drewN h 1
theorem two_a (w : World) (o1 o2 : Obj) : ((w.alloc o1).alloc o2).heap[w.heap.size]? = some o1 ∧ ((w.alloc o1).alloc o2).heap[w.heap.size + 1]? = some o2 := by
  constructor
  · rw [push_at, if_neg (by simp), push_at, if_pos rfl]
  · rw [push_at, push_size, if_pos rfl]
theorem one_a (w : World) (o1 : Obj) : (w.alloc o1).heap[w.heap.size]? = some o1 := by rw [push_at, if_pos rfl]
theorem TxR.but {F : Nat → Prop} {w w' : World} {r : Slc} {ss : Txs} (h : TxR w w.heap.size r ss) (hb : But F w w') (hF : 0 < r.2.1 → ∀ q o, r.1 = some ⟨q, o, none⟩ → ¬ F q) : TxR w' w'.heap.size r ss := by
  refine ⟨h.1, h.2.1, h.2.2.1, fun hn => ?_⟩
  obtain ⟨b, o, e, hlt, hc⟩ := h.2.2.2 hn
  exact ⟨b, o, e, Nat.lt_of_lt_of_le hlt hb.size, fun j u hu => (World.cell?_of_block (w := w) (hb.block b hlt (hF hn b o e))).trans (hc j u hu)⟩
theorem txr_of {W : World} {g n : Nat} {ss : Txs} {C : Array Value} {t : TypeId} (h : W.heap[g]? = some (.cells C t (0, 0))) (hC : C = (ss.map fun s => Value.string (str s)).toArray) (hn : ss.length = n) (hm : n ≤ maxLen) : TxR W W.heap.size (some ⟨g, 0, none⟩, n, n) ss := by
  refine ⟨Nat.le_refl _, hm, by simpa using hn, fun _ => ⟨g, 0, rfl, (Array.getElem?_eq_some_iff.1 h).1, fun j u hu => ?_⟩⟩
  rw [Nat.zero_add, cells_of h, hC]
  simpa using hu
theorem rowsT_of {W : World} {g n : Nat} {rows : List Slc} {sss : List Txs} {C : Array Value} {t : TypeId} (h : W.heap[g]? = some (.cells C t (0, 0))) (hC : C = (rows.map slcV).toArray) (hn : rows.length = n) (hl : rows.length = sss.length)
    (each : ∀ (k : Nat) (r : Slc) (ss : Txs), rows[k]? = some r → sss[k]? = some ss → TxR W W.heap.size r ss) : RowsT W W.heap.size (some ⟨g, 0, none⟩) n rows sss := by
  refine ⟨⟨by simpa using hn, fun _ => ⟨g, 0, rfl, (Array.getElem?_eq_some_iff.1 h).1, fun j u hu => ?_⟩⟩, hl, each⟩
  rw [Nat.zero_add, cells_of h, hC]
  simpa using hu
end Go.Proofs.YtcpopnhnihbofaaGreatDoor
/- Proved here: texts of the call's own; numbers that an int may hold. -/
namespace Go.Proofs.YtcpopnhnihbofaaGreatDoor
open Go.RowKit
set_option linter.unusedVariables false

theorem infoStr : (Tryz.prog.info? 9).map (fun i => (i.zero, i.size, i.bytes)) = some (some (.string ByteArray.empty), 1, 16) := by kernel_rfl
/-- Texts of the call's own. -/
structure TxO (w wr : World) (v : Value) (xs : Txs) : Prop where
  own : wr.ownsRow w.heap.size 9 1 v xs.length (xs.map fun s => .string (str s))
  below : Below w.heap.size w wr
theorem TxO.out {w wr : World} {v : Value} {xs : Txs} (h : TxO w wr v xs) : TxsOut w wr (.returned v) xs := by
  obtain ⟨A, c, rfl, h1, h2, h3⟩ := own_slice h.own
  exact ⟨A, _, c, rfl, ⟨h1, h2, h3⟩, h.below⟩
theorem TxO.put {w wr w2 : World} {v v' : Value} {xs ys : Txs} {m : Nat} (h : TxO w wr v xs) (hl : ys.length = m) (hown : w2.ownsRow w.heap.size 9 1 v' (xs.length + m) ((xs.map fun s => .string (str s)) ++ ys.map fun s => .string (str s))) (hg : wr.grownBy w2 v.ownBlock) : TxO w w2 v' (xs ++ ys) := by
  refine ⟨?_, h.below.grown hg h.below.size fun j e => (h.own.lt j e).1⟩
  rw [List.length_append, hl, List.map_append]
  exact hown

/-- A number that an int may hold. -/
def inR64 (v : Int) : Prop := -9223372036854775808 ≤ v ∧ v ≤ 9223372036854775807
theorem wrap_pred {n : Int} {k m : Nat} (hn : inR64 n) (hk : k < m) (hm : m ≤ 9223372036854775807) : ((k : Int) == IntKind.i64.wrap (n - 1)) = decide ((k : Int) = n - 1) := by
  unfold inR64 at hn
  by_cases h : -9223372036854775808 ≤ n - 1
  · rw [IntWalk.i64_in _ (by omega)]
    rfl
  · have e : n = -9223372036854775808 := by omega
    subst e
    have : IntKind.i64.wrap (-9223372036854775808 - 1) = 9223372036854775807 := by decide
    rw [this]
    have h1 : ¬ (k : Int) = 9223372036854775807 := by omega
    have h2 : ¬ (k : Int) = -9223372036854775808 - 1 := by omega
    rw [decide_eq_false h2]
    simpa using h1

theorem strs_app (a b : Tx) : str a ++ str b = str (a ++ b) := by
  apply ByteArray.ext
  simp [str]
theorem str_feed (s : Tx) : str s ++ ⟨#[10]⟩ = str (s ++ [10]) := by
  apply ByteArray.ext
  simp [str]
theorem TxO.push {w wr w2 : World} {v v' : Value} {xs : Txs} {s : Tx} {o : Obj} (h : TxO w wr v xs) (hown : w2.ownsRow w.heap.size 9 1 v' (xs.length + 1) ((xs.map fun s => .string (str s)) ++ [.string (str s)])) (hg : (wr.alloc o).grownBy w2 v.ownBlock) : TxO w w2 v' (xs ++ [s]) := by
  have hs := h.below.size
  refine ⟨?_, (h.below.alloc hs o).grown hg (by simp; omega) fun j e => (h.own.lt j e).1⟩
  rw [List.length_append, List.map_append]
  exact hown

end Go.Proofs.YtcpopnhnihbofaaGreatDoor

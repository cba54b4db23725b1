/- Proved here: texts joined: MarkPure, FlagPure, DotPure. -/
import Derived.Test.YtdfpifipkchmnaaGreatDoorBa03
import Derived.Test.YtdfpifipkchmnaaGreatDoorBa04
import Derived.Test.YtdfpifipkchmnaaGreatDoorBa05
import Derived.Test.YtdfpifipkchmnaaGreatDoorBa09
/- Proved here, without conditions: plain facts on conflicts between marks (layer 12): what is printed is lines that may be; how many marks, how many lines; styles. -/
namespace Go.Proofs.YtdfpifipkchmnaaGreatDoor
set_option linter.unusedVariables false

/-- A number from 1 to 16 in figures. -/
def numT (n : Nat) : Tx := if 10 ≤ n then [49, UInt8.ofNat (48 + (n - 10))] else [UInt8.ofNat (48 + n)]
/-- A mark; ahead are the texts that it ends. -/
def markT (sign : UInt8) (long : Nat) (ahead : Txs) (label : Tx) : Tx := List.replicate long sign ++ (if openB ahead = true then [33] else []) ++ label ++ [10]
/-- The sides behind the first one, and the end. -/
def sidesM (long : Nat) : Txs → Nat → List Txs → Txs
  | ahead, _, [] => [markT 62 long ahead []]
  | ahead, n, d :: ds => markT 61 long ahead (32 :: numT n) :: (closed d ++ sidesM long d (n + 1) ds)
def confM (style : Int) (long : Nat) (base : Txs) : List Txs → Txs
  | [] => []
  | f :: ds => markT 60 long [] [32, 49] :: (closed f ++ if style = 1 then sidesM long f 2 ds else markT 124 long f [32, 98, 97, 115, 101] :: (closed base ++ sidesM long base 2 ds))
def pieceM (style : Int) (long : Nat) (p : Pc) : Txs := if p.1 = true then confM style long p.2.2.1 p.2.2.2 else p.2.1
def linesM (style : Int) (long : Nat) (l : List Pc) : Txs := l.flatMap (pieceM style long)
/-- All lists of texts of pieces. -/
def listsP (l : List Pc) : List Txs := l.flatMap fun p => p.2.1 :: p.2.2.1 :: p.2.2.2
def cntM (long : Nat) (a : Txs) : Nat := a.countP fun t => decide (long ≤ runN t)
def OkP (p : Pc) : Prop := mayB p.2.1 = true ∧ mayB p.2.2.1 = true ∧ ∀ d ∈ p.2.2.2, mayB d = true
/-- Lines that may be, and only the last text is open. -/
def FormP : List Pc → Prop
  | [] => True
  | p :: l => OkP p ∧ (l ≠ [] → openB p.2.1 = false) ∧ FormP l
/-- How many marks, and how many lines, a piece makes. -/
def marksP (style : Int) (p : Pc) : Nat := if p.1 = true then p.2.2.2.length + 1 + (if style = 1 then 0 else 1) else 0
def wantP (style : Int) (p : Pc) : Nat := p.2.1.length + (if p.1 = true ∧ style ≠ 1 then p.2.2.1.length else 0) + p.2.2.2.flatten.length

section
variable {sign : UInt8} {long n : Nat} {ahead d base : Txs} {ds : List Txs} {label w : Tx} {style : Int} {l : List Pc} {p : Pc}
theorem fe_line : ∀ {w : Tx}, 10 ∉ w → fe (w ++ [10]) = w.length + 1
  | [], _ => rfl
  | c :: w, h => by
    have hc : c ≠ 10 := fun e => h (by rw [e]; exact List.mem_cons_self ..)
    rw [List.cons_append, fe, if_neg hc, fe_line fun h' => h (List.mem_cons_of_mem _ h')]
    rfl
theorem line_may (h : 10 ∉ w) : mayB [w ++ [10]] = true ∧ openB [w ++ [10]] = false := by
  constructor
  · unfold mayB
    rw [fe_line h]
    simp [mayB]
  · simp [openB, endedB]
theorem num_feed (h : n ≤ 16) : (10 : UInt8) ∉ numT n := by
  have : ∀ n : Fin 17, (10 : UInt8) ∉ numT n.val := by decide
  exact this ⟨n, by omega⟩
theorem mark_may (hs : sign ≠ 10) (hl : (10 : UInt8) ∉ label) : mayB [markT sign long ahead label] = true ∧ openB [markT sign long ahead label] = false := by
  unfold markT
  refine line_may ?_
  rw [List.mem_append, List.mem_append]
  rintro ((h | h) | h)
  · exact hs (List.mem_replicate.1 h).2.symm
  · split at h <;> simp at h
  · exact hl h
theorem run_mark (hs : signB sign = true) : long ≤ runN (markT sign long ahead label) := by
  unfold markT
  rw [List.append_assoc, List.append_assoc]
  exact run_marks hs long
theorem takeW_feed {c : UInt8} (hc : c ≠ 10) : ∀ s : Tx, ((s ++ [10]).takeWhile fun x => x == c) = s.takeWhile fun x => x == c
  | [] => by
    have : ((10 : UInt8) == c) = false := by simpa using fun h => hc h.symm
    simp [this]
  | x :: s => by
    rw [List.cons_append, List.takeWhile_cons, List.takeWhile_cons, takeW_feed hc s]
theorem run_feed : ∀ s : Tx, runN (s ++ [10]) = runN s
  | [] => by simp [runN, signB]
  | c :: s => by
    rw [List.cons_append, run_cons, run_cons]
    by_cases hc : signB c = true
    · rw [if_pos hc, if_pos hc, takeW_feed (by rintro rfl; simp [signB] at hc)]
    · rw [if_neg hc, if_neg hc]
theorem cnt_append (a b : Txs) : cntM long (a ++ b) = cntM long a + cntM long b := List.countP_append ..
theorem cnt_mark (hs : signB sign = true) (a : Txs) : cntM long (markT sign long ahead label :: a) = cntM long a + 1 := by
  unfold cntM
  rw [List.countP_cons_of_pos (by simpa using run_mark hs)]
theorem cnt_zero (h : ∀ t ∈ d, runN t < long) : cntM long d = 0 := by
  unfold cntM
  rw [List.countP_eq_zero]
  intro t ht
  have := h t ht
  simp
  omega
theorem closed_runs (h : ∀ t ∈ d, runN t < long) : ∀ t ∈ closed d, runN t < long := by
  unfold closed
  split
  · rename_i s hs
    split
    · exact h
    · intro t ht
      rcases List.mem_append.1 ht with ht | ht
      · exact h t (List.dropLast_subset _ ht)
      · simp at ht
        subst ht
        rw [run_feed]
        exact h s (List.mem_of_getLast? hs)
  · exact h
theorem may_join {a b : Txs} (ha : mayB a = true) (hb : mayB b = true) (ho : openB a = false) : mayB (a ++ b) = true := by
  rw [may_append, ha, hb, ho]
  simp
theorem open_join {a b : Txs} (ha : openB a = false) (hb : openB b = false) : openB (a ++ b) = false := by
  rw [open_append]
  split <;> assumption
theorem may_cons2 {t : Tx} {a : Txs} (ht : mayB [t] = true ∧ openB [t] = false) (ha : mayB a = true ∧ openB a = false) : mayB (t :: a) = true ∧ openB (t :: a) = false :=
  ⟨may_join (a := [t]) ht.1 ha.1 ht.2, open_join (a := [t]) ht.2 ha.2⟩
theorem may_app2 {a b : Txs} (ha : mayB a = true ∧ openB a = false) (hb : mayB b = true ∧ openB b = false) : mayB (a ++ b) = true ∧ openB (a ++ b) = false :=
  ⟨may_join ha.1 hb.1 ha.2, open_join ha.2 hb.2⟩
theorem sides_may : ∀ {ds : List Txs} {ahead : Txs} {n : Nat}, n + ds.length ≤ 17 → (∀ d ∈ ds, mayB d = true) → mayB (sidesM long ahead n ds) = true ∧ openB (sidesM long ahead n ds) = false
  | [], ahead, n, _, _ => mark_may (by decide) (by simp)
  | d :: ds, ahead, n, hn, h => by
    rw [List.length_cons] at hn
    refine may_cons2 (mark_may (by decide) ?_) (may_app2 (closed_may (h d (List.mem_cons_self ..))) (sides_may (by omega) fun e he => h e (List.mem_cons_of_mem _ he)))
    intro hx
    rcases List.mem_cons.1 hx with hx | hx
    · exact absurd hx (by decide)
    · exact num_feed (by omega) hx
theorem conf_may (hd : ds ≠ []) (hl : ds.length ≤ 16) (hb : mayB base = true) (h : ∀ d ∈ ds, mayB d = true) : mayB (confM style long base ds) = true ∧ openB (confM style long base ds) = false := by
  match ds, hd with
  | f :: ds, _ =>
    rw [List.length_cons] at hl
    have hf := closed_may (h f (List.mem_cons_self ..))
    have hr := fun a => sides_may (long := long) (ahead := a) (n := 2) (ds := ds) (by omega) fun e he => h e (List.mem_cons_of_mem _ he)
    refine may_cons2 (mark_may (by decide) (by decide)) (may_app2 hf ?_)
    split
    · exact hr f
    · exact may_cons2 (mark_may (by decide) (by decide)) (may_app2 (closed_may hb) (hr base))
/-- WHAT IS PRINTED IS LINES THAT MAY BE. -/
theorem lines_may : ∀ {l : List Pc}, FormP l → (∀ p ∈ l, p.1 = true → p.2.2.2 ≠ [] ∧ p.2.2.2.length ≤ 16) → mayB (linesM style long l) = true
  | [], _, _ => rfl
  | p :: l, ⟨⟨h1, h2, h3⟩, h4, h5⟩, hs => by
    have ih := lines_may (l := l) h5 fun q hq => hs q (List.mem_cons_of_mem _ hq)
    unfold linesM at ih ⊢
    rw [List.flatMap_cons]
    unfold pieceM
    cases hc : p.1 with
    | true =>
      rw [if_pos rfl]
      have hp := hs p (List.mem_cons_self ..) hc
      have := conf_may (style := style) (long := long) hp.1 hp.2 h2 h3
      exact may_join this.1 ih this.2
    | false =>
      rw [if_neg (by simp)]
      cases l with
      | nil => simpa using h1
      | cons q l => exact may_join h1 ih (h4 (by simp))
theorem sides_cnt : ∀ {ds : List Txs} {ahead : Txs} {n : Nat}, (∀ d ∈ ds, ∀ t ∈ d, runN t < long) → cntM long (sidesM long ahead n ds) = ds.length + 1 ∧ (sidesM long ahead n ds).length = ds.flatten.length + ds.length + 1
  | [], ahead, n, _ => ⟨by unfold sidesM; rw [cnt_mark (by decide)]; rfl, rfl⟩
  | d :: ds, ahead, n, h => by
    obtain ⟨h1, h2⟩ := sides_cnt (ds := ds) (ahead := d) (n := n + 1) fun e he => h e (List.mem_cons_of_mem _ he)
    unfold sidesM
    refine ⟨?_, ?_⟩
    · rw [cnt_mark (by decide), cnt_append, cnt_zero (closed_runs (h d (List.mem_cons_self ..))), h1, List.length_cons]; omega
    · rw [List.length_cons, List.length_append, closed_len, h2, List.flatten_cons, List.length_append, List.length_cons]; omega
/-- HOW MANY MARKS, HOW MANY LINES. -/
theorem piece_cnt (hc : p.1 = true → p.2.1 = [] ∧ p.2.2.2 ≠ []) (ht : p.1 = false → p.2.2.2 = []) (h : ∀ d ∈ p.2.1 :: p.2.2.1 :: p.2.2.2, ∀ t ∈ d, runN t < long) : cntM long (pieceM style long p) = marksP style p ∧ (pieceM style long p).length = wantP style p + marksP style p := by
  obtain ⟨c, t, b, s⟩ := p
  unfold pieceM marksP wantP
  dsimp only at hc ht h ⊢
  cases c with
  | false =>
    have hs := ht rfl
    subst hs
    simp only [Bool.false_eq_true, if_false, false_and]
    exact ⟨cnt_zero (h t (List.mem_cons_self ..)), by simp⟩
  | true =>
    obtain ⟨e1, e2⟩ := hc rfl
    subst e1
    match s, e2 with
    | f :: ds, _ =>
      have hsd := fun a => sides_cnt (long := long) (ds := ds) (ahead := a) (n := 2) fun e he => h e (by simp [he])
      have hf := cnt_zero (closed_runs (h f (by simp)))
      have hb := cnt_zero (closed_runs (h b (by simp)))
      unfold confM
      simp only [if_true, true_and]
      by_cases hst : style = 1
      · rw [if_pos hst, if_pos hst, if_neg (by simp [hst])]
        refine ⟨?_, ?_⟩
        · rw [cnt_mark (by decide), cnt_append, hf, (hsd f).1, List.length_cons]; omega
        · rw [List.length_cons, List.length_append, closed_len, (hsd f).2, List.flatten_cons, List.length_append, List.length_cons]; simp; omega
      · rw [if_neg hst, if_neg hst, if_pos hst]
        refine ⟨?_, ?_⟩
        · rw [cnt_mark (by decide), cnt_append, hf, cnt_mark (by decide), cnt_append, hb, (hsd b).1, List.length_cons]; omega
        · rw [List.length_cons, List.length_append, closed_len, List.length_cons, List.length_append, closed_len, (hsd b).2, List.flatten_cons, List.length_append, List.length_cons]; simp; omega
/-- Without a conflict all styles are the same. -/
theorem lines_clean (h : cleanB l = true) : linesM style long l = choose l 0 := by
  unfold linesM choose
  unfold cleanB at h
  rw [List.all_eq_true] at h
  induction l with
  | nil => rfl
  | cons p l ih =>
    have hp : p.1 = false := by simpa using h p (List.mem_cons_self ..)
    rw [List.flatMap_cons, List.flatMap_cons, ih fun q hq => h q (List.mem_cons_of_mem _ hq)]
    unfold pieceM chosen
    rw [hp]
    rfl
end
end Go.Proofs.YtdfpifipkchmnaaGreatDoor
/- Proved here, without conditions: plain facts on flags (layer 14): kinds, exchanged; what e does by parts; kinds by contents. -/
namespace Go.Proofs.YtdfpifipkchmnaaGreatDoor
set_option linter.unusedVariables false

/-- None 0, Mine 1, Yours 2, Both 3, All 4. -/
def kindF (mine older yours : Txs) : Nat :=
  if mine = older ∧ yours = older then 0 else if yours = older then 1 else if mine = older then 2 else if mine = yours then 3 else 4
def swapK (k : Nat) : Nat := if k = 1 then 2 else if k = 2 then 1 else k
/-- e 101, x 120, 3 51, E 69, X 88, A 65. -/
def knownB (c : UInt8) : Bool := c == 101 || c == 120 || c == 51 || c == 69 || c == 88 || c == 65
/-- Leave 0, Take 1, Bracket 2, Show 3. -/
def doesF (c : UInt8) (k : Int) : Nat :=
  if knownB c = false then 0
  else if k = 2 then (if c = 120 ∨ c = 88 then 0 else 1)
  else if k ≠ 4 then 0
  else if c = 101 ∨ c = 120 then 1 else if c = 69 ∨ c = 88 then 2 else if c = 65 then 3 else 0
def wordM : Tx := [32, 77, 73, 78, 69]
def wordO : Tx := [32, 79, 76, 68, 69, 82]
def wordY : Tx := [32, 89, 79, 85, 82, 83]
def shownF (show_ : Bool) (mine older yours : Txs) : Txs :=
  markT 60 7 [] wordM :: (closed mine ++ ((if show_ = true then markT 124 7 mine wordO :: closed older else []) ++ (markT 61 7 (if show_ = true then older else mine) [] :: (closed yours ++ [markT 62 7 yours wordY]))))
def resultF (c : UInt8) (mine older yours : Txs) : Txs :=
  match doesF c (kindF mine older yours) with
  | 0 => mine
  | 1 => yours
  | 2 => shownF false mine older yours
  | _ => shownF true mine older yours

section
variable {mine older yours : Txs} {c : UInt8} {k : Int}
theorem kind_le : kindF mine older yours ≤ 4 := by
  unfold kindF
  repeat' split
  all_goals omega
/-- EXCHANGED. -/
theorem kind_turn : kindF yours older mine = swapK (kindF mine older yours) := by
  unfold kindF swapK
  by_cases h1 : mine = older <;> by_cases h2 : yours = older <;> by_cases h3 : mine = yours
  all_goals simp [h1, h2, h3, eq_comm]
  all_goals (try (subst h3; simp_all))
  all_goals simp_all [eq_comm]
theorem does_unknown (h : knownB c = false) : doesF c k = 0 := by unfold doesF; rw [if_pos h]
theorem does_le : doesF c k ≤ 3 := by
  unfold doesF
  repeat' split
  all_goals omega
/-- BY PARTS. -/
theorem result_e : resultF 101 mine older yours = if kindF mine older yours = 4 then resultF 120 mine older yours else resultF 51 mine older yours := by
  have hk := kind_le (mine := mine) (older := older) (yours := yours)
  unfold resultF
  generalize kindF mine older yours = k at *
  match k, hk with
  | 0, _ => rfl
  | 1, _ => rfl
  | 2, _ => rfl
  | 3, _ => rfl
  | 4, _ => rfl
theorem result_E : resultF 69 mine older yours = if kindF mine older yours = 4 then resultF 88 mine older yours else resultF 51 mine older yours := by
  have hk := kind_le (mine := mine) (older := older) (yours := yours)
  unfold resultF
  generalize kindF mine older yours = k at *
  match k, hk with
  | 0, _ => rfl
  | 1, _ => rfl
  | 2, _ => rfl
  | 3, _ => rfl
  | 4, _ => rfl
/-- BY CONTENTS. -/
theorem kind_content : (kindF mine older yours = 4 ↔ kindN older [mine, yours] = 2) ∧ (kindF mine older yours = 0 ↔ kindN older [mine, yours] = 0) := by
  unfold kindF kindN
  by_cases h1 : mine = older <;> by_cases h2 : yours = older <;> by_cases h3 : mine = yours
  all_goals simp_all [diffs, diffStep, eq_comm]
end
end Go.Proofs.YtdfpifipkchmnaaGreatDoor
/- Proved here, without conditions: plain facts on texts as they are handed to the editor (layer 15): there and back; which text is the point alone; two texts as both. -/
namespace Go.Proofs.YtdfpifipkchmnaaGreatDoor
set_option linter.unusedVariables false

/-- Does a text begin with a point? -/
def pointB (s : Tx) : Bool := s.head? == some 46
def dotT (s : Tx) : Tx := if pointB s = true then 46 :: s else s
def bareT (s : Tx) : Tx := if pointB s = true then s.tail else s
def dottedB (l : Txs) : Bool := l.any pointB
def endD : Tx := [46, 10]
def blockD (l : Txs) : Txs := l.map dotT ++ [endD]
def stripD (l : Txs) : Txs := l.map bareT
/-- Where the first text stands that is the point alone. -/
def unblockD : Txs → Nat → Txs → Txs × Nat
  | _, _, [] => ([], 0)
  | acc, i, t :: l => if t = endD then (acc, i + 1) else unblockD (acc ++ [t]) (i + 1) l

section
variable {l a b more : Txs} {s : Tx}
theorem dot_no_end (s : Tx) : dotT s ≠ endD := by
  unfold dotT endD
  split
  · rename_i h
    intro e
    injection e with _ e
    subst e
    simp [pointB] at h
  · rename_i h
    intro e
    subst e
    simp [pointB] at h
theorem point_dot (h : pointB s = true) : pointB (dotT s) = true ∧ bareT (dotT s) = s := by
  unfold dotT
  rw [if_pos h]
  have hp : pointB (46 :: s) = true := by simp [pointB]
  refine ⟨hp, ?_⟩
  unfold bareT
  rw [if_pos hp]
  rfl
theorem plain_dot (h : pointB s = false) : dotT s = s ∧ bareT s = s := by
  unfold dotT bareT
  rw [if_neg (by rw [h]; simp), if_neg (by rw [h]; simp)]
  exact ⟨rfl, rfl⟩
theorem dot_point (s : Tx) : pointB (dotT s) = pointB s := by
  cases h : pointB s with
  | true => exact (point_dot h).1
  | false => rw [(plain_dot h).1, h]
theorem bare_dot (s : Tx) : bareT (dotT s) = s := by
  cases h : pointB s with
  | true => exact (point_dot h).2
  | false => rw [(plain_dot h).1, (plain_dot h).2]
theorem unblock_app : ∀ {l acc : Txs} {i : Nat}, (∀ t ∈ l, t ≠ endD) → unblockD acc i (l ++ endD :: more) = (acc ++ l, i + l.length + 1)
  | [], acc, i, _ => by
    rw [List.nil_append, unblockD, if_pos rfl]
    simp
  | t :: l, acc, i, h => by
    rw [List.cons_append, unblockD, if_neg (h t (List.mem_cons_self ..)), unblock_app fun u hu => h u (List.mem_cons_of_mem _ hu)]
    simp
    omega
/-- THERE AND BACK, whatever stands behind. -/
theorem block_back : unblockD [] 0 (blockD l ++ more) = (l.map dotT, l.length + 1) := by
  unfold blockD
  rw [List.append_assoc, List.singleton_append, unblock_app (fun t ht => by
    obtain ⟨s, _, rfl⟩ := List.mem_map.1 ht
    exact dot_no_end s)]
  simp
theorem dots_none (h : dottedB l = false) : l.map dotT = l ∧ dottedB (l.map dotT) = false := by
  have hp : ∀ s ∈ l, pointB s = false := fun s hs => by
    have := List.any_eq_false.1 h s hs
    simpa using this
  have e : l.map dotT = l := by
    conv => rhs; rw [← List.map_id l]
    exact List.map_congr_left fun s hs => (plain_dot (hp s hs)).1
  exact ⟨e, by rw [e, h]⟩
theorem dots_some : dottedB (l.map dotT) = dottedB l := by
  unfold dottedB
  rw [List.any_map]
  congr 1
  funext s
  exact dot_point s
theorem strip_dots : stripD (l.map dotT) = l := by
  unfold stripD
  rw [List.map_map]
  conv => rhs; rw [← List.map_id l]
  exact List.map_congr_left fun s _ => bare_dot s
/-- JUST THE LAST ONE IS THE POINT ALONE. -/
theorem block_len : (blockD l).length = l.length + 1 := by simp [blockD]
theorem block_end {i : Nat} {t : Tx} (h : (blockD l)[i]? = some t) : t = endD ↔ i = l.length := by
  unfold blockD at h
  rcases Nat.lt_or_ge i l.length with hi | hi
  · rw [List.getElem?_append_left (by simpa using hi), List.getElem?_map] at h
    cases hs : l[i]? with
    | none => rw [hs] at h; cases h
    | some s =>
      rw [hs] at h
      injection h with h
      subst h
      exact ⟨fun e => absurd e (dot_no_end s), fun e => by omega⟩
  · rw [List.getElem?_append_right (by simpa using hi), List.length_map] at h
    match hk : i - l.length with
    | 0 =>
      rw [hk] at h
      simp at h
      exact ⟨fun _ => by omega, fun _ => h.symm⟩
    | k + 1 => rw [hk] at h; simp at h
/-- TWO TEXTS AS BOTH. -/
theorem block_join : blockD (a ++ b) = (blockD a).take ((blockD a).length - 1) ++ blockD b ∧ dottedB (a ++ b) = (dottedB a || dottedB b) := by
  constructor
  · rw [block_len, Nat.add_sub_cancel]
    unfold blockD
    rw [List.take_left' (by simp), List.map_append, List.append_assoc]
  · simp [dottedB]
end
end Go.Proofs.YtdfpifipkchmnaaGreatDoor

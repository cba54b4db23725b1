/- Proved here: texts joined: UmSt, ConRun, SzSign. -/
import Derived.Test.YtcpopnhnihbofaaGreatDoorBe02
import Derived.Test.YtcpopnhnihbofaaGreatDoorBe04
import Derived.Test.YtcpopnhnihbofaaGreatDoorBe12
import Derived.Test.YtcpopnhnihbofaaGreatDoorBe16
import Derived.Test.YtcpopnhnihbofaaGreatDoorBe19
import Derived.Test.YtcpopnhnihbofaaGreatDoorBe24
import Derived.Test.YtcpopnhnihbofaaGreatDoorBe25
import Derived.Test.YtcpopnhnihbofaaGreatDoorBe27
import Derived.Test.YtcpopnhnihbofaaGreatDoorBe28
import Derived.Test.YtcpopnhnihbofaaGreatDoorChecked
import Derived.WalkKit
import Derived.RangeFuncBox
import Derived.Laws.RangeAny
import Derived.Laws.Runes
import Derived.LoopTactic
import Derived.WalkMore
import Derived.Deep.QuietTactic
import Derived.BigQuiet
/- Proved here: the landed reader's memory, and what is read (the document's walk from text to text): one step of each kind. -/
namespace Go.Proofs.YtcpopnhnihbofaaGreatDoor
open Go.RowKit
set_option linter.unusedVariables false
set_option maxRecDepth 100000

/-- The parts that are finished. -/
def psOf (st : Int) (isB : Bool) (b : Txs) (ds : List Txs) : List Txs := if isB = true then ds else match ds with | [] => [] | f :: r => if st = 2 then f :: b :: r else f :: r
/-- Which function takes the mark that comes next. -/
def nxK : Option (Bool × Txs × List Txs) → Nat
  | none => 28
  | some (isB, _, ds) => if firstM isB ds = true then 55 else 84
/-- What of the memory tells which state. -/
def LinkS (s : MSt) (u : Value) (ps : List (Slc × Txs)) (tx : Bool) : Prop :=
  match s.conf with
  | none => ps = [] ∧ tx = !s.cur.isEmpty ∧ (s.cur = [] → u = .slice none 0 0) ∧ (∀ p, s.out.getLast? = some p → p.1 = true)
  | some (isB, b, ds) => tx = false ∧ ps.map (fun p => p.2) = psOf s.style isB b ds ∧ nM isB ds ≤ 16 ∧ (isB = true → ds.length = 1 ∧ s.style = 2) ∧ (isB = false → ds = [] → b = []) ∧ (isB = false → ds ≠ [] → (s.style = 1 ∧ b = []) ∨ s.style = 2)
/-- The reader, by the state that it holds. -/
def RdX (w wr : World) (L long K : Nat) (s : MSt) : Prop :=
  (∃ vp vq u qs ps tx, Rd w wr L long s.style (mvR (nxK s.conf) L) vp vq u qs ps tx s.conf.isSome s.cur ∧ qs.map (fun q => q.2) = s.out ∧ LinkS s u ps tx ∧ qs.length ≤ K ∧ s.cur.length ≤ K) ∧ (s.style = 0 ∨ s.style = 1 ∨ s.style = 2)
/-- What a call leaves that takes a text, or a mark. -/
def TookX (w : World) (L long K : Nat) (o : Option MSt) (ok : Bool) (w' : World) : Prop := (o = none → ok = false) ∧ ∀ s', o = some s' → ok = true ∧ RdX w w' L long K s'
theorem TookX.none (w w' : World) (L long K : Nat) : TookX w L long K none false w' := ⟨fun _ => rfl, fun s' h => by cases h⟩
theorem TookX.some {w w' : World} {L long K : Nat} {s : MSt} (h : RdX w w' L long K s) : TookX w L long K (some s) true w' := ⟨fun h => (by cases h), fun s' e => by injection e with e; subst e; exact ⟨rfl, h⟩⟩

section
variable {w wr w1 : World} {L long K : Nat} {s : MSt} {t told : Tx} {Bt Bd : Nat}
theorem RdX.below (h : RdX w wr L long K s) : Below w.heap.size w wr := by
  obtain ⟨⟨vp, vq, u, qs, ps, tx, hR, -⟩, -⟩ := h
  exact hR.below
theorem RdX.up (h : RdX w wr L long K s) (hb : Below wr.heap.size wr w1) : RdX w w1 L long K s := by
  obtain ⟨⟨vp, vq, u, qs, ps, tx, hR, h2⟩, h3⟩ := h
  exact ⟨⟨vp, vq, u, qs, ps, tx, hR.up hb, h2⟩, h3⟩
theorem psOf_next (isB : Bool) (b cur : Txs) (ds : List Txs) (st : Int) (h0 : firstM isB ds = false) (h1 : isB = true → ds.length = 1 ∧ st = 2) : psOf st isB b ds ++ [cur] = psOf st false (putM isB b ds cur).1 (putM isB b ds cur).2 ∧ (putM isB b ds cur).2 ≠ [] := by
  cases isB with
  | true =>
    obtain ⟨h2, rfl⟩ := h1 rfl
    match ds, h2 with
    | [f], _ => exact ⟨by simp [psOf, putM], by simp [putM]⟩
  | false =>
    cases ds with
    | nil => simp [firstM] at h0
    | cons f r =>
      refine ⟨?_, by simp [putM]⟩
      by_cases hs : st = 2 <;> simp [psOf, putM, hs]
theorem endP_is (st : Int) (b' : Txs) (ds' : List Txs) (h : ds' ≠ []) (hs : st = 2 ∨ b' = []) (h2 : st ≠ 2 ∨ True) : endP st (psOf st false b' ds') = cPc b' ds' := by
  cases ds' with
  | nil => exact absurd rfl h
  | cons f r =>
    unfold endP psOf
    by_cases h2 : st = 2
    · rw [if_pos h2, if_neg (by decide)]
      dsimp only
      rw [if_pos h2]
    · rw [if_neg h2, if_neg (by decide)]
      dsimp only
      rw [if_neg h2, hs.resolve_left h2]

/-- A mark outside of a conflict. -/
theorem take_out (h : RdX w wr L long K s) (hc : s.conf = none) (ht : Boxed wr Bt 9 (.string (str t))) (hd : Boxed wr Bd 9 (.string (str told))) :
    Calls Tryz.prog 28 #[.pointer (some ⟨L, 0, none⟩), clR Bt Bd] wr fun e w' => ∃ ok, e = .returned (.bool ok) ∧ Below w.heap.size w w' ∧ TookX w L long (K + 1) (if isC t told 60 [32, 49] = true then some ⟨flushM s.out s.cur, [], s.style, some (false, [], [])⟩ else none) ok w' := by
  obtain ⟨out, cur, style, conf⟩ := s
  obtain rfl : conf = none := hc
  obtain ⟨⟨vp, vq, u, qs, ps, tx, hR, hq, ⟨rfl, rfl, l3, l4⟩, hk1, hk2⟩, hst⟩ := h
  dsimp only at hR hq l3 l4 hk1 hk2 hst
  refine (outside_anyR t told Bt Bd hR ht hd).mono ?_
  rintro e w' ⟨rfl, hb, hy⟩
  refine ⟨_, rfl, hb, ?_⟩
  by_cases hi : isC t told 60 [32, 49] = true
  · rw [if_pos hi]
    rw [hi]
    obtain ⟨vq', r, -, hR'⟩ := hy hi
    refine TookX.some ⟨⟨vp, vq', .slice none 0 0, _, [], false, hR', ?_, ⟨rfl, by simp [psOf], by decide, (fun h => (nomatch h)), fun _ _ => rfl, fun _ h => absurd rfl h⟩, ?_, by simp⟩, hst⟩
    · cases cur with
      | nil => simpa [qsF, flushM] using hq
      | cons c cur => simp [qsF, flushM, hq]
    · unfold qsF
      split
      · simp; omega
      · omega
  · rw [if_neg hi]
    have : isC t told 60 [32, 49] = false := by simpa using hi
    rw [this]
    exact TookX.none _ _ _ _ _

/-- The mark behind side 1. -/
theorem take_side {b : Txs} {ds : List Txs} {isB : Bool} (h : RdX w wr L long K s) (hK : K ≤ 100000000) (hc : s.conf = some (isB, b, ds)) (hf : firstM isB ds = true) (ht : Boxed wr Bt 9 (.string (str t))) (hd : Boxed wr Bd 9 (.string (str told))) :
    Calls Tryz.prog 55 #[.pointer (some ⟨L, 0, none⟩), clR Bt Bd] wr fun e w' => ∃ ok, e = .returned (.bool ok) ∧ Below w.heap.size w w' ∧ TookX w L long (K + 1) (markC (isC t told) s isB b ds) ok w' := by
  obtain ⟨out, cur, style, conf⟩ := s
  obtain rfl : conf = some (isB, b, ds) := hc
  obtain ⟨rfl, rfl⟩ : isB = false ∧ ds = [] := by
    unfold firstM at hf
    rw [Bool.and_eq_true] at hf
    exact ⟨by simpa using hf.1, by simpa using hf.2⟩
  obtain ⟨⟨vp, vq, u, qs, ps, tx, hR, hq, ⟨rfl, l2, l3, l4, l5, l6⟩, hk1, hk2⟩, hst⟩ := h
  dsimp only at hR hq l2 hk1 hk2 hst
  obtain rfl : b = [] := l5 rfl rfl
  obtain rfl : ps = [] := by simpa [psOf] using l2
  have hmk : markC (isC t told) ⟨out, cur, style, some (false, [], [])⟩ false [] [] =
      if (decide (style ≠ 1) && isC t told 124 [32, 98, 97, 115, 101]) = true then some ⟨out, [], 2, some (true, [], [cur])⟩ else if style = 2 then none else if isC t told 61 (32 :: numT 2) = true then some ⟨out, [], 1, some (false, [], [cur])⟩ else if isC t told 62 [] = true then some ⟨out ++ [cPc [] [cur]], [], 1, none⟩ else none := by
    unfold markC
    simp [firstM, putM, nM, stM]
  rw [hmk]
  refine (side1_any t told Bt Bd hR (by omega) ht hd (fun ok w' => TookX w L long (K + 1) (if (decide (style ≠ 1) && isC t told 124 [32, 98, 97, 115, 101]) = true then some ⟨out, [], 2, some (true, [], [cur])⟩ else if style = 2 then none else if isC t told 61 (32 :: numT 2) = true then some ⟨out, [], 1, some (false, [], [cur])⟩ else if isC t told 62 [] = true then some ⟨out ++ [cPc [] [cur]], [], 1, none⟩ else none) ok w') ?_ ?_ ?_ ?_ ?_)
  · intro h1 w' vq' r hu hR'
    rw [if_pos h1]
    exact TookX.some ⟨⟨vp, vq', .slice none 0 0, qs, [(r, cur)], false, hR', hq, ⟨rfl, rfl, by simp [nM], fun _ => ⟨rfl, rfl⟩, (fun h => (nomatch h)), (fun h => (nomatch h))⟩, by omega, by simp⟩, .inr (.inr rfl)⟩
  · intro h1 h2
    rw [if_neg (by rw [h1]; decide), if_pos h2]
    exact TookX.none _ _ _ _ _
  · intro h1 h2 h3 w' vq' r hu hR'
    rw [if_neg (by rw [h1]; decide), if_neg h2, if_pos h3]
    exact TookX.some ⟨⟨vp, vq', .slice none 0 0, qs, [(r, cur)], false, hR', hq, ⟨rfl, rfl, by simp [nM], (fun h => (nomatch h)), (fun _ h => (nomatch h)), fun _ _ => .inl ⟨rfl, rfl⟩⟩, by omega, by simp⟩, .inr (.inl rfl)⟩
  · intro h1 h2 h3 h4 w' vp' r hR'
    rw [if_neg (by rw [h1]; decide), if_neg h2, if_neg (by rw [h3]; decide), if_pos h4]
    exact TookX.some ⟨⟨vp', .slice none 0 0, .slice none 0 0, _, [], false, hR', by simp [hq], ⟨rfl, rfl, fun _ => rfl, fun p hp => by
      rw [List.getLast?_concat] at hp
      injection hp with hp
      rw [← hp]
      rfl⟩, by simp; omega, by simp⟩, .inr (.inl rfl)⟩
  · intro h1 h2 h3 h4 w'
    rw [if_neg (by rw [h1]; decide), if_neg h2, if_neg (by rw [h3]; decide), if_neg (by rw [h4]; decide)]
    exact TookX.none _ _ _ _ _

/-- A mark behind the base, or a further side. -/
theorem take_oth {b : Txs} {ds : List Txs} {isB : Bool} (h : RdX w wr L long K s) (hK : K ≤ 100000000) (hc : s.conf = some (isB, b, ds)) (hf : firstM isB ds = false) (ht : Boxed wr Bt 9 (.string (str t))) (hd : Boxed wr Bd 9 (.string (str told))) :
    Calls Tryz.prog 84 #[.pointer (some ⟨L, 0, none⟩), clR Bt Bd] wr fun e w' => ∃ ok, e = .returned (.bool ok) ∧ Below w.heap.size w w' ∧ TookX w L long (K + 1) (markC (isC t told) s isB b ds) ok w' := by
  obtain ⟨out, cur, style, conf⟩ := s
  obtain rfl : conf = some (isB, b, ds) := hc
  obtain ⟨⟨vp, vq, u, qs, ps, tx, hR, hq, ⟨rfl, l2, l3, l4, l5, l6⟩, hk1, hk2⟩, hst⟩ := h
  dsimp only at hR hq l2 l3 l4 l5 l6 hk1 hk2 hst
  obtain ⟨hnx, hne⟩ := psOf_next isB b cur ds style hf l4
  have hds : isB = false → ds ≠ [] := fun h1 h2 => by subst h1; subst h2; simp [firstM] at hf
  have hsty : style = 2 ∨ (putM isB b ds cur).1 = [] := by
    cases isB with
    | true => exact .inl (l4 rfl).2
    | false =>
      rcases l6 rfl (hds rfl) with ⟨-, h1⟩ | h1
      · exact .inr h1
      · exact .inl h1
  have hpl : ps.length = (psOf style isB b ds).length := by rw [← l2, List.length_map]
  have hn : nM isB ds = if style = 2 then ps.length else ps.length + 1 := by
    rw [hpl]
    cases isB with
    | true =>
      obtain ⟨h1, h2⟩ := l4 rfl
      rw [if_pos h2]
      rfl
    | false =>
      cases ds with
      | nil => exact absurd rfl (hds rfl)
      | cons f r => by_cases h2 : style = 2 <;> simp [nM, psOf, h2]
  have hps1 : style = 2 → 1 ≤ ps.length := fun h2 => by
    rw [if_pos h2] at hn
    rw [← hn]
    cases isB with
    | true => have := (l4 rfl).1; simp [nM]; omega
    | false => simp [nM]
  have hmk : markC (isC t told) ⟨out, cur, style, some (isB, b, ds)⟩ isB b ds =
      if (decide (nM isB ds < 16) && isC t told 61 (32 :: numT (nM isB ds + 1))) = true then some ⟨out, [], style, some (false, (putM isB b ds cur).1, (putM isB b ds cur).2)⟩ else if isC t told 62 [] = true then some ⟨out ++ [cPc (putM isB b ds cur).1 (putM isB b ds cur).2], [], style, none⟩ else none := by
    unfold markC stM
    rw [hf]
    simp
  rw [hmk]
  have hpsl : ps.length ≤ 1000 := by
    rw [hn] at l3
    split at l3 <;> omega
  refine (others_any t told Bt Bd (nM isB ds) hR hn hps1 hpsl (by omega) ht hd (fun ok w' => TookX w L long (K + 1) (if (decide (nM isB ds < 16) && isC t told 61 (32 :: numT (nM isB ds + 1))) = true then some ⟨out, [], style, some (false, (putM isB b ds cur).1, (putM isB b ds cur).2)⟩ else if isC t told 62 [] = true then some ⟨out ++ [cPc (putM isB b ds cur).1 (putM isB b ds cur).2], [], style, none⟩ else none) ok w') ?_ ?_ ?_)
  · intro h1 w' vq' r hu hR'
    rw [if_pos h1]
    have h16 : nM isB ds < 16 := by
      rw [Bool.and_eq_true, decide_eq_true_eq] at h1
      exact h1.1
    have hff : firstM false (putM isB b ds cur).2 = false := by
      cases hp : (putM isB b ds cur).2 with
      | nil => exact absurd hp hne
      | cons => rfl
    refine TookX.some ⟨⟨vp, vq', .slice none 0 0, qs, ps ++ [(r, cur)], false, ?_, hq, ⟨rfl, ?_, ?_, (fun h => (nomatch h)), fun _ h => absurd h hne, fun _ _ => ?_⟩, by omega, by simp⟩, hst⟩
    · show Rd w w' L long style (mvR (if firstM false (putM isB b ds cur).2 = true then _ else _) L) vp vq' _ qs _ false true []
      rw [hff, if_neg (by decide)]
      exact hR'
    · rw [List.map_append, l2]
      exact hnx
    · show nM false (putM isB b ds cur).2 ≤ 16
      cases isB with
      | true => simp [nM, putM] at h16 ⊢; omega
      | false => simp [nM, putM] at h16 ⊢; omega
    · cases isB with
      | true => exact .inr (l4 rfl).2
      | false =>
        rcases l6 rfl (hds rfl) with ⟨h1, h2⟩ | h1
        · exact .inl ⟨h1, h2⟩
        · exact .inr h1
  · intro h1 h2 w' vp' r hR'
    rw [if_neg (by rw [h1]; decide), if_pos h2]
    rw [l2, hnx, endP_is style _ _ hne hsty (.inr trivial)] at hR'
    exact TookX.some ⟨⟨vp', .slice none 0 0, .slice none 0 0, _, [], false, hR', by simp [hq], ⟨rfl, rfl, fun _ => rfl, fun p hp => by
      rw [List.getLast?_concat] at hp
      injection hp with hp
      rw [← hp]
      rfl⟩, by simp; omega, by simp⟩, hst⟩
  · intro h1 h2
    rw [if_neg (by rw [h1]; decide), if_neg (by rw [h2]; decide)]
    exact TookX.none _ _ _ _ _

/-- A line. -/
theorem put_anyR (t : Tx) (h : RdX w wr L long K s) (hK : K ≤ 100000000) :
    Calls Tryz.prog 57 #[.pointer (some ⟨L, 0, none⟩), .string (str t)] wr fun e w' => e = .returned (.tuple #[]) ∧ RdX w w' L long (K + 1) ⟨s.out, s.cur ++ [t], s.style, s.conf⟩ := by
  obtain ⟨out, cur, style, conf⟩ := s
  obtain ⟨⟨vp, vq, u, qs, ps, tx, hR, hq, hl, hk1, hk2⟩, hst⟩ := h
  dsimp only at hR hq hk1 hk2 hst
  cases conf with
  | none =>
    obtain ⟨rfl, rfl, l3, l4⟩ := hl
    dsimp only at l3 l4
    cases cur with
    | nil =>
      obtain rfl := l3 rfl
      refine (put_idle t hR (by omega) (fun q hq2 => l4 q.2 (by rw [← hq, List.getLast?_map, hq2]; rfl))).mono ?_
      rintro e w' ⟨rfl, vp', u', hR'⟩
      exact ⟨rfl, ⟨vp', vq, u', qs, [], true, hR', hq, ⟨rfl, rfl, fun h => by simp at h, l4⟩, by omega, by simp⟩, hst⟩
    | cons c cur =>
      refine (put_text t hR (by omega) (by omega)).mono ?_
      rintro e w' ⟨rfl, u', hR'⟩
      exact ⟨rfl, ⟨vp, vq, u', qs, [], true, hR', hq, ⟨rfl, rfl, fun h => by simp at h, l4⟩, by omega, by simp at hk2 ⊢; omega⟩, hst⟩
  | some x =>
    obtain ⟨isB, b, ds⟩ := x
    obtain ⟨rfl, l2, l3, l4, l5, l6⟩ := hl
    dsimp only at l2 l3 l4 l5 l6
    have hpl : ps.length = (psOf style isB b ds).length := by rw [← l2, List.length_map]
    have hps : ps.length ≤ 1000 := by
      rw [hpl]
      cases isB with
      | true => simp [psOf, nM] at l3 ⊢; omega
      | false =>
        cases ds with
        | nil => simp [psOf]
        | cons f r => by_cases h2 : style = 2 <;> simp [psOf, nM, h2] at l3 ⊢ <;> omega
    refine (put_conf t hR hps (by omega)).mono ?_
    rintro e w' ⟨rfl, u', hR'⟩
    exact ⟨rfl, ⟨vp, vq, u', qs, ps, false, hR', hq, ⟨rfl, l2, l3, l4, l5, l6⟩, by omega, by simp; omega⟩, hst⟩

/-- What was begun last is opened. -/
theorem open_anyR {wr0 : World} {x : Bool × Txs × List Txs} (h : RdX w wr0 L long K s) (hb0 : Below wr0.heap.size wr0 wr) (hK : K ≤ 100000000) (hc : s.conf = some x) (hl : ∀ t ∈ s.cur, lnB t = true) (hs : ∀ t ∈ s.cur, t.length ≤ 1000000) :
    Calls Tryz.prog 59 #[.pointer (some ⟨L, 0, none⟩)] wr fun e w' => e = .returned (.bool (openT true s.cur).isSome) ∧ Below w.heap.size w w' ∧ But (fun k => k < wr0.heap.size) wr w' ∧ ∀ q, openT true s.cur = some q → ∀ w5, But (fun k => wr0.heap.size ≤ k) w' w5 → RdX w w5 L long K ⟨s.out, q, s.style, s.conf⟩ := by
  obtain ⟨out, cur, style, conf⟩ := s
  obtain ⟨isB, b, ds⟩ := x
  obtain rfl : conf = some (isB, b, ds) := hc
  obtain ⟨⟨vp, vq, u, qs, ps, tx, hR, hq, ⟨rfl, l2, l3, l4, l5, l6⟩, hk1, hk2⟩, hst⟩ := h
  dsimp only at hR hq l2 l3 l4 l5 l6 hk1 hk2 hst hl hs
  have hpl : ps.length = (psOf style isB b ds).length := by rw [← l2, List.length_map]
  have hps : ps.length ≤ 1000 := by
    rw [hpl]
    cases isB with
    | true => simp [psOf, nM] at l3 ⊢; omega
    | false =>
      cases ds with
      | nil => simp [psOf]
      | cons f r => by_cases h2 : style = 2 <;> simp [psOf, nM, h2] at l3 ⊢ <;> omega
  refine (openPart_any hR hb0 (hR.up hb0) hl hs hps (by omega)).mono ?_
  rintro e w' ⟨rfl, hb, hbu, hy⟩
  refine ⟨rfl, hb, hbu, fun q hq2 w5 h5 => ⟨⟨vp, vq, u, qs, ps, false, hy q hq2 w5 h5, hq, ⟨rfl, l2, l3, l4, l5, l6⟩, hk1, ?_⟩, hst⟩⟩
  have hql : q.length ≤ cur.length := by
    unfold openT at hq2
    rw [if_pos rfl] at hq2
    split at hq2
    · split at hq2
      · cases hq2
      · injection hq2 with hq2
        rw [← hq2, List.length_append, List.length_dropLast]
        rename_i hg _
        have : cur ≠ [] := by rintro rfl; simp at hg
        have := List.length_pos_iff.2 this
        simp
        omega
    · cases hq2
  show q.length ≤ K
  omega
end
end Go.Proofs.YtcpopnhnihbofaaGreatDoor
/- What is asked of size.Run. -/
namespace Go.Proofs.YtcpopnhnihbofaaGreatDoor
open Go.RowKit
set_option linter.unusedVariables false

/-- The contract of size.Run. -/
def SizeRunOk : Prop := ∀ (t : Tx) (w : World), t.length ≤ 1000000 → Calls Tryz.prog 56 #[.string (str t)] w fun e w' => e = .returned (.int .i64 (runN t)) ∧ Below w.heap.size w w'
end Go.Proofs.YtcpopnhnihbofaaGreatDoor
/- Proved here: contracts of the library's unicode/utf8.ValidRune, and of strings.IndexRune and strings.ContainsRune where the string is that of the four marker signs, at any rune that isn't below 0. -/
namespace Go.Proofs.YtcpopnhnihbofaaGreatDoor
open Go.RowKit
set_option linter.unusedVariables false
set_option maxRecDepth 100000

/-- The marker signs. -/
def sgB : ByteArray := { data := #[60, 124, 61, 62] }
theorem sgB_size : sgB.size = 4 := rfl
theorem sgB_list : sgB.data.toList = [60, 124, 61, 62] := rfl
def runeB (r : Int) : Bool := (r == 60) || (r == 124) || (r == 61) || (r == 62)
theorem rune_sign (c : UInt8) : runeB (c.toNat : Int) = signB c := (signB_is c).symm
theorem rune_high {r : Int} (h : 128 ≤ r) : runeB r = false := by
  have h1 : (r == 60) = false := by rw [beq_eq_false_iff_ne]; omega
  have h2 : (r == 124) = false := by rw [beq_eq_false_iff_ne]; omega
  have h3 : (r == 61) = false := by rw [beq_eq_false_iff_ne]; omega
  have h4 : (r == 62) = false := by rw [beq_eq_false_iff_ne]; omega
  unfold runeB
  rw [h1, h2, h3, h4]
  rfl
theorem below_iter (w : World) (s : ByteArray) (pos : Nat) : Below w.heap.size w (w.iter s pos) := (Below.refl _ _).alloc (Nat.le_refl _) _

set_option maxHeartbeats 400000 in
theorem validRune_any (r : Int) (w : World) (h0 : 128 ≤ r) : Calls Tryz.prog 115 #[.int .i32 r] w fun e w' => e = .returned (.bool (Utf8.valid r)) ∧ w' = w := by
  rw [validRune_eq]
  have hv : validRune r = decide ((r < 55296) ∨ (57343 < r ∧ r ≤ 1114111)) := by
    unfold validRune
    congr 1
    rw [eq_iff_iff]
    constructor <;> intro h <;> omega
  rw [hv]
  have hz : (0 : Int) ≤ r := by omega
  clear hv
  by_cases h1 : r < 55296
  · rw [decide_eq_true (.inl h1)]
    go_enter Tryz.func115, Tryz.ntmps115
    go_wp2
    go_ret
    exact ⟨rfl, rfl⟩
  · by_cases h2 : (57343 : Int) < r
    · by_cases h3 : r ≤ 1114111
      · rw [decide_eq_true (.inr ⟨h2, h3⟩)]
        go_enter Tryz.func115, Tryz.ntmps115
        go_wp2
        go_ret
        exact ⟨rfl, rfl⟩
      · rw [decide_eq_false (by omega)]
        go_enter Tryz.func115, Tryz.ntmps115
        go_wp2
        go_ret
        exact ⟨rfl, rfl⟩
    · rw [decide_eq_false (by omega)]
      go_enter Tryz.func115, Tryz.ntmps115
      go_wp2
      go_ret
      exact ⟨rfl, rfl⟩

/-- Where a byte stands among the marker signs. -/
theorem sg_index (c : UInt8) : decide (0 ≤ Lib.indexByte sgB.data.toList c) = signB c := by
  have h (d : UInt8) : (d == c) = decide (c = d) := by rw [Bool.eq_iff_iff, beq_iff_eq, decide_eq_true_eq]; exact eq_comm
  rw [sgB_list]
  by_cases h1 : c = 60
  · subst h1; rfl
  by_cases h2 : c = 124
  · subst h2; rfl
  by_cases h3 : c = 61
  · subst h3; rfl
  by_cases h4 : c = 62
  · subst h4; rfl
  have e : signB c = false := by
    rw [signB_is]
    have (n : Nat) (hn : n < 256) (hc : c ≠ UInt8.ofNat n) : ((c.toNat : Int) == (n : Int)) = false := by rw [byte_is hn]; exact beq_eq_false_iff_ne.2 hc
    have a1 := this 60 (by omega) h1
    have a2 := this 124 (by omega) h2
    have a3 := this 61 (by omega) h3
    have a4 := this 62 (by omega) h4
    exact congr (congrArg or (congr (congrArg or (congr (congrArg or a1) a2)) a3)) a4
  rw [e]
  simp [Lib.indexByte, h, h1, h2, h3, h4]
theorem sg_none : ∀ (c : UInt8), 128 ≤ c.toNat → ∀ k, 1 ≤ k → k ≤ 3 → Lib.indexByte (sgB.extract (k + 1) 4).data.toList c = -1 := by
  intro c hc k h1 h2
  have h60 : ∀ d : UInt8, d.toNat < 128 → (d == c) = false := fun d hd => by
    rw [beq_eq_false_iff_ne]
    intro e
    rw [e] at hd
    omega
  have e1 : (sgB.extract (1 + 1) 4).data.toList = [61, 62] := rfl
  have e2 : (sgB.extract (2 + 1) 4).data.toList = [62] := rfl
  have e3 : (sgB.extract (3 + 1) 4).data.toList = [] := rfl
  obtain rfl | rfl | rfl : k = 1 ∨ k = 2 ∨ k = 3 := by omega
  · rw [e1]; simp [Lib.indexByte, h60 61 (by decide), h60 62 (by decide)]
  · rw [e2]; simp [Lib.indexByte, h60 62 (by decide)]
  · rw [e3]; simp [Lib.indexByte]
theorem sg_low : ∀ (k : Nat) (h : k < sgB.size), (sgB[k]'h).toNat < 128 := by
  intro k h
  have h' : k < 4 := h
  obtain rfl | rfl | rfl | rfl : k = 0 ∨ k = 1 ∨ k = 2 ∨ k = 3 := by omega
  · show (60 : UInt8).toNat < 128; decide
  · show (124 : UInt8).toNat < 128; decide
  · show (61 : UInt8).toNat < 128; decide
  · show (62 : UInt8).toNat < 128; decide

set_option maxHeartbeats 2000000 in
theorem indexRune_low (c : UInt8) (w : World) (hc : c.toNat < 128) : Calls Tryz.prog 104 #[.string sgB, .int .i32 (c.toNat : Int)] w fun e w' => e = .returned (.int .i64 (Lib.indexByte sgB.data.toList c)) ∧ w' = w := by
  have h0 : (0 : Int) ≤ (c.toNat : Int) := by omega
  have h1 : (c.toNat : Int) < 128 := by omega
  have hw8 : IntKind.u8.wrap (c.toNat : Int) = (c.toNat : Int) := IntWalk.u8_in _ (by omega)
  have hback : ((c.toNat : Int)).toNat.toUInt8 = c := by simp
  have hI := Lib.hid (fun W => indexByte_any sgB (c.toNat : Int) W)
  rw [hback] at hI
  obtain ⟨k, hk⟩ : ∃ k, Lib.indexByte sgB.data.toList c = k := ⟨_, rfl⟩
  rw [hk] at hI ⊢
  obtain ⟨s, hs⟩ : ∃ s, s = sgB := ⟨_, rfl⟩
  rw [← hs] at hI ⊢
  clear hk hs hback
  go_enter Tryz.func104, Tryz.ntmps104
  go_wp2_with (go_at_call 95; refine (hI.out _).mono ?_; rintro e w1 ⟨rfl, hw1⟩; have hw1h := Lib.hid hw1; clear hw1)
  go_ret
  exact ⟨rfl, hw1h.out⟩

set_option maxHeartbeats 4000000 in
theorem indexRune_high (r : Int) (w : World) (hr : 128 ≤ r) : Calls Tryz.prog 104 #[.string sgB, .int .i32 r] w fun e w' => e = .returned (.int .i64 (-1)) ∧ Below w.heap.size w w' := by
  have hz : (0 : Int) ≤ r := by omega
  have hr1 : ¬ r < 128 := by omega
  have hV := Lib.hid (fun W => validRune_any r W hr)
  have hsz : sgB.size = 4 := rfl
  obtain ⟨s, hs⟩ : ∃ s, s = sgB := ⟨_, rfl⟩
  rw [← hs] at hsz ⊢
  have hlow : Hid (∀ (k : Nat) (h : k < s.size), (s[k]'h).toNat < 128) := Lib.hid (by rw [hs]; exact sg_low)
  have hnone : Hid (∀ (c : UInt8), 128 ≤ c.toNat → ∀ k, 1 ≤ k → k ≤ 3 → Lib.indexByte (s.extract (k + 1) 4).data.toList c = -1) := Lib.hid (by rw [hs]; exact sg_none)
  clear hs
  by_cases h2 : r = 65533
  · subst h2
    clear hV
    go_enter Tryz.func104, Tryz.ntmps104
    go_wp2
    go_loopw [5, 6] (fun _ _ wr => ∃ pos : Nat, pos ≤ 4 ∧ wr = w.iter s pos) (fun _ _ wr => 4 - wr.iterPos w.heap.size)
    case atStart => exact ⟨0, Nat.zero_le _, rfl⟩
    case round =>
      obtain ⟨pos, hpos, rfl⟩ := hrel
      by_cases hp : pos < s.size
      · have ha := hlow.out pos hp
        have hnx : ∀ ty, (Instr.next (.pointer (some ⟨w.heap.size, 0, none⟩)) true ty).run Tryz.prog (w.iter s pos) = _ := fun ty => run_next_ascii w s pos ty hp ha
        have hne : ((((s[pos]'hp).toNat : Nat) : Int) == 65533) = false := by rw [beq_eq_false_iff_ne]; omega
        go_wp2
        go_roundw
        case rel => exact ⟨pos + 1, by omega, rfl⟩
        case measure => simp; omega
      · have hnx : ∀ ty, (Instr.next (.pointer (some ⟨w.heap.size, 0, none⟩)) true ty).run Tryz.prog (w.iter s pos) = _ := fun ty => run_next_end w s pos ty hp
        go_wp2
        go_ret
        exact ⟨rfl, below_iter _ _ _⟩
  · have hne : (r == 65533) = false := by rw [beq_eq_false_iff_ne]; exact h2
    obtain ⟨v, hv⟩ : ∃ v, Utf8.valid r = v := ⟨_, rfl⟩
    rw [hv] at hV
    cases v
    · clear hv
      go_enter Tryz.func104, Tryz.ntmps104
      go_wp2_with (go_at_call 115; refine (hV.out _).mono ?_; rintro e w1 ⟨rfl, hw1⟩; have hw1h := Lib.hid hw1; clear hw1)
      go_ret
      exact ⟨rfl, by rw [hw1h.out]; exact Below.refl _ _⟩
    · obtain ⟨e1, e2, e3⟩ := encode_facts r hv hr
      obtain ⟨rs, hrs⟩ : ∃ rs, Utf8.encode r = rs := ⟨_, rfl⟩
      rw [hrs] at e1 e2 e3
      obtain ⟨n, hn⟩ : ∃ n, rs.size = n + 1 := ⟨rs.size - 1, by omega⟩
      have hn1 : n < rs.size := by omega
      have hlast : 128 ≤ ((rs[n]'hn1).toNat) := by
        have := e3 (by omega)
        simpa [hn] using this
      have hn2 : 1 ≤ n := by omega
      have hn3 : n ≤ 3 := by omega
      have hns : n < s.size := by omega
      have hls := hlow.out n hns
      have hneq : ((((s[n]'hns).toNat : Nat) : Int) != (((rs[n]'hn1).toNat : Nat) : Int)) = true := by
        rw [bne_iff_ne]; omega
      have hI := Lib.hid (fun W => indexByte_any (s.extract (n + 1) 4) ((rs[n]'hn1).toNat : Int) W)
      rw [show ((((rs[n]'hn1).toNat : Int)).toNat.toUInt8) = rs[n]'hn1 from by simp, hnone.out _ hlast n hn2 hn3] at hI
      clear hv e1 e2 e3 hlast hls hlow hnone
      have hwr : IntKind.i64.wrap ((n : Int) + 1) = (n : Int) + 1 := IntWalk.i64_in _ (by omega)
      have b0 : (0 : Int) ≤ (n : Int) := by omega
      have b1 : (n : Int) < (n : Int) + 1 := by omega
      have b4 : (0 : Int) ≤ (n : Int) + 1 := by omega
      have b5 : (n : Int) + 1 ≤ 4 := by omega
      have b6 : (n : Int) < 4 := by omega
      go_enter Tryz.func104, Tryz.ntmps104
      go_wp2_with (go_at_call 115; refine (hV.out _).mono ?_; rintro e w1 ⟨rfl, hw1⟩; have hw1h := Lib.hid hw1; clear hw1)
      go_step3
      go_wp2
      go_loopw [9] (fun s9 wr => s9 = .int .i64 n ∧ Hid (wr = w)) (fun _ _ => 0)
      case atStart => exact ⟨by go_num, hw1h⟩
      case round =>
        obtain ⟨rfl, hw⟩ := hrel
        have hB : Hid (∀ k, Below w.heap.size w (wr.drewN k)) := Lib.hid (fun k => by rw [hw.out]; exact below_drewN (Below.refl _ _) k)
        clear hw
        go_wp2
        go_step3
        go_wp2
        go_quiet (fail)
        go_wp2
        go_quiet ((go_at_call 95; exact (hI.out _).mono (fun _ _ h => ⟨h.1, _, h.2⟩)))
        go_wp2
        rw [Exit.noGoto_ret]
        go_wp2
        rw [Exit.noGoto_ret]
        go_ret
        exact ⟨rfl, hB.out _⟩

set_option maxHeartbeats 1000000 in
theorem isSign_low (c : UInt8) (w : World) (h : c.toNat < 128) : Calls Tryz.prog 85 #[.string sgB, .int .i32 (c.toNat : Int)] w fun e w' => e = .returned (.bool (signB c)) ∧ w' = w := by
  have hk := indexRune_low c w h
  have hb := sg_index c
  obtain ⟨k, hk'⟩ : ∃ k, Lib.indexByte sgB.data.toList c = k := ⟨_, rfl⟩
  rw [hk'] at hk hb
  obtain ⟨b, hb'⟩ : ∃ b, signB c = b := ⟨_, rfl⟩
  rw [hb'] at hb ⊢
  have hb2 : decide (k ≥ 0) = b := hb
  have hkh := Lib.hid hk
  obtain ⟨s, hs⟩ : ∃ s, s = sgB := ⟨_, rfl⟩
  rw [← hs] at hkh ⊢
  clear hs hb' hk hk' h hb
  go_enter Tryz.func85, Tryz.ntmps85
  go_wp2_with (go_at_call 104; refine hkh.out.mono ?_; rintro e w1 ⟨rfl, hw1⟩; have hw1h := Lib.hid hw1; clear hw1)
  go_ret
  exact ⟨rfl, hw1h.out⟩
set_option maxHeartbeats 1000000 in
theorem isSign_high (r : Int) (w : World) (h : 128 ≤ r) : Calls Tryz.prog 85 #[.string sgB, .int .i32 r] w fun e w' => e = .returned (.bool false) ∧ Below w.heap.size w w' := by
  have hkh := Lib.hid (indexRune_high r w h)
  obtain ⟨s, hs⟩ : ∃ s, s = sgB := ⟨_, rfl⟩
  rw [← hs] at hkh ⊢
  clear hs h
  go_enter Tryz.func85, Tryz.ntmps85
  go_wp2_with (go_at_call 104; refine hkh.out.mono ?_; rintro e w1 ⟨rfl, hw1⟩; have hw1h := Lib.hid hw1; clear hw1)
  go_ret
  exact ⟨rfl, hw1h.out⟩
end Go.Proofs.YtcpopnhnihbofaaGreatDoor

/- Proved here: texts joined: UnLawA, UmPl, Apart. -/
import Derived.Test.YtcpopnhnihbofaaDoorBd02
import Derived.Test.YtcpopnhnihbofaaDoorBd08
import Derived.Test.YtcpopnhnihbofaaDoorBd15
import Derived.Test.YtcpopnhnihbofaaDoorBd27
import Derived.Test.YtcpopnhnihbofaaDoorBd28
/- Proved here: what the statement UnmarkTells says, by the contract of package unmark. -/
namespace Go.Proofs.YtcpopnhnihbofaaDoor
open Go.RowKit
set_option linter.unusedVariables false
set_option maxRecDepth 100000

theorem few_parts {l : Txs} {k : Nat} (h : fewB l k = true) : l.length ≤ k ∧ ∀ t ∈ l, t.length ≤ 100 := by
  unfold fewB at h
  rw [Bool.and_eq_true, decide_eq_true_eq] at h
  refine ⟨h.1, fun t ht => ?_⟩
  have h2 := h.2
  rw [List.take_of_length_le (by omega), List.all_eq_true] at h2
  simpa using h2 t ht

section
variable (H : UnmParseOk)
include H

set_option maxHeartbeats 4000000 in
theorem UnmarkTells_walk (A : Option Addr) (n c : Nat) (l : Txs) (long : Int) (w : World) (h0 : TxR w w.heap.size (A, n, c) l) (hlg : inR64 long) :
    Calls Tryd.prog 3 #[.slice A n c, .int .i64 long] w fun e w' => e = .returned (.bool true) ∧ Below w.heap.size w w' := by
  have haw := Lib.hid (unAwake_any H w)
  have hn : n ≤ maxLen := Nat.le_trans h0.1 h0.2.1
  obtain ⟨fm, hfm⟩ : ∃ fm, fewB l 40 = fm := ⟨_, rfl⟩
  have hF : Hid (∀ W, Below w.heap.size w W → Calls Tryd.prog 7 #[.slice A n c, .int .i64 40] W fun e w' => e = .returned (.bool fm) ∧ W = w') := Lib.hid (fun W hW => by
    have h := Few_any A n c 40 W.heap.size l W hn (by decide) (h0.up hW).2.2
    rw [hfm] at h
    exact h)
  cases fm
  · clear h0 hfm hlg
    go_enter Tryd.func3, Tryd.ntmps3
    go_wp2_with (first
      | (go_at_call 6; refine haw.out.mono ?_; rintro e w1 ⟨rfl, hb1⟩; have hB1 := Lib.hid hb1; clear hb1)
      | (go_at_call 7; refine (hF.out _ hB1.out).mono ?_; rintro e w2 ⟨rfl, rfl⟩))
    go_ret
    exact ⟨rfl, hB1.out⟩
  obtain ⟨hl1, hl2⟩ := few_parts hfm
  have hsm : smallL l := ⟨by omega, fun t ht => by have := hl2 t ht; omega⟩
  have hM := Lib.hid (fun (W : World) (hb : Below w.heap.size w W) => H A n c l long W hlg hsm (h0.up hb))
  have hR := Lib.hid (fun (W : World) (hb : Below w.heap.size w W) => rParse_any A n c l long W hlg ⟨(h0.up hb).1, (h0.up hb).2.1, (h0.up hb).2.2, by omega, fun t ht => by have := hl2 t ht; omega⟩)
  obtain ⟨⟨ps, st, no, er⟩, hx⟩ : ∃ x, parseM l long = x := ⟨_, rfl⟩
  rw [hx] at hM hR
  have hSa := Lib.hid (fun (A1 A2 : Option Addr) (n1 c1 n2 c2 : Nat) (vs vs' : List PcV) (W : World) (k1 : n1 ≤ maxLen) (k2 : n2 ≤ maxLen) (h1 : Pcs W W.heap.size A1 n1 vs ps) (h2 : Pcs W W.heap.size A2 n2 vs' ps) => pSame_any A1 A2 n1 n2 c1 c2 W.heap.size W.heap.size vs vs' ps ps W k1 k2 h1 h2)
  rw [decide_eq_true (rfl : ps = ps)] at hSa
  have e1 : (er == er) = true := by simp
  have e2 : (st == st) = true := by simp
  have e3 : (no == no) = true := by simp
  clear h0 hfm hsm hx hlg hl1 hl2
  by_cases h40 : 40 < long ∧ long ≤ 4096
  · obtain ⟨g1, g2⟩ := h40
    go_enter Tryd.func3, Tryd.ntmps3
    go_wp2_with (first
      | (go_at_call 6; refine haw.out.mono ?_; rintro e w1 ⟨rfl, hb1⟩; have hB1 := Lib.hid hb1; clear hb1)
      | (go_at_call 7; refine (hF.out _ hB1.out).mono ?_; rintro e w2 ⟨rfl, rfl⟩))
    go_ret
    exact ⟨rfl, hB1.out⟩
  rcases (by omega : 40 < long ∨ long ≤ 40) with g1 | g1
  case' inl =>
    have g2 : ¬ long ≤ 4096 := fun h => h40 ⟨g1, h⟩
  case' inr =>
    have g2 : ¬ 40 < long := by omega
  all_goals
    clear h40
    go_enter Tryd.func3, Tryd.ntmps3
    go_wp2_with (first
      | (go_at_call 6; refine haw.out.mono ?_; rintro e w1 ⟨rfl, hb1⟩; have hB1 := Lib.hid hb1; clear hb1)
      | (go_at_call 7; refine (hF.out _ hB1.out).mono ?_; rintro e w2 ⟨rfl, hw2⟩; subst hw2)
      | (go_at_call 8; refine (hM.out _ hB1.out).mono ?_; rintro e w3 ⟨A1, n1, c1, vs1, rfl, q1, q2, q3, q4⟩; have hP1 := Lib.hid (And.intro (Nat.le_trans q1 q2) q3); have hB3 := Lib.hid (hB1.out.trans (q4.mono hB1.out.size)); clear q1 q2 q3 q4)
      | (go_at_call 9; refine (hR.out _ hB3.out).mono ?_; rintro e w4 ⟨A2, n2, c2, vs2, rfl, q1, q2, q3, q4⟩; have hP2 := Lib.hid (And.intro (Nat.le_trans q1 q2) q3); have hP3 := Lib.hid (hP1.out.2.up q4); have hB4 := Lib.hid (hB3.out.trans (q4.mono hB3.out.size)); clear q1 q2 q3 q4)
      | (go_at_call 10; refine (hSa.out A1 A2 n1 c1 n2 c2 vs1 vs2 _ hP1.out.1 hP2.out.1 hP3.out hP2.out.2).mono ?_; rintro e w5 ⟨rfl, q5, rfl⟩))
    go_ret
    exact ⟨rfl, below_drewN hB4.out q5⟩
end
end Go.Proofs.YtcpopnhnihbofaaDoor
/- Proved here, without a word of the program: marks read as the landed code reads them: the sign, what stands behind the signs, with or without an exclamation mark ahead. -/
namespace Go.Proofs.YtcpopnhnihbofaaDoor
set_option linter.unusedVariables false

/-- Is it the mark of a sign, with such a text behind its signs? -/
def isC (t told : Tx) (sign : UInt8) (behind : Tx) : Bool := decide (t.head? = some sign) && decide (told = behind ++ [10])
/-- What a mark does in a conflict, once the part that was begun last is opened, or needn't be. -/
def markC (is : UInt8 → Tx → Bool) (s : MSt) (isB : Bool) (b : Txs) (ds : List Txs) : Option MSt :=
  if (firstM isB ds && decide (s.style ≠ 1) && is 124 [32, 98, 97, 115, 101]) = true then some ⟨s.out, [], 2, some (true, (putM isB b ds s.cur).1, (putM isB b ds s.cur).2)⟩
  else if (firstM isB ds && decide (s.style = 2)) = true then none
  else if (decide (nM isB ds < 16) && is 61 (32 :: numT (nM isB ds + 1))) = true then some ⟨s.out, [], stM isB ds s.style, some (false, (putM isB b ds s.cur).1, (putM isB b ds s.cur).2)⟩
  else if is 62 [] = true then some ⟨s.out ++ [cPc (putM isB b ds s.cur).1 (putM isB b ds s.cur).2], [], stM isB ds s.style, none⟩
  else none
/-- What the next text does. -/
def readC (long : Nat) (s : MSt) (t : Tx) : Option MSt :=
  if runN t < long then some ⟨s.out, s.cur ++ [t], s.style, s.conf⟩ else
  match s.conf with
  | none => if isC t (t.drop long) 60 [32, 49] = true then some ⟨flushM s.out s.cur, [], s.style, some (false, [], [])⟩ else none
  | some (isB, b, ds) => if (t.drop long).head? = some 33 then (openT true s.cur).bind fun q => markC (isC t (t.drop long).tail) ⟨s.out, q, s.style, s.conf⟩ isB b ds else markC (isC t (t.drop long)) s isB b ds
/-- Is a text a line, or an open one where it may be? -/
def lineC (t : Tx) (mb : Bool) : Bool := mayB [t] && (mb || !openB [t])

section
variable {long : Nat} {s : MSt} {t : Tx} {sign : UInt8} {label : Tx} {isB : Bool} {b : Txs} {ds : List Txs}
theorem run_repl (h1 : 1 ≤ long) (hr : long ≤ runN t) : ∃ c, t = List.replicate long c ++ t.drop long := by
  cases t with
  | nil => simp [runN] at hr; omega
  | cons c r =>
    refine ⟨c, ?_⟩
    rw [run_cons] at hr
    split at hr
    · obtain ⟨m, rfl⟩ : ∃ m, long = m + 1 := ⟨long - 1, by omega⟩
      have hm : m ≤ (r.takeWhile fun x => x == c).length := by omega
      have ht : r.take m = List.replicate m c := by
        have h2 : r.take m = (r.takeWhile fun x => x == c).take m := by
          conv => lhs; rw [← List.takeWhile_append_dropWhile (p := fun x => x == c) (l := r)]
          rw [List.take_append_of_le_length hm]
        rw [h2]
        refine List.eq_replicate_iff.2 ⟨by rw [List.length_take]; omega, fun x hx => ?_⟩
        have := List.all_eq_true.1 (List.all_takeWhile (p := fun x => x == c) (l := r)) x (List.mem_of_mem_take hx)
        simpa using this
      rw [List.replicate_succ, List.cons_append, List.drop_succ_cons, ← ht, List.take_append_drop]
    · omega
theorem markX_drop (h1 : 1 ≤ long) (ex : Bool) : (markX sign long ex label).head? = some sign ∧ (markX sign long ex label).drop long = (if ex = true then [33] else []) ++ label ++ [10] := by
  refine ⟨markX_head h1, ?_⟩
  unfold markX
  rw [List.append_assoc, List.append_assoc, List.drop_left' (by simp), List.append_assoc]
/-- A mark, by what stands behind its signs. -/
theorem eq_markX (h1 : 1 ≤ long) (hr : long ≤ runN t) (ex : Bool) : t = markX sign long ex label ↔ t.head? = some sign ∧ t.drop long = (if ex = true then [33] else []) ++ label ++ [10] := by
  constructor
  · intro h
    rw [h]
    exact markX_drop h1 ex
  · rintro ⟨h2, h3⟩
    obtain ⟨c, hc⟩ := run_repl h1 hr
    obtain ⟨m, rfl⟩ : ∃ m, long = m + 1 := ⟨long - 1, by omega⟩
    have : c = sign := by
      rw [hc, List.replicate_succ] at h2
      simpa using h2
    rw [hc, h3, this]
    unfold markX
    simp
theorem fit_code (h1 : 1 ≤ long) (hr : long ≤ runN t) (hl : label.head? ≠ some 33) : fitM long t sign label =
    if (t.drop long).head? = some 33 then (if isC t (t.drop long).tail sign label = true then some true else none) else (if isC t (t.drop long) sign label = true then some false else none) := by
  unfold fitM isC
  have hnf : ∀ u : Tx, u = label ++ [10] → u.head? ≠ some 33 := by
    rintro u rfl
    cases label with
    | nil => simp
    | cons x l => simpa using hl
  by_cases h33 : (t.drop long).head? = some 33
  · rw [if_pos h33, if_neg (fun h => hnf _ ((eq_markX h1 hr false).1 h).2 h33)]
    obtain ⟨r, hd⟩ : ∃ r, t.drop long = 33 :: r := by
      cases hq : t.drop long with
      | nil => rw [hq] at h33; cases h33
      | cons x r => rw [hq] at h33; injection h33 with h; exact ⟨r, by rw [h]⟩
    by_cases he : t = markX sign long true label
    · have := (eq_markX h1 hr true).1 he
      rw [hd] at this ⊢
      rw [if_pos he, if_pos]
      simp only [this.1, List.tail_cons, decide_true, Bool.true_and]
      exact decide_eq_true (by simpa using this.2)
    · rw [if_neg he, if_neg]
      intro h
      rw [Bool.and_eq_true, decide_eq_true_eq, decide_eq_true_eq, hd] at h
      exact he ((eq_markX h1 hr true).2 ⟨h.1, by rw [hd]; simpa using h.2⟩)
  · rw [if_neg h33]
    by_cases he : t = markX sign long false label
    · have := (eq_markX h1 hr false).1 he
      rw [if_pos he, if_pos]
      rw [Bool.and_eq_true, decide_eq_true_eq, decide_eq_true_eq]
      exact ⟨this.1, by simpa using this.2⟩
    · rw [if_neg he, if_neg, if_neg]
      · intro h
        rw [Bool.and_eq_true, decide_eq_true_eq, decide_eq_true_eq] at h
        exact he ((eq_markX h1 hr false).2 ⟨h.1, by simpa using h.2⟩)
      · intro h
        have := ((eq_markX h1 hr true).1 h).2
        rw [this] at h33
        simp at h33
theorem is_other {told : Tx} {sg : UInt8} {bh : Tx} (h : isC t told sign label = true) (hne : sign ≠ sg) : isC t told sg bh = false := by
  unfold isC at h ⊢
  rw [Bool.and_eq_true, decide_eq_true_eq] at h
  rw [h.1, decide_eq_false (by simpa using hne), Bool.false_and]
theorem markStep_eq : markStep long s isB b ds t = (match fitM long t 124 [32, 98, 97, 115, 101] with
    | some ex => if firstM isB ds = true ∧ s.style ≠ 1 then (openT ex s.cur).map fun q => ⟨s.out, [], 2, some (true, (putM isB b ds q).1, (putM isB b ds q).2)⟩ else none
    | none => if firstM isB ds = true ∧ s.style = 2 then none else
      match (if nM isB ds < 16 then fitM long t 61 (32 :: numT (nM isB ds + 1)) else none) with
      | some ex => (openT ex s.cur).map fun q => ⟨s.out, [], stM isB ds s.style, some (false, (putM isB b ds q).1, (putM isB b ds q).2)⟩
      | none => match fitM long t 62 [] with
        | some ex => (openT ex s.cur).map fun q => ⟨s.out ++ [cPc (putM isB b ds q).1 (putM isB b ds q).2], [], stM isB ds s.style, none⟩
        | none => none) := rfl
/-- A mark in a conflict, as the landed code reads it. -/
theorem mark_read (h1 : 1 ≤ long) (hr : long ≤ runN t) : markStep long s isB b ds t =
    if (t.drop long).head? = some 33 then (openT true s.cur).bind fun q => markC (isC t (t.drop long).tail) ⟨s.out, q, s.style, s.conf⟩ isB b ds else markC (isC t (t.drop long)) s isB b ds := by
  have key : ∀ (told : Tx) (ex : Bool) (o : Txs → Option MSt), (∀ sg lb, lb.head? ≠ some 33 → fitM long t sg lb = if isC t told sg lb = true then some ex else none) → (∀ q, o q = markC (isC t told) ⟨s.out, q, s.style, s.conf⟩ isB b ds) → markStep long s isB b ds t = (openT ex s.cur).bind o := by
    intro told ex o hf ho
    obtain rfl : o = fun q => markC (isC t told) ⟨s.out, q, s.style, s.conf⟩ isB b ds := funext ho
    rw [markStep_eq, hf 124 [32, 98, 97, 115, 101] (by decide), hf 62 [] (by decide), hf 61 (32 :: numT (nM isB ds + 1)) (by simp)]
    unfold markC
    by_cases hb : isC t told 124 [32, 98, 97, 115, 101] = true
    · have n1 : isC t told 61 (32 :: numT (nM isB ds + 1)) = false := is_other hb (by decide)
      have n2 : isC t told 62 [] = false := is_other hb (by decide)
      rw [hb, n1, n2]
      cases hfi : firstM isB ds <;> by_cases hs1 : s.style = 1 <;> (simp only [reduceIte]; generalize openT ex s.cur = o; cases o <;> simp [hs1])
    · have hb' : isC t told 124 [32, 98, 97, 115, 101] = false := by simpa using hb
      rw [hb']
      by_cases hn : isC t told 61 (32 :: numT (nM isB ds + 1)) = true
      · have n2 : isC t told 62 [] = false := is_other hn (by decide)
        rw [hn, n2]
        by_cases h16 : nM isB ds < 16 <;> cases hfi : firstM isB ds <;> by_cases hs2 : s.style = 2 <;> (simp only [reduceIte, Bool.false_eq_true, h16]; generalize openT ex s.cur = o; cases o <;> simp [hs2])
      · have hn' : isC t told 61 (32 :: numT (nM isB ds + 1)) = false := by simpa using hn
        rw [hn']
        by_cases hz : isC t told 62 [] = true
        · rw [hz]
          by_cases h16 : nM isB ds < 16 <;> cases hfi : firstM isB ds <;> by_cases hs2 : s.style = 2 <;> (simp only [reduceIte, Bool.false_eq_true, h16]; generalize openT ex s.cur = o; cases o <;> simp [hs2])
        · have hz' : isC t told 62 [] = false := by simpa using hz
          rw [hz']
          by_cases h16 : nM isB ds < 16 <;> cases hfi : firstM isB ds <;> by_cases hs2 : s.style = 2 <;> (simp only [reduceIte, Bool.false_eq_true, h16]; generalize openT ex s.cur = o; cases o <;> simp [hs2])
  by_cases h33 : (t.drop long).head? = some 33
  · rw [if_pos h33]
    exact key _ true _ (fun sg lb hl => by rw [fit_code h1 hr hl, if_pos h33]) fun q => rfl
  · rw [if_neg h33]
    rw [key _ false (fun q => markC (isC t (t.drop long)) ⟨s.out, q, s.style, s.conf⟩ isB b ds) (fun sg lb hl => by rw [fit_code h1 hr hl, if_neg h33]) fun q => rfl]
    rfl
theorem lineC_eq (mb : Bool) : lineC t mb = (lnB t || (mb && mayB [t])) := by
  unfold lineC lnB
  rw [open_one]
  cases mayB [t] <;> cases mb <;> simp
/-- THE NEXT TEXT, as the landed code reads it. -/
theorem step_code {last mb : Bool} (h1 : 1 ≤ long) (hm : mb = (last && s.conf.isNone)) (hn : ∀ isB b ds, s.conf = some (isB, b, ds) → nM isB ds ≤ 16) : stepM long s t last = if lineC t mb = true then readC long s t else none := by
  obtain ⟨out, cur, style, conf⟩ := s
  unfold stepM readC
  cases conf with
  | none =>
    dsimp only
    have hm2 : mb = last := by rw [hm]; simp
    subst hm2
    by_cases hr : long ≤ runN t
    · rw [if_pos hr, if_neg (show ¬ runN t < long by omega)]
      by_cases ht : t = markX 60 long false [32, 49]
      · have h2 := (eq_markX h1 hr false).1 ht
        have hl : lineC t mb = true := by
          rw [lineC_eq, ht, lnB_markX (by decide) (by decide)]
          rfl
        rw [if_pos ht, if_pos hl, if_pos]
        unfold isC
        rw [Bool.and_eq_true, decide_eq_true_eq, decide_eq_true_eq]
        exact ⟨h2.1, by simpa using h2.2⟩
      · rw [if_neg ht]
        split
        · rw [if_neg]
          intro h
          unfold isC at h
          rw [Bool.and_eq_true, decide_eq_true_eq, decide_eq_true_eq] at h
          exact ht ((eq_markX h1 hr false).2 ⟨h.1, by simpa using h.2⟩)
        · rfl
    · rw [if_neg hr, if_pos (show runN t < long by omega), lineC_eq]
  | some x =>
    obtain ⟨isB, b, ds⟩ := x
    have hm2 : mb = false := by rw [hm]; simp
    subst hm2
    have hl : lineC t false = lnB t := by rw [lineC_eq]; simp
    rw [hl]
    dsimp only
    by_cases hr : long ≤ runN t
    · rw [if_pos hr, if_neg (show ¬ runN t < long by omega)]
      cases hln : lnB t with
      | true => exact mark_read h1 hr
      | false => exact mark_free h1 hln (hn _ _ _ rfl)
    · rw [if_neg hr, if_pos (show runN t < long by omega)]
end
end Go.Proofs.YtcpopnhnihbofaaDoor
/- Proved here, without conditions: rows, and boxes, of different types lie in different blocks. -/
namespace Go.Proofs.YtcpopnhnihbofaaDoor
open Go.RowKit
set_option linter.unusedVariables false

/-- Two rows of different types. -/
theorem rows_apart {w : World} {b1 b2 n m s1 s2 : Nat} {e1 e2 : TypeId} {v u : Value} {xs ys : List Value} (h : w.ownsRow b1 e1 s1 v n xs) (k : w.ownsRow b2 e2 s2 u m ys) (hne : e1 ≠ e2) : ∀ j, v.ownBlock = some j → u.ownBlock ≠ some j := by
  intro j hj e
  rcases h.2 with ⟨rfl, _⟩ | ⟨g, cap, cur, rfl, _, hg, _⟩
  · simp [Value.ownBlock] at hj
  · rcases k.2 with ⟨rfl, _⟩ | ⟨g', cap', cur', rfl, _, hg', _⟩
    · simp [Value.ownBlock] at e
    · simp only [Value.ownBlock, Option.some.injEq] at e hj
      rw [e, ← hj, hg] at hg'
      injection hg' with hg'
      simp at hg'
      exact hne hg'.2
theorem cells_not_row {W : World} {L : Nat} {C : Array Value} {t e : TypeId} (h : W.heap[L]? = some (.cells C t (0, 0))) (hte : t ≠ e) {base size k : Nat} {v : Value} {xs : List Value} (hr : W.ownsRow base e size v k xs) : v.ownBlock ≠ some L := by
  rcases hr.2 with ⟨rfl, _⟩ | ⟨g, cap, cur, rfl, _, hgb, _⟩
  · simp [Value.ownBlock]
  · intro e'
    obtain rfl : g = L := by simpa [Value.ownBlock] using e'
    have := h.symm.trans hgb
    simp at this
    exact hte this.2
theorem box_ne {W : World} {a b : Nat} {C D : Array Value} {s t : TypeId} (h : W.heap[a]? = some (.cells C s (0, 0))) (k : W.heap[b]? = some (.cells D t (0, 0))) (hne : s ≠ t) : a ≠ b := by
  rintro rfl
  have := h.symm.trans k
  simp at this
  exact hne this.2
end Go.Proofs.YtcpopnhnihbofaaDoor

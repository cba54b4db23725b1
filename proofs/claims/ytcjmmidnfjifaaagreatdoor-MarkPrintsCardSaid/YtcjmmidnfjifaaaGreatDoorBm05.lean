/- Proved here: texts joined: FrameP, SizePure. -/
import Derived.Test.YtcjmmidnfjifaaaGreatDoorBm03
import Derived.Test.YtcjmmidnfjifaaaGreatDoorBm04
import Derived.Deep.Strs
import Derived.ChangeSame
/- Proved here: what comes in as a slice of pieces reads as a list; what comes in as a way to resolve conflicts has a number and a Bool. -/
namespace Go.Proofs.YtcjmmidnfjifaaaGreatDoor
open Go.ChangeShapes Go.WideShapes Go.ChangeAt Go.RowKit
set_option linter.unusedVariables false

section
variable {H : Type} {enc : TypeId × Value → H} {P : Program} {W : World} {base : Nat} {spare : Nat → Bool} {held : Bool}
theorem trod_struct4 {t : TypeId} {f0 f1 f2 f3 : Field} {fuel : Nat} {cs : List Value} {x : DataW H × List MemPlace} (ht : P.underlying t = some (.struct #[f0, f1, f2, f3])) (h : DataW.trod enc P W base spare held fuel t cs = some x) :
    ∃ y0 y1 y2 y3 n, cs.length = P.cellsOf t ∧ DataW.trod enc P W base spare held n f0.type ((cs.drop f0.offset).take (P.cellsOf f0.type)) = some y0 ∧ DataW.trod enc P W base spare held n f1.type ((cs.drop f1.offset).take (P.cellsOf f1.type)) = some y1 ∧
      DataW.trod enc P W base spare held n f2.type ((cs.drop f2.offset).take (P.cellsOf f2.type)) = some y2 ∧ DataW.trod enc P W base spare held n f3.type ((cs.drop f3.offset).take (P.cellsOf f3.type)) = some y3 := by
  obtain ⟨xs, n, _, rfl, hl, hlen, hf⟩ := DataW.trod_struct ht h
  match xs, hlen with
  | [y0, y1, y2, y3], _ => exact ⟨y0, y1, y2, y3, n, hl, by simpa using hf 0 f0 rfl, by simpa using hf 1 f1 rfl, by simpa using hf 2 f2 rfl, by simpa using hf 3 f3 rfl⟩
theorem slc_of {t e : TypeId} {fuel : Nat} {u : Value} {x : DataW H × List MemPlace} (ht : P.underlying t = some (.slice e)) (h : DataW.trod enc P W base spare held fuel t [u] = some x) : ∃ A n c, u = .slice A n c := by
  rcases Go.Deep.open_slice ht h with ⟨h3, _⟩ | ⟨a', l', c', _, _, _, _, h3, _⟩
  · exact ⟨_, _, _, by simpa using h3⟩
  · exact ⟨_, _, _, by simpa using h3⟩
end
theorem addr_plus (b o k : Nat) : (⟨b, o, none⟩ : Addr).add k = ⟨b, o + k, none⟩ := by unfold Addr.add; split <;> simp_all
theorem fourP {α : Type} (l : List α) (h : l.length = 4) : ∃ a b c d, l = [a, b, c, d] := by
  match l, h with
  | [a, b, c, d], _ => exact ⟨a, b, c, d, rfl⟩
theorem twoP {α : Type} (l : List α) (h : l.length = 2) : ∃ a b, l = [a, b] := by
  match l, h with
  | [a, b], _ => exact ⟨a, b, rfl⟩

/-- Pieces that came in. -/
theorem argPcs {H : Type} {enc : TypeId × Value → H} {P : Program} {W : World} {base : Nat} {held : Bool} {t e sl ss s b : TypeId} {f0 f1 f2 f3 : Field} {fuel : Nat} {A : Option Addr} {n c : Nat} {x : DataW H × List MemPlace}
    (ht : P.underlying t = some (.slice e)) (he : P.underlying e = some (.struct #[f0, f1, f2, f3])) (a0 : f0.type = b) (a1 : f1.type = sl) (a2 : f2.type = sl) (a3 : f3.type = ss) (b0 : f0.offset = 0) (b1 : f1.offset = 1) (b2 : f2.offset = 2) (b3 : f3.offset = 3)
    (hb : P.underlying b = some .bool) (hsl : P.underlying sl = some (.slice s)) (hss : P.underlying ss = some (.slice sl)) (hs : P.underlying s = some .string)
    (ce : P.cellsOf e = 4) (cb : P.cellsOf b = 1) (csl : P.cellsOf sl = 1) (css : P.cellsOf ss = 1) (cs : P.cellsOf s = 1)
    (h : DataW.trod enc P W base (fun _ => true) held fuel t [.slice A n c] = some x) : ∃ vs ps, n ≤ c ∧ c ≤ maxLen ∧ Pcs W W.heap.size A n vs ps := by
  rcases Go.Deep.open_slice ht h with ⟨hcs, _⟩ | ⟨a, len, cap, m, m', D, Pl, hcs, _, hl, hm, hmm, _, hx⟩
  · simp at hcs
    obtain ⟨rfl, rfl, rfl⟩ := hcs
    exact ⟨[], [], Nat.le_refl _, Nat.zero_le _, Pcs.nil _ _ _⟩
  · simp at hcs
    obtain ⟨rfl, rfl, rfl⟩ := hcs
    simp only [if_true] at hmm
    subst hmm
    rw [ce] at hx
    have each : ∀ k, k < n → ∃ p : PcV × Pc, W.cell? (a.add (k * 4)) = some (.bool p.2.1) ∧ W.cell? ((a.add (k * 4)).add 1) = some (slcV p.1.1) ∧ W.cell? ((a.add (k * 4)).add 2) = some (slcV p.1.2.1) ∧ W.cell? ((a.add (k * 4)).add 3) = some (slcV p.1.2.2) ∧ PcR W W.heap.size p.1 p.2 := by
      intro k hk
      obtain ⟨cs', h1, h2⟩ := hx k (by omega)
      obtain ⟨_, hlen, hcell⟩ := World.cells?_some h1
      obtain ⟨c0, c1, c2, c3, rfl⟩ := fourP cs' hlen
      obtain ⟨y0, y1, y2, y3, m2, _, s0, s1, s2, s3⟩ := trod_struct4 he h2
      rw [a0, b0, cb] at s0
      rw [a1, b1, csl] at s1
      rw [a2, b2, csl] at s2
      rw [a3, b3, css] at s3
      simp at s0 s1 s2 s3
      obtain ⟨u, hu, _⟩ := DataW.trod_bool hb s0
      simp at hu
      subst hu
      obtain ⟨A1, n1, k1, rfl⟩ := slc_of hsl s1
      obtain ⟨A2, n2, k2, rfl⟩ := slc_of hsl s2
      obtain ⟨A3, n3, k3, rfl⟩ := slc_of hss s3
      obtain ⟨t1, w1⟩ := argStrs hsl hs cs s1
      obtain ⟨t2, w2⟩ := argStrs hsl hs cs s2
      obtain ⟨r3, t3, d1, d2, d3⟩ := argTs hss hsl hs csl cs s3
      have hadd : (a.add (k * 4)).add 0 = a.add (k * 4) := by simp [Addr.add]
      have q0 := hcell 0 (by omega)
      rw [hadd] at q0
      exact ⟨(((A1, n1, k1), (A2, n2, k2), (A3, n3, k3)), (u, t1, t2, t3)), by rw [q0]; rfl, by rw [hcell 1 (by omega)]; rfl, by rw [hcell 2 (by omega)]; rfl, by rw [hcell 3 (by omega)]; rfl, w1.txR, w2.txR, d1, d2, r3, d3⟩
    obtain ⟨p, hp⟩ := Go.Deep.choose_lt each
    have key : ∀ (j : Nat) (v : PcV) (q : Pc), ((List.range n).map fun k => (p k).1)[j]? = some v → ((List.range n).map fun k => (p k).2)[j]? = some q → j < n ∧ (p j).1 = v ∧ (p j).2 = q := by
      intro j v q hv hq
      have hj : j < n := by
        have := (List.getElem?_eq_some_iff.1 hv).1
        simpa using this
      simp [hj] at hv hq
      exact ⟨hj, hv, hq⟩
    refine ⟨(List.range n).map fun k => (p k).1, (List.range n).map fun k => (p k).2, hl, hm, by simp, by simp, fun hn => ?_, fun j v q hv hq => ?_⟩
    · obtain ⟨b, off, spot⟩ := a
      have h0 := (hp 0 hn).1
      have hspot : spot = none := by simpa [Addr.add] using World.cell?_spot h0
      subst hspot
      refine ⟨b, off, rfl, by simpa [Addr.add] using World.block_lt_of_cell? _ _ h0, fun j v q hv hq => ?_⟩
      obtain ⟨hj, rfl, rfl⟩ := key j v q hv hq
      obtain ⟨h1, h2, h3, h4, h5⟩ := hp j hj
      have e1 : (⟨b, off, none⟩ : Addr).add (j * 4) = ⟨b, off + j * 4, none⟩ := addr_plus _ _ _
      have er : ∀ r, (⟨b, off + j * 4, none⟩ : Addr).add r = ⟨b, off + j * 4 + r, none⟩ := fun r => addr_plus _ _ _
      rw [e1] at h1 h2 h3 h4
      rw [er] at h2 h3 h4
      exact ⟨h1, h2, h3, h4⟩
    · obtain ⟨hj, rfl, rfl⟩ := key j v q hv hq
      exact (hp j hj).2.2.2.2

/-- A way to resolve conflicts that came in. -/
theorem argHow {H : Type} {enc : TypeId × Value → H} {P : Program} {W : World} {r : Reach} {base b0 : Nat} {held : Bool} {e i b : TypeId} {f0 f1 : Field} {v : Value} {d : DataW H} {p : List MemPlace}
    (he : P.underlying e = some (.struct #[f0, f1])) (a0 : f0.type = i) (a1 : f1.type = b) (o0 : f0.offset = 0) (o1 : f1.offset = 1) (hi : P.underlying i = some (.int .i64)) (hb : P.underlying b = some .bool) (ce : P.cellsOf e = 2) (ci : P.cellsOf i = 1) (cb : P.cellsOf b = 1) (hv : Value.okWide P W r b0 e v)
    (h : DataW.Trod enc P W base (fun _ => true) held e v d p) : ∃ fav un, v = .agg #[.int .i64 fav, .bool un] ∧ -9223372036854775808 ≤ fav ∧ fav ≤ 9223372036854775807 := by
  obtain ⟨cells, rfl, hsz, _⟩ : ∃ cs, v = .agg cs ∧ cs.size = P.cellsOf e ∧ Row.okWide P W r b0 e cs := by
    simpa [Value.okWide, he] using hv
  rw [ce] at hsz
  obtain ⟨l⟩ := cells
  obtain ⟨c0, c1, rfl⟩ := twoP l hsz
  obtain ⟨fuel, hf⟩ := h
  obtain ⟨y0, y1, m2, _, _, s0, s1⟩ := trod_struct2 he hf
  rw [a0, o0, ci] at s0
  rw [a1, o1, cb] at s1
  simp [Value.cells] at s0 s1
  obtain ⟨u, e0, _, w0⟩ := DataW.trod_int hi s0
  obtain ⟨q, e1, _⟩ := DataW.trod_bool hb s1
  simp at e0 e1
  subst e0
  subst e1
  exact ⟨u, q, rfl, bounds_i64 w0⟩
end Go.Proofs.YtcjmmidnfjifaaaGreatDoor
/- Proved here, without conditions: plain facts on marks' sizes (layer 11): runs of signs; what fits. -/
namespace Go.Proofs.YtcjmmidnfjifaaaGreatDoor
set_option linter.unusedVariables false

/-- Is a byte a marker sign? -/
def signB (c : UInt8) : Bool := c == 60 || c == 124 || c == 61 || c == 62
/-- How many bytes a text begins with that are the same marker sign. -/
def runN : Tx → Nat
  | [] => 0
  | c :: s => if signB c = true then 1 + (s.takeWhile fun x => x == c).length else 0
def maxR (n : Nat) (l : Txs) : Nat := l.foldl (fun n t => max n (runN t + 1)) n
def autoN (files : List Txs) : Nat := maxR 7 files.flatten
def fitsB (size : Int) (files : List Txs) : Bool := decide (1 ≤ size) && files.flatten.all fun t => decide ((runN t : Int) < size)

section
variable {n k : Nat} {l : Txs} {t s : Tx} {files a b : List Txs} {c : UInt8}
theorem run_cons (c : UInt8) (s : Tx) : runN (c :: s) = if signB c = true then 1 + (s.takeWhile fun x => x == c).length else 0 := rfl
theorem run_le : ∀ t : Tx, runN t ≤ t.length
  | [] => Nat.le_refl _
  | c :: s => by
    have h := (List.takeWhile_sublist (l := s) (fun x => x == c)).length_le
    rw [run_cons, List.length_cons]
    split <;> omega
theorem maxR_ge : ∀ {l : Txs} {n : Nat}, n ≤ maxR n l ∧ ∀ t ∈ l, runN t + 1 ≤ maxR n l
  | [], n => ⟨Nat.le_refl _, fun t h => by cases h⟩
  | t :: l, n => by
    obtain ⟨h1, h2⟩ := maxR_ge (l := l) (n := max n (runN t + 1))
    refine ⟨?_, fun x hx => ?_⟩
    · show n ≤ maxR (max n (runN t + 1)) l
      omega
    · show runN x + 1 ≤ maxR (max n (runN t + 1)) l
      rcases List.mem_cons.1 hx with rfl | hx
      · omega
      · exact h2 x hx
theorem maxR_is : ∀ {l : Txs} {n : Nat}, maxR n l = n ∨ ∃ t ∈ l, maxR n l = runN t + 1
  | [], n => .inl rfl
  | t :: l, n => by
    rcases maxR_is (l := l) (n := max n (runN t + 1)) with h | ⟨x, hx, h⟩
    · have e : maxR n (t :: l) = max n (runN t + 1) := h
      rcases Nat.le_total n (runN t + 1) with h' | h'
      · exact .inr ⟨t, List.mem_cons_self .., by rw [e, Nat.max_eq_right h']⟩
      · exact .inl (by rw [e, Nat.max_eq_left h'])
    · exact .inr ⟨x, List.mem_cons_of_mem _ hx, h⟩
theorem maxR_max : ∀ {l : Txs} {n m : Nat}, maxR (max n m) l = max n (maxR m l)
  | [], n, m => rfl
  | t :: l, n, m => by
    show maxR (max (max n m) (runN t + 1)) l = max n (maxR (max m (runN t + 1)) l)
    rw [Nat.max_assoc, maxR_max]
theorem maxR_append (n : Nat) (l m : Txs) : maxR n (l ++ m) = maxR (maxR n l) m := by unfold maxR; rw [List.foldl_append]
/-- OF MORE FILES IT IS THE GREATER ONE. -/
theorem auto_more : autoN (a ++ b) = max (autoN a) (autoN b) := by
  unfold autoN
  rw [List.flatten_append, maxR_append]
  have h := (maxR_ge (l := a.flatten) (n := 7)).1
  conv => lhs; rw [show maxR 7 a.flatten = max (maxR 7 a.flatten) 7 by omega]
  exact maxR_max
theorem auto_ge : 7 ≤ autoN files := maxR_ge.1
theorem fits_iff {z : Int} : fitsB z files = true ↔ 1 ≤ z ∧ ∀ t ∈ files.flatten, (runN t : Int) < z := by
  unfold fitsB
  rw [Bool.and_eq_true, decide_eq_true_eq, List.all_eq_true]
  exact ⟨fun h => ⟨h.1, fun t ht => by simpa using h.2 t ht⟩, fun h => ⟨h.1, fun t ht => by simpa using h.2 t ht⟩⟩
/-- WHAT IS TOLD FITS, AND ALL THAT IS LONGER; WHAT IS SHORTER DOESN'T. -/
theorem fits_auto (k : Nat) : fitsB ((autoN files : Int) + k) files = true := fits_iff.2 ⟨by have := auto_ge (files := files); omega, fun t ht => by
  have := (maxR_ge (l := files.flatten) (n := 7)).2 t ht
  unfold autoN
  omega⟩
theorem fits_less (h : autoN files ≠ 7) : fitsB ((autoN files : Int) - 1) files = false := by
  rcases maxR_is (l := files.flatten) (n := 7) with h' | ⟨t, ht, h'⟩
  · exact absurd h' h
  · cases hf : fitsB ((autoN files : Int) - 1) files with
    | false => rfl
    | true =>
      have := (fits_iff.1 hf).2 t ht
      unfold autoN at this
      omega
theorem takeW_take (P : UInt8 → Bool) : ∀ (s : Tx) (k : Nat), ((s.take k).takeWhile P).length = min k (s.takeWhile P).length
  | [], k => by simp
  | x :: s, 0 => by simp
  | x :: s, k + 1 => by
    have := takeW_take P s k
    rw [List.take_succ_cons, List.takeWhile_cons, List.takeWhile_cons]
    split
    · rw [List.length_cons, List.length_cons, this]; omega
    · simp
theorem run_take : ∀ (t : Tx) (k : Nat), runN (t.take k) = min k (runN t)
  | [], k => by simp [runN]
  | c :: s, 0 => by simp [runN]
  | c :: s, k + 1 => by
    rw [List.take_succ_cons, run_cons, run_cons]
    split
    · rw [takeW_take]; omega
    · simp
theorem run_marks (hc : signB c = true) : ∀ (k : Nat), k ≤ runN (List.replicate k c ++ s)
  | 0 => Nat.zero_le _
  | k + 1 => by
    rw [List.replicate_succ, List.cons_append, run_cons, if_pos hc]
    have : ∀ k : Nat, k ≤ ((List.replicate k c ++ s).takeWhile fun x => x == c).length := by
      intro k
      induction k with
      | zero => exact Nat.zero_le _
      | succ k ih =>
        rw [List.replicate_succ, List.cons_append, List.takeWhile_cons, if_pos (by simp), List.length_cons]
        omega
    have := this k
    omega
/-- A MARK OF A SIZE THAT FITS IS THE BEGIN OF NO TEXT. -/
theorem fits_mark (h : fitsB k files = true) (ht : t ∈ files.flatten) : runN (t.take k) ≠ k ∨ t.length < k := by
  have h1 := (fits_iff.1 h).2 t ht
  rw [run_take]
  left
  omega
theorem fits_begin (hc : signB c = true) : fitsB k (files ++ [[List.replicate k c ++ s]]) = false := by
  cases hf : fitsB k (files ++ [[List.replicate k c ++ s]]) with
  | false => rfl
  | true =>
    have h1 := (fits_iff.1 hf).2 (List.replicate k c ++ s) (by simp)
    have h2 := run_marks (s := s) hc k
    omega
end
end Go.Proofs.YtcjmmidnfjifaaaGreatDoor

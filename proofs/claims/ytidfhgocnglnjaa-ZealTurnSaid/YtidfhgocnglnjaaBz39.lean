/- Proved here: texts joined: ZlTurn, RowSl. -/
import Derived.Test.YtidfhgocnglnjaaBz05
import Derived.Test.YtidfhgocnglnjaaBz08
import Derived.Test.YtidfhgocnglnjaaBz09
/- Proved here, without a word of the program: a conflict whose sides stand in another turn, made smaller. -/
namespace Go.Proofs.Ytidfhgocnglnjaa
open Go.RowKit
set_option linter.unusedVariables false

/-- The sides from n on, then those before. -/
def turnL (n : Nat) (ds : List Txs) : List Txs := ds.drop n ++ ds.take n
theorem turnL_at {n k : Nat} {ds : List Txs} (hn : n < ds.length) (hk : k < ds.length) : (turnL n ds)[k]? = ds[(k + n) % ds.length]? := by
  unfold turnL
  rw [List.getElem?_append, List.length_drop]
  split
  · rename_i h
    rw [List.getElem?_drop, Nat.mod_eq_of_lt (by omega), Nat.add_comm]
  · rename_i h
    rw [List.getElem?_take, if_pos (by omega)]
    congr 1
    rw [show k + n = (k - (ds.length - n)) + ds.length by omega, Nat.add_mod_right, Nat.mod_eq_of_lt (by omega)]
theorem turnL_mem {n : Nat} {ds : List Txs} : ∀ d, d ∈ turnL n ds ↔ d ∈ ds := fun d => by
  unfold turnL
  rw [List.mem_append, Or.comm, ← List.mem_append, List.take_append_drop]
theorem turnL_len {n : Nat} {ds : List Txs} : (turnL n ds).length = ds.length := by
  unfold turnL
  rw [List.length_append, List.length_drop, List.length_take]
  omega
/-- Two pieces that are the same but for the turn of sides. -/
def TurnP (n : Nat) (p q : Pc) : Prop := p.1 = q.1 ∧ p.2.1 = q.2.1 ∧ p.2.2.2.length = q.2.2.2.length ∧ ∀ k, k < p.2.2.2.length → q.2.2.2[k]? = p.2.2.2[(k + n) % p.2.2.2.length]?
theorem TurnP.text (n : Nat) (t : Txs) : TurnP n (tPc t) (tPc t) := ⟨rfl, rfl, rfl, fun k h => absurd h (by simp [tPc])⟩
theorem TurnP.conf {n : Nat} {ds : List Txs} (hn : n < ds.length) (b : Txs) (g : Txs → Txs) : TurnP n (cPc b (ds.map g)) (cPc b ((turnL n ds).map g)) := by
  refine ⟨rfl, rfl, ?_, fun k hk => ?_⟩
  · show (ds.map g).length = ((turnL n ds).map g).length
    rw [List.length_map, List.length_map, turnL_len]
  · have hk : k < (ds.map g).length := hk
    show ((turnL n ds).map g)[k]? = (ds.map g)[(k + n) % (ds.map g).length]?
    rw [List.length_map] at hk ⊢
    rw [List.getElem?_map, List.getElem?_map, turnL_at hn hk]
/-- The same list, piece by piece. -/
def TurnsP (n : Nat) (a b : List Pc) : Prop := a.length = b.length ∧ ∀ (i : Nat) (p q : Pc), a[i]? = some p → b[i]? = some q → TurnP n p q
theorem TurnsP.nil (n : Nat) : TurnsP n [] [] := ⟨rfl, fun i p q h => by simp at h⟩
theorem TurnsP.cons {n : Nat} {a b : List Pc} {p q : Pc} (h : TurnsP n a b) (hp : TurnP n p q) : TurnsP n (p :: a) (q :: b) := by
  refine ⟨by rw [List.length_cons, List.length_cons, h.1], fun i x y hx hy => ?_⟩
  cases i with
  | zero =>
    simp at hx hy
    subst hx
    subst hy
    exact hp
  | succ i =>
    rw [List.getElem?_cons_succ] at hx hy
    exact h.2 i x y hx hy
theorem turn_norm {n : Nat} {ds : List Txs} (hn : n < ds.length) (b t1 t2 : Txs) (g : Txs → Txs) : TurnsP n (normal [tPc t1, cPc b (ds.map g), tPc t2]) (normal [tPc t1, cPc b ((turnL n ds).map g), tPc t2]) := by
  have h2 : TurnsP n (joinT t2 []) (joinT t2 []) := by
    show TurnsP n (if t2 = [] then [] else [tPc t2]) (if t2 = [] then [] else [tPc t2])
    split
    · exact TurnsP.nil n
    · exact (TurnsP.nil n).cons (TurnP.text n t2)
  have h1 := h2.cons (TurnP.conf hn b g)
  show TurnsP n (if t1 = [] then cPc b (ds.map g) :: joinT t2 [] else tPc t1 :: cPc b (ds.map g) :: joinT t2 []) (if t1 = [] then cPc b ((turnL n ds).map g) :: joinT t2 [] else tPc t1 :: cPc b ((turnL n ds).map g) :: joinT t2 [])
  split
  · exact h1
  · exact h1.cons (TurnP.text n t1)
/-- IN ANOTHER TURN, piece by piece; a conflict stays just if not all sides are the same. -/
theorem turn_trim {t bs f : Txs} {ds : List Txs} {n : Nat} (hn : n < (f :: ds).length) :
    TurnsP n (trimD (true, t, bs, f :: ds)) (trimD (true, t, bs, turnL n (f :: ds))) ∧ cleanB (trimD (true, t, bs, f :: ds)) = decide ((diffs f (f :: ds)).length = 0) := by
  have hd : (diffs f (f :: ds)).length = 0 ↔ ∀ d ∈ f :: ds, d = f := by
    rw [List.length_eq_zero_iff, List.eq_nil_iff_forall_not_mem]
    refine ⟨fun h d hd => Classical.byContradiction fun hne => h d (mem_diffs.2 ⟨hd, hne⟩), fun h d hd => ?_⟩
    obtain ⟨h1, h2⟩ := mem_diffs.1 hd
    exact h2 (h d h1)
  obtain ⟨g, es, he⟩ : ∃ g es, turnL n (f :: ds) = g :: es := by
    cases h : turnL n (f :: ds) with
    | nil => have := congrArg List.length h; rw [turnL_len] at this; simp at this
    | cons g es => exact ⟨g, es, rfl⟩
  have hm : ∀ d, d ∈ g :: es ↔ d ∈ f :: ds := fun d => by rw [← he]; exact turnL_mem d
  have hg : g ∈ f :: ds := (hm g).1 (List.mem_cons_self ..)
  have hA : trimD (true, t, bs, f :: ds) = normal (trimL bs f (f :: ds)) := rfl
  have hB : trimD (true, t, bs, turnL n (f :: ds)) = normal (trimL bs g (turnL n (f :: ds))) := by rw [he]; rfl
  rw [hA, hB]
  rcases trim_turn (base := bs) (f := f) (ds := f :: ds) (g := g) (es := turnL n (f :: ds)) (fun d => turnL_mem d) (List.mem_cons_self ..) hg with ⟨h1, h2, h3⟩ | ⟨h1, t1, t2, k, h2, h3⟩
  · rw [h2, h3]
    refine ⟨?_, ?_⟩
    · show TurnsP n (if f = [] then [] else [tPc f]) (if f = [] then [] else [tPc f])
      split
      · exact TurnsP.nil n
      · exact (TurnsP.nil n).cons (TurnP.text n f)
    · rw [clean_normal, decide_eq_true (hd.2 h1)]
      rfl
  · rw [h2, h3]
    refine ⟨turn_norm hn bs t1 t2 k, ?_⟩
    rw [clean_normal, decide_eq_false (fun h => h1 (hd.1 h))]
    rfl
end Go.Proofs.Ytidfhgocnglnjaa
/- Proved here: a slice of slices of texts cut by one bound alone, ahead or behind. -/
namespace Go.Proofs.Ytidfhgocnglnjaa
open Go.RowKit
set_option linter.unusedVariables false

/-- 's[:k]'. -/
theorem rows_to {w : World} {B n c : Nat} {A : Option Addr} {rs : List Slc} {ds : List (List (List UInt8))} {k : Nat} (h : RowsT w B A n rs ds) (hnc : n ≤ c) (hcm : c ≤ maxLen) (hk : k ≤ n) :
    ∃ A' m q, (∀ W : World, (Instr.slice 23 (.slice A n c) none (some (.int .i64 (k : Int))) none).run Try.prog W = .ok (.slice A' m q) W) ∧ m ≤ q ∧ q ≤ maxLen ∧ m = k ∧ RowsT w B A' m (rs.take k) (ds.take k) := by
  have hl := h.len
  have hr := h.rlen
  obtain ⟨h1, h2, h3⟩ := h
  refine ⟨(if c = 0 then A else A.map (·.add 0)), k, c, fun W => ?_, by omega, hcm, rfl, ⟨by rw [List.length_map, List.length_take]; omega, fun hn => ?_⟩, by rw [List.length_take, List.length_take, h2], fun i r ss a b => ?_⟩
  · rw [run_slice_h (P := Try.prog) W 23 A n c Try.underlying23 .i64 (k : Int) (by omega) (by omega)]
    go_simp
  · obtain ⟨b, o, rfl, hb, hcell⟩ := h1.2 (by omega)
    refine ⟨b, o, by rw [if_neg (by omega)]; rfl, hb, fun j u hu => ?_⟩
    refine hcell j u ?_
    rw [← hu, List.map_take, List.getElem?_take]
    have hj := (List.getElem?_eq_some_iff.1 hu).1
    simp at hj
    rw [if_pos (by omega)]
  · rw [List.getElem?_take] at a b
    split at a
    · rename_i hi
      rw [if_pos hi] at b
      exact h3 i r ss a b
    · cases a
/-- 's[k:]'. -/
theorem rows_from {w : World} {B n c : Nat} {A : Option Addr} {rs : List Slc} {ds : List (List (List UInt8))} {k : Nat} (h : RowsT w B A n rs ds) (hnc : n ≤ c) (hcm : c ≤ maxLen) (hk : k ≤ n) :
    ∃ A' m q, (∀ W : World, (Instr.slice 23 (.slice A n c) (some (.int .i64 (k : Int))) none none).run Try.prog W = .ok (.slice A' m q) W) ∧ m ≤ q ∧ q ≤ maxLen ∧ m + k = n ∧ RowsT w B A' m (rs.drop k) (ds.drop k) := by
  have hl := h.len
  have hr := h.rlen
  obtain ⟨h1, h2, h3⟩ := h
  refine ⟨(if c = k then A else A.map (·.add k)), n - k, c - k, fun W => ?_, by omega, by omega, by omega, ⟨by rw [List.length_map, List.length_drop]; omega, fun hn => ?_⟩, by rw [List.length_drop, List.length_drop, h2], fun i r ss a b => ?_⟩
  · rw [run_slice_l (P := Try.prog) W 23 A n c Try.underlying23 .i64 (k : Int) (by omega) (by omega)]
    go_simp
  · obtain ⟨b, o, rfl, hb, hcell⟩ := h1.2 (by omega)
    refine ⟨b, o + k, by rw [if_neg (by omega)]; simp only [Option.map_some]; unfold Addr.add; split <;> simp_all, hb, fun j u hu => ?_⟩
    rw [Nat.add_assoc]
    refine hcell (k + j) u ?_
    rw [← hu, List.map_drop, List.getElem?_drop]
  · rw [List.getElem?_drop] at a b
    exact h3 (k + i) r ss a b
end Go.Proofs.Ytidfhgocnglnjaa

/- Proved here: texts joined: SlcT. -/
import Derived.Test.YtdfpifipkchmnaaDoorBc09
/- Proved here: a slice of texts cut by one bound alone, ahead or behind. -/
namespace Go.Proofs.YtdfpifipkchmnaaDoor
open Go.RowKit
set_option linter.unusedVariables false
set_option maxRecDepth 100000

/-- 's[:k]'. -/
theorem slice_to {w : World} {B n c : Nat} {A : Option Addr} {ss : List (List UInt8)} {k : Nat} (h : TxR w B (A, n, c) ss) (hk : k ≤ n) :
    ∃ A' m q, (∀ W : World, (Instr.slice 22 (.slice A n c) none (some (.int .i64 (k : Int))) none).run Tryd.prog W = .ok (.slice A' m q) W) ∧ TxR w B (A', m, q) (ss.take k) ∧ m = k := by
  obtain ⟨e1, e2, e3⟩ := h
  dsimp only at e1 e2 e3
  have hl := e3.len
  refine ⟨(if c = 0 then A else A.map (·.add 0)), k, c, fun W => ?_, ⟨by show k ≤ c; omega, e2, by rw [List.length_map, List.length_take]; show min k ss.length = k; omega, fun hn => ?_⟩, rfl⟩
  · rw [run_slice_h (P := Tryd.prog) W 22 A n c Tryd.underlying22 .i64 (k : Int) (by omega) (by omega)]
    go_simp
  · obtain ⟨b, o, rfl, hb, hcell⟩ := e3.2 (by have : 0 < k := hn; omega)
    have hc0 : c ≠ 0 := by have : 0 < k := hn; omega
    refine ⟨b, o, by show (if c = 0 then some ⟨b, o, none⟩ else (some (⟨b, o, none⟩ : Addr)).map (·.add 0)) = _; rw [if_neg hc0]; rfl, hb, fun j u hu => ?_⟩
    refine hcell j u ?_
    rw [← hu, List.map_take, List.getElem?_take]
    have hj := (List.getElem?_eq_some_iff.1 hu).1
    simp at hj
    rw [if_pos (by omega)]
/-- 's[k:]'. -/
theorem slice_from {w : World} {B n c : Nat} {A : Option Addr} {ss : List (List UInt8)} {k : Nat} (h : TxR w B (A, n, c) ss) (hk : k ≤ n) :
    ∃ A' m q, (∀ W : World, (Instr.slice 22 (.slice A n c) (some (.int .i64 (k : Int))) none none).run Tryd.prog W = .ok (.slice A' m q) W) ∧ TxR w B (A', m, q) (ss.drop k) ∧ m + k = n := by
  obtain ⟨e1, e2, e3⟩ := h
  dsimp only at e1 e2 e3
  have hl := e3.len
  refine ⟨(if c = k then A else A.map (·.add k)), n - k, c - k, fun W => ?_, ⟨by show n - k ≤ c - k; omega, by show c - k ≤ maxLen; omega, by rw [List.length_map, List.length_drop]; show ss.length - k = n - k; omega, fun hn => ?_⟩, by omega⟩
  · rw [run_slice_l (P := Tryd.prog) W 22 A n c Tryd.underlying22 .i64 (k : Int) (by omega) (by omega)]
    go_simp
  · have hn' : 0 < n - k := hn
    obtain ⟨b, o, rfl, hb, hcell⟩ := e3.2 (by omega)
    refine ⟨b, o + k, by show (if c = k then some ⟨b, o, none⟩ else (some (⟨b, o, none⟩ : Addr)).map (·.add k)) = _; rw [if_neg (by omega)]; simp only [Option.map_some]; unfold Addr.add; split <;> simp_all, hb, fun j u hu => ?_⟩
    rw [Nat.add_assoc]
    refine hcell (k + j) u ?_
    rw [← hu, List.map_drop, List.getElem?_drop]
/-- A slice lies where another one does. -/
def Near (A : Option Addr) (r : Slc) : Prop := 0 < r.2.1 → ∀ q o, r.1 = some ⟨q, o, none⟩ → ∃ o', A = some ⟨q, o', none⟩
/-- 's[i:k]'. -/
theorem slice_mid {w : World} {B n c : Nat} {A : Option Addr} {ss : List (List UInt8)} {i k : Nat} (h : TxR w B (A, n, c) ss) (hi : i ≤ k) (hk : k ≤ n) :
    ∃ A' m q, (∀ W : World, (Instr.slice 22 (.slice A n c) (some (.int .i64 (i : Int))) (some (.int .i64 (k : Int))) none).run Tryd.prog W = .ok (.slice A' m q) W) ∧ TxR w B (A', m, q) ((ss.drop i).take (k - i)) ∧ m + i = k ∧ Near A (A', m, q) := by
  obtain ⟨e1, e2, e3⟩ := h
  dsimp only at e1 e2 e3
  have hl := e3.len
  refine ⟨(if c = i then A else A.map (·.add i)), k - i, c - i, fun W => ?_, ⟨by show k - i ≤ c - i; omega, by show c - i ≤ maxLen; omega, by rw [List.length_map, List.length_take, List.length_drop]; show min (k - i) (ss.length - i) = k - i; omega, fun hn => ?_⟩, by omega, fun hn q o e => ?_⟩
  · rw [run_slice_lh (P := Tryd.prog) W 22 A n c Tryd.underlying22 .i64 .i64 (i : Int) (k : Int) (by omega) (by omega) (by omega)]
    go_simp
  · have hn' : 0 < k - i := hn
    obtain ⟨b, o, rfl, hb, hcell⟩ := e3.2 (by omega)
    refine ⟨b, o + i, by show (if c = i then some ⟨b, o, none⟩ else (some (⟨b, o, none⟩ : Addr)).map (·.add i)) = _; rw [if_neg (by omega)]; simp only [Option.map_some]; unfold Addr.add; split <;> simp_all, hb, fun j u hu => ?_⟩
    rw [Nat.add_assoc]
    refine hcell (i + j) u ?_
    have hj := (List.getElem?_eq_some_iff.1 hu).1
    simp at hj
    rw [← hu, List.map_take, List.getElem?_take, if_pos (by omega), List.map_drop, List.getElem?_drop]
  · have hn' : 0 < k - i := hn
    obtain ⟨b, o', rfl, hb, hcell⟩ := e3.2 (by omega)
    dsimp only at e
    rw [if_neg (by omega), Option.map_some] at e
    injection e with e
    refine ⟨o', ?_⟩
    have hb2 : ((⟨b, o', none⟩ : Addr).add i).block = b := by unfold Addr.add; split <;> rfl
    rw [e] at hb2
    dsimp only at hb2
    rw [hb2]
end Go.Proofs.YtdfpifipkchmnaaDoor

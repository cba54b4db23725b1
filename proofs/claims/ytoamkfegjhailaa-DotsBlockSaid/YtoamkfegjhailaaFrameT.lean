/- Proved here: what comes in as a slice of strings, or a slice of slices of strings, reads as lists, with its bounds. -/
import Derived.Test.YtoamkfegjhailaaFrame
import Derived.Test.YtoamkfegjhailaaTxts
import Derived.Deep.Slices
namespace Go.Proofs.Ytoamkfegjhailaa
open Go.ChangeShapes Go.WideShapes Go.ChangeAt Go.RowKit
open Go.ChangeMaps (open_string shut_string)
set_option linter.unusedVariables false

theorem ArgStrs.txR {w : World} {A : Option Addr} {n c : Nat} {ss : List (List UInt8)} (h : ArgStrs w A n c ss) : TxR w w.heap.size (A, n, c) ss := ⟨h.1, h.2.1, h.2.2.2⟩
theorem argTs {H : Type} {enc : TypeId × Value → H} {P : Program} {W : World} {base : Nat} {held : Bool} {t e q : TypeId} {fuel : Nat} {A : Option Addr} {n c : Nat} {x : DataW H × List MemPlace}
    (ht : P.underlying t = some (.slice e)) (he : P.underlying e = some (.slice q)) (hq : P.underlying q = some .string) (ce : P.cellsOf e = 1) (cq : P.cellsOf q = 1) (h : DataW.trod enc P W base (fun _ => true) held fuel t [.slice A n c] = some x) :
    ∃ rows files, n ≤ c ∧ c ≤ maxLen ∧ RowsT W W.heap.size A n rows files := by
  rcases Go.Deep.open_slice1 ht ce h with ⟨hcs, _⟩ | ⟨a, len, cap, m, m', V, D, Pl, hcs, _, hl, hm, hmm, _, hx⟩
  · simp at hcs
    obtain ⟨rfl, rfl, rfl⟩ := hcs
    exact ⟨[], [], Nat.le_refl _, Nat.zero_le _, RowsT.nil _ _ _⟩
  · simp at hcs
    obtain ⟨rfl, rfl, rfl⟩ := hcs
    simp only [if_true] at hmm
    subst hmm
    have each : ∀ i, i < n → ∃ y : (Option Addr × Nat × Nat) × List (List UInt8), V i = .slice y.1.1 y.1.2.1 y.1.2.2 ∧ ArgStrs W y.1.1 y.1.2.1 y.1.2.2 y.2 := by
      intro i hi
      have h2 := (hx i (by omega)).2
      obtain ⟨A', n', c', hV⟩ : ∃ A' n' c', V i = .slice A' n' c' := by
        rcases open_strings he hq cq h2 with ⟨h3, _⟩ | ⟨a', l', c', _, h3, _⟩
        · exact ⟨_, _, _, by simpa using h3⟩
        · exact ⟨_, _, _, by simpa using h3⟩
      rw [hV] at h2
      obtain ⟨ss, hss⟩ := argStrs he hq cq h2
      exact ⟨((A', n', c'), ss), hV, hss⟩
    obtain ⟨y, hy⟩ := Go.Deep.choose_lt each
    refine ⟨(List.range n).map fun i => (y i).1, (List.range n).map fun i => (y i).2, hl, hm, ⟨by simp, fun hn => ?_⟩, by simp, fun k r ss hr hs => ?_⟩
    · obtain ⟨b, off, spot⟩ := a
      have h0 := (hx 0 (by omega)).1
      have hspot : spot = none := by simpa [Addr.add] using World.cell?_spot h0
      subst hspot
      refine ⟨b, off, rfl, by simpa [Addr.add] using World.block_lt_of_cell? _ _ h0, fun j u hu => ?_⟩
      have hj : j < n := by
        have := (List.getElem?_eq_some_iff.1 hu).1
        simp at this; omega
      have hcj := (hx j (by omega)).1
      rw [show (⟨b, off, none⟩ : Addr).add j = ⟨b, off + j, none⟩ from by unfold Addr.add; split <;> simp_all] at hcj
      rw [hcj, ← hu, (hy j hj).1]
      simp [hj, slcV]
    · have hk : k < n := by have := (List.getElem?_eq_some_iff.1 hr).1; simpa using this
      simp [hk] at hr hs
      subst hr; subst hs
      exact (hy k hk).2.txR
end Go.Proofs.Ytoamkfegjhailaa

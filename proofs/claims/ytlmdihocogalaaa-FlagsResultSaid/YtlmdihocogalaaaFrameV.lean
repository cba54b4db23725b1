/- Proved here: what comes in as an array of three slices of texts reads as three lists. -/
import Derived.Test.YtlmdihocogalaaaFrame
import Derived.Deep.Slices
namespace Go.Proofs.Ytlmdihocogalaaa
open Go.ChangeShapes Go.WideShapes Go.ChangeAt Go.RowKit
open Go.ChangeMaps (open_string shut_string)
set_option linter.unusedVariables false

theorem list3 {α : Type} (l : List α) (h : (⟨l⟩ : Array α).size = 3) : ∃ a b c, l = [a, b, c] := by
  match l, h with
  | [a, b, c], _ => exact ⟨a, b, c, rfl⟩
theorem argTri {H : Type} {enc : TypeId × Value → H} {P : Program} {W : World} {r : Reach} {base b0 : Nat} {spare : Nat → Bool} {held : Bool} {t e q : TypeId} {v : Value} {d : DataW H} {p : List MemPlace}
    (ht : P.underlying t = some (.array 3 e)) (he : P.underlying e = some (.slice q)) (hq : P.underlying q = some .string) (ct : P.cellsOf t = 3) (ce : P.cellsOf e = 1) (cq : P.cellsOf q = 1) (hv : Value.okWide P W r b0 t v) (h : DataW.Trod enc P W base spare held t v d p) :
    ∃ E0 m0 k0 xs E1 m1 k1 ys E2 m2 k2 zs, v = .agg #[.slice E0 m0 k0, .slice E1 m1 k1, .slice E2 m2 k2] ∧ ArgStrs W E0 m0 k0 xs ∧ ArgStrs W E1 m1 k1 ys ∧ ArgStrs W E2 m2 k2 zs := by
  obtain ⟨cs, rfl, hsz, _⟩ : ∃ cs, v = .agg cs ∧ cs.size = P.cellsOf t ∧ Row.okWide P W r b0 t cs := by
    simpa [Value.okWide, ht] using hv
  rw [ct] at hsz
  obtain ⟨l⟩ := cs
  obtain ⟨c0, c1, c2, rfl⟩ := list3 l hsz
  obtain ⟨fuel, hf⟩ := h
  obtain ⟨xs, m, _, _, _, hxl, hel⟩ := DataW.trod_array ht hf
  have h0 := hel 0 (by omega)
  have h1 := hel 1 (by omega)
  have h2 := hel 2 (by omega)
  rw [ce] at h0 h1 h2
  simp [Value.cells] at h0 h1 h2
  have g : ∀ i, i < 3 → ∃ z, xs[i]? = some z := fun i hi => ⟨xs[i]'(by omega), List.getElem?_eq_getElem (by omega)⟩
  obtain ⟨z0, g0⟩ := g 0 (by omega)
  obtain ⟨z1, g1⟩ := g 1 (by omega)
  obtain ⟨z2, g2⟩ := g 2 (by omega)
  simp [g0] at h0
  simp [g1] at h1
  simp [g2] at h2
  have shape : ∀ {c : Value} {z : DataW H × List MemPlace}, DataW.trod enc P W base spare held m e [c] = some z → ∃ A n k, c = .slice A n k := by
    intro c z hc
    rcases open_strings he hq cq hc with ⟨h3, _⟩ | ⟨a', l', c', _, h3, _⟩
    · exact ⟨_, _, _, by simpa using h3⟩
    · exact ⟨_, _, _, by simpa using h3⟩
  obtain ⟨E0, m0, k0, rfl⟩ := shape h0
  obtain ⟨E1, m1, k1, rfl⟩ := shape h1
  obtain ⟨E2, m2, k2, rfl⟩ := shape h2
  obtain ⟨us, hus⟩ := argStrs he hq cq h0
  obtain ⟨vs, hvs⟩ := argStrs he hq cq h1
  obtain ⟨ws, hws⟩ := argStrs he hq cq h2
  exact ⟨E0, m0, k0, us, E1, m1, k1, vs, E2, m2, k2, ws, rfl, hus, hvs, hws⟩
end Go.Proofs.Ytlmdihocogalaaa

/- Proved here: what comes in as a slice of ints, a slice of pairs of bytes, or an array of two slices of ints, reads as lists. -/
import Derived.Test.YtgofdcancfjghaaFrame
import Derived.Test.YtgofdcancfjghaaLcsLawC
import Derived.Deep.Slices
namespace Go.Proofs.Ytgofdcancfjghaa
open Go.ChangeShapes Go.WideShapes Go.ChangeAt Go.RowKit
set_option linter.unusedVariables false

theorem argNums {H : Type} {enc : TypeId × Value → H} {P : Program} {W : World} {base : Nat} {spare : Nat → Bool} {held : Bool} {t e : TypeId} {fuel : Nat} {A : Option Addr} {n c : Nat} {x : DataW H × List MemPlace}
    (ht : P.underlying t = some (.slice e)) (he : P.underlying e = some (.int .i64)) (hc : P.cellsOf e = 1) (h : DataW.trod enc P W base spare held fuel t [.slice A n c] = some x) : ∃ xs, ArgNums W A n c xs := by
  rcases open_ints ht he hc h with ⟨hcs, _⟩ | ⟨a, len, cap, zs, hcs, _, hl, hm, hz, _, hcell, hwz⟩
  · simp at hcs
    obtain ⟨rfl, rfl, rfl⟩ := hcs
    exact ⟨[], Nat.le_refl _, Nat.zero_le _, rfl, fun h => absurd h (by omega)⟩
  · simp at hcs
    obtain ⟨rfl, rfl, rfl⟩ := hcs
    have hlen : n ≤ zs.length := by rw [hz]; split <;> omega
    refine ⟨zs.take n, hl, hm, ?_, fun hn => ?_⟩
    · simp; omega
    · obtain ⟨b, off, spot⟩ := a
      have h0 := hcell 0 (by omega)
      have hspot : spot = none := by simpa [Addr.add] using World.cell?_spot h0
      subst hspot
      refine ⟨b, off, rfl, by simpa [Addr.add] using World.block_lt_of_cell? _ _ h0, fun j u hu => ?_⟩
      have hj : j < n := by
        have := (List.getElem?_eq_some_iff.1 hu).1
        simp at this; omega
      have hcj := hcell j (by omega)
      rw [show (⟨b, off, none⟩ : Addr).add j = ⟨b, off + j, none⟩ from by unfold Addr.add; split <;> simp_all] at hcj
      have hjz : j < zs.length := by omega
      rw [hcj, ← hu]
      simp [hj, hjz]

theorem list2 {α : Type} (l : List α) (h : l.length = 2) : ∃ a b, l = [a, b] := by
  match l, h with
  | [a, b], _ => exact ⟨a, b, rfl⟩

theorem arr2_cells {H : Type} {enc : TypeId × Value → H} {P : Program} {W : World} {base : Nat} {spare : Nat → Bool} {held : Bool} {t e : TypeId} {fuel : Nat} {c0 c1 : Value} {x : DataW H × List MemPlace}
    (ht : P.underlying t = some (.array 2 e)) (ce : P.cellsOf e = 1) (h : DataW.trod enc P W base spare held fuel t [c0, c1] = some x) : ∃ m z0 z1, DataW.trod enc P W base spare held m e [c0] = some z0 ∧ DataW.trod enc P W base spare held m e [c1] = some z1 := by
  obtain ⟨xs, m, _, _, _, hxl, hel⟩ := DataW.trod_array ht h
  have h0 := hel 0 (by omega)
  have h1 := hel 1 (by omega)
  rw [ce] at h0 h1
  simp at h0 h1
  have g0 : ∃ z, xs[0]? = some z := ⟨xs[0], List.getElem?_eq_getElem (by omega)⟩
  have g1 : ∃ z, xs[1]? = some z := ⟨xs[1], List.getElem?_eq_getElem (by omega)⟩
  obtain ⟨z0, g0⟩ := g0
  obtain ⟨z1, g1⟩ := g1
  simp [g0] at h0
  simp [g1] at h1
  exact ⟨m, z0, z1, h0, h1⟩

theorem argPts {H : Type} {enc : TypeId × Value → H} {P : Program} {W : World} {base : Nat} {held : Bool} {t e q : TypeId} {fuel : Nat} {A : Option Addr} {n c : Nat} {x : DataW H × List MemPlace}
    (ht : P.underlying t = some (.slice e)) (he : P.underlying e = some (.array 2 q)) (hq : P.underlying q = some (.int .u8)) (ce : P.cellsOf e = 2) (cq : P.cellsOf q = 1) (h : DataW.trod enc P W base (fun _ => true) held fuel t [.slice A n c] = some x) : ∃ ps, n ≤ c ∧ c ≤ maxLen ∧ Pts W W.heap.size A n ps := by
  rcases Go.Deep.open_slice ht h with ⟨hcs, _⟩ | ⟨a, len, cap, m, m', D, Pl, hcs, _, hl, hm, hmm, _, hx⟩
  · simp at hcs
    obtain ⟨rfl, rfl, rfl⟩ := hcs
    exact ⟨[], Nat.le_refl _, Nat.zero_le _, rfl, by simp, fun h => absurd h (by omega)⟩
  · simp at hcs
    obtain ⟨rfl, rfl, rfl⟩ := hcs
    simp only [if_true] at hmm
    subst hmm
    rw [ce] at hx
    have each : ∀ i, i < n → ∃ p : Nat × Nat, p.1 ≤ 255 ∧ p.2 ≤ 255 ∧ W.cell? (a.add (i * 2)) = some (.int .u8 p.1) ∧ W.cell? ((a.add (i * 2)).add 1) = some (.int .u8 p.2) := by
      intro i hi
      obtain ⟨cs', h1, h2⟩ := hx i (by omega)
      obtain ⟨_, hlen, hcell⟩ := World.cells?_some h1
      obtain ⟨c0, c1, rfl⟩ := list2 cs' hlen
      obtain ⟨m2, z0, z1, t0, t1⟩ := arr2_cells he cq h2
      obtain ⟨x0, e0, _, w0⟩ := DataW.trod_int hq t0
      obtain ⟨x1, e1, _, w1⟩ := DataW.trod_int hq t1
      simp at e0 e1
      subst e0; subst e1
      have b0 := bounds_u8 w0
      have b1 := bounds_u8 w1
      have q0 := hcell 0 (by omega)
      have q1 := hcell 1 (by omega)
      have hadd : (a.add (i * 2)).add 0 = a.add (i * 2) := by simp [Addr.add]
      rw [hadd] at q0
      refine ⟨(x0.toNat, x1.toNat), by show x0.toNat ≤ 255; omega, by show x1.toNat ≤ 255; omega, ?_, ?_⟩
      · rw [q0]; simp; omega
      · rw [q1]; simp; omega
    obtain ⟨p, hp⟩ := Go.Deep.choose_lt each
    refine ⟨(List.range n).map p, hl, hm, by simp, fun y hy => ?_, fun hn => ?_⟩
    · obtain ⟨i, hi, rfl⟩ := List.mem_map.1 hy
      have hi := List.mem_range.1 hi
      exact ⟨(hp i hi).1, (hp i hi).2.1⟩
    · obtain ⟨b, off, spot⟩ := a
      have h0 := (hp 0 hn).2.2.1
      have hspot : spot = none := by simpa [Addr.add] using World.cell?_spot h0
      subst hspot
      refine ⟨b, off, rfl, by simpa [Addr.add] using World.block_lt_of_cell? _ _ h0, fun j y hy => ?_⟩
      have hj : j < n := by
        have := (List.getElem?_eq_some_iff.1 hy).1
        simpa using this
      simp [hj] at hy
      subst hy
      obtain ⟨_, _, h1, h2⟩ := hp j hj
      have a1 : (⟨b, off, none⟩ : Addr).add (j * 2) = ⟨b, off + j * 2, none⟩ := by unfold Addr.add; split <;> simp_all
      have a2 : (⟨b, off + j * 2, none⟩ : Addr).add 1 = ⟨b, off + j * 2 + 1, none⟩ := by unfold Addr.add; split <;> simp_all
      rw [a1] at h1 h2
      rw [a2] at h2
      exact ⟨h1, h2⟩

theorem argEnds {H : Type} {enc : TypeId × Value → H} {P : Program} {W : World} {r : Reach} {base b0 : Nat} {spare : Nat → Bool} {held : Bool} {t e q : TypeId} {v : Value} {d : DataW H} {p : List MemPlace}
    (ht : P.underlying t = some (.array 2 e)) (he : P.underlying e = some (.slice q)) (hq : P.underlying q = some (.int .i64)) (ct : P.cellsOf t = 2) (ce : P.cellsOf e = 1) (cq : P.cellsOf q = 1) (hv : Value.okWide P W r b0 t v) (h : DataW.Trod enc P W base spare held t v d p) :
    ∃ E0 m0 k0 xs E1 m1 k1 ys, v = .agg #[.slice E0 m0 k0, .slice E1 m1 k1] ∧ ArgNums W E0 m0 k0 xs ∧ ArgNums W E1 m1 k1 ys := by
  obtain ⟨cs, rfl, hsz, _⟩ : ∃ cs, v = .agg cs ∧ cs.size = P.cellsOf t ∧ Row.okWide P W r b0 t cs := by
    simpa [Value.okWide, ht] using hv
  rw [ct] at hsz
  obtain ⟨l⟩ := cs
  obtain ⟨c0, c1, rfl⟩ := list2 l hsz
  obtain ⟨fuel, hf⟩ := h
  obtain ⟨m, z0, z1, t0, t1⟩ := arr2_cells ht ce hf
  have shape : ∀ {c : Value} {z : DataW H × List MemPlace}, DataW.trod enc P W base spare held m e [c] = some z → ∃ A n k, c = .slice A n k := by
    intro c z hc
    rcases open_ints he hq cq hc with ⟨h3, _⟩ | ⟨a', l', c', _, h3, _⟩
    · exact ⟨_, _, _, by simpa using h3⟩
    · exact ⟨_, _, _, by simpa using h3⟩
  obtain ⟨E0, m0, k0, rfl⟩ := shape t0
  obtain ⟨E1, m1, k1, rfl⟩ := shape t1
  obtain ⟨xs, hxs⟩ := argNums he hq cq t0
  obtain ⟨ys, hys⟩ := argNums he hq cq t1
  exact ⟨E0, m0, k0, xs, E1, m1, k1, ys, rfl, hxs, hys⟩
end Go.Proofs.Ytgofdcancfjghaa

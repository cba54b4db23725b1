/- Proved here: what comes in as a slice of ints, or a slice of changes, reads as a list of what an int may hold. -/
import Derived.Test.YtjbgiaekckdoaaaFrame
import Derived.Test.YtjbgiaekckdoaaaEditLawA
import Derived.Deep.Slices
import Derived.ChangeSame
namespace Go.Proofs.Ytjbgiaekckdoaaa
open Go.ChangeShapes Go.WideShapes Go.ChangeAt Go.RowKit
set_option linter.unusedVariables false

theorem argInts {H : Type} {enc : TypeId × Value → H} {P : Program} {W : World} {base : Nat} {spare : Nat → Bool} {held : Bool} {t e : TypeId} {fuel : Nat} {A : Option Addr} {n c : Nat} {x : DataW H × List MemPlace}
    (ht : P.underlying t = some (.slice e)) (he : P.underlying e = some (.int .i64)) (hc : P.cellsOf e = 1) (h : DataW.trod enc P W base spare held fuel t [.slice A n c] = some x) : ∃ xs, ArgInts W A n c xs := by
  rcases open_ints ht he hc h with ⟨hcs, _⟩ | ⟨a, len, cap, zs, hcs, _, hl, hm, hz, _, hcell, hwz⟩
  · simp at hcs
    obtain ⟨rfl, rfl, rfl⟩ := hcs
    exact ⟨[], Nat.le_refl _, Nat.zero_le _, (fun v hv => by cases hv), rfl, fun h => absurd h (by omega)⟩
  · simp at hcs
    obtain ⟨rfl, rfl, rfl⟩ := hcs
    have hlen : n ≤ zs.length := by rw [hz]; split <;> omega
    refine ⟨zs.take n, hl, hm, (fun v hv => bounds_i64 (hwz v (List.mem_of_mem_take hv))), ?_, fun hn => ?_⟩
    · simp; omega
    · obtain ⟨b, off, spot⟩ := a
      have h0 := hcell 0 (by omega)
      have hspot : spot = none := by simpa [Addr.add] using World.cell?_spot h0
      subst hspot
      refine ⟨b, off, rfl, by simpa [Addr.add] using World.block_lt_of_cell? _ _ h0, fun j u hu => ?_⟩
      have hj : j < n := by
        have := (List.getElem?_eq_some_iff.1 hu).1
        simp at this; omega
      have hcj := hcell j (by omega)
      rw [show (⟨b, off, none⟩ : Addr).add j = ⟨b, off + j, none⟩ from by unfold Addr.add; split <;> simp_all] at hcj
      have hjz : j < zs.length := by omega
      rw [hcj, ← hu]
      simp [hj, hjz]

theorem list2 {α : Type} (l : List α) (h : l.length = 2) : ∃ a b, l = [a, b] := by
  match l, h with
  | [a, b], _ => exact ⟨a, b, rfl⟩
theorem list4 {α : Type} (l : List α) (h : l.length = 4) : ∃ a b c d, l = [a, b, c, d] := by
  match l, h with
  | [a, b, c, d], _ => exact ⟨a, b, c, d, rfl⟩

theorem span_cells {H : Type} {enc : TypeId × Value → H} {P : Program} {W : World} {base : Nat} {spare : Nat → Bool} {held : Bool} {q i : TypeId} {g0 g1 : Field} {fuel : Nat} {c0 c1 : Value} {x : DataW H × List MemPlace}
    (hq : P.underlying q = some (.struct #[g0, g1])) (t0 : g0.type = i) (t1 : g1.type = i) (o0 : g0.offset = 0) (o1 : g1.offset = 1) (hi : P.underlying i = some (.int .i64)) (ci : P.cellsOf i = 1)
    (h : DataW.trod enc P W base spare held fuel q [c0, c1] = some x) : ∃ u v, c0 = .int .i64 u ∧ c1 = .int .i64 v ∧ inR u ∧ inR v := by
  obtain ⟨y0, y1, m, _, _, h0, h1⟩ := trod_struct2 hq h
  rw [t0, o0, ci] at h0
  rw [t1, o1, ci] at h1
  simp at h0 h1
  obtain ⟨u, e0, _, w0⟩ := DataW.trod_int hi h0
  obtain ⟨v, e1, _, w1⟩ := DataW.trod_int hi h1
  simp at e0 e1
  exact ⟨u, v, e0, e1, bounds_i64 w0, bounds_i64 w1⟩

theorem argChs {H : Type} {enc : TypeId × Value → H} {P : Program} {W : World} {base : Nat} {held : Bool} {t e q i : TypeId} {f0 f1 g0 g1 : Field} {fuel : Nat} {A : Option Addr} {n c : Nat} {x : DataW H × List MemPlace}
    (ht : P.underlying t = some (.slice e)) (he : P.underlying e = some (.struct #[f0, f1])) (a0 : f0.type = q) (a1 : f1.type = q) (b0 : f0.offset = 0) (b1 : f1.offset = 2)
    (hq : P.underlying q = some (.struct #[g0, g1])) (t0 : g0.type = i) (t1 : g1.type = i) (o0 : g0.offset = 0) (o1 : g1.offset = 1) (hi : P.underlying i = some (.int .i64)) (ce : P.cellsOf e = 4) (cq : P.cellsOf q = 2) (ci : P.cellsOf i = 1)
    (h : DataW.trod enc P W base (fun _ => true) held fuel t [.slice A n c] = some x) : ∃ xs, ArgChs W A n c xs := by
  rcases Go.Deep.open_slice ht h with ⟨hcs, _⟩ | ⟨a, len, cap, m, m', D, Pl, hcs, _, hl, hm, hmm, _, hx⟩
  · simp at hcs
    obtain ⟨rfl, rfl, rfl⟩ := hcs
    exact ⟨[], Nat.le_refl _, Nat.zero_le _, (fun v hv => by cases hv), Chs.nil _ _ _⟩
  · simp at hcs
    obtain ⟨rfl, rfl, rfl⟩ := hcs
    simp only [if_true] at hmm
    subst hmm
    rw [ce] at hx
    have each : ∀ k, k < n → ∃ p : Ch, (inR p.1.1 ∧ inR p.1.2 ∧ inR p.2.1 ∧ inR p.2.2) ∧ W.cell? (a.add (k * 4)) = some (.int .i64 p.1.1) ∧ W.cell? ((a.add (k * 4)).add 1) = some (.int .i64 p.1.2) ∧ W.cell? ((a.add (k * 4)).add 2) = some (.int .i64 p.2.1) ∧ W.cell? ((a.add (k * 4)).add 3) = some (.int .i64 p.2.2) := by
      intro k hk
      obtain ⟨cs', h1, h2⟩ := hx k (by omega)
      obtain ⟨_, hlen, hcell⟩ := World.cells?_some h1
      obtain ⟨c0, c1, c2, c3, rfl⟩ := list4 cs' hlen
      obtain ⟨y0, y1, m2, _, _, s0, s1⟩ := trod_struct2 he h2
      rw [a0, b0, cq] at s0
      rw [a1, b1, cq] at s1
      simp at s0 s1
      obtain ⟨u0, u1, rfl, rfl, r0, r1⟩ := span_cells hq t0 t1 o0 o1 hi ci s0
      obtain ⟨u2, u3, rfl, rfl, r2, r3⟩ := span_cells hq t0 t1 o0 o1 hi ci s1
      have hadd : (a.add (k * 4)).add 0 = a.add (k * 4) := by simp [Addr.add]
      have q0 := hcell 0 (by omega)
      rw [hadd] at q0
      exact ⟨((u0, u1), (u2, u3)), ⟨r0, r1, r2, r3⟩, by rw [q0]; rfl, by rw [hcell 1 (by omega)]; rfl, by rw [hcell 2 (by omega)]; rfl, by rw [hcell 3 (by omega)]; rfl⟩
    obtain ⟨p, hp⟩ := Go.Deep.choose_lt each
    refine ⟨(List.range n).map p, hl, hm, fun y hy => ?_, by simp, fun hn => ?_⟩
    · obtain ⟨k, hk, rfl⟩ := List.mem_map.1 hy
      exact (hp k (List.mem_range.1 hk)).1
    · obtain ⟨b, off, spot⟩ := a
      have h0 := (hp 0 hn).2.1
      have hspot : spot = none := by simpa [Addr.add] using World.cell?_spot h0
      subst hspot
      refine ⟨b, off, rfl, by simpa [Addr.add] using World.block_lt_of_cell? _ _ h0, fun j y hy => ?_⟩
      have hj : j < n := by
        have := (List.getElem?_eq_some_iff.1 hy).1
        simpa using this
      simp [hj] at hy
      subst hy
      obtain ⟨_, h1, h2, h3, h4⟩ := hp j hj
      have a1 : (⟨b, off, none⟩ : Addr).add (j * 4) = ⟨b, off + j * 4, none⟩ := by unfold Addr.add; split <;> simp_all
      have ar : ∀ r, (⟨b, off + j * 4, none⟩ : Addr).add r = ⟨b, off + j * 4 + r, none⟩ := fun r => by unfold Addr.add; split <;> simp_all
      rw [a1] at h1 h2 h3 h4
      rw [ar] at h2 h3 h4
      exact ⟨h1, h2, h3, h4⟩
end Go.Proofs.Ytjbgiaekckdoaaa

/- Proved here: what comes in as a slice of slices of bytes, or a slice of chunks, reads as lists. -/
import Derived.Test.YtijinhhlikhjfaaFrame
import Derived.Test.YtijinhhlikhjfaaAlignCov
import Derived.Deep.Slices
import Derived.Deep.Strs
import Derived.ChangeSame
namespace Go.Proofs.Ytijinhhlikhjfaa
open Go.ChangeShapes Go.WideShapes Go.ChangeAt Go.RowKit
set_option linter.unusedVariables false

theorem argRB {H : Type} {enc : TypeId × Value → H} {P : Program} {W : World} {base : Nat} {held : Bool} {t e q : TypeId} {fuel : Nat} {A : Option Addr} {n c : Nat} {x : DataW H × List MemPlace}
    (ht : P.underlying t = some (.slice e)) (he : P.underlying e = some (.slice q)) (hq : P.underlying q = some (.int .u8)) (ce : P.cellsOf e = 1) (cq : P.cellsOf q = 1) (h : DataW.trod enc P W base (fun _ => true) held fuel t [.slice A n c] = some x) :
    ∃ rows bss, n ≤ c ∧ c ≤ maxLen ∧ RowsB W W.heap.size A n rows bss := by
  rcases Go.Deep.open_slice1 ht ce h with ⟨hcs, _⟩ | ⟨a, len, cap, m, m', V, D, Pl, hcs, _, hl, hm, hmm, _, hx⟩
  · simp at hcs
    obtain ⟨rfl, rfl, rfl⟩ := hcs
    exact ⟨[], [], Nat.le_refl _, Nat.zero_le _, ⟨rfl, fun h => absurd h (by omega)⟩, rfl, fun k r ss h => by simp at h⟩
  · simp at hcs
    obtain ⟨rfl, rfl, rfl⟩ := hcs
    simp only [if_true] at hmm
    subst hmm
    have each : ∀ i, i < n → ∃ y : (Option Addr × Nat × Nat) × List UInt8, V i = .slice y.1.1 y.1.2.1 y.1.2.2 ∧ ArgByts W y.1.1 y.1.2.1 y.1.2.2 y.2 := by
      intro i hi
      have h2 := (hx i (by omega)).2
      obtain ⟨A', n', c', hV⟩ : ∃ A' n' c', V i = .slice A' n' c' := by
        rcases open_ints he hq cq h2 with ⟨h3, _⟩ | ⟨a', l', c', _, h3, _⟩
        · exact ⟨_, _, _, by simpa using h3⟩
        · exact ⟨_, _, _, by simpa using h3⟩
      rw [hV] at h2
      obtain ⟨bs, hbs⟩ := argByts he hq cq h2
      exact ⟨((A', n', c'), bs), hV, hbs⟩
    obtain ⟨y, hy⟩ := Go.Deep.choose_lt each
    refine ⟨(List.range n).map fun i => (y i).1, (List.range n).map fun i => (y i).2, hl, hm, ⟨by simp, fun hn => ?_⟩, by simp, fun k r ss hr hs => ?_⟩
    · obtain ⟨b, off, spot⟩ := a
      have h0 := (hx 0 (by omega)).1
      have hspot : spot = none := by simpa [Addr.add] using World.cell?_spot h0
      subst hspot
      refine ⟨b, off, rfl, by simpa [Addr.add] using World.block_lt_of_cell? _ _ h0, fun j u hu => ?_⟩
      have hj : j < n := by
        have := (List.getElem?_eq_some_iff.1 hu).1
        simp at this; omega
      have hcj := (hx j (by omega)).1
      rw [show (⟨b, off, none⟩ : Addr).add j = ⟨b, off + j, none⟩ from by unfold Addr.add; split <;> simp_all] at hcj
      rw [hcj, ← hu, (hy j hj).1]
      simp [hj]
    · have hk : k < n := by have := (List.getElem?_eq_some_iff.1 hr).1; simpa using this
      simp [hk] at hr hs
      subst hr; subst hs
      obtain ⟨_, h1, h2, h3⟩ := hy k hk
      exact ⟨h1, h2, h3⟩

theorem list2 {α : Type} (l : List α) (h : l.length = 2) : ∃ a b, l = [a, b] := by
  match l, h with
  | [a, b], _ => exact ⟨a, b, rfl⟩
theorem list4 {α : Type} (l : List α) (h : l.length = 4) : ∃ a b c d, l = [a, b, c, d] := by
  match l, h with
  | [a, b, c, d], _ => exact ⟨a, b, c, d, rfl⟩

theorem span_cells {H : Type} {enc : TypeId × Value → H} {P : Program} {W : World} {base : Nat} {spare : Nat → Bool} {held : Bool} {q i : TypeId} {g0 g1 : Field} {fuel : Nat} {c0 c1 : Value} {x : DataW H × List MemPlace}
    (hq : P.underlying q = some (.struct #[g0, g1])) (t0 : g0.type = i) (t1 : g1.type = i) (o0 : g0.offset = 0) (o1 : g1.offset = 1) (hi : P.underlying i = some (.int .i64)) (ci : P.cellsOf i = 1)
    (h : DataW.trod enc P W base spare held fuel q [c0, c1] = some x) : ∃ u v, c0 = .int .i64 u ∧ c1 = .int .i64 v ∧ inR u ∧ inR v := by
  obtain ⟨y0, y1, m, _, _, h0, h1⟩ := trod_struct2 hq h
  rw [t0, o0, ci] at h0
  rw [t1, o1, ci] at h1
  simp at h0 h1
  obtain ⟨u, e0, _, w0⟩ := DataW.trod_int hi h0
  obtain ⟨v, e1, _, w1⟩ := DataW.trod_int hi h1
  simp at e0 e1
  exact ⟨u, v, e0, e1, bounds_i64 w0, bounds_i64 w1⟩

/-- A slice of spans that came in. -/
theorem argSpans {H : Type} {enc : TypeId × Value → H} {P : Program} {W : World} {base : Nat} {held : Bool} {t q i : TypeId} {g0 g1 : Field} {fuel : Nat} {A : Option Addr} {n c : Nat} {x : DataW H × List MemPlace}
    (ht : P.underlying t = some (.slice q)) (hq : P.underlying q = some (.struct #[g0, g1])) (t0 : g0.type = i) (t1 : g1.type = i) (o0 : g0.offset = 0) (o1 : g1.offset = 1) (hi : P.underlying i = some (.int .i64)) (cq : P.cellsOf q = 2) (ci : P.cellsOf i = 1)
    (h : DataW.trod enc P W base (fun _ => true) held fuel t [.slice A n c] = some x) : ∃ ss, n ≤ c ∧ c ≤ maxLen ∧ (∀ s ∈ ss, inR s.1 ∧ inR s.2) ∧ Spans W W.heap.size A n ss := by
  rcases Go.Deep.open_slice ht h with ⟨hcs, _⟩ | ⟨a, len, cap, m, m', D, Pl, hcs, _, hl, hm, hmm, _, hx⟩
  · simp at hcs
    obtain ⟨rfl, rfl, rfl⟩ := hcs
    exact ⟨[], Nat.le_refl _, Nat.zero_le _, by simp, rfl, fun h => absurd h (by omega)⟩
  · simp at hcs
    obtain ⟨rfl, rfl, rfl⟩ := hcs
    simp only [if_true] at hmm
    subst hmm
    rw [cq] at hx
    have each : ∀ k, k < n → ∃ p : Sp, (inR p.1 ∧ inR p.2) ∧ W.cell? (a.add (k * 2)) = some (.int .i64 p.1) ∧ W.cell? ((a.add (k * 2)).add 1) = some (.int .i64 p.2) := by
      intro k hk
      obtain ⟨cs', h1, h2⟩ := hx k (by omega)
      obtain ⟨_, hlen, hcell⟩ := World.cells?_some h1
      obtain ⟨c0, c1, rfl⟩ := list2 cs' hlen
      obtain ⟨u0, u1, rfl, rfl, r0, r1⟩ := span_cells hq t0 t1 o0 o1 hi ci h2
      have hadd : (a.add (k * 2)).add 0 = a.add (k * 2) := by simp [Addr.add]
      have q0 := hcell 0 (by omega)
      rw [hadd] at q0
      exact ⟨(u0, u1), ⟨r0, r1⟩, by rw [q0]; rfl, by rw [hcell 1 (by omega)]; rfl⟩
    obtain ⟨p, hp⟩ := Go.Deep.choose_lt each
    refine ⟨(List.range n).map p, hl, hm, fun y hy => ?_, by simp, fun hn => ?_⟩
    · obtain ⟨k, hk, rfl⟩ := List.mem_map.1 hy
      exact (hp k (List.mem_range.1 hk)).1
    · obtain ⟨b, off, spot⟩ := a
      have h0 := (hp 0 hn).2.1
      have hspot : spot = none := by simpa [Addr.add] using World.cell?_spot h0
      subst hspot
      refine ⟨b, off, rfl, by simpa [Addr.add] using World.block_lt_of_cell? _ _ h0, fun j y hy => ?_⟩
      have hj : j < n := by
        have := (List.getElem?_eq_some_iff.1 hy).1
        simpa using this
      simp [hj] at hy
      subst hy
      obtain ⟨_, h1, h2⟩ := hp j hj
      have a1 : (⟨b, off, none⟩ : Addr).add (j * 2) = ⟨b, off + j * 2, none⟩ := by unfold Addr.add; split <;> simp_all
      have ar : ∀ r, (⟨b, off + j * 2, none⟩ : Addr).add r = ⟨b, off + j * 2 + r, none⟩ := fun r => by unfold Addr.add; split <;> simp_all
      rw [a1] at h1 h2
      rw [ar] at h2
      exact ⟨h1, h2⟩

theorem argCks {H : Type} {enc : TypeId × Value → H} {P : Program} {W : World} {base : Nat} {held : Bool} {t e q i sl b : TypeId} {f0 f1 f2 g0 g1 : Field} {fuel : Nat} {A : Option Addr} {n c : Nat} {x : DataW H × List MemPlace}
    (ht : P.underlying t = some (.slice e)) (he : P.underlying e = some (.struct #[f0, f1, f2])) (a0 : f0.type = b) (a1 : f1.type = q) (a2 : f2.type = sl) (b0 : f0.offset = 0) (b1 : f1.offset = 1) (b2 : f2.offset = 3)
    (hb : P.underlying b = some .bool) (hs : P.underlying sl = some (.slice q)) (hq : P.underlying q = some (.struct #[g0, g1])) (t0 : g0.type = i) (t1 : g1.type = i) (o0 : g0.offset = 0) (o1 : g1.offset = 1) (hi : P.underlying i = some (.int .i64))
    (ce : P.cellsOf e = 4) (cb : P.cellsOf b = 1) (cs : P.cellsOf sl = 1) (cq : P.cellsOf q = 2) (ci : P.cellsOf i = 1)
    (h : DataW.trod enc P W base (fun _ => true) held fuel t [.slice A n c] = some x) : ∃ xs, n ≤ c ∧ c ≤ maxLen ∧ CksR xs ∧ Cks W W.heap.size A n xs := by
  rcases Go.Deep.open_slice ht h with ⟨hcs, _⟩ | ⟨a, len, cap, m, m', D, Pl, hcs, _, hl, hm, hmm, _, hx⟩
  · simp at hcs
    obtain ⟨rfl, rfl, rfl⟩ := hcs
    exact ⟨[], Nat.le_refl _, Nat.zero_le _, (fun v hv => by cases hv), Cks.nil _ _ _⟩
  · simp at hcs
    obtain ⟨rfl, rfl, rfl⟩ := hcs
    simp only [if_true] at hmm
    subst hmm
    rw [ce] at hx
    have each : ∀ k, k < n → ∃ p : Ck × (Option Addr × Nat × Nat), (inR p.1.2.1.1 ∧ inR p.1.2.1.2 ∧ ∀ s ∈ p.1.2.2, inR s.1 ∧ inR s.2) ∧ W.cell? (a.add (k * 4)) = some (.bool p.1.1) ∧ W.cell? ((a.add (k * 4)).add 1) = some (.int .i64 p.1.2.1.1) ∧ W.cell? ((a.add (k * 4)).add 2) = some (.int .i64 p.1.2.1.2) ∧
        W.cell? ((a.add (k * 4)).add 3) = some (.slice p.2.1 p.2.2.1 p.2.2.2) ∧ p.2.2.1 ≤ p.2.2.2 ∧ p.2.2.2 ≤ maxLen ∧ Spans W W.heap.size p.2.1 p.2.2.1 p.1.2.2 := by
      intro k hk
      obtain ⟨cs', h1, h2⟩ := hx k (by omega)
      obtain ⟨_, hlen, hcell⟩ := World.cells?_some h1
      obtain ⟨c0, c1, c2, c3, rfl⟩ := list4 cs' hlen
      obtain ⟨y0, y1, y2, m2, _, _, s0, s1, s2⟩ := Go.Deep.trod_struct3 he h2
      rw [a0, b0, cb] at s0
      rw [a1, b1, cq] at s1
      rw [a2, b2, cs] at s2
      simp at s0 s1 s2
      obtain ⟨u, hu, _⟩ := DataW.trod_bool hb s0
      simp at hu
      subst hu
      obtain ⟨u0, u1, rfl, rfl, r0, r1⟩ := span_cells hq t0 t1 o0 o1 hi ci s1
      obtain ⟨A', n', c', rfl⟩ : ∃ A' n' c', c3 = .slice A' n' c' := by
        rcases Go.Deep.open_slice hs s2 with ⟨h3, _⟩ | ⟨a', l', c', _, _, _, _, h3, _⟩
        · exact ⟨_, _, _, by simpa using h3⟩
        · exact ⟨_, _, _, by simpa using h3⟩
      obtain ⟨ss, d1, d2, d3, d4⟩ := argSpans hs hq t0 t1 o0 o1 hi cq ci s2
      have hadd : (a.add (k * 4)).add 0 = a.add (k * 4) := by simp [Addr.add]
      have q0 := hcell 0 (by omega)
      rw [hadd] at q0
      exact ⟨((u, (u0, u1), ss), (A', n', c')), ⟨r0, r1, d3⟩, by rw [q0]; rfl, by rw [hcell 1 (by omega)]; rfl, by rw [hcell 2 (by omega)]; rfl, by rw [hcell 3 (by omega)]; rfl, d1, d2, d4⟩
    obtain ⟨p, hp⟩ := Go.Deep.choose_lt each
    refine ⟨(List.range n).map fun k => (p k).1, hl, hm, fun y hy => ?_, by simp, fun hn => ?_⟩
    · obtain ⟨k, hk, rfl⟩ := List.mem_map.1 hy
      exact (hp k (List.mem_range.1 hk)).1
    · obtain ⟨b, off, spot⟩ := a
      have h0 := (hp 0 hn).2.1
      have hspot : spot = none := by simpa [Addr.add] using World.cell?_spot h0
      subst hspot
      refine ⟨b, off, rfl, by simpa [Addr.add] using World.block_lt_of_cell? _ _ h0, fun j y hy => ?_⟩
      have hj : j < n := by
        have := (List.getElem?_eq_some_iff.1 hy).1
        simpa using this
      simp [hj] at hy
      subst hy
      obtain ⟨_, h1, h2, h3, h4, h5, h6, h7⟩ := hp j hj
      have a1 : (⟨b, off, none⟩ : Addr).add (j * 4) = ⟨b, off + j * 4, none⟩ := by unfold Addr.add; split <;> simp_all
      have ar : ∀ r, (⟨b, off + j * 4, none⟩ : Addr).add r = ⟨b, off + j * 4 + r, none⟩ := fun r => by unfold Addr.add; split <;> simp_all
      rw [a1] at h1 h2 h3 h4
      rw [ar] at h2 h3 h4
      exact ⟨h1, h2, h3, _, _, _, h4, h5, h6, h7⟩
end Go.Proofs.Ytijinhhlikhjfaa

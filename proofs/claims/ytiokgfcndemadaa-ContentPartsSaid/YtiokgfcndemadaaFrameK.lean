/- Proved here: what comes in as a chunk has a span, and a slice of spans that reads as a list. -/
import Derived.Test.YtiokgfcndemadaaFrameT
import Derived.Test.YtiokgfcndemadaaCkSl
import Derived.Deep.Strs
import Derived.ChangeSame
namespace Go.Proofs.Ytiokgfcndemadaa
open Go.ChangeShapes Go.WideShapes Go.ChangeAt Go.RowKit
set_option linter.unusedVariables false

theorem listK2 {α : Type} (l : List α) (h : l.length = 2) : ∃ a b, l = [a, b] := by
  match l, h with
  | [a, b], _ => exact ⟨a, b, rfl⟩
theorem listK4 {α : Type} (l : List α) (h : l.length = 4) : ∃ a b c d, l = [a, b, c, d] := by
  match l, h with
  | [a, b, c, d], _ => exact ⟨a, b, c, d, rfl⟩
theorem span_cellsK {H : Type} {enc : TypeId × Value → H} {P : Program} {W : World} {base : Nat} {spare : Nat → Bool} {held : Bool} {q i : TypeId} {g0 g1 : Field} {fuel : Nat} {c0 c1 : Value} {x : DataW H × List MemPlace}
    (hq : P.underlying q = some (.struct #[g0, g1])) (t0 : g0.type = i) (t1 : g1.type = i) (o0 : g0.offset = 0) (o1 : g1.offset = 1) (hi : P.underlying i = some (.int .i64)) (ci : P.cellsOf i = 1)
    (h : DataW.trod enc P W base spare held fuel q [c0, c1] = some x) : ∃ u v, c0 = .int .i64 u ∧ c1 = .int .i64 v := by
  obtain ⟨y0, y1, m, _, _, h0, h1⟩ := trod_struct2 hq h
  rw [t0, o0, ci] at h0
  rw [t1, o1, ci] at h1
  simp at h0 h1
  obtain ⟨u, e0, _, w0⟩ := DataW.trod_int hi h0
  obtain ⟨v, e1, _, w1⟩ := DataW.trod_int hi h1
  simp at e0 e1
  exact ⟨u, v, e0, e1⟩
theorem argSpansK {H : Type} {enc : TypeId × Value → H} {P : Program} {W : World} {base : Nat} {held : Bool} {t q i : TypeId} {g0 g1 : Field} {fuel : Nat} {A : Option Addr} {n c : Nat} {x : DataW H × List MemPlace}
    (ht : P.underlying t = some (.slice q)) (hq : P.underlying q = some (.struct #[g0, g1])) (t0 : g0.type = i) (t1 : g1.type = i) (o0 : g0.offset = 0) (o1 : g1.offset = 1) (hi : P.underlying i = some (.int .i64)) (cq : P.cellsOf q = 2) (ci : P.cellsOf i = 1)
    (h : DataW.trod enc P W base (fun _ => true) held fuel t [.slice A n c] = some x) : ∃ ss, n ≤ c ∧ c ≤ maxLen ∧ Spans W W.heap.size A n ss := by
  rcases Go.Deep.open_slice ht h with ⟨hcs, _⟩ | ⟨a, len, cap, m, m', D, Pl, hcs, _, hl, hm, hmm, _, hx⟩
  · simp at hcs
    obtain ⟨rfl, rfl, rfl⟩ := hcs
    exact ⟨[], Nat.le_refl _, Nat.zero_le _, rfl, fun h => absurd h (by omega)⟩
  · simp at hcs
    obtain ⟨rfl, rfl, rfl⟩ := hcs
    simp only [if_true] at hmm
    subst hmm
    rw [cq] at hx
    have each : ∀ k, k < n → ∃ p : Sp, W.cell? (a.add (k * 2)) = some (.int .i64 p.1) ∧ W.cell? ((a.add (k * 2)).add 1) = some (.int .i64 p.2) := by
      intro k hk
      obtain ⟨cs', h1, h2⟩ := hx k (by omega)
      obtain ⟨_, hlen, hcell⟩ := World.cells?_some h1
      obtain ⟨c0, c1, rfl⟩ := listK2 cs' hlen
      obtain ⟨u0, u1, rfl, rfl⟩ := span_cellsK hq t0 t1 o0 o1 hi ci h2
      have hadd : (a.add (k * 2)).add 0 = a.add (k * 2) := by simp [Addr.add]
      have q0 := hcell 0 (by omega)
      rw [hadd] at q0
      exact ⟨(u0, u1), by rw [q0]; rfl, by rw [hcell 1 (by omega)]; rfl⟩
    obtain ⟨p, hp⟩ := Go.Deep.choose_lt each
    refine ⟨(List.range n).map p, hl, hm, by simp, fun hn => ?_⟩
    obtain ⟨b, off, spot⟩ := a
    have h0 := (hp 0 hn).1
    have hspot : spot = none := by simpa [Addr.add] using World.cell?_spot h0
    subst hspot
    refine ⟨b, off, rfl, by simpa [Addr.add] using World.block_lt_of_cell? _ _ h0, fun j y hy => ?_⟩
    have hj : j < n := by
      have := (List.getElem?_eq_some_iff.1 hy).1
      simpa using this
    simp [hj] at hy
    subst hy
    obtain ⟨h1, h2⟩ := hp j hj
    have a1 : (⟨b, off, none⟩ : Addr).add (j * 2) = ⟨b, off + j * 2, none⟩ := by unfold Addr.add; split <;> simp_all
    have ar : ∀ r, (⟨b, off + j * 2, none⟩ : Addr).add r = ⟨b, off + j * 2 + r, none⟩ := fun r => by unfold Addr.add; split <;> simp_all
    rw [a1] at h1 h2
    rw [ar] at h2
    exact ⟨h1, h2⟩

/-- A chunk that came in. -/
theorem argChunk {H : Type} {enc : TypeId × Value → H} {P : Program} {W : World} {r : Reach} {base b0 : Nat} {held : Bool} {e q i sl b : TypeId} {f0 f1 f2 g0 g1 : Field} {v : Value} {d : DataW H} {p : List MemPlace}
    (he : P.underlying e = some (.struct #[f0, f1, f2])) (a0 : f0.type = b) (a1 : f1.type = q) (a2 : f2.type = sl) (b0' : f0.offset = 0) (b1 : f1.offset = 1) (b2 : f2.offset = 3)
    (hb : P.underlying b = some .bool) (hs : P.underlying sl = some (.slice q)) (hq : P.underlying q = some (.struct #[g0, g1])) (t0 : g0.type = i) (t1 : g1.type = i) (o0 : g0.offset = 0) (o1 : g1.offset = 1) (hi : P.underlying i = some (.int .i64))
    (ce : P.cellsOf e = 4) (cb : P.cellsOf b = 1) (cs : P.cellsOf sl = 1) (cq : P.cellsOf q = 2) (ci : P.cellsOf i = 1) (hv : Value.okWide P W r b0 e v)
    (h : DataW.Trod enc P W base (fun _ => true) held e v d p) : ∃ st f t A n c ss, v = .agg #[.bool st, .int .i64 f, .int .i64 t, .slice A n c] ∧ n ≤ c ∧ c ≤ maxLen ∧ Spans W W.heap.size A n ss := by
  obtain ⟨cells, rfl, hsz, _⟩ : ∃ cs, v = .agg cs ∧ cs.size = P.cellsOf e ∧ Row.okWide P W r b0 e cs := by
    simpa [Value.okWide, he] using hv
  rw [ce] at hsz
  obtain ⟨l⟩ := cells
  obtain ⟨c0, c1, c2, c3, rfl⟩ := listK4 l hsz
  obtain ⟨fuel, hf⟩ := h
  obtain ⟨y0, y1, y2, m2, _, _, s0, s1, s2⟩ := Go.Deep.trod_struct3 he hf
  rw [a0, b0', cb] at s0
  rw [a1, b1, cq] at s1
  rw [a2, b2, cs] at s2
  simp [Value.cells] at s0 s1 s2
  obtain ⟨u, hu, _⟩ := DataW.trod_bool hb s0
  simp at hu
  subst hu
  obtain ⟨u0, u1, rfl, rfl⟩ := span_cellsK hq t0 t1 o0 o1 hi ci s1
  obtain ⟨A', n', c', rfl⟩ : ∃ A' n' c', c3 = .slice A' n' c' := by
    rcases Go.Deep.open_slice hs s2 with ⟨h3, _⟩ | ⟨a', l', c', _, _, _, _, h3, _⟩
    · exact ⟨_, _, _, by simpa using h3⟩
    · exact ⟨_, _, _, by simpa using h3⟩
  obtain ⟨ss, d1, d2, d4⟩ := argSpansK hs hq t0 t1 o0 o1 hi cq ci s2
  exact ⟨u, u0, u1, A', n', c', ss, rfl, d1, d2, d4⟩
end Go.Proofs.Ytiokgfcndemadaa

/- Proved here: texts joined: FrameP, FrameQ. -/
import Derived.Test.YtidfhgocnglnjaaBz04
import Derived.Test.YtidfhgocnglnjaaBz06
import Derived.Deep.Strs
import Derived.ChangeSame
/- Proved here: what comes in as a slice of pieces reads as a list; what comes in as a way to resolve conflicts has a number and a Bool. -/
namespace Go.Proofs.Ytidfhgocnglnjaa
open Go.ChangeShapes Go.WideShapes Go.ChangeAt Go.RowKit
set_option linter.unusedVariables false

section
variable {H : Type} {enc : TypeId × Value → H} {P : Program} {W : World} {base : Nat} {spare : Nat → Bool} {held : Bool}
theorem trod_struct4 {t : TypeId} {f0 f1 f2 f3 : Field} {fuel : Nat} {cs : List Value} {x : DataW H × List MemPlace} (ht : P.underlying t = some (.struct #[f0, f1, f2, f3])) (h : DataW.trod enc P W base spare held fuel t cs = some x) :
    ∃ y0 y1 y2 y3 n, cs.length = P.cellsOf t ∧ DataW.trod enc P W base spare held n f0.type ((cs.drop f0.offset).take (P.cellsOf f0.type)) = some y0 ∧ DataW.trod enc P W base spare held n f1.type ((cs.drop f1.offset).take (P.cellsOf f1.type)) = some y1 ∧
      DataW.trod enc P W base spare held n f2.type ((cs.drop f2.offset).take (P.cellsOf f2.type)) = some y2 ∧ DataW.trod enc P W base spare held n f3.type ((cs.drop f3.offset).take (P.cellsOf f3.type)) = some y3 := by
  obtain ⟨xs, n, _, rfl, hl, hlen, hf⟩ := DataW.trod_struct ht h
  match xs, hlen with
  | [y0, y1, y2, y3], _ => exact ⟨y0, y1, y2, y3, n, hl, by simpa using hf 0 f0 rfl, by simpa using hf 1 f1 rfl, by simpa using hf 2 f2 rfl, by simpa using hf 3 f3 rfl⟩
theorem slc_of {t e : TypeId} {fuel : Nat} {u : Value} {x : DataW H × List MemPlace} (ht : P.underlying t = some (.slice e)) (h : DataW.trod enc P W base spare held fuel t [u] = some x) : ∃ A n c, u = .slice A n c := by
  rcases Go.Deep.open_slice ht h with ⟨h3, _⟩ | ⟨a', l', c', _, _, _, _, h3, _⟩
  · exact ⟨_, _, _, by simpa using h3⟩
  · exact ⟨_, _, _, by simpa using h3⟩
end
theorem addr_plus (b o k : Nat) : (⟨b, o, none⟩ : Addr).add k = ⟨b, o + k, none⟩ := by unfold Addr.add; split <;> simp_all
theorem fourP {α : Type} (l : List α) (h : l.length = 4) : ∃ a b c d, l = [a, b, c, d] := by
  match l, h with
  | [a, b, c, d], _ => exact ⟨a, b, c, d, rfl⟩
theorem twoP {α : Type} (l : List α) (h : l.length = 2) : ∃ a b, l = [a, b] := by
  match l, h with
  | [a, b], _ => exact ⟨a, b, rfl⟩

/-- Pieces that came in. -/
theorem argPcs {H : Type} {enc : TypeId × Value → H} {P : Program} {W : World} {base : Nat} {held : Bool} {t e sl ss s b : TypeId} {f0 f1 f2 f3 : Field} {fuel : Nat} {A : Option Addr} {n c : Nat} {x : DataW H × List MemPlace}
    (ht : P.underlying t = some (.slice e)) (he : P.underlying e = some (.struct #[f0, f1, f2, f3])) (a0 : f0.type = b) (a1 : f1.type = sl) (a2 : f2.type = sl) (a3 : f3.type = ss) (b0 : f0.offset = 0) (b1 : f1.offset = 1) (b2 : f2.offset = 2) (b3 : f3.offset = 3)
    (hb : P.underlying b = some .bool) (hsl : P.underlying sl = some (.slice s)) (hss : P.underlying ss = some (.slice sl)) (hs : P.underlying s = some .string)
    (ce : P.cellsOf e = 4) (cb : P.cellsOf b = 1) (csl : P.cellsOf sl = 1) (css : P.cellsOf ss = 1) (cs : P.cellsOf s = 1)
    (h : DataW.trod enc P W base (fun _ => true) held fuel t [.slice A n c] = some x) : ∃ vs ps, n ≤ c ∧ c ≤ maxLen ∧ Pcs W W.heap.size A n vs ps := by
  rcases Go.Deep.open_slice ht h with ⟨hcs, _⟩ | ⟨a, len, cap, m, m', D, Pl, hcs, _, hl, hm, hmm, _, hx⟩
  · simp at hcs
    obtain ⟨rfl, rfl, rfl⟩ := hcs
    exact ⟨[], [], Nat.le_refl _, Nat.zero_le _, Pcs.nil _ _ _⟩
  · simp at hcs
    obtain ⟨rfl, rfl, rfl⟩ := hcs
    simp only [if_true] at hmm
    subst hmm
    rw [ce] at hx
    have each : ∀ k, k < n → ∃ p : PcV × Pc, W.cell? (a.add (k * 4)) = some (.bool p.2.1) ∧ W.cell? ((a.add (k * 4)).add 1) = some (slcV p.1.1) ∧ W.cell? ((a.add (k * 4)).add 2) = some (slcV p.1.2.1) ∧ W.cell? ((a.add (k * 4)).add 3) = some (slcV p.1.2.2) ∧ PcR W W.heap.size p.1 p.2 := by
      intro k hk
      obtain ⟨cs', h1, h2⟩ := hx k (by omega)
      obtain ⟨_, hlen, hcell⟩ := World.cells?_some h1
      obtain ⟨c0, c1, c2, c3, rfl⟩ := fourP cs' hlen
      obtain ⟨y0, y1, y2, y3, m2, _, s0, s1, s2, s3⟩ := trod_struct4 he h2
      rw [a0, b0, cb] at s0
      rw [a1, b1, csl] at s1
      rw [a2, b2, csl] at s2
      rw [a3, b3, css] at s3
      simp at s0 s1 s2 s3
      obtain ⟨u, hu, _⟩ := DataW.trod_bool hb s0
      simp at hu
      subst hu
      obtain ⟨A1, n1, k1, rfl⟩ := slc_of hsl s1
      obtain ⟨A2, n2, k2, rfl⟩ := slc_of hsl s2
      obtain ⟨A3, n3, k3, rfl⟩ := slc_of hss s3
      obtain ⟨t1, w1⟩ := argStrs hsl hs cs s1
      obtain ⟨t2, w2⟩ := argStrs hsl hs cs s2
      obtain ⟨r3, t3, d1, d2, d3⟩ := argTs hss hsl hs csl cs s3
      have hadd : (a.add (k * 4)).add 0 = a.add (k * 4) := by simp [Addr.add]
      have q0 := hcell 0 (by omega)
      rw [hadd] at q0
      exact ⟨(((A1, n1, k1), (A2, n2, k2), (A3, n3, k3)), (u, t1, t2, t3)), by rw [q0]; rfl, by rw [hcell 1 (by omega)]; rfl, by rw [hcell 2 (by omega)]; rfl, by rw [hcell 3 (by omega)]; rfl, w1.txR, w2.txR, d1, d2, r3, d3⟩
    obtain ⟨p, hp⟩ := Go.Deep.choose_lt each
    have key : ∀ (j : Nat) (v : PcV) (q : Pc), ((List.range n).map fun k => (p k).1)[j]? = some v → ((List.range n).map fun k => (p k).2)[j]? = some q → j < n ∧ (p j).1 = v ∧ (p j).2 = q := by
      intro j v q hv hq
      have hj : j < n := by
        have := (List.getElem?_eq_some_iff.1 hv).1
        simpa using this
      simp [hj] at hv hq
      exact ⟨hj, hv, hq⟩
    refine ⟨(List.range n).map fun k => (p k).1, (List.range n).map fun k => (p k).2, hl, hm, by simp, by simp, fun hn => ?_, fun j v q hv hq => ?_⟩
    · obtain ⟨b, off, spot⟩ := a
      have h0 := (hp 0 hn).1
      have hspot : spot = none := by simpa [Addr.add] using World.cell?_spot h0
      subst hspot
      refine ⟨b, off, rfl, by simpa [Addr.add] using World.block_lt_of_cell? _ _ h0, fun j v q hv hq => ?_⟩
      obtain ⟨hj, rfl, rfl⟩ := key j v q hv hq
      obtain ⟨h1, h2, h3, h4, h5⟩ := hp j hj
      have e1 : (⟨b, off, none⟩ : Addr).add (j * 4) = ⟨b, off + j * 4, none⟩ := addr_plus _ _ _
      have er : ∀ r, (⟨b, off + j * 4, none⟩ : Addr).add r = ⟨b, off + j * 4 + r, none⟩ := fun r => addr_plus _ _ _
      rw [e1] at h1 h2 h3 h4
      rw [er] at h2 h3 h4
      exact ⟨h1, h2, h3, h4⟩
    · obtain ⟨hj, rfl, rfl⟩ := key j v q hv hq
      exact (hp j hj).2.2.2.2

/-- A way to resolve conflicts that came in. -/
theorem argHow {H : Type} {enc : TypeId × Value → H} {P : Program} {W : World} {r : Reach} {base b0 : Nat} {held : Bool} {e i b : TypeId} {f0 f1 : Field} {v : Value} {d : DataW H} {p : List MemPlace}
    (he : P.underlying e = some (.struct #[f0, f1])) (a0 : f0.type = i) (a1 : f1.type = b) (o0 : f0.offset = 0) (o1 : f1.offset = 1) (hi : P.underlying i = some (.int .i64)) (hb : P.underlying b = some .bool) (ce : P.cellsOf e = 2) (ci : P.cellsOf i = 1) (cb : P.cellsOf b = 1) (hv : Value.okWide P W r b0 e v)
    (h : DataW.Trod enc P W base (fun _ => true) held e v d p) : ∃ fav un, v = .agg #[.int .i64 fav, .bool un] ∧ -9223372036854775808 ≤ fav ∧ fav ≤ 9223372036854775807 := by
  obtain ⟨cells, rfl, hsz, _⟩ : ∃ cs, v = .agg cs ∧ cs.size = P.cellsOf e ∧ Row.okWide P W r b0 e cs := by
    simpa [Value.okWide, he] using hv
  rw [ce] at hsz
  obtain ⟨l⟩ := cells
  obtain ⟨c0, c1, rfl⟩ := twoP l hsz
  obtain ⟨fuel, hf⟩ := h
  obtain ⟨y0, y1, m2, _, _, s0, s1⟩ := trod_struct2 he hf
  rw [a0, o0, ci] at s0
  rw [a1, o1, cb] at s1
  simp [Value.cells] at s0 s1
  obtain ⟨u, e0, _, w0⟩ := DataW.trod_int hi s0
  obtain ⟨q, e1, _⟩ := DataW.trod_bool hb s1
  simp at e0 e1
  subst e0
  subst e1
  exact ⟨u, q, rfl, bounds_i64 w0⟩
end Go.Proofs.Ytidfhgocnglnjaa
/- Proved here: what comes in as a piece has a Bool, two slices of texts, and a slice of such, that read as lists. -/
namespace Go.Proofs.Ytidfhgocnglnjaa
open Go.ChangeShapes Go.WideShapes Go.ChangeAt Go.RowKit
set_option linter.unusedVariables false

/-- A piece that came in. -/
theorem argPiece {H : Type} {enc : TypeId × Value → H} {P : Program} {W : World} {r : Reach} {base q0 : Nat} {held : Bool} {e sl ss s b : TypeId} {f0 f1 f2 f3 : Field} {v : Value} {d : DataW H} {p : List MemPlace}
    (he : P.underlying e = some (.struct #[f0, f1, f2, f3])) (a0 : f0.type = b) (a1 : f1.type = sl) (a2 : f2.type = sl) (a3 : f3.type = ss) (b0 : f0.offset = 0) (b1 : f1.offset = 1) (b2 : f2.offset = 2) (b3 : f3.offset = 3)
    (hb : P.underlying b = some .bool) (hsl : P.underlying sl = some (.slice s)) (hss : P.underlying ss = some (.slice sl)) (hs : P.underlying s = some .string)
    (ce : P.cellsOf e = 4) (cb : P.cellsOf b = 1) (csl : P.cellsOf sl = 1) (css : P.cellsOf ss = 1) (cs : P.cellsOf s = 1) (hv : Value.okWide P W r q0 e v)
    (h : DataW.Trod enc P W base (fun _ => true) held e v d p) : ∃ (vp : PcV) (q : Pc), v = .agg #[.bool q.1, .slice vp.1.1 vp.1.2.1 vp.1.2.2, .slice vp.2.1.1 vp.2.1.2.1 vp.2.1.2.2, .slice vp.2.2.1 vp.2.2.2.1 vp.2.2.2.2] ∧ PcR W W.heap.size vp q := by
  obtain ⟨cells, rfl, hsz, _⟩ : ∃ cs, v = .agg cs ∧ cs.size = P.cellsOf e ∧ Row.okWide P W r q0 e cs := by
    simpa [Value.okWide, he] using hv
  rw [ce] at hsz
  obtain ⟨l⟩ := cells
  obtain ⟨c0, c1, c2, c3, rfl⟩ := fourP l hsz
  obtain ⟨fuel, hf⟩ := h
  obtain ⟨y0, y1, y2, y3, m2, _, s0, s1, s2, s3⟩ := trod_struct4 he hf
  rw [a0, b0, cb] at s0
  rw [a1, b1, csl] at s1
  rw [a2, b2, csl] at s2
  rw [a3, b3, css] at s3
  simp [Value.cells] at s0 s1 s2 s3
  obtain ⟨u, hu, _⟩ := DataW.trod_bool hb s0
  simp at hu
  subst hu
  obtain ⟨A1, n1, k1, rfl⟩ := slc_of hsl s1
  obtain ⟨A2, n2, k2, rfl⟩ := slc_of hsl s2
  obtain ⟨A3, n3, k3, rfl⟩ := slc_of hss s3
  obtain ⟨t1, w1⟩ := argStrs hsl hs cs s1
  obtain ⟨t2, w2⟩ := argStrs hsl hs cs s2
  obtain ⟨r3, t3, d1, d2, d3⟩ := argTs hss hsl hs csl cs s3
  exact ⟨((A1, n1, k1), (A2, n2, k2), (A3, n3, k3)), (u, t1, t2, t3), rfl, w1.txR, w2.txR, d1, d2, r3, d3⟩
end Go.Proofs.Ytidfhgocnglnjaa

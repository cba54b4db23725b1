/- Proved here: texts joined: Pcs. -/
import Derived.Test.YtcpopnhnihbofaaDoorBd03
import Derived.Test.YtcpopnhnihbofaaDoorBd05
/- Proved here, without conditions on the program: slices of pieces that read as lists. -/
namespace Go.Proofs.YtcpopnhnihbofaaDoor
open Go.RowKit
set_option linter.unusedVariables false

/-- A piece's text, base and sides, as slices. -/
abbrev PcV := Slc × Slc × Slc
/-- A slice of slices of texts, by its parts. -/
def SlcR (w : World) (B : Nat) (r : Slc) (sss : List Txs) : Prop := r.2.1 ≤ r.2.2 ∧ r.2.2 ≤ maxLen ∧ ∃ rows, RowsT w B r.1 r.2.1 rows sss
def PcR (w : World) (B : Nat) (v : PcV) (p : Pc) : Prop := TxR w B v.1 p.2.1 ∧ TxR w B v.2.1 p.2.2.1 ∧ SlcR w B v.2.2 p.2.2.2
/-- The cells of a piece. -/
def pcC (c : Bool) (v : PcV) : List Value := [.bool c, slcV v.1, slcV v.2.1, slcV v.2.2]
/-- A slice of pieces. -/
def Pcs (w : World) (B : Nat) (A : Option Addr) (n : Nat) (vs : List PcV) (ps : List Pc) : Prop :=
  ps.length = n ∧ vs.length = n ∧ (0 < n → ∃ b o : Nat, A = some ⟨b, o, none⟩ ∧ b < B ∧ ∀ (j : Nat) (v : PcV) (p : Pc), vs[j]? = some v → ps[j]? = some p →
    w.cell? ⟨b, o + j * 4, none⟩ = some (.bool p.1) ∧ w.cell? ⟨b, o + j * 4 + 1, none⟩ = some (slcV v.1) ∧ w.cell? ⟨b, o + j * 4 + 2, none⟩ = some (slcV v.2.1) ∧ w.cell? ⟨b, o + j * 4 + 3, none⟩ = some (slcV v.2.2)) ∧
  ∀ (j : Nat) (v : PcV) (p : Pc), vs[j]? = some v → ps[j]? = some p → PcR w B v p

section
variable {w w' : World} {B B' n : Nat} {A : Option Addr} {r : Slc} {v : PcV} {p : Pc} {vs : List PcV} {ps : List Pc} {sss : List Txs}
theorem SlcR.keep (h : SlcR w B r sss) (hk : ∀ p : Addr, p.block < B → w'.cell? p = w.cell? p) : SlcR w' B r sss := by
  obtain ⟨h1, h2, rows, h3⟩ := h
  exact ⟨h1, h2, rows, h3.keep hk⟩
theorem SlcR.more (h : SlcR w B r sss) (hB : B ≤ B') : SlcR w B' r sss := by
  obtain ⟨h1, h2, rows, h3⟩ := h
  exact ⟨h1, h2, rows, h3.more hB⟩
theorem SlcR.nil (w : World) (B : Nat) : SlcR w B (none, 0, 0) [] := ⟨Nat.le_refl _, Nat.zero_le _, [], RowsT.nil _ _ _⟩
theorem PcR.keep (h : PcR w B v p) (hk : ∀ p : Addr, p.block < B → w'.cell? p = w.cell? p) : PcR w' B v p := ⟨h.1.keep hk, h.2.1.keep hk, h.2.2.keep hk⟩
theorem PcR.more (h : PcR w B v p) (hB : B ≤ B') : PcR w B' v p := ⟨h.1.more hB, h.2.1.more hB, h.2.2.more hB⟩
theorem PcR.up (h : PcR w w.heap.size v p) (hb : Below w.heap.size w w') : PcR w' w'.heap.size v p := (h.keep fun _ hp => hb.cell hp).more hb.size
theorem Pcs.len (h : Pcs w B A n vs ps) : ps.length = n := h.1
theorem Pcs.keep (h : Pcs w B A n vs ps) (hk : ∀ p : Addr, p.block < B → w'.cell? p = w.cell? p) : Pcs w' B A n vs ps := by
  obtain ⟨h1, h2, h3, h4⟩ := h
  refine ⟨h1, h2, fun hn => ?_, fun j v p a b => (h4 j v p a b).keep hk⟩
  obtain ⟨b, o, e, hb, hc⟩ := h3 hn
  refine ⟨b, o, e, hb, fun j v p a b' => ?_⟩
  obtain ⟨k1, k2, k3, k4⟩ := hc j v p a b'
  exact ⟨(hk _ hb).trans k1, (hk _ hb).trans k2, (hk _ hb).trans k3, (hk _ hb).trans k4⟩
theorem Pcs.more (h : Pcs w B A n vs ps) (hB : B ≤ B') : Pcs w B' A n vs ps := by
  obtain ⟨h1, h2, h3, h4⟩ := h
  refine ⟨h1, h2, fun hn => ?_, fun j v p a b => (h4 j v p a b).more hB⟩
  obtain ⟨b, o, e, hb, hc⟩ := h3 hn
  exact ⟨b, o, e, by omega, hc⟩
theorem Pcs.below (h : Pcs w B A n vs ps) (hb : Below B w w') : Pcs w' B A n vs ps := h.keep fun _ hp => hb.cell hp
theorem Pcs.up (h : Pcs w w.heap.size A n vs ps) (hb : Below w.heap.size w w') : Pcs w' w'.heap.size A n vs ps := (h.below hb).more hb.size
theorem Pcs.drewN (h : Pcs w B A n vs ps) (q : Nat) : Pcs (w.drewN q) B A n vs ps := h.keep fun _ _ => rfl
theorem Pcs.drew (h : Pcs w B A n vs ps) : Pcs w.drew B A n vs ps := h.keep fun _ _ => rfl
theorem Pcs.nil (w : World) (B : Nat) (A : Option Addr) : Pcs w B A 0 [] [] := ⟨rfl, rfl, fun h => absurd h (by omega), fun j v p h => by simp at h⟩
theorem Pcs.at_ {k : Nat} (h : Pcs w B A n vs ps) (hk : k < n) : ∃ b o cf At nt ct Ab nb cb As ns cs t bs ss, A = some ⟨b, o, none⟩ ∧ b < B ∧ vs[k]? = some ((At, nt, ct), (Ab, nb, cb), (As, ns, cs)) ∧ ps[k]? = some (cf, t, bs, ss) ∧
    w.cell? ⟨b, o + k * 4, none⟩ = some (.bool cf) ∧ w.cell? ⟨b, o + k * 4 + 1, none⟩ = some (.slice At nt ct) ∧ w.cell? ⟨b, o + k * 4 + 2, none⟩ = some (.slice Ab nb cb) ∧ w.cell? ⟨b, o + k * 4 + 3, none⟩ = some (.slice As ns cs) ∧
    TxR w B (At, nt, ct) t ∧ TxR w B (Ab, nb, cb) bs ∧ SlcR w B (As, ns, cs) ss := by
  obtain ⟨h1, h2, h3, h4⟩ := h
  obtain ⟨b, o, e, hb, hc⟩ := h3 (by omega)
  have hv : vs[k]? = some (vs[k]'(by omega)) := List.getElem?_eq_getElem _
  have hp : ps[k]? = some (ps[k]'(by omega)) := List.getElem?_eq_getElem _
  obtain ⟨k1, k2, k3, k4⟩ := hc k _ _ hv hp
  obtain ⟨j1, j2, j3⟩ := h4 k _ _ hv hp
  exact ⟨b, o, _, _, _, _, _, _, _, _, _, _, _, _, _, e, hb, hv, hp, k1, k2, k3, k4, j1, j2, j3⟩
end
theorem pcC_one (c : Bool) (v : PcV) : ∀ u ∈ pcC c v, u.oneCell' = true := by
  intro u hu
  simp [pcC] at hu
  rcases hu with rfl | rfl | rfl | rfl <;> rfl
end Go.Proofs.YtcpopnhnihbofaaDoor

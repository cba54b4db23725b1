/- Proved here, without conditions on the program: slices of spans, of chunks, of slices of bytes, that read as lists. -/
import Derived.Test.YtiokgfcndemadaaMore
import Derived.Test.YtiokgfcndemadaaAlignPure
namespace Go.Proofs.Ytiokgfcndemadaa
open Go.RowKit
set_option linter.unusedVariables false

/-- A slice of spans. -/
def Spans (w : World) (B : Nat) (A : Option Addr) (n : Nat) (ss : List Sp) : Prop :=
  ss.length = n ∧ (0 < n → ∃ b o : Nat, A = some ⟨b, o, none⟩ ∧ b < B ∧ ∀ j s, ss[j]? = some s → w.cell? ⟨b, o + j * 2, none⟩ = some (.int .i64 s.1) ∧ w.cell? ⟨b, o + j * 2 + 1, none⟩ = some (.int .i64 s.2))
/-- A slice of chunks. -/
def Cks (w : World) (B : Nat) (A : Option Addr) (n : Nat) (cs : List Ck) : Prop :=
  cs.length = n ∧ (0 < n → ∃ b o : Nat, A = some ⟨b, o, none⟩ ∧ b < B ∧ ∀ j c, cs[j]? = some c →
    w.cell? ⟨b, o + j * 4, none⟩ = some (.bool c.1) ∧ w.cell? ⟨b, o + j * 4 + 1, none⟩ = some (.int .i64 c.2.1.1) ∧ w.cell? ⟨b, o + j * 4 + 2, none⟩ = some (.int .i64 c.2.1.2) ∧
      ∃ A' n' c', w.cell? ⟨b, o + j * 4 + 3, none⟩ = some (.slice A' n' c') ∧ n' ≤ c' ∧ c' ≤ maxLen ∧ Spans w B A' n' c.2.2)
/-- A slice of slices of bytes. -/
def RowsB (w : World) (B : Nat) (A : Option Addr) (n : Nat) (rows : List (Option Addr × Nat × Nat)) (bss : List (List UInt8)) : Prop :=
  Reads w B A n (rows.map fun r => .slice r.1 r.2.1 r.2.2) ∧ rows.length = bss.length ∧ ∀ (k : Nat) (r : Option Addr × Nat × Nat) (bs : List UInt8), rows[k]? = some r → bss[k]? = some bs → r.2.1 ≤ r.2.2 ∧ r.2.2 ≤ maxLen ∧ Byts w B r.1 r.2.1 bs

section
variable {w w' : World} {B B' n : Nat} {A : Option Addr}
theorem Spans.keep {ss : List Sp} (h : Spans w B A n ss) (hk : ∀ p : Addr, p.block < B → w'.cell? p = w.cell? p) : Spans w' B A n ss :=
  ⟨h.1, fun hn => by
    obtain ⟨b, o, e, hb, hc⟩ := h.2 hn
    exact ⟨b, o, e, hb, fun j s hj => ⟨(hk _ hb).trans (hc j s hj).1, (hk _ hb).trans (hc j s hj).2⟩⟩⟩
theorem Spans.more {ss : List Sp} (h : Spans w B A n ss) (hB : B ≤ B') : Spans w B' A n ss :=
  ⟨h.1, fun hn => by
    obtain ⟨b, o, e, hb, hc⟩ := h.2 hn
    exact ⟨b, o, e, by omega, hc⟩⟩
theorem Spans.len {ss : List Sp} (h : Spans w B A n ss) : ss.length = n := h.1
theorem Spans.at_ {ss : List Sp} {k : Nat} (h : Spans w B A n ss) (hk : k < n) : ∃ b o s, A = some ⟨b, o, none⟩ ∧ b < B ∧ ss[k]? = some s ∧ w.cell? ⟨b, o + k * 2, none⟩ = some (.int .i64 s.1) ∧ w.cell? ⟨b, o + k * 2 + 1, none⟩ = some (.int .i64 s.2) := by
  obtain ⟨b, o, e, hb, hc⟩ := h.2 (by omega)
  have hl : k < ss.length := by have := h.1; omega
  exact ⟨b, o, ss[k], e, hb, List.getElem?_eq_getElem hl, hc k _ (List.getElem?_eq_getElem hl)⟩
theorem Cks.keep {cs : List Ck} (h : Cks w B A n cs) (hk : ∀ p : Addr, p.block < B → w'.cell? p = w.cell? p) : Cks w' B A n cs :=
  ⟨h.1, fun hn => by
    obtain ⟨b, o, e, hb, hc⟩ := h.2 hn
    refine ⟨b, o, e, hb, fun j c hj => ?_⟩
    obtain ⟨h1, h2, h3, A', n', c', h4, h5, h6, h7⟩ := hc j c hj
    exact ⟨(hk _ hb).trans h1, (hk _ hb).trans h2, (hk _ hb).trans h3, A', n', c', (hk _ hb).trans h4, h5, h6, h7.keep hk⟩⟩
theorem Cks.more {cs : List Ck} (h : Cks w B A n cs) (hB : B ≤ B') : Cks w B' A n cs :=
  ⟨h.1, fun hn => by
    obtain ⟨b, o, e, hb, hc⟩ := h.2 hn
    refine ⟨b, o, e, by omega, fun j c hj => ?_⟩
    obtain ⟨h1, h2, h3, A', n', c', h4, h5, h6, h7⟩ := hc j c hj
    exact ⟨h1, h2, h3, A', n', c', h4, h5, h6, h7.more hB⟩⟩
theorem Cks.len {cs : List Ck} (h : Cks w B A n cs) : cs.length = n := h.1
theorem Cks.at_ {cs : List Ck} {k : Nat} (h : Cks w B A n cs) (hk : k < n) : ∃ b o c A' n' c', A = some ⟨b, o, none⟩ ∧ b < B ∧ cs[k]? = some c ∧ w.cell? ⟨b, o + k * 4, none⟩ = some (.bool c.1) ∧ w.cell? ⟨b, o + k * 4 + 1, none⟩ = some (.int .i64 c.2.1.1) ∧
    w.cell? ⟨b, o + k * 4 + 2, none⟩ = some (.int .i64 c.2.1.2) ∧ w.cell? ⟨b, o + k * 4 + 3, none⟩ = some (.slice A' n' c') ∧ n' ≤ c' ∧ c' ≤ maxLen ∧ Spans w B A' n' c.2.2 := by
  obtain ⟨b, o, e, hb, hc⟩ := h.2 (by omega)
  have hl : k < cs.length := by have := h.1; omega
  obtain ⟨h1, h2, h3, A', n', c', h4, h5, h6, h7⟩ := hc k _ (List.getElem?_eq_getElem hl)
  exact ⟨b, o, cs[k], A', n', c', e, hb, List.getElem?_eq_getElem hl, h1, h2, h3, h4, h5, h6, h7⟩
theorem Cks.up {cs : List Ck} (h : Cks w w.heap.size A n cs) (hb : Below w.heap.size w w') : Cks w' w'.heap.size A n cs := (h.keep fun _ hp => hb.cell hp).more hb.size
theorem Cks.nil (w : World) (B : Nat) (A : Option Addr) : Cks w B A 0 [] := ⟨rfl, fun h => absurd h (by omega)⟩
theorem Cks.drewN {cs : List Ck} (h : Cks w B A n cs) (q : Nat) : Cks (w.drewN q) B A n cs := h.keep fun _ _ => rfl
theorem Cks.drew {cs : List Ck} (h : Cks w B A n cs) : Cks w.drew B A n cs := h.keep fun _ _ => rfl
theorem Byts.up {l : List UInt8} (h : Byts w w.heap.size A n l) (hb : Below w.heap.size w w') : Byts w' w'.heap.size A n l := (Byts.below h hb).more hb.size
theorem RowsB.up {rows : List (Option Addr × Nat × Nat)} {bss : List (List UInt8)} (h : RowsB w w.heap.size A n rows bss) (hb : Below w.heap.size w w') : RowsB w' w'.heap.size A n rows bss :=
  ⟨(h.1.below hb).more hb.size, h.2.1, fun k r bs h1 h2 => ⟨(h.2.2 k r bs h1 h2).1, (h.2.2 k r bs h1 h2).2.1, (h.2.2 k r bs h1 h2).2.2.up hb⟩⟩
theorem RowsB.len {rows : List (Option Addr × Nat × Nat)} {bss : List (List UInt8)} (h : RowsB w B A n rows bss) : bss.length = n := by
  have := h.1.1; have := h.2.1; simp at *; omega
theorem RowsB.at_ {k : Nat} {rows : List (Option Addr × Nat × Nat)} {bss : List (List UInt8)} (h : RowsB w B A n rows bss) (hk : k < n) :
    ∃ b o A' n' c' bs, A = some ⟨b, o, none⟩ ∧ b < B ∧ bss[k]? = some bs ∧ w.cell? ⟨b, o + k, none⟩ = some (.slice A' n' c') ∧ n' ≤ c' ∧ c' ≤ maxLen ∧ Byts w B A' n' bs := by
  obtain ⟨b, o, u, e, hb, hu, hc⟩ := Reads.at_ h.1 hk
  rw [List.getElem?_map] at hu
  cases hr : rows[k]? with
  | none => rw [hr] at hu; cases hu
  | some r =>
    rw [hr] at hu
    have hlt : k < bss.length := by have := h.len; omega
    obtain ⟨h1, h2, h3⟩ := h.2.2 k r _ hr (List.getElem?_eq_getElem hlt)
    exact ⟨b, o, r.1, r.2.1, r.2.2, bss[k], e, hb, List.getElem?_eq_getElem hlt, by rw [hc]; simpa using hu.symm, h1, h2, h3⟩
theorem Byts.at_ {l : List UInt8} {k : Nat} (h : Byts w B A n l) (hk : k < n) : ∃ b o x, A = some ⟨b, o, none⟩ ∧ b < B ∧ l[k]? = some x ∧ w.cell? ⟨b, o + k, none⟩ = some (.int .u8 x.toNat) := by
  obtain ⟨b, o, u, e, hb, hu, hc⟩ := Reads.at_ h hk
  rw [List.getElem?_map] at hu
  cases hr : l[k]? with
  | none => rw [hr] at hu; cases hu
  | some x => rw [hr] at hu; exact ⟨b, o, x, e, hb, rfl, by rw [hc]; simpa using hu.symm⟩
end

/-- Bytes as numbers. -/
def ints (l : List UInt8) : List Int := l.map fun b => (b.toNat : Int)
theorem ints_len (l : List UInt8) : (ints l).length = l.length := by simp [ints]
theorem ints_at {l : List UInt8} {k : Nat} {b : UInt8} (h : l[k]? = some b) : (ints l)[k]? = some (b.toNat : Int) := by simp [ints, h]
end Go.Proofs.Ytiokgfcndemadaa

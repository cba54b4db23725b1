/- Proved here, without conditions on the program: slices of slices of texts that read as lists; such rows of the call's own. -/
import Derived.Test.YtoamkfegjhailaaMore
import Derived.Test.YtoamkfegjhailaaAppend
namespace Go.Proofs.Ytoamkfegjhailaa
open Go.RowKit
set_option linter.unusedVariables false

/-- A slice's value by its parts. -/
abbrev Slc := Option Addr × Nat × Nat
def slcV (r : Slc) : Value := .slice r.1 r.2.1 r.2.2
theorem slcV_one (l : List Slc) : ∀ u ∈ l.map slcV, u.oneCell' = true := by
  intro u hu
  obtain ⟨r, _, rfl⟩ := List.mem_map.1 hu
  rfl
/-- A slice of texts that reads as ss, with its bounds. -/
def TxR (w : World) (B : Nat) (r : Slc) (ss : List (List UInt8)) : Prop := r.2.1 ≤ r.2.2 ∧ r.2.2 ≤ maxLen ∧ Strs w B r.1 r.2.1 ss
/-- A slice of slices of texts. -/
def RowsT (w : World) (B : Nat) (A : Option Addr) (n : Nat) (rows : List Slc) (sss : List (List (List UInt8))) : Prop :=
  Reads w B A n (rows.map slcV) ∧ rows.length = sss.length ∧ ∀ (k : Nat) (r : Slc) (ss : List (List UInt8)), rows[k]? = some r → sss[k]? = some ss → TxR w B r ss

section
variable {w w' : World} {B B' n : Nat} {A : Option Addr} {r : Slc} {rows : List Slc} {ss : List (List UInt8)} {sss : List (List (List UInt8))}
theorem Strs.keep (h : Strs w B A n ss) (hk : ∀ p : Addr, p.block < B → w'.cell? p = w.cell? p) : Strs w' B A n ss := Reads.keep h hk
theorem Strs.up (h : Strs w w.heap.size A n ss) (hb : Below w.heap.size w w') : Strs w' w'.heap.size A n ss := (Strs.below h hb).more hb.size
theorem Strs.nil (w : World) (B : Nat) (A : Option Addr) : Strs w B A 0 [] := ⟨rfl, fun h => absurd h (by omega)⟩
theorem TxR.keep (h : TxR w B r ss) (hk : ∀ p : Addr, p.block < B → w'.cell? p = w.cell? p) : TxR w' B r ss := ⟨h.1, h.2.1, Strs.keep h.2.2 hk⟩
theorem TxR.more (h : TxR w B r ss) (hB : B ≤ B') : TxR w B' r ss := ⟨h.1, h.2.1, h.2.2.more hB⟩
theorem TxR.below (h : TxR w B r ss) (hb : Below B w w') : TxR w' B r ss := h.keep fun _ hp => hb.cell hp
theorem TxR.up (h : TxR w w.heap.size r ss) (hb : Below w.heap.size w w') : TxR w' w'.heap.size r ss := (h.below hb).more hb.size
theorem TxR.nil (w : World) (B : Nat) : TxR w B (none, 0, 0) [] := ⟨Nat.le_refl _, Nat.zero_le _, Strs.nil _ _ _⟩
theorem RowsT.keep (h : RowsT w B A n rows sss) (hk : ∀ p : Addr, p.block < B → w'.cell? p = w.cell? p) : RowsT w' B A n rows sss := ⟨h.1.keep hk, h.2.1, fun k r ss a b => (h.2.2 k r ss a b).keep hk⟩
theorem RowsT.more (h : RowsT w B A n rows sss) (hB : B ≤ B') : RowsT w B' A n rows sss := ⟨h.1.more hB, h.2.1, fun k r ss a b => (h.2.2 k r ss a b).more hB⟩
theorem RowsT.below (h : RowsT w B A n rows sss) (hb : Below B w w') : RowsT w' B A n rows sss := h.keep fun _ hp => hb.cell hp
theorem RowsT.up (h : RowsT w w.heap.size A n rows sss) (hb : Below w.heap.size w w') : RowsT w' w'.heap.size A n rows sss := (h.below hb).more hb.size
theorem RowsT.drewN (h : RowsT w B A n rows sss) (q : Nat) : RowsT (w.drewN q) B A n rows sss := h.keep fun _ _ => rfl
theorem RowsT.drew (h : RowsT w B A n rows sss) : RowsT w.drew B A n rows sss := h.keep fun _ _ => rfl
theorem RowsT.len (h : RowsT w B A n rows sss) : sss.length = n := by have := h.1.1; have := h.2.1; simp at *; omega
theorem RowsT.rlen (h : RowsT w B A n rows sss) : rows.length = n := by have := h.1.1; simpa using this
theorem RowsT.nil (w : World) (B : Nat) (A : Option Addr) : RowsT w B A 0 [] [] := ⟨⟨rfl, fun h => absurd h (by omega)⟩, rfl, fun k r ss h => by simp at h⟩
theorem RowsT.at_ {k : Nat} (h : RowsT w B A n rows sss) (hk : k < n) :
    ∃ b o A' n' c' ss, A = some ⟨b, o, none⟩ ∧ b < B ∧ sss[k]? = some ss ∧ rows[k]? = some (A', n', c') ∧ w.cell? ⟨b, o + k, none⟩ = some (.slice A' n' c') ∧ n' ≤ c' ∧ c' ≤ maxLen ∧ Strs w B A' n' ss := by
  obtain ⟨b, o, u, e, hb, hu, hc⟩ := Reads.at_ h.1 hk
  rw [List.getElem?_map] at hu
  cases hr : rows[k]? with
  | none => rw [hr] at hu; cases hu
  | some r =>
    rw [hr] at hu
    have hlt : k < sss.length := by have := h.len; omega
    obtain ⟨h1, h2, h3⟩ := h.2.2 k r _ hr (List.getElem?_eq_getElem hlt)
    exact ⟨b, o, r.1, r.2.1, r.2.2, sss[k], e, hb, List.getElem?_eq_getElem hlt, rfl, by rw [hc]; simpa [slcV] using hu.symm, h1, h2, h3⟩
theorem RowsT.of2 (h : Rows2 w B A n rows sss) (hb : ∀ r ∈ rows, r.2.1 ≤ r.2.2 ∧ r.2.2 ≤ maxLen) : RowsT w B A n rows sss :=
  ⟨h.1, h.2.1, fun k r ss a b => ⟨(hb r (List.mem_of_getElem? a)).1, (hb r (List.mem_of_getElem? a)).2, h.2.2 k r ss a b⟩⟩
theorem RowsT.to2 (h : RowsT w B A n rows sss) : Rows2 w B A n rows sss := ⟨h.1, h.2.1, fun k r ss a b => (h.2.2 k r ss a b).2.2⟩
/-- Texts' lists aren't too long. -/
theorem RowsT.few (h : RowsT w B A n rows sss) : ∀ f ∈ sss, f.length ≤ maxLen := by
  intro f hf
  obtain ⟨k, hk⟩ := List.mem_iff_getElem?.1 hf
  have hkl := (List.getElem?_eq_some_iff.1 hk).1
  have hr : rows[k]? = some (rows[k]'(by have := h.2.1; omega)) := List.getElem?_eq_getElem _
  obtain ⟨h1, h2, h3⟩ := h.2.2 k _ f hr hk
  have := h3.len
  omega
end

/-- Rows of texts of the call's own, none of which lies in its own block. -/
structure RowsO (base : Nat) (wr : World) (v : Value) (rows : List Slc) (sss : List (List (List UInt8))) : Prop where
  own : wr.ownsRow base 22 1 v rows.length (rows.map slcV)
  len : rows.length = sss.length
  row : ∀ (k : Nat) (r : Slc) (ss : List (List UInt8)), rows[k]? = some r → sss[k]? = some ss → TxR wr wr.heap.size r ss ∧ (0 < r.2.1 → ∀ q o, r.1 = some ⟨q, o, none⟩ → v.ownBlock ≠ some q)

section
variable {base : Nat} {wr w1 w2 : World} {v v' : Value} {rows : List Slc} {sss : List (List (List UInt8))}
theorem RowsO.start (base : Nat) (w : World) : RowsO base w (.slice none 0 0) [] [] := ⟨World.ownsRow_nil _ _ _ _, rfl, fun k r ss h => by simp at h⟩
theorem RowsO.reads (h : RowsO base wr v rows sss) : ∃ A c, v = .slice A rows.length c ∧ rows.length ≤ c ∧ c ≤ maxLen ∧ RowsT wr wr.heap.size A rows.length rows sss := by
  obtain ⟨A, c, e, h1, h2, h3⟩ := own_slice h.own
  exact ⟨A, c, e, h1, h2, h3, h.len, fun k r ss a b => (h.row k r ss a b).1⟩
theorem RowsO.up (h : RowsO base wr v rows sss) (hb : Below wr.heap.size wr w1) : RowsO base w1 v rows sss :=
  ⟨ownsRow_kept h.own fun k e => hb.block k (h.own.lt k e).2, h.len, fun k r ss a b => ⟨(h.row k r ss a b).1.up hb, (h.row k r ss a b).2⟩⟩
/-- Kept by whatever leaves what lay there, but for another block of the call's own. -/
theorem RowsO.but {F : Nat → Prop} (h : RowsO base wr v rows sss) (hb : But F wr w1) (h1 : ∀ k, v.ownBlock = some k → ¬ F k) (h2 : ∀ (r : Slc), r ∈ rows → 0 < r.2.1 → ∀ q o, r.1 = some ⟨q, o, none⟩ → ¬ F q) : RowsO base w1 v rows sss := by
  refine ⟨ownsRow_kept h.own fun k e => hb.block k (h.own.lt k e).2 (h1 k e), h.len, fun k r ss a b => ?_⟩
  obtain ⟨⟨e1, e2, e3⟩, e4⟩ := h.row k r ss a b
  refine ⟨⟨e1, e2, e3.1, fun hn => ?_⟩, e4⟩
  obtain ⟨q, o, ha, hq, hc⟩ := e3.2 hn
  exact ⟨q, o, ha, by have := hb.size; omega, fun j u hu => (World.cell?_of_block (w := wr) (hb.block q hq (h2 r (List.mem_of_getElem? a) hn q o ha))).trans (hc j u hu)⟩
/-- One more row. -/
theorem RowsO.put {r : Slc} {ss : List (List UInt8)} {o : Obj} (h : RowsO base wr v rows sss) (hr : TxR wr wr.heap.size r ss) (hra : 0 < r.2.1 → ∀ q o, r.1 = some ⟨q, o, none⟩ → v.ownBlock ≠ some q)
    (hown : w2.ownsRow base 22 1 v' (rows.length + 1) (rows.map slcV ++ [slcV r])) (hg : (wr.alloc o).grownBy w2 v.ownBlock) (hloc : v'.ownBlock = v.ownBlock ∨ v'.ownBlock = some (wr.alloc o).heap.size) : RowsO base w2 v' (rows ++ [r]) (sss ++ [ss]) := by
  have hs : wr.heap.size + 1 ≤ w2.heap.size := by have := hg.size; simpa using this
  have keep : ∀ (r : Slc) (ss : List (List UInt8)), TxR wr wr.heap.size r ss → (0 < r.2.1 → ∀ q o, r.1 = some ⟨q, o, none⟩ → v.ownBlock ≠ some q) → TxR w2 w2.heap.size r ss ∧ (0 < r.2.1 → ∀ q o, r.1 = some ⟨q, o, none⟩ → v'.ownBlock ≠ some q) := by
    intro r ss h3 h4
    refine ⟨⟨h3.1, h3.2.1, h3.2.2.1, fun hn => ?_⟩, fun hn q o' e => ?_⟩
    · obtain ⟨b, o', ha, hb, hc⟩ := h3.2.2.2 hn
      have hne := h4 hn b o' ha
      refine ⟨b, o', ha, by omega, fun j u hu => ?_⟩
      rw [World.cell?_of_block (w := wr.alloc o) (hg.block b (by simp; omega) (fun e => hne e.symm)), World.cell?_of_block (w := wr) (Below.heap_alloc wr o b hb)]
      exact hc j u hu
    · have h5 := h4 hn q o' e
      obtain ⟨b, o2, ha, hb, _⟩ := h3.2.2.2 hn
      rw [e] at ha
      injection ha with ha
      injection ha with ha1 ha2
      rcases hloc with h | h
      · rw [h]; exact h5
      · rw [h]
        intro h7
        injection h7 with h7
        simp at h7
        omega
  refine ⟨by simpa using hown, by simp [h.len], fun k r' ss' h1 h2 => ?_⟩
  have hl := h.len
  rcases Nat.lt_or_ge k rows.length with hk | hk
  · rw [List.getElem?_append_left hk] at h1
    rw [List.getElem?_append_left (by omega)] at h2
    obtain ⟨e1, e2⟩ := h.row k r' ss' h1 h2
    exact keep r' ss' e1 e2
  · rw [List.getElem?_append_right hk] at h1
    rw [List.getElem?_append_right (by omega)] at h2
    have hk0 : k = rows.length := by
      have := (List.getElem?_eq_some_iff.1 h1).1
      simp at this
      omega
    subst hk0
    simp at h1
    simp [hl] at h2
    subst h1
    subst h2
    exact keep r ss hr hra
end

/-- Texts that the call has made, or was handed. -/
def TxsOut (w w' : World) (e : Ending) (ss : List (List UInt8)) : Prop := ∃ A n c, e = .returned (.slice A n c) ∧ TxR w' w'.heap.size (A, n, c) ss ∧ Below w.heap.size w w'
/-- Lists of texts that the call has made, or was handed. -/
def RowsOut (w w' : World) (e : Ending) (sss : List (List (List UInt8))) : Prop := ∃ A n c rows, e = .returned (.slice A n c) ∧ n ≤ c ∧ c ≤ maxLen ∧ RowsT w' w'.heap.size A n rows sss ∧ Below w.heap.size w w'
end Go.Proofs.Ytoamkfegjhailaa

/- Proved here: texts joined: CkSl, LcsPure, AlignPk. -/
import Derived.Test.YticgjbckfpkpjaaGreatBt01
import Derived.Test.YticgjbckfpkpjaaGreatBt04
import Derived.Lib.Hide
/- Proved here, without conditions on the program: slices of spans, of chunks, of slices of bytes, that read as lists. -/
namespace Go.Proofs.YticgjbckfpkpjaaGreat
open Go.RowKit
set_option linter.unusedVariables false

/-- A slice of spans. -/
def Spans (w : World) (B : Nat) (A : Option Addr) (n : Nat) (ss : List Sp) : Prop :=
  ss.length = n ∧ (0 < n → ∃ b o : Nat, A = some ⟨b, o, none⟩ ∧ b < B ∧ ∀ j s, ss[j]? = some s → w.cell? ⟨b, o + j * 2, none⟩ = some (.int .i64 s.1) ∧ w.cell? ⟨b, o + j * 2 + 1, none⟩ = some (.int .i64 s.2))
/-- A slice of chunks. -/
def Cks (w : World) (B : Nat) (A : Option Addr) (n : Nat) (cs : List Ck) : Prop :=
  cs.length = n ∧ (0 < n → ∃ b o : Nat, A = some ⟨b, o, none⟩ ∧ b < B ∧ ∀ j c, cs[j]? = some c →
    w.cell? ⟨b, o + j * 4, none⟩ = some (.bool c.1) ∧ w.cell? ⟨b, o + j * 4 + 1, none⟩ = some (.int .i64 c.2.1.1) ∧ w.cell? ⟨b, o + j * 4 + 2, none⟩ = some (.int .i64 c.2.1.2) ∧
      ∃ A' n' c', w.cell? ⟨b, o + j * 4 + 3, none⟩ = some (.slice A' n' c') ∧ n' ≤ c' ∧ c' ≤ maxLen ∧ Spans w B A' n' c.2.2)
/-- A slice of slices of bytes. -/
def RowsB (w : World) (B : Nat) (A : Option Addr) (n : Nat) (rows : List (Option Addr × Nat × Nat)) (bss : List (List UInt8)) : Prop :=
  Reads w B A n (rows.map fun r => .slice r.1 r.2.1 r.2.2) ∧ rows.length = bss.length ∧ ∀ (k : Nat) (r : Option Addr × Nat × Nat) (bs : List UInt8), rows[k]? = some r → bss[k]? = some bs → r.2.1 ≤ r.2.2 ∧ r.2.2 ≤ maxLen ∧ Byts w B r.1 r.2.1 bs

section
variable {w w' : World} {B B' n : Nat} {A : Option Addr}
theorem Spans.keep {ss : List Sp} (h : Spans w B A n ss) (hk : ∀ p : Addr, p.block < B → w'.cell? p = w.cell? p) : Spans w' B A n ss :=
  ⟨h.1, fun hn => by
    obtain ⟨b, o, e, hb, hc⟩ := h.2 hn
    exact ⟨b, o, e, hb, fun j s hj => ⟨(hk _ hb).trans (hc j s hj).1, (hk _ hb).trans (hc j s hj).2⟩⟩⟩
theorem Spans.more {ss : List Sp} (h : Spans w B A n ss) (hB : B ≤ B') : Spans w B' A n ss :=
  ⟨h.1, fun hn => by
    obtain ⟨b, o, e, hb, hc⟩ := h.2 hn
    exact ⟨b, o, e, by omega, hc⟩⟩
theorem Spans.len {ss : List Sp} (h : Spans w B A n ss) : ss.length = n := h.1
theorem Spans.at_ {ss : List Sp} {k : Nat} (h : Spans w B A n ss) (hk : k < n) : ∃ b o s, A = some ⟨b, o, none⟩ ∧ b < B ∧ ss[k]? = some s ∧ w.cell? ⟨b, o + k * 2, none⟩ = some (.int .i64 s.1) ∧ w.cell? ⟨b, o + k * 2 + 1, none⟩ = some (.int .i64 s.2) := by
  obtain ⟨b, o, e, hb, hc⟩ := h.2 (by omega)
  have hl : k < ss.length := by have := h.1; omega
  exact ⟨b, o, ss[k], e, hb, List.getElem?_eq_getElem hl, hc k _ (List.getElem?_eq_getElem hl)⟩
theorem Cks.keep {cs : List Ck} (h : Cks w B A n cs) (hk : ∀ p : Addr, p.block < B → w'.cell? p = w.cell? p) : Cks w' B A n cs :=
  ⟨h.1, fun hn => by
    obtain ⟨b, o, e, hb, hc⟩ := h.2 hn
    refine ⟨b, o, e, hb, fun j c hj => ?_⟩
    obtain ⟨h1, h2, h3, A', n', c', h4, h5, h6, h7⟩ := hc j c hj
    exact ⟨(hk _ hb).trans h1, (hk _ hb).trans h2, (hk _ hb).trans h3, A', n', c', (hk _ hb).trans h4, h5, h6, h7.keep hk⟩⟩
theorem Cks.more {cs : List Ck} (h : Cks w B A n cs) (hB : B ≤ B') : Cks w B' A n cs :=
  ⟨h.1, fun hn => by
    obtain ⟨b, o, e, hb, hc⟩ := h.2 hn
    refine ⟨b, o, e, by omega, fun j c hj => ?_⟩
    obtain ⟨h1, h2, h3, A', n', c', h4, h5, h6, h7⟩ := hc j c hj
    exact ⟨h1, h2, h3, A', n', c', h4, h5, h6, h7.more hB⟩⟩
theorem Cks.len {cs : List Ck} (h : Cks w B A n cs) : cs.length = n := h.1
theorem Cks.at_ {cs : List Ck} {k : Nat} (h : Cks w B A n cs) (hk : k < n) : ∃ b o c A' n' c', A = some ⟨b, o, none⟩ ∧ b < B ∧ cs[k]? = some c ∧ w.cell? ⟨b, o + k * 4, none⟩ = some (.bool c.1) ∧ w.cell? ⟨b, o + k * 4 + 1, none⟩ = some (.int .i64 c.2.1.1) ∧
    w.cell? ⟨b, o + k * 4 + 2, none⟩ = some (.int .i64 c.2.1.2) ∧ w.cell? ⟨b, o + k * 4 + 3, none⟩ = some (.slice A' n' c') ∧ n' ≤ c' ∧ c' ≤ maxLen ∧ Spans w B A' n' c.2.2 := by
  obtain ⟨b, o, e, hb, hc⟩ := h.2 (by omega)
  have hl : k < cs.length := by have := h.1; omega
  obtain ⟨h1, h2, h3, A', n', c', h4, h5, h6, h7⟩ := hc k _ (List.getElem?_eq_getElem hl)
  exact ⟨b, o, cs[k], A', n', c', e, hb, List.getElem?_eq_getElem hl, h1, h2, h3, h4, h5, h6, h7⟩
theorem Cks.up {cs : List Ck} (h : Cks w w.heap.size A n cs) (hb : Below w.heap.size w w') : Cks w' w'.heap.size A n cs := (h.keep fun _ hp => hb.cell hp).more hb.size
theorem Cks.nil (w : World) (B : Nat) (A : Option Addr) : Cks w B A 0 [] := ⟨rfl, fun h => absurd h (by omega)⟩
theorem Cks.drewN {cs : List Ck} (h : Cks w B A n cs) (q : Nat) : Cks (w.drewN q) B A n cs := h.keep fun _ _ => rfl
theorem Cks.drew {cs : List Ck} (h : Cks w B A n cs) : Cks w.drew B A n cs := h.keep fun _ _ => rfl
theorem Byts.up {l : List UInt8} (h : Byts w w.heap.size A n l) (hb : Below w.heap.size w w') : Byts w' w'.heap.size A n l := (Byts.below h hb).more hb.size
theorem RowsB.up {rows : List (Option Addr × Nat × Nat)} {bss : List (List UInt8)} (h : RowsB w w.heap.size A n rows bss) (hb : Below w.heap.size w w') : RowsB w' w'.heap.size A n rows bss :=
  ⟨(h.1.below hb).more hb.size, h.2.1, fun k r bs h1 h2 => ⟨(h.2.2 k r bs h1 h2).1, (h.2.2 k r bs h1 h2).2.1, (h.2.2 k r bs h1 h2).2.2.up hb⟩⟩
theorem RowsB.len {rows : List (Option Addr × Nat × Nat)} {bss : List (List UInt8)} (h : RowsB w B A n rows bss) : bss.length = n := by
  have := h.1.1; have := h.2.1; simp at *; omega
theorem RowsB.at_ {k : Nat} {rows : List (Option Addr × Nat × Nat)} {bss : List (List UInt8)} (h : RowsB w B A n rows bss) (hk : k < n) :
    ∃ b o A' n' c' bs, A = some ⟨b, o, none⟩ ∧ b < B ∧ bss[k]? = some bs ∧ w.cell? ⟨b, o + k, none⟩ = some (.slice A' n' c') ∧ n' ≤ c' ∧ c' ≤ maxLen ∧ Byts w B A' n' bs := by
  obtain ⟨b, o, u, e, hb, hu, hc⟩ := Reads.at_ h.1 hk
  rw [List.getElem?_map] at hu
  cases hr : rows[k]? with
  | none => rw [hr] at hu; cases hu
  | some r =>
    rw [hr] at hu
    have hlt : k < bss.length := by have := h.len; omega
    obtain ⟨h1, h2, h3⟩ := h.2.2 k r _ hr (List.getElem?_eq_getElem hlt)
    exact ⟨b, o, r.1, r.2.1, r.2.2, bss[k], e, hb, List.getElem?_eq_getElem hlt, by rw [hc]; simpa using hu.symm, h1, h2, h3⟩
theorem Byts.at_ {l : List UInt8} {k : Nat} (h : Byts w B A n l) (hk : k < n) : ∃ b o x, A = some ⟨b, o, none⟩ ∧ b < B ∧ l[k]? = some x ∧ w.cell? ⟨b, o + k, none⟩ = some (.int .u8 x.toNat) := by
  obtain ⟨b, o, u, e, hb, hu, hc⟩ := Reads.at_ h hk
  rw [List.getElem?_map] at hu
  cases hr : l[k]? with
  | none => rw [hr] at hu; cases hu
  | some x => rw [hr] at hu; exact ⟨b, o, x, e, hb, rfl, by rw [hc]; simpa using hu.symm⟩
end

/-- Bytes as numbers. -/
def ints (l : List UInt8) : List Int := l.map fun b => (b.toNat : Int)
theorem ints_len (l : List UInt8) : (ints l).length = l.length := by simp [ints]
theorem ints_at {l : List UInt8} {k : Nat} {b : UInt8} (h : l[k]? = some b) : (ints l)[k]? = some (b.toNat : Int) := by simp [ints, h]
end Go.Proofs.YticgjbckfpkpjaaGreat
/- Proved here, without conditions: plain facts on the longest common sequence of two lists (no word of the program). -/
namespace Go.Proofs.YticgjbckfpkpjaaGreat
set_option linter.unusedVariables false

/-- How long the longest common sequence of two lists is. -/
def lcsL : List Int → List Int → Nat
  | [], _ => 0
  | _ :: _, [] => 0
  | x :: a, y :: b => if x = y then lcsL a b + 1 else max (lcsL a (y :: b)) (lcsL (x :: a) b)
termination_by a b => a.length + b.length

theorem lcs_nil_left (b : List Int) : lcsL [] b = 0 := by unfold lcsL; rfl
theorem lcs_nil_right (a : List Int) : lcsL a [] = 0 := by cases a <;> unfold lcsL <;> rfl
theorem lcs_same (x : Int) (a b : List Int) : lcsL (x :: a) (x :: b) = lcsL a b + 1 := by rw [lcsL]; simp
theorem lcs_other {x y : Int} (h : x ≠ y) (a b : List Int) : lcsL (x :: a) (y :: b) = max (lcsL a (y :: b)) (lcsL (x :: a) b) := by rw [lcsL]; simp [h]

/-- A common sequence that is as long. -/
theorem lcs_is (a b : List Int) : ∃ s : List Int, s.Sublist a ∧ s.Sublist b ∧ s.length = lcsL a b := by
  induction a, b using lcsL.induct with
  | case1 b => exact ⟨[], List.nil_sublist _, List.nil_sublist _, by rw [lcs_nil_left]; rfl⟩
  | case2 x a => exact ⟨[], List.nil_sublist _, List.nil_sublist _, by rw [lcs_nil_right]; rfl⟩
  | case3 a y b ih =>
    obtain ⟨s, h1, h2, h3⟩ := ih
    exact ⟨y :: s, h1.cons_cons _, h2.cons_cons _, by rw [lcs_same, List.length_cons, h3]⟩
  | case4 x a y b h ih1 ih2 =>
    obtain ⟨s, h1, h2, h3⟩ := ih1
    obtain ⟨t, k1, k2, k3⟩ := ih2
    rw [lcs_other h]
    rcases Nat.le_total (lcsL a (y :: b)) (lcsL (x :: a) b) with hl | hl
    · exact ⟨t, k1, k2.cons _, by rw [k3]; omega⟩
    · exact ⟨s, h1.cons _, h2, by rw [h3]; omega⟩

/-- No common sequence is longer. -/
theorem lcs_most (a b : List Int) : ∀ s : List Int, s.Sublist a → s.Sublist b → s.length ≤ lcsL a b := by
  induction a, b using lcsL.induct with
  | case1 b => intro s h1 _; rw [List.sublist_nil.1 h1]; simp
  | case2 x a => intro s _ h2; rw [List.sublist_nil.1 h2]; simp
  | case3 a y b ih =>
    intro s h1 h2
    rw [lcs_same]
    cases s with
    | nil => simp
    | cons z s =>
      have g1 : s.Sublist a := by
        cases h1 with
        | cons _ h => exact (List.sublist_cons_self z s).trans h
        | cons_cons _ h => exact h
      have g2 : s.Sublist b := by
        cases h2 with
        | cons _ h => exact (List.sublist_cons_self z s).trans h
        | cons_cons _ h => exact h
      have := ih s g1 g2
      simp only [List.length_cons]
      omega
  | case4 x a y b h ih1 ih2 =>
    intro s h1 h2
    rw [lcs_other h]
    cases h1 with
    | cons _ h1 => have := ih1 s h1 h2; omega
    | cons_cons _ h1 =>
      cases h2 with
      | cons _ h2 => have := ih2 _ (h1.cons_cons _) h2; omega
      | cons_cons _ h2 => exact absurd rfl h

theorem lcs_eq {a b a' b' : List Int} (h : ∀ s : List Int, s.Sublist a → s.Sublist b → ∃ t : List Int, t.length = s.length ∧ t.Sublist a' ∧ t.Sublist b') : lcsL a b ≤ lcsL a' b' := by
  obtain ⟨s, h1, h2, h3⟩ := lcs_is a b
  obtain ⟨t, k1, k2, k3⟩ := h s h1 h2
  have := lcs_most a' b' t k2 k3
  omega
theorem lcs_comm (a b : List Int) : lcsL a b = lcsL b a :=
  Nat.le_antisymm (lcs_eq fun s h1 h2 => ⟨s, rfl, h2, h1⟩) (lcs_eq fun s h1 h2 => ⟨s, rfl, h2, h1⟩)
theorem lcs_turned (a b : List Int) : lcsL a.reverse b.reverse = lcsL a b := by
  refine Nat.le_antisymm (lcs_eq fun s h1 h2 => ⟨s.reverse, by simp, ?_, ?_⟩) (lcs_eq fun s h1 h2 => ⟨s.reverse, by simp, h1.reverse, h2.reverse⟩)
  · simpa using h1.reverse
  · simpa using h2.reverse
theorem lcs_le_left (a b : List Int) : lcsL a b ≤ a.length := by
  obtain ⟨s, h1, _, h3⟩ := lcs_is a b
  have := h1.length_le; omega
theorem lcs_le_right (a b : List Int) : lcsL a b ≤ b.length := by rw [lcs_comm]; exact lcs_le_left b a
theorem lcs_self (a : List Int) : lcsL a a = a.length :=
  Nat.le_antisymm (lcs_le_left a a) (lcs_most a a a (List.Sublist.refl _) (List.Sublist.refl _))
theorem lcs_mono {a b a' b' : List Int} (h1 : a.Sublist a') (h2 : b.Sublist b') : lcsL a b ≤ lcsL a' b' :=
  lcs_eq fun s k1 k2 => ⟨s, rfl, k1.trans h1, k2.trans h2⟩
theorem lcs_front (p a b : List Int) : lcsL (p ++ a) (p ++ b) = p.length + lcsL a b := by
  induction p with
  | nil => simp
  | cons x p ih => rw [List.cons_append, List.cons_append, lcs_same, ih, List.length_cons]; omega
theorem lcs_back (p a b : List Int) : lcsL (a ++ p) (b ++ p) = lcsL a b + p.length := by
  rw [← lcs_turned, List.reverse_append, List.reverse_append, lcs_front, lcs_turned, List.length_reverse]; omega
/-- One more in front is one more at most. -/
theorem lcs_cons_left (x : Int) (a b : List Int) : lcsL (x :: a) b ≤ lcsL a b + 1 := by
  obtain ⟨s, h1, h2, h3⟩ := lcs_is (x :: a) b
  cases s with
  | nil => simp at h3; omega
  | cons z s =>
    have g1 : s.Sublist a := by
      cases h1 with
      | cons _ h => exact (List.sublist_cons_self z s).trans h
      | cons_cons _ h => exact h
    have := lcs_most a b s g1 ((List.sublist_cons_self z s).trans h2)
    simp only [List.length_cons] at h3
    omega
theorem lcs_cons_right (y : Int) (a b : List Int) : lcsL a (y :: b) ≤ lcsL a b + 1 := by
  rw [lcs_comm, lcs_comm a b]; exact lcs_cons_left y b a

/-- The document's reckoning: the greater one of both, and one more than what is left of both, if they begin with the same. -/
theorem lcs_row (x y : Int) (a b : List Int) : lcsL (x :: a) (y :: b) = if x = y then max (max (lcsL a (y :: b)) (lcsL (x :: a) b)) (lcsL a b + 1) else max (lcsL a (y :: b)) (lcsL (x :: a) b) := by
  split
  · rename_i h
    subst h
    have h1 := lcs_cons_left x a b
    have h2 := lcs_cons_right x a b
    rw [lcs_same]
    omega
  · rename_i h
    exact lcs_other h a b

/-- What two lists that lie in one have in common. -/
theorem sub_meet (b : List Int) : ∀ s t : List Int, s.Sublist b → t.Sublist b → ∃ u : List Int, u.Sublist s ∧ u.Sublist t ∧ s.length + t.length ≤ u.length + b.length := by
  induction b with
  | nil => intro s t h1 h2; rw [List.sublist_nil.1 h1, List.sublist_nil.1 h2]; exact ⟨[], List.nil_sublist _, List.nil_sublist _, by simp⟩
  | cons x b ih =>
    intro s t h1 h2
    cases h1 with
    | cons _ h1 =>
      cases h2 with
      | cons _ h2 => obtain ⟨u, a1, a2, a3⟩ := ih _ _ h1 h2; exact ⟨u, a1, a2, by simp only [List.length_cons]; omega⟩
      | cons_cons _ h2 => obtain ⟨u, a1, a2, a3⟩ := ih _ _ h1 h2; exact ⟨u, a1, a2.cons _, by simp only [List.length_cons]; omega⟩
    | cons_cons _ h1 =>
      cases h2 with
      | cons _ h2 => obtain ⟨u, a1, a2, a3⟩ := ih _ _ h1 h2; exact ⟨u, a1.cons _, a2, by simp only [List.length_cons]; omega⟩
      | cons_cons _ h2 => obtain ⟨u, a1, a2, a3⟩ := ih _ _ h1 h2; exact ⟨x :: u, a1.cons_cons _, a2.cons_cons _, by simp only [List.length_cons]; omega⟩
theorem lcs_between (a b c : List Int) : lcsL a b + lcsL b c ≤ lcsL a c + b.length := by
  obtain ⟨s, h1, h2, h3⟩ := lcs_is a b
  obtain ⟨t, k1, k2, k3⟩ := lcs_is b c
  obtain ⟨u, a1, a2, a3⟩ := sub_meet b s t h2 k1
  have := lcs_most a c u (a1.trans h1) (a2.trans k2)
  omega

/-- L of the places i and j. -/
def lcsAt (a b : List Int) (i j : Nat) : Nat := lcsL (a.drop i) (b.drop j)
theorem lcsAt_zero (a b : List Int) : lcsAt a b 0 0 = lcsL a b := rfl
theorem lcsAt_end_left {a b : List Int} {i j : Nat} (h : a.length ≤ i) : lcsAt a b i j = 0 := by unfold lcsAt; rw [List.drop_of_length_le h, lcs_nil_left]
theorem lcsAt_end_right {a b : List Int} {i j : Nat} (h : b.length ≤ j) : lcsAt a b i j = 0 := by unfold lcsAt; rw [List.drop_of_length_le h, lcs_nil_right]
theorem lcsAt_row {a b : List Int} {i j : Nat} {x y : Int} (hx : a[i]? = some x) (hy : b[j]? = some y) :
    lcsAt a b i j = if x = y then max (max (lcsAt a b (i + 1) j) (lcsAt a b i (j + 1))) (lcsAt a b (i + 1) (j + 1) + 1) else max (lcsAt a b (i + 1) j) (lcsAt a b i (j + 1)) := by
  obtain ⟨hi, rfl⟩ := List.getElem?_eq_some_iff.1 hx
  obtain ⟨hj, rfl⟩ := List.getElem?_eq_some_iff.1 hy
  unfold lcsAt
  rw [List.drop_eq_getElem_cons hi, List.drop_eq_getElem_cons hj]
  exact lcs_row _ _ _ _
theorem lcsAt_same {a b : List Int} {i j : Nat} {x : Int} (hx : a[i]? = some x) (hy : b[j]? = some x) : lcsAt a b i j = lcsAt a b (i + 1) (j + 1) + 1 := by
  obtain ⟨hi, hx'⟩ := List.getElem?_eq_some_iff.1 hx
  obtain ⟨hj, hy'⟩ := List.getElem?_eq_some_iff.1 hy
  unfold lcsAt
  rw [List.drop_eq_getElem_cons hi, List.drop_eq_getElem_cons hj, hx', hy']
  exact lcs_same _ _ _
theorem lcsAt_other {a b : List Int} {i j : Nat} {x y : Int} (hx : a[i]? = some x) (hy : b[j]? = some y) (h : x ≠ y) : lcsAt a b i j = max (lcsAt a b (i + 1) j) (lcsAt a b i (j + 1)) := by
  rw [lcsAt_row hx hy, if_neg h]
theorem lcsAt_le_left (a b : List Int) (i j : Nat) : lcsAt a b i j ≤ a.length - i := by
  have := lcs_le_left (a.drop i) (b.drop j)
  rw [List.length_drop] at this
  exact this
theorem lcsAt_le_right (a b : List Int) (i j : Nat) : lcsAt a b i j ≤ b.length - j := by
  have := lcs_le_right (a.drop i) (b.drop j)
  rw [List.length_drop] at this
  exact this
/-- A place further on of both, where both have the same: no more is left than one less. -/
theorem lcsAt_take {a b : List Int} {i j x y : Nat} {v : Int} (hx : i ≤ x) (hy : j ≤ y) (ha : a[x]? = some v) (hb : b[y]? = some v) : lcsAt a b (x + 1) (y + 1) + 1 ≤ lcsAt a b i j := by
  rw [← lcsAt_same ha hb]
  unfold lcsAt
  refine lcs_mono ?_ ?_
  · have : a.drop x = (a.drop i).drop (x - i) := by rw [List.drop_drop]; congr 1; omega
    rw [this]; exact List.drop_sublist _ _
  · have : b.drop y = (b.drop j).drop (y - j) := by rw [List.drop_drop]; congr 1; omega
    rw [this]; exact List.drop_sublist _ _

/-- The document's match, from places i (of a) and j (of b) on: the list of what is paired, for a's places from i on. -/
def mt : List Int → List Int → Nat → List Int
  | [], _, _ => []
  | _ :: a, [], j => -1 :: mt a [] j
  | x :: a, y :: b, j => if x = y then (j : Int) :: mt a b (j + 1) else if lcsL a (y :: b) < lcsL (x :: a) b then mt (x :: a) b (j + 1) else -1 :: mt a (y :: b) j
termination_by a b => a.length + b.length

theorem mt_len (a b : List Int) (j : Nat) : (mt a b j).length = a.length := by
  induction a, b, j using mt.induct with
  | case1 b j => unfold mt; rfl
  | case2 x a j ih => rw [mt]; simp [ih]
  | case3 a j y b ih => rw [mt]; simp [ih]
  | case4 j x a y b h hlt ih => rw [mt, if_neg h, if_pos hlt]; exact ih
  | case5 j x a y b h hlt ih => rw [mt, if_neg h, if_neg hlt]; simp [ih]
theorem mt_front (p a b : List Int) : ∀ j, mt (p ++ a) (p ++ b) j = ((List.range p.length).map fun i => ((j + i : Nat) : Int)) ++ mt a b (j + p.length) := by
  induction p with
  | nil => intro j; simp
  | cons x p ih =>
    intro j
    rw [List.cons_append, List.cons_append, mt, if_pos rfl, ih, List.length_cons, List.range_succ_eq_map, List.map_cons, List.cons_append, List.map_map, Nat.add_zero, show j + 1 + p.length = j + (p.length + 1) from by omega]
    congr 2
    refine List.map_congr_left fun i _ => ?_
    simp; omega
/-- How many are paired. -/
def paired (m : List Int) : Nat := (m.filter fun x => x != -1).length
theorem mt_count (a b : List Int) (j : Nat) : paired (mt a b j) = lcsL a b := by
  unfold paired
  induction a, b, j using mt.induct with
  | case1 b j => rw [mt, lcs_nil_left]; rfl
  | case2 x a j ih => rw [mt, lcs_nil_right]; simp [ih, lcs_nil_right]
  | case3 a j y b ih =>
    rw [mt, if_pos rfl, lcs_same, List.filter_cons, if_pos (by simp), List.length_cons, ih]
  | case4 j x a y b h hlt ih => rw [mt, if_neg h, if_pos hlt, ih, lcs_other h]; omega
  | case5 j x a y b h hlt ih => rw [mt, if_neg h, if_neg hlt, lcs_other h, List.filter_cons, if_neg (by simp), ih]; omega

/-- What is paired lies in b, is the same, and is above all that was paired ahead of it. -/
theorem mt_good (a b : List Int) (j : Nat) : ∀ (i : Nat) (v : Int), (mt a b j)[i]? = some v → v ≠ -1 → ∃ y : Nat, v = ((j + y : Nat) : Int) ∧ (∃ x, a[i]? = some x ∧ b[y]? = some x) ∧ ∀ i' v', i' < i → (mt a b j)[i']? = some v' → v' < v := by
  induction a, b, j using mt.induct with
  | case1 b j => intro i v h; rw [mt] at h; simp at h
  | case2 x a j ih =>
    intro i v h hv
    rw [mt] at h
    cases i with
    | zero => simp at h; exact absurd h.symm hv
    | succ i =>
      obtain ⟨y, _, ⟨z, _, hz⟩, _⟩ := ih i v (by simpa using h) hv
      simp at hz
  | case3 a y b j ih =>
    intro i v h hv
    rw [mt, if_pos rfl] at h ⊢
    cases i with
    | zero =>
      simp at h
      exact ⟨0, by simp [h], ⟨y, by simp, by simp⟩, fun i' v' hi => absurd hi (by omega)⟩
    | succ i =>
      obtain ⟨q, hq, ⟨z, hz1, hz2⟩, hr⟩ := ih i v (by simpa using h) hv
      refine ⟨q + 1, by rw [hq]; congr 1; omega, ⟨z, by simpa using hz1, by simpa using hz2⟩, fun i' v' hi h' => ?_⟩
      cases i' with
      | zero => simp at h'; rw [hq, ← h']; omega
      | succ i' => exact hr i' v' (by omega) (by simpa using h')
  | case4 j x a y b h hlt ih =>
    intro i v hi hv
    rw [mt, if_neg h, if_pos hlt] at hi ⊢
    obtain ⟨q, hq, ⟨z, hz1, hz2⟩, hr⟩ := ih i v hi hv
    exact ⟨q + 1, by rw [hq]; congr 1; omega, ⟨z, hz1, by simpa using hz2⟩, hr⟩
  | case5 j x a y b h hlt ih =>
    intro i v hi hv
    rw [mt, if_neg h, if_neg hlt] at hi ⊢
    cases i with
    | zero => simp at hi; exact absurd hi.symm hv
    | succ i =>
      obtain ⟨q, hq, ⟨z, hz1, hz2⟩, hr⟩ := ih i v (by simpa using hi) hv
      refine ⟨q, hq, ⟨z, by simpa using hz1, hz2⟩, fun i' v' hi' h' => ?_⟩
      cases i' with
      | zero => simp at h'; rw [hq, ← h']; omega
      | succ i' => exact hr i' v' (by omega) (by simpa using h')

/-- The match for a's places from i on, where b's from j on are left. -/
def mtAt (a b : List Int) (i j : Nat) : List Int := mt (a.drop i) (b.drop j) j
theorem mtAt_end {a b : List Int} {i j : Nat} (h : a.length ≤ i) : mtAt a b i j = [] := by unfold mtAt; rw [List.drop_of_length_le h, mt]
theorem mtAt_out {a b : List Int} {i j : Nat} (hi : i < a.length) (h : b.length ≤ j) : mtAt a b i j = -1 :: mtAt a b (i + 1) j := by
  unfold mtAt
  rw [List.drop_of_length_le h, List.drop_eq_getElem_cons hi, mt]
theorem mtAt_pair {a b : List Int} {i j : Nat} {x : Int} (hx : a[i]? = some x) (hy : b[j]? = some x) : mtAt a b i j = (j : Int) :: mtAt a b (i + 1) (j + 1) := by
  obtain ⟨hi, hx'⟩ := List.getElem?_eq_some_iff.1 hx
  obtain ⟨hj, hy'⟩ := List.getElem?_eq_some_iff.1 hy
  unfold mtAt
  rw [List.drop_eq_getElem_cons hi, List.drop_eq_getElem_cons hj, mt, if_pos (by rw [hx', hy'])]
theorem mtAt_skip {a b : List Int} {i j : Nat} {x y : Int} (hx : a[i]? = some x) (hy : b[j]? = some y) (h : x ≠ y) (hl : lcsAt a b (i + 1) j < lcsAt a b i (j + 1)) : mtAt a b i j = mtAt a b i (j + 1) := by
  obtain ⟨hi, hx'⟩ := List.getElem?_eq_some_iff.1 hx
  obtain ⟨hj, hy'⟩ := List.getElem?_eq_some_iff.1 hy
  unfold lcsAt at hl
  unfold mtAt
  rw [List.drop_eq_getElem_cons hj] at hl
  conv at hl => rhs; rw [List.drop_eq_getElem_cons hi]
  rw [List.drop_eq_getElem_cons hi, List.drop_eq_getElem_cons hj, mt, if_neg (by rw [hx', hy']; exact h), if_pos hl]
theorem mtAt_pass {a b : List Int} {i j : Nat} {x y : Int} (hx : a[i]? = some x) (hy : b[j]? = some y) (h : x ≠ y) (hl : ¬ lcsAt a b (i + 1) j < lcsAt a b i (j + 1)) : mtAt a b i j = -1 :: mtAt a b (i + 1) j := by
  obtain ⟨hi, hx'⟩ := List.getElem?_eq_some_iff.1 hx
  obtain ⟨hj, hy'⟩ := List.getElem?_eq_some_iff.1 hy
  unfold lcsAt at hl
  unfold mtAt
  rw [List.drop_eq_getElem_cons hj] at hl
  conv at hl => rhs; rw [List.drop_eq_getElem_cons hi]
  rw [List.drop_eq_getElem_cons hi, List.drop_eq_getElem_cons hj, mt, if_neg (by rw [hx', hy']; exact h), if_neg hl]

/-- The last of the list that is paired; -1 if none is. -/
def lastP (m : List Int) : Int := (m.filter fun x => x != -1).getLastD (-1)
theorem lastP_snoc_miss (m : List Int) : lastP (m ++ [-1]) = lastP m := by unfold lastP; simp
theorem lastP_snoc_hit {m : List Int} {v : Int} (h : v ≠ -1) : lastP (m ++ [v]) = v := by unfold lastP; simp [h]
theorem paired_snoc_miss (m : List Int) : paired (m ++ [-1]) = paired m := by unfold paired; simp
theorem paired_snoc_hit {m : List Int} {v : Int} (h : v ≠ -1) : paired (m ++ [v]) = paired m + 1 := by unfold paired; simp [h]
theorem lastP_lt {m : List Int} {v : Int} (h0 : -1 < v) (h : ∀ u ∈ m, u < v) : lastP m < v := by
  unfold lastP
  rw [List.getLastD_eq_getLast?]
  cases hl : (m.filter fun x => x != -1).getLast? with
  | none => exact h0
  | some u => exact h u (List.mem_filter.1 (List.mem_of_getLast? hl)).1
end Go.Proofs.YticgjbckfpkpjaaGreat
/- Proved here, without conditions: chunks of sides that were picked, in whatever turn, each once at least: they are those of all sides, with the same sides picked in each. -/
namespace Go.Proofs.YticgjbckfpkpjaaGreat
set_option linter.unusedVariables false

/-- The chunks of matches. -/
def IsCut (m : Int) (sizes : List Int) (ms : List (List Int)) (cs : List Ck) : Prop := Cov m sizes cs none 0 (List.replicate sizes.length 0) ∧ ∀ c ∈ cs, Places ms c
/-- A match of m places to z: numbers that aren't -1 rise, from 0 on, below z. -/
def IsMatch (m : Nat) (l : List Int) (z : Int) : Prop := l.length = m ∧ (∀ u ∈ l, u ≠ -1 → 0 ≤ u ∧ u < z) ∧ l.Pairwise (fun u v => u ≠ -1 → v ≠ -1 → u < v)
/-- Those at the places of p. -/
def sel {α : Type} (d : α) (p : List Nat) (l : List α) : List α := p.map fun i => (l[i]?).getD d
theorem sel_len {α : Type} (d : α) (p : List Nat) (l : List α) : (sel d p l).length = p.length := by simp [sel]
theorem sel_map {α β : Type} (f : α → β) (d : α) (p : List Nat) (l : List α) : (sel d p l).map f = sel (f d) p (l.map f) := by
  unfold sel
  rw [List.map_map]
  apply List.map_congr_left
  intro i _
  simp only [Function.comp, List.getElem?_map]
  cases l[i]? <;> rfl
theorem sel_at {α : Type} {d : α} {p : List Nat} {l : List α} (hp : ∀ i ∈ p, i < l.length) {j : Nat} {x : α} (h : (sel d p l)[j]? = some x) : ∃ i, p[j]? = some i ∧ l[i]? = some x := by
  unfold sel at h
  rw [List.getElem?_map] at h
  cases hj : p[j]? with
  | none => rw [hj] at h; cases h
  | some i =>
    rw [hj] at h
    have hi := hp i (List.mem_of_getElem? hj)
    refine ⟨i, rfl, ?_⟩
    simp only [Option.map_some] at h
    rw [List.getElem?_eq_getElem hi] at h ⊢
    simpa using h
theorem sel_mem {α : Type} {d : α} {p : List Nat} {l : List α} (hp : ∀ i ∈ p, i < l.length) {x : α} (h : x ∈ sel d p l) : x ∈ l := by
  obtain ⟨j, hj⟩ := List.mem_iff_getElem?.1 h
  obtain ⟨i, _, h2⟩ := sel_at hp hj
  exact List.mem_of_getElem? h2
theorem mem_sel {α : Type} {d : α} {p : List Nat} {l : List α} (ha : ∀ i, i < l.length → i ∈ p) {x : α} (h : x ∈ l) : x ∈ sel d p l := by
  obtain ⟨i, hi⟩ := List.mem_iff_getElem?.1 h
  have hlt := (List.getElem?_eq_some_iff.1 hi).1
  unfold sel
  exact List.mem_map.2 ⟨i, ha i hlt, by rw [hi]; rfl⟩

/-- A chunk of which some sides were picked. -/
def selC (p : List Nat) (c : Ck) : Ck := (c.1, c.2.1, sel (0, 0) p c.2.2)
theorem ends_sel (p : List Nat) (c : Ck) : ends (selC p c) = sel 0 p (ends c) := by
  unfold ends selC
  rw [sel_map]

section
variable {p : List Nat} {k : Nat}
theorem empty_sel (hp : ∀ i ∈ p, i < k) (ha : ∀ i, i < k → i ∈ p) {c : Ck} (hl : c.2.2.length = k) : emptyB (selC p c) = emptyB c := by
  unfold emptyB selC
  congr 2
  rw [Bool.eq_iff_iff, List.any_eq_true, List.any_eq_true]
  constructor
  · rintro ⟨s, h1, h2⟩
    exact ⟨s, sel_mem (by rw [hl]; exact hp) h1, h2⟩
  · rintro ⟨s, h1, h2⟩
    exact ⟨s, mem_sel (by rw [hl]; exact ha) h1, h2⟩
theorem head_sel (hp : ∀ i ∈ p, i < k) (ha : ∀ i, i < k → i ∈ p) {c : Ck} {prev : Option Bool} {b : Int} {a : List Int} (hk : a.length = k) (h : Head c prev b a) : Head (selC p c) prev b (sel 0 p a) where
  base := h.base
  le := h.le
  len := by unfold selC; rw [sel_len, sel_len]
  alt := h.alt
  full := by rw [empty_sel hp ha (h.len.trans hk)]; exact h.full
  side := fun s sp v h1 h2 => by
    obtain ⟨i, e1, e2⟩ := sel_at (by rw [h.len, hk]; exact hp) h1
    obtain ⟨j, e3, e4⟩ := sel_at (by rw [hk]; exact hp) h2
    rw [e1] at e3
    injection e3 with e3
    subst e3
    exact h.side i sp v e2 e4
theorem cov_sel (hp : ∀ i ∈ p, i < k) (ha : ∀ i, i < k → i ∈ p) {m : Int} {sizes : List Int} : ∀ {cs : List Ck} {prev : Option Bool} {b : Int} {a : List Int}, a.length = k → Cov m sizes cs prev b a → Cov m (sel 0 p sizes) (cs.map (selC p)) prev b (sel 0 p a)
  | [], _, _, _, _, h => by
    obtain ⟨rfl, rfl⟩ := h
    exact ⟨rfl, rfl⟩
  | c :: cs, prev, b, a, hk, h => by
    refine ⟨head_sel hp ha hk h.1, ?_⟩
    have h2 := cov_sel hp ha (by rw [ends_len, h.1.len, hk]) h.2
    rw [← ends_sel] at h2
    exact h2
theorem allP_sel (hp : ∀ i ∈ p, i < k) (ha : ∀ i, i < k → i ∈ p) {ms : List (List Int)} (hk : ms.length = k) (t : Int) : allP (sel [] p ms) t = allP ms t := by
  unfold allP
  rw [Bool.eq_iff_iff, List.all_eq_true, List.all_eq_true]
  exact ⟨fun h x hx => h x (mem_sel (by rw [hk]; exact ha) hx), fun h x hx => h x (sel_mem (by rw [hk]; exact hp) hx)⟩
theorem places_sel (hp : ∀ i ∈ p, i < k) (ha : ∀ i, i < k → i ∈ p) {ms : List (List Int)} (hk : ms.length = k) {c : Ck} (hl : c.2.2.length = k) (h : Places ms c) : Places (sel [] p ms) (selC p c) := by
  intro t h1 h2
  obtain ⟨q1, q2⟩ := h t h1 h2
  refine ⟨by rw [allP_sel hp ha hk]; exact q1, fun hc s l sp e1 e2 => ?_⟩
  obtain ⟨i, d1, d2⟩ := sel_at (by rw [hk]; exact hp) e1
  obtain ⟨j, d3, d4⟩ := sel_at (l := c.2.2) (by rw [hl]; exact hp) e2
  rw [d1] at d3
  injection d3 with d3
  subst d3
  exact q2 hc i l sp d2 d4
theorem cov_lens {m : Int} {sizes : List Int} : ∀ {cs : List Ck} {prev : Option Bool} {b : Int} {a : List Int}, a.length = k → Cov m sizes cs prev b a → ∀ c ∈ cs, c.2.2.length = k
  | [], _, _, _, _, _, c, hc => by cases hc
  | d :: cs, prev, b, a, hk, h, c, hc => by
    have h1 : d.2.2.length = k := h.1.len.trans hk
    rcases List.mem_cons.1 hc with rfl | hc
    · exact h1
    · exact cov_lens (by rw [ends_len]; exact h1) h.2 c hc
/-- The chunks of sides that were picked. -/
theorem cut_sel (hp : ∀ i ∈ p, i < k) (ha : ∀ i, i < k → i ∈ p) {m : Int} {sizes : List Int} {ms : List (List Int)} {cs ds : List Ck} (hs : sizes.length = k) (hm : ms.length = k) (h : IsCut m sizes ms cs) (h' : IsCut m (sel 0 p sizes) (sel [] p ms) ds) : ds = cs.map (selC p) := by
  have hl := cov_lens (k := k) (by rw [List.length_replicate, hs]) h.1
  have h1 := cov_sel hp ha (by rw [List.length_replicate, hs]) h.1
  have h2 : sel 0 p (List.replicate sizes.length (0 : Int)) = List.replicate (sel 0 p sizes).length 0 := by
    rw [sel_len]
    unfold sel
    rw [List.eq_replicate_iff]
    refine ⟨by simp, fun b hb => ?_⟩
    obtain ⟨i, _, rfl⟩ := List.mem_map.1 hb
    rw [List.getElem?_replicate]
    split <;> rfl
  rw [h2] at h1
  refine cov_one (by rw [sel_len, sel_len]) h'.1 h1 h'.2 fun e he => ?_
  obtain ⟨c, hc, rfl⟩ := List.mem_map.1 he
  exact places_sel hp ha hm (hl c hc) (h.2 c hc)
end

/-- Turned by n. -/
def turnP (k n : Nat) : List Nat := (List.range k).map fun j => (j + n) % k
theorem turnP_lt {k n : Nat} (hk : 0 < k) : ∀ i ∈ turnP k n, i < k := by
  intro i hi
  obtain ⟨j, _, rfl⟩ := List.mem_map.1 hi
  exact Nat.mod_lt _ hk
theorem turnP_all {k n : Nat} (hn : n < k) : ∀ i, i < k → i ∈ turnP k n := by
  intro i hi
  unfold turnP
  by_cases h : n ≤ i
  · exact List.mem_map.2 ⟨i - n, List.mem_range.2 (by omega), by rw [show i - n + n = i by omega, Nat.mod_eq_of_lt hi]⟩
  · refine List.mem_map.2 ⟨i + k - n, List.mem_range.2 (by omega), ?_⟩
    rw [show i + k - n + n = i + k by omega, Nat.add_mod_right, Nat.mod_eq_of_lt hi]
theorem sel_turn {α : Type} (d : α) (l : List α) {n : Nat} (hn : n < l.length) : l.drop n ++ l.take n = sel d (turnP l.length n) l := by
  apply List.ext_getElem?
  intro j
  unfold sel turnP
  rw [List.map_map, List.getElem?_map]
  by_cases hj : j < l.length
  · rw [List.getElem?_range hj]
    simp only [Option.map_some, Function.comp]
    have hm : (j + n) % l.length < l.length := Nat.mod_lt _ (by omega)
    rw [List.getElem?_eq_getElem hm, Option.getD_some]
    by_cases h : j < l.length - n
    · rw [List.getElem?_append_left (by simp; omega), List.getElem?_drop, List.getElem?_eq_getElem (by omega)]
      congr 1
      simp only [show (j + n) % l.length = n + j from by rw [Nat.mod_eq_of_lt (by omega)]; omega]
    · rw [List.getElem?_append_right (by simp; omega), List.length_drop, List.getElem?_take, if_pos (by omega), List.getElem?_eq_getElem (by omega)]
      congr 1
      have e : (j + n) % l.length = j - (l.length - n) := by
        rw [show j + n = (j - (l.length - n)) + l.length by omega, Nat.add_mod_right, Nat.mod_eq_of_lt (by omega)]
      simp only [e]
  · rw [List.getElem?_eq_none (by simp; omega), List.getElem?_eq_none (by simp; omega)]
    rfl
/-- One more, that of place n again. -/
def moreP (k n : Nat) : List Nat := List.range k ++ [n]
theorem moreP_lt {k n : Nat} (hn : n < k) : ∀ i ∈ moreP k n, i < k := by
  intro i hi
  rcases List.mem_append.1 hi with h | h
  · exact List.mem_range.1 h
  · simp at h; omega
theorem moreP_all {k n : Nat} : ∀ i, i < k → i ∈ moreP k n := fun i hi => List.mem_append_left _ (List.mem_range.2 hi)
theorem sel_more {α : Type} (d : α) (l : List α) {n : Nat} {x : α} (hx : l[n]? = some x) : l ++ [x] = sel d (moreP l.length n) l := by
  unfold sel moreP
  rw [List.map_append, List.map_cons, List.map_nil, hx, Option.getD_some]
  congr 1
  apply List.ext_getElem?
  intro j
  rw [List.getElem?_map]
  by_cases hj : j < l.length
  · rw [List.getElem?_range hj, List.getElem?_eq_getElem hj]
    simp [hj]
  · rw [List.getElem?_eq_none (by omega), List.getElem?_eq_none (by simp; omega)]
    rfl

end Go.Proofs.YticgjbckfpkpjaaGreat

/- Proved here: texts joined: CkSl, LcsPure. -/
import Derived.Test.YticgjbckfpkpjaaGreatBu01
import Derived.Test.YticgjbckfpkpjaaGreatBu04
import Derived.Lib.Hide
/- Proved here, without conditions on the program: slices of spans, of chunks, of slices of bytes, that read as lists. -/
namespace Go.Proofs.YticgjbckfpkpjaaGreat
open Go.RowKit
set_option linter.unusedVariables false

/-- A slice of spans. -/
def Spans (w : World) (B : Nat) (A : Option Addr) (n : Nat) (ss : List Sp) : Prop :=
  ss.length = n ∧ (0 < n → ∃ b o : Nat, A = some ⟨b, o, none⟩ ∧ b < B ∧ ∀ j s, ss[j]? = some s → w.cell? ⟨b, o + j * 2, none⟩ = some (.int .i64 s.1) ∧ w.cell? ⟨b, o + j * 2 + 1, none⟩ = some (.int .i64 s.2))
/-- A slice of chunks. -/
def Cks (w : World) (B : Nat) (A : Option Addr) (n : Nat) (cs : List Ck) : Prop :=
  cs.length = n ∧ (0 < n → ∃ b o : Nat, A = some ⟨b, o, none⟩ ∧ b < B ∧ ∀ j c, cs[j]? = some c →
    w.cell? ⟨b, o + j * 4, none⟩ = some (.bool c.1) ∧ w.cell? ⟨b, o + j * 4 + 1, none⟩ = some (.int .i64 c.2.1.1) ∧ w.cell? ⟨b, o + j * 4 + 2, none⟩ = some (.int .i64 c.2.1.2) ∧
      ∃ A' n' c', w.cell? ⟨b, o + j * 4 + 3, none⟩ = some (.slice A' n' c') ∧ n' ≤ c' ∧ c' ≤ maxLen ∧ Spans w B A' n' c.2.2)
/-- A slice of slices of bytes. -/
def RowsB (w : World) (B : Nat) (A : Option Addr) (n : Nat) (rows : List (Option Addr × Nat × Nat)) (bss : List (List UInt8)) : Prop :=
  Reads w B A n (rows.map fun r => .slice r.1 r.2.1 r.2.2) ∧ rows.length = bss.length ∧ ∀ (k : Nat) (r : Option Addr × Nat × Nat) (bs : List UInt8), rows[k]? = some r → bss[k]? = some bs → r.2.1 ≤ r.2.2 ∧ r.2.2 ≤ maxLen ∧ Byts w B r.1 r.2.1 bs

section
variable {w w' : World} {B B' n : Nat} {A : Option Addr}
theorem Spans.keep {ss : List Sp} (h : Spans w B A n ss) (hk : ∀ p : Addr, p.block < B → w'.cell? p = w.cell? p) : Spans w' B A n ss :=
  ⟨h.1, fun hn => by
    obtain ⟨b, o, e, hb, hc⟩ := h.2 hn
    exact ⟨b, o, e, hb, fun j s hj => ⟨(hk _ hb).trans (hc j s hj).1, (hk _ hb).trans (hc j s hj).2⟩⟩⟩
theorem Spans.more {ss : List Sp} (h : Spans w B A n ss) (hB : B ≤ B') : Spans w B' A n ss :=
  ⟨h.1, fun hn => by
    obtain ⟨b, o, e, hb, hc⟩ := h.2 hn
    exact ⟨b, o, e, by omega, hc⟩⟩
theorem Spans.len {ss : List Sp} (h : Spans w B A n ss) : ss.length = n := h.1
theorem Spans.at_ {ss : List Sp} {k : Nat} (h : Spans w B A n ss) (hk : k < n) : ∃ b o s, A = some ⟨b, o, none⟩ ∧ b < B ∧ ss[k]? = some s ∧ w.cell? ⟨b, o + k * 2, none⟩ = some (.int .i64 s.1) ∧ w.cell? ⟨b, o + k * 2 + 1, none⟩ = some (.int .i64 s.2) := by
  obtain ⟨b, o, e, hb, hc⟩ := h.2 (by omega)
  have hl : k < ss.length := by have := h.1; omega
  exact ⟨b, o, ss[k], e, hb, List.getElem?_eq_getElem hl, hc k _ (List.getElem?_eq_getElem hl)⟩
theorem Cks.keep {cs : List Ck} (h : Cks w B A n cs) (hk : ∀ p : Addr, p.block < B → w'.cell? p = w.cell? p) : Cks w' B A n cs :=
  ⟨h.1, fun hn => by
    obtain ⟨b, o, e, hb, hc⟩ := h.2 hn
    refine ⟨b, o, e, hb, fun j c hj => ?_⟩
    obtain ⟨h1, h2, h3, A', n', c', h4, h5, h6, h7⟩ := hc j c hj
    exact ⟨(hk _ hb).trans h1, (hk _ hb).trans h2, (hk _ hb).trans h3, A', n', c', (hk _ hb).trans h4, h5, h6, h7.keep hk⟩⟩
theorem Cks.more {cs : List Ck} (h : Cks w B A n cs) (hB : B ≤ B') : Cks w B' A n cs :=
  ⟨h.1, fun hn => by
    obtain ⟨b, o, e, hb, hc⟩ := h.2 hn
    refine ⟨b, o, e, by omega, fun j c hj => ?_⟩
    obtain ⟨h1, h2, h3, A', n', c', h4, h5, h6, h7⟩ := hc j c hj
    exact ⟨h1, h2, h3, A', n', c', h4, h5, h6, h7.more hB⟩⟩
theorem Cks.len {cs : List Ck} (h : Cks w B A n cs) : cs.length = n := h.1
theorem Cks.at_ {cs : List Ck} {k : Nat} (h : Cks w B A n cs) (hk : k < n) : ∃ b o c A' n' c', A = some ⟨b, o, none⟩ ∧ b < B ∧ cs[k]? = some c ∧ w.cell? ⟨b, o + k * 4, none⟩ = some (.bool c.1) ∧ w.cell? ⟨b, o + k * 4 + 1, none⟩ = some (.int .i64 c.2.1.1) ∧
    w.cell? ⟨b, o + k * 4 + 2, none⟩ = some (.int .i64 c.2.1.2) ∧ w.cell? ⟨b, o + k * 4 + 3, none⟩ = some (.slice A' n' c') ∧ n' ≤ c' ∧ c' ≤ maxLen ∧ Spans w B A' n' c.2.2 := by
  obtain ⟨b, o, e, hb, hc⟩ := h.2 (by omega)
  have hl : k < cs.length := by have := h.1; omega
  obtain ⟨h1, h2, h3, A', n', c', h4, h5, h6, h7⟩ := hc k _ (List.getElem?_eq_getElem hl)
  exact ⟨b, o, cs[k], A', n', c', e, hb, List.getElem?_eq_getElem hl, h1, h2, h3, h4, h5, h6, h7⟩
theorem Cks.up {cs : List Ck} (h : Cks w w.heap.size A n cs) (hb : Below w.heap.size w w') : Cks w' w'.heap.size A n cs := (h.keep fun _ hp => hb.cell hp).more hb.size
theorem Cks.nil (w : World) (B : Nat) (A : Option Addr) : Cks w B A 0 [] := ⟨rfl, fun h => absurd h (by omega)⟩
theorem Cks.drewN {cs : List Ck} (h : Cks w B A n cs) (q : Nat) : Cks (w.drewN q) B A n cs := h.keep fun _ _ => rfl
theorem Cks.drew {cs : List Ck} (h : Cks w B A n cs) : Cks w.drew B A n cs := h.keep fun _ _ => rfl
theorem Byts.up {l : List UInt8} (h : Byts w w.heap.size A n l) (hb : Below w.heap.size w w') : Byts w' w'.heap.size A n l := (Byts.below h hb).more hb.size
theorem RowsB.up {rows : List (Option Addr × Nat × Nat)} {bss : List (List UInt8)} (h : RowsB w w.heap.size A n rows bss) (hb : Below w.heap.size w w') : RowsB w' w'.heap.size A n rows bss :=
  ⟨(h.1.below hb).more hb.size, h.2.1, fun k r bs h1 h2 => ⟨(h.2.2 k r bs h1 h2).1, (h.2.2 k r bs h1 h2).2.1, (h.2.2 k r bs h1 h2).2.2.up hb⟩⟩
theorem RowsB.len {rows : List (Option Addr × Nat × Nat)} {bss : List (List UInt8)} (h : RowsB w B A n rows bss) : bss.length = n := by
  have := h.1.1; have := h.2.1; simp at *; omega
theorem RowsB.at_ {k : Nat} {rows : List (Option Addr × Nat × Nat)} {bss : List (List UInt8)} (h : RowsB w B A n rows bss) (hk : k < n) :
    ∃ b o A' n' c' bs, A = some ⟨b, o, none⟩ ∧ b < B ∧ bss[k]? = some bs ∧ w.cell? ⟨b, o + k, none⟩ = some (.slice A' n' c') ∧ n' ≤ c' ∧ c' ≤ maxLen ∧ Byts w B A' n' bs := by
  obtain ⟨b, o, u, e, hb, hu, hc⟩ := Reads.at_ h.1 hk
  rw [List.getElem?_map] at hu
  cases hr : rows[k]? with
  | none => rw [hr] at hu; cases hu
  | some r =>
    rw [hr] at hu
    have hlt : k < bss.length := by have := h.len; omega
    obtain ⟨h1, h2, h3⟩ := h.2.2 k r _ hr (List.getElem?_eq_getElem hlt)
    exact ⟨b, o, r.1, r.2.1, r.2.2, bss[k], e, hb, List.getElem?_eq_getElem hlt, by rw [hc]; simpa using hu.symm, h1, h2, h3⟩
theorem Byts.at_ {l : List UInt8} {k : Nat} (h : Byts w B A n l) (hk : k < n) : ∃ b o x, A = some ⟨b, o, none⟩ ∧ b < B ∧ l[k]? = some x ∧ w.cell? ⟨b, o + k, none⟩ = some (.int .u8 x.toNat) := by
  obtain ⟨b, o, u, e, hb, hu, hc⟩ := Reads.at_ h hk
  rw [List.getElem?_map] at hu
  cases hr : l[k]? with
  | none => rw [hr] at hu; cases hu
  | some x => rw [hr] at hu; exact ⟨b, o, x, e, hb, rfl, by rw [hc]; simpa using hu.symm⟩
end

/-- Bytes as numbers. -/
def ints (l : List UInt8) : List Int := l.map fun b => (b.toNat : Int)
theorem ints_len (l : List UInt8) : (ints l).length = l.length := by simp [ints]
theorem ints_at {l : List UInt8} {k : Nat} {b : UInt8} (h : l[k]? = some b) : (ints l)[k]? = some (b.toNat : Int) := by simp [ints, h]
end Go.Proofs.YticgjbckfpkpjaaGreat
/- Proved here, without conditions: plain facts on the longest common sequence of two lists (no word of the program). -/
namespace Go.Proofs.YticgjbckfpkpjaaGreat
set_option linter.unusedVariables false

/-- How long the longest common sequence of two lists is. -/
def lcsL : List Int → List Int → Nat
  | [], _ => 0
  | _ :: _, [] => 0
  | x :: a, y :: b => if x = y then lcsL a b + 1 else max (lcsL a (y :: b)) (lcsL (x :: a) b)
termination_by a b => a.length + b.length

theorem lcs_nil_left (b : List Int) : lcsL [] b = 0 := by unfold lcsL; rfl
theorem lcs_nil_right (a : List Int) : lcsL a [] = 0 := by cases a <;> unfold lcsL <;> rfl
theorem lcs_same (x : Int) (a b : List Int) : lcsL (x :: a) (x :: b) = lcsL a b + 1 := by rw [lcsL]; simp
theorem lcs_other {x y : Int} (h : x ≠ y) (a b : List Int) : lcsL (x :: a) (y :: b) = max (lcsL a (y :: b)) (lcsL (x :: a) b) := by rw [lcsL]; simp [h]

/-- A common sequence that is as long. -/
theorem lcs_is (a b : List Int) : ∃ s : List Int, s.Sublist a ∧ s.Sublist b ∧ s.length = lcsL a b := by
  induction a, b using lcsL.induct with
  | case1 b => exact ⟨[], List.nil_sublist _, List.nil_sublist _, by rw [lcs_nil_left]; rfl⟩
  | case2 x a => exact ⟨[], List.nil_sublist _, List.nil_sublist _, by rw [lcs_nil_right]; rfl⟩
  | case3 a y b ih =>
    obtain ⟨s, h1, h2, h3⟩ := ih
    exact ⟨y :: s, h1.cons_cons _, h2.cons_cons _, by rw [lcs_same, List.length_cons, h3]⟩
  | case4 x a y b h ih1 ih2 =>
    obtain ⟨s, h1, h2, h3⟩ := ih1
    obtain ⟨t, k1, k2, k3⟩ := ih2
    rw [lcs_other h]
    rcases Nat.le_total (lcsL a (y :: b)) (lcsL (x :: a) b) with hl | hl
    · exact ⟨t, k1, k2.cons _, by rw [k3]; omega⟩
    · exact ⟨s, h1.cons _, h2, by rw [h3]; omega⟩

/-- No common sequence is longer. -/
theorem lcs_most (a b : List Int) : ∀ s : List Int, s.Sublist a → s.Sublist b → s.length ≤ lcsL a b := by
  induction a, b using lcsL.induct with
  | case1 b => intro s h1 _; rw [List.sublist_nil.1 h1]; simp
  | case2 x a => intro s _ h2; rw [List.sublist_nil.1 h2]; simp
  | case3 a y b ih =>
    intro s h1 h2
    rw [lcs_same]
    cases s with
    | nil => simp
    | cons z s =>
      have g1 : s.Sublist a := by
        cases h1 with
        | cons _ h => exact (List.sublist_cons_self z s).trans h
        | cons_cons _ h => exact h
      have g2 : s.Sublist b := by
        cases h2 with
        | cons _ h => exact (List.sublist_cons_self z s).trans h
        | cons_cons _ h => exact h
      have := ih s g1 g2
      simp only [List.length_cons]
      omega
  | case4 x a y b h ih1 ih2 =>
    intro s h1 h2
    rw [lcs_other h]
    cases h1 with
    | cons _ h1 => have := ih1 s h1 h2; omega
    | cons_cons _ h1 =>
      cases h2 with
      | cons _ h2 => have := ih2 _ (h1.cons_cons _) h2; omega
      | cons_cons _ h2 => exact absurd rfl h

theorem lcs_eq {a b a' b' : List Int} (h : ∀ s : List Int, s.Sublist a → s.Sublist b → ∃ t : List Int, t.length = s.length ∧ t.Sublist a' ∧ t.Sublist b') : lcsL a b ≤ lcsL a' b' := by
  obtain ⟨s, h1, h2, h3⟩ := lcs_is a b
  obtain ⟨t, k1, k2, k3⟩ := h s h1 h2
  have := lcs_most a' b' t k2 k3
  omega
theorem lcs_comm (a b : List Int) : lcsL a b = lcsL b a :=
  Nat.le_antisymm (lcs_eq fun s h1 h2 => ⟨s, rfl, h2, h1⟩) (lcs_eq fun s h1 h2 => ⟨s, rfl, h2, h1⟩)
theorem lcs_turned (a b : List Int) : lcsL a.reverse b.reverse = lcsL a b := by
  refine Nat.le_antisymm (lcs_eq fun s h1 h2 => ⟨s.reverse, by simp, ?_, ?_⟩) (lcs_eq fun s h1 h2 => ⟨s.reverse, by simp, h1.reverse, h2.reverse⟩)
  · simpa using h1.reverse
  · simpa using h2.reverse
theorem lcs_le_left (a b : List Int) : lcsL a b ≤ a.length := by
  obtain ⟨s, h1, _, h3⟩ := lcs_is a b
  have := h1.length_le; omega
theorem lcs_le_right (a b : List Int) : lcsL a b ≤ b.length := by rw [lcs_comm]; exact lcs_le_left b a
theorem lcs_self (a : List Int) : lcsL a a = a.length :=
  Nat.le_antisymm (lcs_le_left a a) (lcs_most a a a (List.Sublist.refl _) (List.Sublist.refl _))
theorem lcs_mono {a b a' b' : List Int} (h1 : a.Sublist a') (h2 : b.Sublist b') : lcsL a b ≤ lcsL a' b' :=
  lcs_eq fun s k1 k2 => ⟨s, rfl, k1.trans h1, k2.trans h2⟩
theorem lcs_front (p a b : List Int) : lcsL (p ++ a) (p ++ b) = p.length + lcsL a b := by
  induction p with
  | nil => simp
  | cons x p ih => rw [List.cons_append, List.cons_append, lcs_same, ih, List.length_cons]; omega
theorem lcs_back (p a b : List Int) : lcsL (a ++ p) (b ++ p) = lcsL a b + p.length := by
  rw [← lcs_turned, List.reverse_append, List.reverse_append, lcs_front, lcs_turned, List.length_reverse]; omega
/-- One more in front is one more at most. -/
theorem lcs_cons_left (x : Int) (a b : List Int) : lcsL (x :: a) b ≤ lcsL a b + 1 := by
  obtain ⟨s, h1, h2, h3⟩ := lcs_is (x :: a) b
  cases s with
  | nil => simp at h3; omega
  | cons z s =>
    have g1 : s.Sublist a := by
      cases h1 with
      | cons _ h => exact (List.sublist_cons_self z s).trans h
      | cons_cons _ h => exact h
    have := lcs_most a b s g1 ((List.sublist_cons_self z s).trans h2)
    simp only [List.length_cons] at h3
    omega
theorem lcs_cons_right (y : Int) (a b : List Int) : lcsL a (y :: b) ≤ lcsL a b + 1 := by
  rw [lcs_comm, lcs_comm a b]; exact lcs_cons_left y b a

/-- The document's reckoning: the greater one of both, and one more than what is left of both, if they begin with the same. -/
theorem lcs_row (x y : Int) (a b : List Int) : lcsL (x :: a) (y :: b) = if x = y then max (max (lcsL a (y :: b)) (lcsL (x :: a) b)) (lcsL a b + 1) else max (lcsL a (y :: b)) (lcsL (x :: a) b) := by
  split
  · rename_i h
    subst h
    have h1 := lcs_cons_left x a b
    have h2 := lcs_cons_right x a b
    rw [lcs_same]
    omega
  · rename_i h
    exact lcs_other h a b

/-- What two lists that lie in one have in common. -/
theorem sub_meet (b : List Int) : ∀ s t : List Int, s.Sublist b → t.Sublist b → ∃ u : List Int, u.Sublist s ∧ u.Sublist t ∧ s.length + t.length ≤ u.length + b.length := by
  induction b with
  | nil => intro s t h1 h2; rw [List.sublist_nil.1 h1, List.sublist_nil.1 h2]; exact ⟨[], List.nil_sublist _, List.nil_sublist _, by simp⟩
  | cons x b ih =>
    intro s t h1 h2
    cases h1 with
    | cons _ h1 =>
      cases h2 with
      | cons _ h2 => obtain ⟨u, a1, a2, a3⟩ := ih _ _ h1 h2; exact ⟨u, a1, a2, by simp only [List.length_cons]; omega⟩
      | cons_cons _ h2 => obtain ⟨u, a1, a2, a3⟩ := ih _ _ h1 h2; exact ⟨u, a1, a2.cons _, by simp only [List.length_cons]; omega⟩
    | cons_cons _ h1 =>
      cases h2 with
      | cons _ h2 => obtain ⟨u, a1, a2, a3⟩ := ih _ _ h1 h2; exact ⟨u, a1.cons _, a2, by simp only [List.length_cons]; omega⟩
      | cons_cons _ h2 => obtain ⟨u, a1, a2, a3⟩ := ih _ _ h1 h2; exact ⟨x :: u, a1.cons_cons _, a2.cons_cons _, by simp only [List.length_cons]; omega⟩
theorem lcs_between (a b c : List Int) : lcsL a b + lcsL b c ≤ lcsL a c + b.length := by
  obtain ⟨s, h1, h2, h3⟩ := lcs_is a b
  obtain ⟨t, k1, k2, k3⟩ := lcs_is b c
  obtain ⟨u, a1, a2, a3⟩ := sub_meet b s t h2 k1
  have := lcs_most a c u (a1.trans h1) (a2.trans k2)
  omega

/-- L of the places i and j. -/
def lcsAt (a b : List Int) (i j : Nat) : Nat := lcsL (a.drop i) (b.drop j)
theorem lcsAt_zero (a b : List Int) : lcsAt a b 0 0 = lcsL a b := rfl
theorem lcsAt_end_left {a b : List Int} {i j : Nat} (h : a.length ≤ i) : lcsAt a b i j = 0 := by unfold lcsAt; rw [List.drop_of_length_le h, lcs_nil_left]
theorem lcsAt_end_right {a b : List Int} {i j : Nat} (h : b.length ≤ j) : lcsAt a b i j = 0 := by unfold lcsAt; rw [List.drop_of_length_le h, lcs_nil_right]
theorem lcsAt_row {a b : List Int} {i j : Nat} {x y : Int} (hx : a[i]? = some x) (hy : b[j]? = some y) :
    lcsAt a b i j = if x = y then max (max (lcsAt a b (i + 1) j) (lcsAt a b i (j + 1))) (lcsAt a b (i + 1) (j + 1) + 1) else max (lcsAt a b (i + 1) j) (lcsAt a b i (j + 1)) := by
  obtain ⟨hi, rfl⟩ := List.getElem?_eq_some_iff.1 hx
  obtain ⟨hj, rfl⟩ := List.getElem?_eq_some_iff.1 hy
  unfold lcsAt
  rw [List.drop_eq_getElem_cons hi, List.drop_eq_getElem_cons hj]
  exact lcs_row _ _ _ _
theorem lcsAt_same {a b : List Int} {i j : Nat} {x : Int} (hx : a[i]? = some x) (hy : b[j]? = some x) : lcsAt a b i j = lcsAt a b (i + 1) (j + 1) + 1 := by
  obtain ⟨hi, hx'⟩ := List.getElem?_eq_some_iff.1 hx
  obtain ⟨hj, hy'⟩ := List.getElem?_eq_some_iff.1 hy
  unfold lcsAt
  rw [List.drop_eq_getElem_cons hi, List.drop_eq_getElem_cons hj, hx', hy']
  exact lcs_same _ _ _
theorem lcsAt_other {a b : List Int} {i j : Nat} {x y : Int} (hx : a[i]? = some x) (hy : b[j]? = some y) (h : x ≠ y) : lcsAt a b i j = max (lcsAt a b (i + 1) j) (lcsAt a b i (j + 1)) := by
  rw [lcsAt_row hx hy, if_neg h]
theorem lcsAt_le_left (a b : List Int) (i j : Nat) : lcsAt a b i j ≤ a.length - i := by
  have := lcs_le_left (a.drop i) (b.drop j)
  rw [List.length_drop] at this
  exact this
theorem lcsAt_le_right (a b : List Int) (i j : Nat) : lcsAt a b i j ≤ b.length - j := by
  have := lcs_le_right (a.drop i) (b.drop j)
  rw [List.length_drop] at this
  exact this
/-- A place further on of both, where both have the same: no more is left than one less. -/
theorem lcsAt_take {a b : List Int} {i j x y : Nat} {v : Int} (hx : i ≤ x) (hy : j ≤ y) (ha : a[x]? = some v) (hb : b[y]? = some v) : lcsAt a b (x + 1) (y + 1) + 1 ≤ lcsAt a b i j := by
  rw [← lcsAt_same ha hb]
  unfold lcsAt
  refine lcs_mono ?_ ?_
  · have : a.drop x = (a.drop i).drop (x - i) := by rw [List.drop_drop]; congr 1; omega
    rw [this]; exact List.drop_sublist _ _
  · have : b.drop y = (b.drop j).drop (y - j) := by rw [List.drop_drop]; congr 1; omega
    rw [this]; exact List.drop_sublist _ _

/-- The document's match, from places i (of a) and j (of b) on: the list of what is paired, for a's places from i on. -/
def mt : List Int → List Int → Nat → List Int
  | [], _, _ => []
  | _ :: a, [], j => -1 :: mt a [] j
  | x :: a, y :: b, j => if x = y then (j : Int) :: mt a b (j + 1) else if lcsL a (y :: b) < lcsL (x :: a) b then mt (x :: a) b (j + 1) else -1 :: mt a (y :: b) j
termination_by a b => a.length + b.length

theorem mt_len (a b : List Int) (j : Nat) : (mt a b j).length = a.length := by
  induction a, b, j using mt.induct with
  | case1 b j => unfold mt; rfl
  | case2 x a j ih => rw [mt]; simp [ih]
  | case3 a j y b ih => rw [mt]; simp [ih]
  | case4 j x a y b h hlt ih => rw [mt, if_neg h, if_pos hlt]; exact ih
  | case5 j x a y b h hlt ih => rw [mt, if_neg h, if_neg hlt]; simp [ih]
theorem mt_front (p a b : List Int) : ∀ j, mt (p ++ a) (p ++ b) j = ((List.range p.length).map fun i => ((j + i : Nat) : Int)) ++ mt a b (j + p.length) := by
  induction p with
  | nil => intro j; simp
  | cons x p ih =>
    intro j
    rw [List.cons_append, List.cons_append, mt, if_pos rfl, ih, List.length_cons, List.range_succ_eq_map, List.map_cons, List.cons_append, List.map_map, Nat.add_zero, show j + 1 + p.length = j + (p.length + 1) from by omega]
    congr 2
    refine List.map_congr_left fun i _ => ?_
    simp; omega
/-- How many are paired. -/
def paired (m : List Int) : Nat := (m.filter fun x => x != -1).length
theorem mt_count (a b : List Int) (j : Nat) : paired (mt a b j) = lcsL a b := by
  unfold paired
  induction a, b, j using mt.induct with
  | case1 b j => rw [mt, lcs_nil_left]; rfl
  | case2 x a j ih => rw [mt, lcs_nil_right]; simp [ih, lcs_nil_right]
  | case3 a j y b ih =>
    rw [mt, if_pos rfl, lcs_same, List.filter_cons, if_pos (by simp), List.length_cons, ih]
  | case4 j x a y b h hlt ih => rw [mt, if_neg h, if_pos hlt, ih, lcs_other h]; omega
  | case5 j x a y b h hlt ih => rw [mt, if_neg h, if_neg hlt, lcs_other h, List.filter_cons, if_neg (by simp), ih]; omega

/-- What is paired lies in b, is the same, and is above all that was paired ahead of it. -/
theorem mt_good (a b : List Int) (j : Nat) : ∀ (i : Nat) (v : Int), (mt a b j)[i]? = some v → v ≠ -1 → ∃ y : Nat, v = ((j + y : Nat) : Int) ∧ (∃ x, a[i]? = some x ∧ b[y]? = some x) ∧ ∀ i' v', i' < i → (mt a b j)[i']? = some v' → v' < v := by
  induction a, b, j using mt.induct with
  | case1 b j => intro i v h; rw [mt] at h; simp at h
  | case2 x a j ih =>
    intro i v h hv
    rw [mt] at h
    cases i with
    | zero => simp at h; exact absurd h.symm hv
    | succ i =>
      obtain ⟨y, _, ⟨z, _, hz⟩, _⟩ := ih i v (by simpa using h) hv
      simp at hz
  | case3 a y b j ih =>
    intro i v h hv
    rw [mt, if_pos rfl] at h ⊢
    cases i with
    | zero =>
      simp at h
      exact ⟨0, by simp [h], ⟨y, by simp, by simp⟩, fun i' v' hi => absurd hi (by omega)⟩
    | succ i =>
      obtain ⟨q, hq, ⟨z, hz1, hz2⟩, hr⟩ := ih i v (by simpa using h) hv
      refine ⟨q + 1, by rw [hq]; congr 1; omega, ⟨z, by simpa using hz1, by simpa using hz2⟩, fun i' v' hi h' => ?_⟩
      cases i' with
      | zero => simp at h'; rw [hq, ← h']; omega
      | succ i' => exact hr i' v' (by omega) (by simpa using h')
  | case4 j x a y b h hlt ih =>
    intro i v hi hv
    rw [mt, if_neg h, if_pos hlt] at hi ⊢
    obtain ⟨q, hq, ⟨z, hz1, hz2⟩, hr⟩ := ih i v hi hv
    exact ⟨q + 1, by rw [hq]; congr 1; omega, ⟨z, hz1, by simpa using hz2⟩, hr⟩
  | case5 j x a y b h hlt ih =>
    intro i v hi hv
    rw [mt, if_neg h, if_neg hlt] at hi ⊢
    cases i with
    | zero => simp at hi; exact absurd hi.symm hv
    | succ i =>
      obtain ⟨q, hq, ⟨z, hz1, hz2⟩, hr⟩ := ih i v (by simpa using hi) hv
      refine ⟨q, hq, ⟨z, by simpa using hz1, hz2⟩, fun i' v' hi' h' => ?_⟩
      cases i' with
      | zero => simp at h'; rw [hq, ← h']; omega
      | succ i' => exact hr i' v' (by omega) (by simpa using h')

/-- The match for a's places from i on, where b's from j on are left. -/
def mtAt (a b : List Int) (i j : Nat) : List Int := mt (a.drop i) (b.drop j) j
theorem mtAt_end {a b : List Int} {i j : Nat} (h : a.length ≤ i) : mtAt a b i j = [] := by unfold mtAt; rw [List.drop_of_length_le h, mt]
theorem mtAt_out {a b : List Int} {i j : Nat} (hi : i < a.length) (h : b.length ≤ j) : mtAt a b i j = -1 :: mtAt a b (i + 1) j := by
  unfold mtAt
  rw [List.drop_of_length_le h, List.drop_eq_getElem_cons hi, mt]
theorem mtAt_pair {a b : List Int} {i j : Nat} {x : Int} (hx : a[i]? = some x) (hy : b[j]? = some x) : mtAt a b i j = (j : Int) :: mtAt a b (i + 1) (j + 1) := by
  obtain ⟨hi, hx'⟩ := List.getElem?_eq_some_iff.1 hx
  obtain ⟨hj, hy'⟩ := List.getElem?_eq_some_iff.1 hy
  unfold mtAt
  rw [List.drop_eq_getElem_cons hi, List.drop_eq_getElem_cons hj, mt, if_pos (by rw [hx', hy'])]
theorem mtAt_skip {a b : List Int} {i j : Nat} {x y : Int} (hx : a[i]? = some x) (hy : b[j]? = some y) (h : x ≠ y) (hl : lcsAt a b (i + 1) j < lcsAt a b i (j + 1)) : mtAt a b i j = mtAt a b i (j + 1) := by
  obtain ⟨hi, hx'⟩ := List.getElem?_eq_some_iff.1 hx
  obtain ⟨hj, hy'⟩ := List.getElem?_eq_some_iff.1 hy
  unfold lcsAt at hl
  unfold mtAt
  rw [List.drop_eq_getElem_cons hj] at hl
  conv at hl => rhs; rw [List.drop_eq_getElem_cons hi]
  rw [List.drop_eq_getElem_cons hi, List.drop_eq_getElem_cons hj, mt, if_neg (by rw [hx', hy']; exact h), if_pos hl]
theorem mtAt_pass {a b : List Int} {i j : Nat} {x y : Int} (hx : a[i]? = some x) (hy : b[j]? = some y) (h : x ≠ y) (hl : ¬ lcsAt a b (i + 1) j < lcsAt a b i (j + 1)) : mtAt a b i j = -1 :: mtAt a b (i + 1) j := by
  obtain ⟨hi, hx'⟩ := List.getElem?_eq_some_iff.1 hx
  obtain ⟨hj, hy'⟩ := List.getElem?_eq_some_iff.1 hy
  unfold lcsAt at hl
  unfold mtAt
  rw [List.drop_eq_getElem_cons hj] at hl
  conv at hl => rhs; rw [List.drop_eq_getElem_cons hi]
  rw [List.drop_eq_getElem_cons hi, List.drop_eq_getElem_cons hj, mt, if_neg (by rw [hx', hy']; exact h), if_neg hl]

/-- The last of the list that is paired; -1 if none is. -/
def lastP (m : List Int) : Int := (m.filter fun x => x != -1).getLastD (-1)
theorem lastP_snoc_miss (m : List Int) : lastP (m ++ [-1]) = lastP m := by unfold lastP; simp
theorem lastP_snoc_hit {m : List Int} {v : Int} (h : v ≠ -1) : lastP (m ++ [v]) = v := by unfold lastP; simp [h]
theorem paired_snoc_miss (m : List Int) : paired (m ++ [-1]) = paired m := by unfold paired; simp
theorem paired_snoc_hit {m : List Int} {v : Int} (h : v ≠ -1) : paired (m ++ [v]) = paired m + 1 := by unfold paired; simp [h]
theorem lastP_lt {m : List Int} {v : Int} (h0 : -1 < v) (h : ∀ u ∈ m, u < v) : lastP m < v := by
  unfold lastP
  rw [List.getLastD_eq_getLast?]
  cases hl : (m.filter fun x => x != -1).getLast? with
  | none => exact h0
  | some u => exact h u (List.mem_filter.1 (List.mem_of_getLast? hl)).1
end Go.Proofs.YticgjbckfpkpjaaGreat

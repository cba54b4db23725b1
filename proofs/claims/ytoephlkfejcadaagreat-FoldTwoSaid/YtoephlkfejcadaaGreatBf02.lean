/- Proved here: texts joined: Txts, FrameT, LcsPure. -/
import Derived.Test.YtoephlkfejcadaaGreatBf01
import Derived.Deep.Slices
import Derived.Lib.Hide
/- Proved here, without conditions on the program: slices of slices of texts that read as lists; such rows of the call's own. -/
namespace Go.Proofs.YtoephlkfejcadaaGreat
open Go.RowKit
set_option linter.unusedVariables false

/-- A slice's value by its parts. -/
abbrev Slc := Option Addr × Nat × Nat
def slcV (r : Slc) : Value := .slice r.1 r.2.1 r.2.2
theorem slcV_one (l : List Slc) : ∀ u ∈ l.map slcV, u.oneCell' = true := by
  intro u hu
  obtain ⟨r, _, rfl⟩ := List.mem_map.1 hu
  rfl
/-- A slice of texts that reads as ss, with its bounds. -/
def TxR (w : World) (B : Nat) (r : Slc) (ss : List (List UInt8)) : Prop := r.2.1 ≤ r.2.2 ∧ r.2.2 ≤ maxLen ∧ Strs w B r.1 r.2.1 ss
/-- A slice of slices of texts. -/
def RowsT (w : World) (B : Nat) (A : Option Addr) (n : Nat) (rows : List Slc) (sss : List (List (List UInt8))) : Prop :=
  Reads w B A n (rows.map slcV) ∧ rows.length = sss.length ∧ ∀ (k : Nat) (r : Slc) (ss : List (List UInt8)), rows[k]? = some r → sss[k]? = some ss → TxR w B r ss

section
variable {w w' : World} {B B' n : Nat} {A : Option Addr} {r : Slc} {rows : List Slc} {ss : List (List UInt8)} {sss : List (List (List UInt8))}
theorem Strs.keep (h : Strs w B A n ss) (hk : ∀ p : Addr, p.block < B → w'.cell? p = w.cell? p) : Strs w' B A n ss := Reads.keep h hk
theorem Strs.up (h : Strs w w.heap.size A n ss) (hb : Below w.heap.size w w') : Strs w' w'.heap.size A n ss := (Strs.below h hb).more hb.size
theorem Strs.nil (w : World) (B : Nat) (A : Option Addr) : Strs w B A 0 [] := ⟨rfl, fun h => absurd h (by omega)⟩
theorem TxR.keep (h : TxR w B r ss) (hk : ∀ p : Addr, p.block < B → w'.cell? p = w.cell? p) : TxR w' B r ss := ⟨h.1, h.2.1, Strs.keep h.2.2 hk⟩
theorem TxR.more (h : TxR w B r ss) (hB : B ≤ B') : TxR w B' r ss := ⟨h.1, h.2.1, h.2.2.more hB⟩
theorem TxR.below (h : TxR w B r ss) (hb : Below B w w') : TxR w' B r ss := h.keep fun _ hp => hb.cell hp
theorem TxR.up (h : TxR w w.heap.size r ss) (hb : Below w.heap.size w w') : TxR w' w'.heap.size r ss := (h.below hb).more hb.size
theorem TxR.nil (w : World) (B : Nat) : TxR w B (none, 0, 0) [] := ⟨Nat.le_refl _, Nat.zero_le _, Strs.nil _ _ _⟩
theorem RowsT.keep (h : RowsT w B A n rows sss) (hk : ∀ p : Addr, p.block < B → w'.cell? p = w.cell? p) : RowsT w' B A n rows sss := ⟨h.1.keep hk, h.2.1, fun k r ss a b => (h.2.2 k r ss a b).keep hk⟩
theorem RowsT.more (h : RowsT w B A n rows sss) (hB : B ≤ B') : RowsT w B' A n rows sss := ⟨h.1.more hB, h.2.1, fun k r ss a b => (h.2.2 k r ss a b).more hB⟩
theorem RowsT.below (h : RowsT w B A n rows sss) (hb : Below B w w') : RowsT w' B A n rows sss := h.keep fun _ hp => hb.cell hp
theorem RowsT.up (h : RowsT w w.heap.size A n rows sss) (hb : Below w.heap.size w w') : RowsT w' w'.heap.size A n rows sss := (h.below hb).more hb.size
theorem RowsT.drewN (h : RowsT w B A n rows sss) (q : Nat) : RowsT (w.drewN q) B A n rows sss := h.keep fun _ _ => rfl
theorem RowsT.drew (h : RowsT w B A n rows sss) : RowsT w.drew B A n rows sss := h.keep fun _ _ => rfl
theorem RowsT.len (h : RowsT w B A n rows sss) : sss.length = n := by have := h.1.1; have := h.2.1; simp at *; omega
theorem RowsT.rlen (h : RowsT w B A n rows sss) : rows.length = n := by have := h.1.1; simpa using this
theorem RowsT.nil (w : World) (B : Nat) (A : Option Addr) : RowsT w B A 0 [] [] := ⟨⟨rfl, fun h => absurd h (by omega)⟩, rfl, fun k r ss h => by simp at h⟩
theorem RowsT.at_ {k : Nat} (h : RowsT w B A n rows sss) (hk : k < n) :
    ∃ b o A' n' c' ss, A = some ⟨b, o, none⟩ ∧ b < B ∧ sss[k]? = some ss ∧ rows[k]? = some (A', n', c') ∧ w.cell? ⟨b, o + k, none⟩ = some (.slice A' n' c') ∧ n' ≤ c' ∧ c' ≤ maxLen ∧ Strs w B A' n' ss := by
  obtain ⟨b, o, u, e, hb, hu, hc⟩ := Reads.at_ h.1 hk
  rw [List.getElem?_map] at hu
  cases hr : rows[k]? with
  | none => rw [hr] at hu; cases hu
  | some r =>
    rw [hr] at hu
    have hlt : k < sss.length := by have := h.len; omega
    obtain ⟨h1, h2, h3⟩ := h.2.2 k r _ hr (List.getElem?_eq_getElem hlt)
    exact ⟨b, o, r.1, r.2.1, r.2.2, sss[k], e, hb, List.getElem?_eq_getElem hlt, rfl, by rw [hc]; simpa [slcV] using hu.symm, h1, h2, h3⟩
theorem RowsT.of2 (h : Rows2 w B A n rows sss) (hb : ∀ r ∈ rows, r.2.1 ≤ r.2.2 ∧ r.2.2 ≤ maxLen) : RowsT w B A n rows sss :=
  ⟨h.1, h.2.1, fun k r ss a b => ⟨(hb r (List.mem_of_getElem? a)).1, (hb r (List.mem_of_getElem? a)).2, h.2.2 k r ss a b⟩⟩
theorem RowsT.to2 (h : RowsT w B A n rows sss) : Rows2 w B A n rows sss := ⟨h.1, h.2.1, fun k r ss a b => (h.2.2 k r ss a b).2.2⟩
/-- Texts' lists aren't too long. -/
theorem RowsT.few (h : RowsT w B A n rows sss) : ∀ f ∈ sss, f.length ≤ maxLen := by
  intro f hf
  obtain ⟨k, hk⟩ := List.mem_iff_getElem?.1 hf
  have hkl := (List.getElem?_eq_some_iff.1 hk).1
  have hr : rows[k]? = some (rows[k]'(by have := h.2.1; omega)) := List.getElem?_eq_getElem _
  obtain ⟨h1, h2, h3⟩ := h.2.2 k _ f hr hk
  have := h3.len
  omega
end

/-- Rows of texts of the call's own, none of which lies in its own block. -/
structure RowsO (base : Nat) (wr : World) (v : Value) (rows : List Slc) (sss : List (List (List UInt8))) : Prop where
  own : wr.ownsRow base 22 1 v rows.length (rows.map slcV)
  len : rows.length = sss.length
  row : ∀ (k : Nat) (r : Slc) (ss : List (List UInt8)), rows[k]? = some r → sss[k]? = some ss → TxR wr wr.heap.size r ss ∧ (0 < r.2.1 → ∀ q o, r.1 = some ⟨q, o, none⟩ → v.ownBlock ≠ some q)

section
variable {base : Nat} {wr w1 w2 : World} {v v' : Value} {rows : List Slc} {sss : List (List (List UInt8))}
theorem RowsO.start (base : Nat) (w : World) : RowsO base w (.slice none 0 0) [] [] := ⟨World.ownsRow_nil _ _ _ _, rfl, fun k r ss h => by simp at h⟩
theorem RowsO.reads (h : RowsO base wr v rows sss) : ∃ A c, v = .slice A rows.length c ∧ rows.length ≤ c ∧ c ≤ maxLen ∧ RowsT wr wr.heap.size A rows.length rows sss := by
  obtain ⟨A, c, e, h1, h2, h3⟩ := own_slice h.own
  exact ⟨A, c, e, h1, h2, h3, h.len, fun k r ss a b => (h.row k r ss a b).1⟩
theorem RowsO.up (h : RowsO base wr v rows sss) (hb : Below wr.heap.size wr w1) : RowsO base w1 v rows sss :=
  ⟨ownsRow_kept h.own fun k e => hb.block k (h.own.lt k e).2, h.len, fun k r ss a b => ⟨(h.row k r ss a b).1.up hb, (h.row k r ss a b).2⟩⟩
/-- Kept by whatever leaves what lay there, but for another block of the call's own. -/
theorem RowsO.but {F : Nat → Prop} (h : RowsO base wr v rows sss) (hb : But F wr w1) (h1 : ∀ k, v.ownBlock = some k → ¬ F k) (h2 : ∀ (r : Slc), r ∈ rows → 0 < r.2.1 → ∀ q o, r.1 = some ⟨q, o, none⟩ → ¬ F q) : RowsO base w1 v rows sss := by
  refine ⟨ownsRow_kept h.own fun k e => hb.block k (h.own.lt k e).2 (h1 k e), h.len, fun k r ss a b => ?_⟩
  obtain ⟨⟨e1, e2, e3⟩, e4⟩ := h.row k r ss a b
  refine ⟨⟨e1, e2, e3.1, fun hn => ?_⟩, e4⟩
  obtain ⟨q, o, ha, hq, hc⟩ := e3.2 hn
  exact ⟨q, o, ha, by have := hb.size; omega, fun j u hu => (World.cell?_of_block (w := wr) (hb.block q hq (h2 r (List.mem_of_getElem? a) hn q o ha))).trans (hc j u hu)⟩
/-- One more row. -/
theorem RowsO.put {r : Slc} {ss : List (List UInt8)} {o : Obj} (h : RowsO base wr v rows sss) (hr : TxR wr wr.heap.size r ss) (hra : 0 < r.2.1 → ∀ q o, r.1 = some ⟨q, o, none⟩ → v.ownBlock ≠ some q)
    (hown : w2.ownsRow base 22 1 v' (rows.length + 1) (rows.map slcV ++ [slcV r])) (hg : (wr.alloc o).grownBy w2 v.ownBlock) (hloc : v'.ownBlock = v.ownBlock ∨ v'.ownBlock = some (wr.alloc o).heap.size) : RowsO base w2 v' (rows ++ [r]) (sss ++ [ss]) := by
  have hs : wr.heap.size + 1 ≤ w2.heap.size := by have := hg.size; simpa using this
  have keep : ∀ (r : Slc) (ss : List (List UInt8)), TxR wr wr.heap.size r ss → (0 < r.2.1 → ∀ q o, r.1 = some ⟨q, o, none⟩ → v.ownBlock ≠ some q) → TxR w2 w2.heap.size r ss ∧ (0 < r.2.1 → ∀ q o, r.1 = some ⟨q, o, none⟩ → v'.ownBlock ≠ some q) := by
    intro r ss h3 h4
    refine ⟨⟨h3.1, h3.2.1, h3.2.2.1, fun hn => ?_⟩, fun hn q o' e => ?_⟩
    · obtain ⟨b, o', ha, hb, hc⟩ := h3.2.2.2 hn
      have hne := h4 hn b o' ha
      refine ⟨b, o', ha, by omega, fun j u hu => ?_⟩
      rw [World.cell?_of_block (w := wr.alloc o) (hg.block b (by simp; omega) (fun e => hne e.symm)), World.cell?_of_block (w := wr) (Below.heap_alloc wr o b hb)]
      exact hc j u hu
    · have h5 := h4 hn q o' e
      obtain ⟨b, o2, ha, hb, _⟩ := h3.2.2.2 hn
      rw [e] at ha
      injection ha with ha
      injection ha with ha1 ha2
      rcases hloc with h | h
      · rw [h]; exact h5
      · rw [h]
        intro h7
        injection h7 with h7
        simp at h7
        omega
  refine ⟨by simpa using hown, by simp [h.len], fun k r' ss' h1 h2 => ?_⟩
  have hl := h.len
  rcases Nat.lt_or_ge k rows.length with hk | hk
  · rw [List.getElem?_append_left hk] at h1
    rw [List.getElem?_append_left (by omega)] at h2
    obtain ⟨e1, e2⟩ := h.row k r' ss' h1 h2
    exact keep r' ss' e1 e2
  · rw [List.getElem?_append_right hk] at h1
    rw [List.getElem?_append_right (by omega)] at h2
    have hk0 : k = rows.length := by
      have := (List.getElem?_eq_some_iff.1 h1).1
      simp at this
      omega
    subst hk0
    simp at h1
    simp [hl] at h2
    subst h1
    subst h2
    exact keep r ss hr hra
end

/-- Texts that the call has made, or was handed. -/
def TxsOut (w w' : World) (e : Ending) (ss : List (List UInt8)) : Prop := ∃ A n c, e = .returned (.slice A n c) ∧ TxR w' w'.heap.size (A, n, c) ss ∧ Below w.heap.size w w'
/-- Lists of texts that the call has made, or was handed. -/
def RowsOut (w w' : World) (e : Ending) (sss : List (List (List UInt8))) : Prop := ∃ A n c rows, e = .returned (.slice A n c) ∧ n ≤ c ∧ c ≤ maxLen ∧ RowsT w' w'.heap.size A n rows sss ∧ Below w.heap.size w w'
end Go.Proofs.YtoephlkfejcadaaGreat
/- Proved here: what comes in as a slice of strings, or a slice of slices of strings, reads as lists, with its bounds. -/
namespace Go.Proofs.YtoephlkfejcadaaGreat
open Go.ChangeShapes Go.WideShapes Go.ChangeAt Go.RowKit
open Go.ChangeMaps (open_string shut_string)
set_option linter.unusedVariables false

theorem ArgStrs.txR {w : World} {A : Option Addr} {n c : Nat} {ss : List (List UInt8)} (h : ArgStrs w A n c ss) : TxR w w.heap.size (A, n, c) ss := ⟨h.1, h.2.1, h.2.2.2⟩
theorem argTs {H : Type} {enc : TypeId × Value → H} {P : Program} {W : World} {base : Nat} {held : Bool} {t e q : TypeId} {fuel : Nat} {A : Option Addr} {n c : Nat} {x : DataW H × List MemPlace}
    (ht : P.underlying t = some (.slice e)) (he : P.underlying e = some (.slice q)) (hq : P.underlying q = some .string) (ce : P.cellsOf e = 1) (cq : P.cellsOf q = 1) (h : DataW.trod enc P W base (fun _ => true) held fuel t [.slice A n c] = some x) :
    ∃ rows files, n ≤ c ∧ c ≤ maxLen ∧ RowsT W W.heap.size A n rows files := by
  rcases Go.Deep.open_slice1 ht ce h with ⟨hcs, _⟩ | ⟨a, len, cap, m, m', V, D, Pl, hcs, _, hl, hm, hmm, _, hx⟩
  · simp at hcs
    obtain ⟨rfl, rfl, rfl⟩ := hcs
    exact ⟨[], [], Nat.le_refl _, Nat.zero_le _, RowsT.nil _ _ _⟩
  · simp at hcs
    obtain ⟨rfl, rfl, rfl⟩ := hcs
    simp only [if_true] at hmm
    subst hmm
    have each : ∀ i, i < n → ∃ y : (Option Addr × Nat × Nat) × List (List UInt8), V i = .slice y.1.1 y.1.2.1 y.1.2.2 ∧ ArgStrs W y.1.1 y.1.2.1 y.1.2.2 y.2 := by
      intro i hi
      have h2 := (hx i (by omega)).2
      obtain ⟨A', n', c', hV⟩ : ∃ A' n' c', V i = .slice A' n' c' := by
        rcases open_strings he hq cq h2 with ⟨h3, _⟩ | ⟨a', l', c', _, h3, _⟩
        · exact ⟨_, _, _, by simpa using h3⟩
        · exact ⟨_, _, _, by simpa using h3⟩
      rw [hV] at h2
      obtain ⟨ss, hss⟩ := argStrs he hq cq h2
      exact ⟨((A', n', c'), ss), hV, hss⟩
    obtain ⟨y, hy⟩ := Go.Deep.choose_lt each
    refine ⟨(List.range n).map fun i => (y i).1, (List.range n).map fun i => (y i).2, hl, hm, ⟨by simp, fun hn => ?_⟩, by simp, fun k r ss hr hs => ?_⟩
    · obtain ⟨b, off, spot⟩ := a
      have h0 := (hx 0 (by omega)).1
      have hspot : spot = none := by simpa [Addr.add] using World.cell?_spot h0
      subst hspot
      refine ⟨b, off, rfl, by simpa [Addr.add] using World.block_lt_of_cell? _ _ h0, fun j u hu => ?_⟩
      have hj : j < n := by
        have := (List.getElem?_eq_some_iff.1 hu).1
        simp at this; omega
      have hcj := (hx j (by omega)).1
      rw [show (⟨b, off, none⟩ : Addr).add j = ⟨b, off + j, none⟩ from by unfold Addr.add; split <;> simp_all] at hcj
      rw [hcj, ← hu, (hy j hj).1]
      simp [hj, slcV]
    · have hk : k < n := by have := (List.getElem?_eq_some_iff.1 hr).1; simpa using this
      simp [hk] at hr hs
      subst hr; subst hs
      exact (hy k hk).2.txR
end Go.Proofs.YtoephlkfejcadaaGreat
/- Proved here, without conditions: plain facts on the longest common sequence of two lists (no word of the program). -/
namespace Go.Proofs.YtoephlkfejcadaaGreat
set_option linter.unusedVariables false

/-- How long the longest common sequence of two lists is. -/
def lcsL : List Int → List Int → Nat
  | [], _ => 0
  | _ :: _, [] => 0
  | x :: a, y :: b => if x = y then lcsL a b + 1 else max (lcsL a (y :: b)) (lcsL (x :: a) b)
termination_by a b => a.length + b.length

theorem lcs_nil_left (b : List Int) : lcsL [] b = 0 := by unfold lcsL; rfl
theorem lcs_nil_right (a : List Int) : lcsL a [] = 0 := by cases a <;> unfold lcsL <;> rfl
theorem lcs_same (x : Int) (a b : List Int) : lcsL (x :: a) (x :: b) = lcsL a b + 1 := by rw [lcsL]; simp
theorem lcs_other {x y : Int} (h : x ≠ y) (a b : List Int) : lcsL (x :: a) (y :: b) = max (lcsL a (y :: b)) (lcsL (x :: a) b) := by rw [lcsL]; simp [h]

/-- A common sequence that is as long. -/
theorem lcs_is (a b : List Int) : ∃ s : List Int, s.Sublist a ∧ s.Sublist b ∧ s.length = lcsL a b := by
  induction a, b using lcsL.induct with
  | case1 b => exact ⟨[], List.nil_sublist _, List.nil_sublist _, by rw [lcs_nil_left]; rfl⟩
  | case2 x a => exact ⟨[], List.nil_sublist _, List.nil_sublist _, by rw [lcs_nil_right]; rfl⟩
  | case3 a y b ih =>
    obtain ⟨s, h1, h2, h3⟩ := ih
    exact ⟨y :: s, h1.cons_cons _, h2.cons_cons _, by rw [lcs_same, List.length_cons, h3]⟩
  | case4 x a y b h ih1 ih2 =>
    obtain ⟨s, h1, h2, h3⟩ := ih1
    obtain ⟨t, k1, k2, k3⟩ := ih2
    rw [lcs_other h]
    rcases Nat.le_total (lcsL a (y :: b)) (lcsL (x :: a) b) with hl | hl
    · exact ⟨t, k1, k2.cons _, by rw [k3]; omega⟩
    · exact ⟨s, h1.cons _, h2, by rw [h3]; omega⟩

/-- No common sequence is longer. -/
theorem lcs_most (a b : List Int) : ∀ s : List Int, s.Sublist a → s.Sublist b → s.length ≤ lcsL a b := by
  induction a, b using lcsL.induct with
  | case1 b => intro s h1 _; rw [List.sublist_nil.1 h1]; simp
  | case2 x a => intro s _ h2; rw [List.sublist_nil.1 h2]; simp
  | case3 a y b ih =>
    intro s h1 h2
    rw [lcs_same]
    cases s with
    | nil => simp
    | cons z s =>
      have g1 : s.Sublist a := by
        cases h1 with
        | cons _ h => exact (List.sublist_cons_self z s).trans h
        | cons_cons _ h => exact h
      have g2 : s.Sublist b := by
        cases h2 with
        | cons _ h => exact (List.sublist_cons_self z s).trans h
        | cons_cons _ h => exact h
      have := ih s g1 g2
      simp only [List.length_cons]
      omega
  | case4 x a y b h ih1 ih2 =>
    intro s h1 h2
    rw [lcs_other h]
    cases h1 with
    | cons _ h1 => have := ih1 s h1 h2; omega
    | cons_cons _ h1 =>
      cases h2 with
      | cons _ h2 => have := ih2 _ (h1.cons_cons _) h2; omega
      | cons_cons _ h2 => exact absurd rfl h

theorem lcs_eq {a b a' b' : List Int} (h : ∀ s : List Int, s.Sublist a → s.Sublist b → ∃ t : List Int, t.length = s.length ∧ t.Sublist a' ∧ t.Sublist b') : lcsL a b ≤ lcsL a' b' := by
  obtain ⟨s, h1, h2, h3⟩ := lcs_is a b
  obtain ⟨t, k1, k2, k3⟩ := h s h1 h2
  have := lcs_most a' b' t k2 k3
  omega
theorem lcs_comm (a b : List Int) : lcsL a b = lcsL b a :=
  Nat.le_antisymm (lcs_eq fun s h1 h2 => ⟨s, rfl, h2, h1⟩) (lcs_eq fun s h1 h2 => ⟨s, rfl, h2, h1⟩)
theorem lcs_turned (a b : List Int) : lcsL a.reverse b.reverse = lcsL a b := by
  refine Nat.le_antisymm (lcs_eq fun s h1 h2 => ⟨s.reverse, by simp, ?_, ?_⟩) (lcs_eq fun s h1 h2 => ⟨s.reverse, by simp, h1.reverse, h2.reverse⟩)
  · simpa using h1.reverse
  · simpa using h2.reverse
theorem lcs_le_left (a b : List Int) : lcsL a b ≤ a.length := by
  obtain ⟨s, h1, _, h3⟩ := lcs_is a b
  have := h1.length_le; omega
theorem lcs_le_right (a b : List Int) : lcsL a b ≤ b.length := by rw [lcs_comm]; exact lcs_le_left b a
theorem lcs_self (a : List Int) : lcsL a a = a.length :=
  Nat.le_antisymm (lcs_le_left a a) (lcs_most a a a (List.Sublist.refl _) (List.Sublist.refl _))
theorem lcs_mono {a b a' b' : List Int} (h1 : a.Sublist a') (h2 : b.Sublist b') : lcsL a b ≤ lcsL a' b' :=
  lcs_eq fun s k1 k2 => ⟨s, rfl, k1.trans h1, k2.trans h2⟩
theorem lcs_front (p a b : List Int) : lcsL (p ++ a) (p ++ b) = p.length + lcsL a b := by
  induction p with
  | nil => simp
  | cons x p ih => rw [List.cons_append, List.cons_append, lcs_same, ih, List.length_cons]; omega
theorem lcs_back (p a b : List Int) : lcsL (a ++ p) (b ++ p) = lcsL a b + p.length := by
  rw [← lcs_turned, List.reverse_append, List.reverse_append, lcs_front, lcs_turned, List.length_reverse]; omega
/-- One more in front is one more at most. -/
theorem lcs_cons_left (x : Int) (a b : List Int) : lcsL (x :: a) b ≤ lcsL a b + 1 := by
  obtain ⟨s, h1, h2, h3⟩ := lcs_is (x :: a) b
  cases s with
  | nil => simp at h3; omega
  | cons z s =>
    have g1 : s.Sublist a := by
      cases h1 with
      | cons _ h => exact (List.sublist_cons_self z s).trans h
      | cons_cons _ h => exact h
    have := lcs_most a b s g1 ((List.sublist_cons_self z s).trans h2)
    simp only [List.length_cons] at h3
    omega
theorem lcs_cons_right (y : Int) (a b : List Int) : lcsL a (y :: b) ≤ lcsL a b + 1 := by
  rw [lcs_comm, lcs_comm a b]; exact lcs_cons_left y b a

/-- The document's reckoning: the greater one of both, and one more than what is left of both, if they begin with the same. -/
theorem lcs_row (x y : Int) (a b : List Int) : lcsL (x :: a) (y :: b) = if x = y then max (max (lcsL a (y :: b)) (lcsL (x :: a) b)) (lcsL a b + 1) else max (lcsL a (y :: b)) (lcsL (x :: a) b) := by
  split
  · rename_i h
    subst h
    have h1 := lcs_cons_left x a b
    have h2 := lcs_cons_right x a b
    rw [lcs_same]
    omega
  · rename_i h
    exact lcs_other h a b

/-- What two lists that lie in one have in common. -/
theorem sub_meet (b : List Int) : ∀ s t : List Int, s.Sublist b → t.Sublist b → ∃ u : List Int, u.Sublist s ∧ u.Sublist t ∧ s.length + t.length ≤ u.length + b.length := by
  induction b with
  | nil => intro s t h1 h2; rw [List.sublist_nil.1 h1, List.sublist_nil.1 h2]; exact ⟨[], List.nil_sublist _, List.nil_sublist _, by simp⟩
  | cons x b ih =>
    intro s t h1 h2
    cases h1 with
    | cons _ h1 =>
      cases h2 with
      | cons _ h2 => obtain ⟨u, a1, a2, a3⟩ := ih _ _ h1 h2; exact ⟨u, a1, a2, by simp only [List.length_cons]; omega⟩
      | cons_cons _ h2 => obtain ⟨u, a1, a2, a3⟩ := ih _ _ h1 h2; exact ⟨u, a1, a2.cons _, by simp only [List.length_cons]; omega⟩
    | cons_cons _ h1 =>
      cases h2 with
      | cons _ h2 => obtain ⟨u, a1, a2, a3⟩ := ih _ _ h1 h2; exact ⟨u, a1.cons _, a2, by simp only [List.length_cons]; omega⟩
      | cons_cons _ h2 => obtain ⟨u, a1, a2, a3⟩ := ih _ _ h1 h2; exact ⟨x :: u, a1.cons_cons _, a2.cons_cons _, by simp only [List.length_cons]; omega⟩
theorem lcs_between (a b c : List Int) : lcsL a b + lcsL b c ≤ lcsL a c + b.length := by
  obtain ⟨s, h1, h2, h3⟩ := lcs_is a b
  obtain ⟨t, k1, k2, k3⟩ := lcs_is b c
  obtain ⟨u, a1, a2, a3⟩ := sub_meet b s t h2 k1
  have := lcs_most a c u (a1.trans h1) (a2.trans k2)
  omega

/-- L of the places i and j. -/
def lcsAt (a b : List Int) (i j : Nat) : Nat := lcsL (a.drop i) (b.drop j)
theorem lcsAt_zero (a b : List Int) : lcsAt a b 0 0 = lcsL a b := rfl
theorem lcsAt_end_left {a b : List Int} {i j : Nat} (h : a.length ≤ i) : lcsAt a b i j = 0 := by unfold lcsAt; rw [List.drop_of_length_le h, lcs_nil_left]
theorem lcsAt_end_right {a b : List Int} {i j : Nat} (h : b.length ≤ j) : lcsAt a b i j = 0 := by unfold lcsAt; rw [List.drop_of_length_le h, lcs_nil_right]
theorem lcsAt_row {a b : List Int} {i j : Nat} {x y : Int} (hx : a[i]? = some x) (hy : b[j]? = some y) :
    lcsAt a b i j = if x = y then max (max (lcsAt a b (i + 1) j) (lcsAt a b i (j + 1))) (lcsAt a b (i + 1) (j + 1) + 1) else max (lcsAt a b (i + 1) j) (lcsAt a b i (j + 1)) := by
  obtain ⟨hi, rfl⟩ := List.getElem?_eq_some_iff.1 hx
  obtain ⟨hj, rfl⟩ := List.getElem?_eq_some_iff.1 hy
  unfold lcsAt
  rw [List.drop_eq_getElem_cons hi, List.drop_eq_getElem_cons hj]
  exact lcs_row _ _ _ _
theorem lcsAt_same {a b : List Int} {i j : Nat} {x : Int} (hx : a[i]? = some x) (hy : b[j]? = some x) : lcsAt a b i j = lcsAt a b (i + 1) (j + 1) + 1 := by
  obtain ⟨hi, hx'⟩ := List.getElem?_eq_some_iff.1 hx
  obtain ⟨hj, hy'⟩ := List.getElem?_eq_some_iff.1 hy
  unfold lcsAt
  rw [List.drop_eq_getElem_cons hi, List.drop_eq_getElem_cons hj, hx', hy']
  exact lcs_same _ _ _
theorem lcsAt_other {a b : List Int} {i j : Nat} {x y : Int} (hx : a[i]? = some x) (hy : b[j]? = some y) (h : x ≠ y) : lcsAt a b i j = max (lcsAt a b (i + 1) j) (lcsAt a b i (j + 1)) := by
  rw [lcsAt_row hx hy, if_neg h]
theorem lcsAt_le_left (a b : List Int) (i j : Nat) : lcsAt a b i j ≤ a.length - i := by
  have := lcs_le_left (a.drop i) (b.drop j)
  rw [List.length_drop] at this
  exact this
theorem lcsAt_le_right (a b : List Int) (i j : Nat) : lcsAt a b i j ≤ b.length - j := by
  have := lcs_le_right (a.drop i) (b.drop j)
  rw [List.length_drop] at this
  exact this
/-- A place further on of both, where both have the same: no more is left than one less. -/
theorem lcsAt_take {a b : List Int} {i j x y : Nat} {v : Int} (hx : i ≤ x) (hy : j ≤ y) (ha : a[x]? = some v) (hb : b[y]? = some v) : lcsAt a b (x + 1) (y + 1) + 1 ≤ lcsAt a b i j := by
  rw [← lcsAt_same ha hb]
  unfold lcsAt
  refine lcs_mono ?_ ?_
  · have : a.drop x = (a.drop i).drop (x - i) := by rw [List.drop_drop]; congr 1; omega
    rw [this]; exact List.drop_sublist _ _
  · have : b.drop y = (b.drop j).drop (y - j) := by rw [List.drop_drop]; congr 1; omega
    rw [this]; exact List.drop_sublist _ _

/-- The document's match, from places i (of a) and j (of b) on: the list of what is paired, for a's places from i on. -/
def mt : List Int → List Int → Nat → List Int
  | [], _, _ => []
  | _ :: a, [], j => -1 :: mt a [] j
  | x :: a, y :: b, j => if x = y then (j : Int) :: mt a b (j + 1) else if lcsL a (y :: b) < lcsL (x :: a) b then mt (x :: a) b (j + 1) else -1 :: mt a (y :: b) j
termination_by a b => a.length + b.length

theorem mt_len (a b : List Int) (j : Nat) : (mt a b j).length = a.length := by
  induction a, b, j using mt.induct with
  | case1 b j => unfold mt; rfl
  | case2 x a j ih => rw [mt]; simp [ih]
  | case3 a j y b ih => rw [mt]; simp [ih]
  | case4 j x a y b h hlt ih => rw [mt, if_neg h, if_pos hlt]; exact ih
  | case5 j x a y b h hlt ih => rw [mt, if_neg h, if_neg hlt]; simp [ih]
theorem mt_front (p a b : List Int) : ∀ j, mt (p ++ a) (p ++ b) j = ((List.range p.length).map fun i => ((j + i : Nat) : Int)) ++ mt a b (j + p.length) := by
  induction p with
  | nil => intro j; simp
  | cons x p ih =>
    intro j
    rw [List.cons_append, List.cons_append, mt, if_pos rfl, ih, List.length_cons, List.range_succ_eq_map, List.map_cons, List.cons_append, List.map_map, Nat.add_zero, show j + 1 + p.length = j + (p.length + 1) from by omega]
    congr 2
    refine List.map_congr_left fun i _ => ?_
    simp; omega
/-- How many are paired. -/
def paired (m : List Int) : Nat := (m.filter fun x => x != -1).length
theorem mt_count (a b : List Int) (j : Nat) : paired (mt a b j) = lcsL a b := by
  unfold paired
  induction a, b, j using mt.induct with
  | case1 b j => rw [mt, lcs_nil_left]; rfl
  | case2 x a j ih => rw [mt, lcs_nil_right]; simp [ih, lcs_nil_right]
  | case3 a j y b ih =>
    rw [mt, if_pos rfl, lcs_same, List.filter_cons, if_pos (by simp), List.length_cons, ih]
  | case4 j x a y b h hlt ih => rw [mt, if_neg h, if_pos hlt, ih, lcs_other h]; omega
  | case5 j x a y b h hlt ih => rw [mt, if_neg h, if_neg hlt, lcs_other h, List.filter_cons, if_neg (by simp), ih]; omega

/-- What is paired lies in b, is the same, and is above all that was paired ahead of it. -/
theorem mt_good (a b : List Int) (j : Nat) : ∀ (i : Nat) (v : Int), (mt a b j)[i]? = some v → v ≠ -1 → ∃ y : Nat, v = ((j + y : Nat) : Int) ∧ (∃ x, a[i]? = some x ∧ b[y]? = some x) ∧ ∀ i' v', i' < i → (mt a b j)[i']? = some v' → v' < v := by
  induction a, b, j using mt.induct with
  | case1 b j => intro i v h; rw [mt] at h; simp at h
  | case2 x a j ih =>
    intro i v h hv
    rw [mt] at h
    cases i with
    | zero => simp at h; exact absurd h.symm hv
    | succ i =>
      obtain ⟨y, _, ⟨z, _, hz⟩, _⟩ := ih i v (by simpa using h) hv
      simp at hz
  | case3 a y b j ih =>
    intro i v h hv
    rw [mt, if_pos rfl] at h ⊢
    cases i with
    | zero =>
      simp at h
      exact ⟨0, by simp [h], ⟨y, by simp, by simp⟩, fun i' v' hi => absurd hi (by omega)⟩
    | succ i =>
      obtain ⟨q, hq, ⟨z, hz1, hz2⟩, hr⟩ := ih i v (by simpa using h) hv
      refine ⟨q + 1, by rw [hq]; congr 1; omega, ⟨z, by simpa using hz1, by simpa using hz2⟩, fun i' v' hi h' => ?_⟩
      cases i' with
      | zero => simp at h'; rw [hq, ← h']; omega
      | succ i' => exact hr i' v' (by omega) (by simpa using h')
  | case4 j x a y b h hlt ih =>
    intro i v hi hv
    rw [mt, if_neg h, if_pos hlt] at hi ⊢
    obtain ⟨q, hq, ⟨z, hz1, hz2⟩, hr⟩ := ih i v hi hv
    exact ⟨q + 1, by rw [hq]; congr 1; omega, ⟨z, hz1, by simpa using hz2⟩, hr⟩
  | case5 j x a y b h hlt ih =>
    intro i v hi hv
    rw [mt, if_neg h, if_neg hlt] at hi ⊢
    cases i with
    | zero => simp at hi; exact absurd hi.symm hv
    | succ i =>
      obtain ⟨q, hq, ⟨z, hz1, hz2⟩, hr⟩ := ih i v (by simpa using hi) hv
      refine ⟨q, hq, ⟨z, by simpa using hz1, hz2⟩, fun i' v' hi' h' => ?_⟩
      cases i' with
      | zero => simp at h'; rw [hq, ← h']; omega
      | succ i' => exact hr i' v' (by omega) (by simpa using h')

/-- The match for a's places from i on, where b's from j on are left. -/
def mtAt (a b : List Int) (i j : Nat) : List Int := mt (a.drop i) (b.drop j) j
theorem mtAt_end {a b : List Int} {i j : Nat} (h : a.length ≤ i) : mtAt a b i j = [] := by unfold mtAt; rw [List.drop_of_length_le h, mt]
theorem mtAt_out {a b : List Int} {i j : Nat} (hi : i < a.length) (h : b.length ≤ j) : mtAt a b i j = -1 :: mtAt a b (i + 1) j := by
  unfold mtAt
  rw [List.drop_of_length_le h, List.drop_eq_getElem_cons hi, mt]
theorem mtAt_pair {a b : List Int} {i j : Nat} {x : Int} (hx : a[i]? = some x) (hy : b[j]? = some x) : mtAt a b i j = (j : Int) :: mtAt a b (i + 1) (j + 1) := by
  obtain ⟨hi, hx'⟩ := List.getElem?_eq_some_iff.1 hx
  obtain ⟨hj, hy'⟩ := List.getElem?_eq_some_iff.1 hy
  unfold mtAt
  rw [List.drop_eq_getElem_cons hi, List.drop_eq_getElem_cons hj, mt, if_pos (by rw [hx', hy'])]
theorem mtAt_skip {a b : List Int} {i j : Nat} {x y : Int} (hx : a[i]? = some x) (hy : b[j]? = some y) (h : x ≠ y) (hl : lcsAt a b (i + 1) j < lcsAt a b i (j + 1)) : mtAt a b i j = mtAt a b i (j + 1) := by
  obtain ⟨hi, hx'⟩ := List.getElem?_eq_some_iff.1 hx
  obtain ⟨hj, hy'⟩ := List.getElem?_eq_some_iff.1 hy
  unfold lcsAt at hl
  unfold mtAt
  rw [List.drop_eq_getElem_cons hj] at hl
  conv at hl => rhs; rw [List.drop_eq_getElem_cons hi]
  rw [List.drop_eq_getElem_cons hi, List.drop_eq_getElem_cons hj, mt, if_neg (by rw [hx', hy']; exact h), if_pos hl]
theorem mtAt_pass {a b : List Int} {i j : Nat} {x y : Int} (hx : a[i]? = some x) (hy : b[j]? = some y) (h : x ≠ y) (hl : ¬ lcsAt a b (i + 1) j < lcsAt a b i (j + 1)) : mtAt a b i j = -1 :: mtAt a b (i + 1) j := by
  obtain ⟨hi, hx'⟩ := List.getElem?_eq_some_iff.1 hx
  obtain ⟨hj, hy'⟩ := List.getElem?_eq_some_iff.1 hy
  unfold lcsAt at hl
  unfold mtAt
  rw [List.drop_eq_getElem_cons hj] at hl
  conv at hl => rhs; rw [List.drop_eq_getElem_cons hi]
  rw [List.drop_eq_getElem_cons hi, List.drop_eq_getElem_cons hj, mt, if_neg (by rw [hx', hy']; exact h), if_neg hl]

/-- The last of the list that is paired; -1 if none is. -/
def lastP (m : List Int) : Int := (m.filter fun x => x != -1).getLastD (-1)
theorem lastP_snoc_miss (m : List Int) : lastP (m ++ [-1]) = lastP m := by unfold lastP; simp
theorem lastP_snoc_hit {m : List Int} {v : Int} (h : v ≠ -1) : lastP (m ++ [v]) = v := by unfold lastP; simp [h]
theorem paired_snoc_miss (m : List Int) : paired (m ++ [-1]) = paired m := by unfold paired; simp
theorem paired_snoc_hit {m : List Int} {v : Int} (h : v ≠ -1) : paired (m ++ [v]) = paired m + 1 := by unfold paired; simp [h]
theorem lastP_lt {m : List Int} {v : Int} (h0 : -1 < v) (h : ∀ u ∈ m, u < v) : lastP m < v := by
  unfold lastP
  rw [List.getLastD_eq_getLast?]
  cases hl : (m.filter fun x => x != -1).getLast? with
  | none => exact h0
  | some u => exact h u (List.mem_filter.1 (List.mem_of_getLast? hl)).1
end Go.Proofs.YtoephlkfejcadaaGreat

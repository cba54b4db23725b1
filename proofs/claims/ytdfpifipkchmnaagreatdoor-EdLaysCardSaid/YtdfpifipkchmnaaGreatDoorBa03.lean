/- Proved here: texts joined: Txts, FrameT, ContPure. -/
import Derived.Test.YtdfpifipkchmnaaGreatDoorBa01
import Derived.Test.YtdfpifipkchmnaaGreatDoorBa02
import Derived.Deep.Slices
import Derived.WalkKit
/- Proved here, without conditions on the program: slices of slices of texts that read as lists; such rows of the call's own. -/
namespace Go.Proofs.YtdfpifipkchmnaaGreatDoor
open Go.RowKit
set_option linter.unusedVariables false

/-- A slice's value by its parts. -/
abbrev Slc := Option Addr × Nat × Nat
def slcV (r : Slc) : Value := .slice r.1 r.2.1 r.2.2
theorem slcV_one (l : List Slc) : ∀ u ∈ l.map slcV, u.oneCell' = true := by
  intro u hu
  obtain ⟨r, _, rfl⟩ := List.mem_map.1 hu
  rfl
/-- A slice of texts that reads as ss, with its bounds. -/
def TxR (w : World) (B : Nat) (r : Slc) (ss : List (List UInt8)) : Prop := r.2.1 ≤ r.2.2 ∧ r.2.2 ≤ maxLen ∧ Strs w B r.1 r.2.1 ss
/-- A slice of slices of texts. -/
def RowsT (w : World) (B : Nat) (A : Option Addr) (n : Nat) (rows : List Slc) (sss : List (List (List UInt8))) : Prop :=
  Reads w B A n (rows.map slcV) ∧ rows.length = sss.length ∧ ∀ (k : Nat) (r : Slc) (ss : List (List UInt8)), rows[k]? = some r → sss[k]? = some ss → TxR w B r ss

section
variable {w w' : World} {B B' n : Nat} {A : Option Addr} {r : Slc} {rows : List Slc} {ss : List (List UInt8)} {sss : List (List (List UInt8))}
theorem Strs.keep (h : Strs w B A n ss) (hk : ∀ p : Addr, p.block < B → w'.cell? p = w.cell? p) : Strs w' B A n ss := Reads.keep h hk
theorem Strs.up (h : Strs w w.heap.size A n ss) (hb : Below w.heap.size w w') : Strs w' w'.heap.size A n ss := (Strs.below h hb).more hb.size
theorem Strs.nil (w : World) (B : Nat) (A : Option Addr) : Strs w B A 0 [] := ⟨rfl, fun h => absurd h (by omega)⟩
theorem TxR.keep (h : TxR w B r ss) (hk : ∀ p : Addr, p.block < B → w'.cell? p = w.cell? p) : TxR w' B r ss := ⟨h.1, h.2.1, Strs.keep h.2.2 hk⟩
theorem TxR.more (h : TxR w B r ss) (hB : B ≤ B') : TxR w B' r ss := ⟨h.1, h.2.1, h.2.2.more hB⟩
theorem TxR.below (h : TxR w B r ss) (hb : Below B w w') : TxR w' B r ss := h.keep fun _ hp => hb.cell hp
theorem TxR.up (h : TxR w w.heap.size r ss) (hb : Below w.heap.size w w') : TxR w' w'.heap.size r ss := (h.below hb).more hb.size
theorem TxR.nil (w : World) (B : Nat) : TxR w B (none, 0, 0) [] := ⟨Nat.le_refl _, Nat.zero_le _, Strs.nil _ _ _⟩
theorem RowsT.keep (h : RowsT w B A n rows sss) (hk : ∀ p : Addr, p.block < B → w'.cell? p = w.cell? p) : RowsT w' B A n rows sss := ⟨h.1.keep hk, h.2.1, fun k r ss a b => (h.2.2 k r ss a b).keep hk⟩
theorem RowsT.more (h : RowsT w B A n rows sss) (hB : B ≤ B') : RowsT w B' A n rows sss := ⟨h.1.more hB, h.2.1, fun k r ss a b => (h.2.2 k r ss a b).more hB⟩
theorem RowsT.below (h : RowsT w B A n rows sss) (hb : Below B w w') : RowsT w' B A n rows sss := h.keep fun _ hp => hb.cell hp
theorem RowsT.up (h : RowsT w w.heap.size A n rows sss) (hb : Below w.heap.size w w') : RowsT w' w'.heap.size A n rows sss := (h.below hb).more hb.size
theorem RowsT.drewN (h : RowsT w B A n rows sss) (q : Nat) : RowsT (w.drewN q) B A n rows sss := h.keep fun _ _ => rfl
theorem RowsT.drew (h : RowsT w B A n rows sss) : RowsT w.drew B A n rows sss := h.keep fun _ _ => rfl
theorem RowsT.len (h : RowsT w B A n rows sss) : sss.length = n := by have := h.1.1; have := h.2.1; simp at *; omega
theorem RowsT.rlen (h : RowsT w B A n rows sss) : rows.length = n := by have := h.1.1; simpa using this
theorem RowsT.nil (w : World) (B : Nat) (A : Option Addr) : RowsT w B A 0 [] [] := ⟨⟨rfl, fun h => absurd h (by omega)⟩, rfl, fun k r ss h => by simp at h⟩
theorem RowsT.at_ {k : Nat} (h : RowsT w B A n rows sss) (hk : k < n) :
    ∃ b o A' n' c' ss, A = some ⟨b, o, none⟩ ∧ b < B ∧ sss[k]? = some ss ∧ rows[k]? = some (A', n', c') ∧ w.cell? ⟨b, o + k, none⟩ = some (.slice A' n' c') ∧ n' ≤ c' ∧ c' ≤ maxLen ∧ Strs w B A' n' ss := by
  obtain ⟨b, o, u, e, hb, hu, hc⟩ := Reads.at_ h.1 hk
  rw [List.getElem?_map] at hu
  cases hr : rows[k]? with
  | none => rw [hr] at hu; cases hu
  | some r =>
    rw [hr] at hu
    have hlt : k < sss.length := by have := h.len; omega
    obtain ⟨h1, h2, h3⟩ := h.2.2 k r _ hr (List.getElem?_eq_getElem hlt)
    exact ⟨b, o, r.1, r.2.1, r.2.2, sss[k], e, hb, List.getElem?_eq_getElem hlt, rfl, by rw [hc]; simpa [slcV] using hu.symm, h1, h2, h3⟩
theorem RowsT.of2 (h : Rows2 w B A n rows sss) (hb : ∀ r ∈ rows, r.2.1 ≤ r.2.2 ∧ r.2.2 ≤ maxLen) : RowsT w B A n rows sss :=
  ⟨h.1, h.2.1, fun k r ss a b => ⟨(hb r (List.mem_of_getElem? a)).1, (hb r (List.mem_of_getElem? a)).2, h.2.2 k r ss a b⟩⟩
theorem RowsT.to2 (h : RowsT w B A n rows sss) : Rows2 w B A n rows sss := ⟨h.1, h.2.1, fun k r ss a b => (h.2.2 k r ss a b).2.2⟩
/-- Texts' lists aren't too long. -/
theorem RowsT.few (h : RowsT w B A n rows sss) : ∀ f ∈ sss, f.length ≤ maxLen := by
  intro f hf
  obtain ⟨k, hk⟩ := List.mem_iff_getElem?.1 hf
  have hkl := (List.getElem?_eq_some_iff.1 hk).1
  have hr : rows[k]? = some (rows[k]'(by have := h.2.1; omega)) := List.getElem?_eq_getElem _
  obtain ⟨h1, h2, h3⟩ := h.2.2 k _ f hr hk
  have := h3.len
  omega
end

/-- Rows of texts of the call's own, none of which lies in its own block. -/
structure RowsO (base : Nat) (wr : World) (v : Value) (rows : List Slc) (sss : List (List (List UInt8))) : Prop where
  own : wr.ownsRow base 22 1 v rows.length (rows.map slcV)
  len : rows.length = sss.length
  row : ∀ (k : Nat) (r : Slc) (ss : List (List UInt8)), rows[k]? = some r → sss[k]? = some ss → TxR wr wr.heap.size r ss ∧ (0 < r.2.1 → ∀ q o, r.1 = some ⟨q, o, none⟩ → v.ownBlock ≠ some q)

section
variable {base : Nat} {wr w1 w2 : World} {v v' : Value} {rows : List Slc} {sss : List (List (List UInt8))}
theorem RowsO.start (base : Nat) (w : World) : RowsO base w (.slice none 0 0) [] [] := ⟨World.ownsRow_nil _ _ _ _, rfl, fun k r ss h => by simp at h⟩
theorem RowsO.reads (h : RowsO base wr v rows sss) : ∃ A c, v = .slice A rows.length c ∧ rows.length ≤ c ∧ c ≤ maxLen ∧ RowsT wr wr.heap.size A rows.length rows sss := by
  obtain ⟨A, c, e, h1, h2, h3⟩ := own_slice h.own
  exact ⟨A, c, e, h1, h2, h3, h.len, fun k r ss a b => (h.row k r ss a b).1⟩
theorem RowsO.up (h : RowsO base wr v rows sss) (hb : Below wr.heap.size wr w1) : RowsO base w1 v rows sss :=
  ⟨ownsRow_kept h.own fun k e => hb.block k (h.own.lt k e).2, h.len, fun k r ss a b => ⟨(h.row k r ss a b).1.up hb, (h.row k r ss a b).2⟩⟩
/-- Kept by whatever leaves what lay there, but for another block of the call's own. -/
theorem RowsO.but {F : Nat → Prop} (h : RowsO base wr v rows sss) (hb : But F wr w1) (h1 : ∀ k, v.ownBlock = some k → ¬ F k) (h2 : ∀ (r : Slc), r ∈ rows → 0 < r.2.1 → ∀ q o, r.1 = some ⟨q, o, none⟩ → ¬ F q) : RowsO base w1 v rows sss := by
  refine ⟨ownsRow_kept h.own fun k e => hb.block k (h.own.lt k e).2 (h1 k e), h.len, fun k r ss a b => ?_⟩
  obtain ⟨⟨e1, e2, e3⟩, e4⟩ := h.row k r ss a b
  refine ⟨⟨e1, e2, e3.1, fun hn => ?_⟩, e4⟩
  obtain ⟨q, o, ha, hq, hc⟩ := e3.2 hn
  exact ⟨q, o, ha, by have := hb.size; omega, fun j u hu => (World.cell?_of_block (w := wr) (hb.block q hq (h2 r (List.mem_of_getElem? a) hn q o ha))).trans (hc j u hu)⟩
/-- One more row. -/
theorem RowsO.put {r : Slc} {ss : List (List UInt8)} {o : Obj} (h : RowsO base wr v rows sss) (hr : TxR wr wr.heap.size r ss) (hra : 0 < r.2.1 → ∀ q o, r.1 = some ⟨q, o, none⟩ → v.ownBlock ≠ some q)
    (hown : w2.ownsRow base 22 1 v' (rows.length + 1) (rows.map slcV ++ [slcV r])) (hg : (wr.alloc o).grownBy w2 v.ownBlock) (hloc : v'.ownBlock = v.ownBlock ∨ v'.ownBlock = some (wr.alloc o).heap.size) : RowsO base w2 v' (rows ++ [r]) (sss ++ [ss]) := by
  have hs : wr.heap.size + 1 ≤ w2.heap.size := by have := hg.size; simpa using this
  have keep : ∀ (r : Slc) (ss : List (List UInt8)), TxR wr wr.heap.size r ss → (0 < r.2.1 → ∀ q o, r.1 = some ⟨q, o, none⟩ → v.ownBlock ≠ some q) → TxR w2 w2.heap.size r ss ∧ (0 < r.2.1 → ∀ q o, r.1 = some ⟨q, o, none⟩ → v'.ownBlock ≠ some q) := by
    intro r ss h3 h4
    refine ⟨⟨h3.1, h3.2.1, h3.2.2.1, fun hn => ?_⟩, fun hn q o' e => ?_⟩
    · obtain ⟨b, o', ha, hb, hc⟩ := h3.2.2.2 hn
      have hne := h4 hn b o' ha
      refine ⟨b, o', ha, by omega, fun j u hu => ?_⟩
      rw [World.cell?_of_block (w := wr.alloc o) (hg.block b (by simp; omega) (fun e => hne e.symm)), World.cell?_of_block (w := wr) (Below.heap_alloc wr o b hb)]
      exact hc j u hu
    · have h5 := h4 hn q o' e
      obtain ⟨b, o2, ha, hb, _⟩ := h3.2.2.2 hn
      rw [e] at ha
      injection ha with ha
      injection ha with ha1 ha2
      rcases hloc with h | h
      · rw [h]; exact h5
      · rw [h]
        intro h7
        injection h7 with h7
        simp at h7
        omega
  refine ⟨by simpa using hown, by simp [h.len], fun k r' ss' h1 h2 => ?_⟩
  have hl := h.len
  rcases Nat.lt_or_ge k rows.length with hk | hk
  · rw [List.getElem?_append_left hk] at h1
    rw [List.getElem?_append_left (by omega)] at h2
    obtain ⟨e1, e2⟩ := h.row k r' ss' h1 h2
    exact keep r' ss' e1 e2
  · rw [List.getElem?_append_right hk] at h1
    rw [List.getElem?_append_right (by omega)] at h2
    have hk0 : k = rows.length := by
      have := (List.getElem?_eq_some_iff.1 h1).1
      simp at this
      omega
    subst hk0
    simp at h1
    simp [hl] at h2
    subst h1
    subst h2
    exact keep r ss hr hra
end

/-- Texts that the call has made, or was handed. -/
def TxsOut (w w' : World) (e : Ending) (ss : List (List UInt8)) : Prop := ∃ A n c, e = .returned (.slice A n c) ∧ TxR w' w'.heap.size (A, n, c) ss ∧ Below w.heap.size w w'
/-- Lists of texts that the call has made, or was handed. -/
def RowsOut (w w' : World) (e : Ending) (sss : List (List (List UInt8))) : Prop := ∃ A n c rows, e = .returned (.slice A n c) ∧ n ≤ c ∧ c ≤ maxLen ∧ RowsT w' w'.heap.size A n rows sss ∧ Below w.heap.size w w'
end Go.Proofs.YtdfpifipkchmnaaGreatDoor
/- Proved here: what comes in as a slice of strings, or a slice of slices of strings, reads as lists, with its bounds. -/
namespace Go.Proofs.YtdfpifipkchmnaaGreatDoor
open Go.ChangeShapes Go.WideShapes Go.ChangeAt Go.RowKit
open Go.ChangeMaps (open_string shut_string)
set_option linter.unusedVariables false

theorem ArgStrs.txR {w : World} {A : Option Addr} {n c : Nat} {ss : List (List UInt8)} (h : ArgStrs w A n c ss) : TxR w w.heap.size (A, n, c) ss := ⟨h.1, h.2.1, h.2.2.2⟩
theorem argTs {H : Type} {enc : TypeId × Value → H} {P : Program} {W : World} {base : Nat} {held : Bool} {t e q : TypeId} {fuel : Nat} {A : Option Addr} {n c : Nat} {x : DataW H × List MemPlace}
    (ht : P.underlying t = some (.slice e)) (he : P.underlying e = some (.slice q)) (hq : P.underlying q = some .string) (ce : P.cellsOf e = 1) (cq : P.cellsOf q = 1) (h : DataW.trod enc P W base (fun _ => true) held fuel t [.slice A n c] = some x) :
    ∃ rows files, n ≤ c ∧ c ≤ maxLen ∧ RowsT W W.heap.size A n rows files := by
  rcases Go.Deep.open_slice1 ht ce h with ⟨hcs, _⟩ | ⟨a, len, cap, m, m', V, D, Pl, hcs, _, hl, hm, hmm, _, hx⟩
  · simp at hcs
    obtain ⟨rfl, rfl, rfl⟩ := hcs
    exact ⟨[], [], Nat.le_refl _, Nat.zero_le _, RowsT.nil _ _ _⟩
  · simp at hcs
    obtain ⟨rfl, rfl, rfl⟩ := hcs
    simp only [if_true] at hmm
    subst hmm
    have each : ∀ i, i < n → ∃ y : (Option Addr × Nat × Nat) × List (List UInt8), V i = .slice y.1.1 y.1.2.1 y.1.2.2 ∧ ArgStrs W y.1.1 y.1.2.1 y.1.2.2 y.2 := by
      intro i hi
      have h2 := (hx i (by omega)).2
      obtain ⟨A', n', c', hV⟩ : ∃ A' n' c', V i = .slice A' n' c' := by
        rcases open_strings he hq cq h2 with ⟨h3, _⟩ | ⟨a', l', c', _, h3, _⟩
        · exact ⟨_, _, _, by simpa using h3⟩
        · exact ⟨_, _, _, by simpa using h3⟩
      rw [hV] at h2
      obtain ⟨ss, hss⟩ := argStrs he hq cq h2
      exact ⟨((A', n', c'), ss), hV, hss⟩
    obtain ⟨y, hy⟩ := Go.Deep.choose_lt each
    refine ⟨(List.range n).map fun i => (y i).1, (List.range n).map fun i => (y i).2, hl, hm, ⟨by simp, fun hn => ?_⟩, by simp, fun k r ss hr hs => ?_⟩
    · obtain ⟨b, off, spot⟩ := a
      have h0 := (hx 0 (by omega)).1
      have hspot : spot = none := by simpa [Addr.add] using World.cell?_spot h0
      subst hspot
      refine ⟨b, off, rfl, by simpa [Addr.add] using World.block_lt_of_cell? _ _ h0, fun j u hu => ?_⟩
      have hj : j < n := by
        have := (List.getElem?_eq_some_iff.1 hu).1
        simp at this; omega
      have hcj := (hx j (by omega)).1
      rw [show (⟨b, off, none⟩ : Addr).add j = ⟨b, off + j, none⟩ from by unfold Addr.add; split <;> simp_all] at hcj
      rw [hcj, ← hu, (hy j hj).1]
      simp [hj, slcV]
    · have hk : k < n := by have := (List.getElem?_eq_some_iff.1 hr).1; simpa using this
      simp [hk] at hr hs
      subst hr; subst hs
      exact (hy k hk).2.txR
end Go.Proofs.YtdfpifipkchmnaaGreatDoor
/- Proved here, without conditions: plain facts on the contents that differ from a base, each once. -/
namespace Go.Proofs.YtdfpifipkchmnaaGreatDoor
set_option linter.unusedVariables false

/-- A text; texts. -/
abbrev Tx := List UInt8
abbrev Txs := List Tx

def diffStep (base : Txs) (out : List Txs) (p : Txs) : List Txs := if p = base ∨ p ∈ out then out else out ++ [p]
/-- The parts that differ from the base, each once. -/
def diffs (base : Txs) (ps : List Txs) : List Txs := ps.foldl (diffStep base) []
def kindN (base : Txs) (ps : List Txs) : Nat := min (diffs base ps).length 2

section
variable {base : Txs} {ps out : List Txs}
theorem diffs_snoc (base : Txs) (ps : List Txs) (p : Txs) : diffs base (ps ++ [p]) = diffStep base (diffs base ps) p := by
  unfold diffs
  rw [List.foldl_append]
  rfl
theorem mem_fold (q : Txs) : ∀ (ps out : List Txs), q ∈ ps.foldl (diffStep base) out ↔ q ∈ out ∨ (q ∈ ps ∧ q ≠ base)
  | [], out => by simp
  | p :: ps, out => by
    rw [List.foldl_cons, mem_fold q ps]
    unfold diffStep
    split
    · rename_i h
      constructor
      · rintro (h1 | ⟨h1, h2⟩)
        · exact .inl h1
        · exact .inr ⟨List.mem_cons_of_mem _ h1, h2⟩
      · rintro (h1 | ⟨h1, h2⟩)
        · exact .inl h1
        · rcases List.mem_cons.1 h1 with rfl | h1
          · rcases h with h | h
            · exact absurd h h2
            · exact .inl h
          · exact .inr ⟨h1, h2⟩
    · rename_i h
      constructor
      · rintro (h1 | ⟨h1, h2⟩)
        · rcases List.mem_append.1 h1 with h1 | h1
          · exact .inl h1
          · rw [List.mem_singleton] at h1
            subst h1
            exact .inr ⟨List.mem_cons_self .., fun e => h (.inl e)⟩
        · exact .inr ⟨List.mem_cons_of_mem _ h1, h2⟩
      · rintro (h1 | ⟨h1, h2⟩)
        · exact .inl (List.mem_append.2 (.inl h1))
        · rcases List.mem_cons.1 h1 with rfl | h1
          · exact .inl (by simp)
          · exact .inr ⟨h1, h2⟩
theorem mem_diffs {q : Txs} : q ∈ diffs base ps ↔ q ∈ ps ∧ q ≠ base := by
  unfold diffs
  rw [mem_fold]
  simp
theorem nodup_fold : ∀ (ps out : List Txs), out.Nodup → (ps.foldl (diffStep base) out).Nodup
  | [], out, h => h
  | p :: ps, out, h => by
    rw [List.foldl_cons]
    refine nodup_fold ps _ ?_
    unfold diffStep
    split
    · exact h
    · rename_i h2
      refine List.nodup_append.2 ⟨h, by simp, fun a ha b hb => ?_⟩
      rw [List.mem_singleton] at hb
      subst hb
      rintro rfl
      exact h2 (.inr ha)
theorem nodup_diffs : (diffs base ps).Nodup := nodup_fold ps [] List.nodup_nil
theorem diffs_old {p : Txs} (h : p = base ∨ p ∈ ps) : diffs base (ps ++ [p]) = diffs base ps := by
  rw [diffs_snoc]
  unfold diffStep
  rw [if_pos]
  rcases h with h | h
  · exact .inl h
  · by_cases e : p = base
    · exact .inl e
    · exact .inr (mem_diffs.2 ⟨h, e⟩)
theorem diffs_new {p : Txs} (h : p ≠ base) (h2 : p ∉ ps) : diffs base (ps ++ [p]) = diffs base ps ++ [p] := by
  rw [diffs_snoc]
  unfold diffStep
  rw [if_neg]
  rintro (e | e)
  · exact h e
  · exact h2 (mem_diffs.1 e).1
theorem diffs_len (base : Txs) (ps : List Txs) : (diffs base ps).length ≤ ps.length := (nodup_diffs (base := base) (ps := ps)).length_le_of_subset fun q hq => (mem_diffs.1 hq).1
/-- In whatever turn. -/
theorem diffs_turn {qs : List Txs} (h : ∀ q, q ∈ ps ↔ q ∈ qs) : (diffs base ps).length = (diffs base qs).length := by
  have h1 := (nodup_diffs (base := base) (ps := ps)).length_le_of_subset (l₂ := diffs base qs) fun q hq => mem_diffs.2 ⟨(h q).1 (mem_diffs.1 hq).1, (mem_diffs.1 hq).2⟩
  have h2 := (nodup_diffs (base := base) (ps := qs)).length_le_of_subset (l₂ := diffs base ps) fun q hq => mem_diffs.2 ⟨(h q).2 (mem_diffs.1 hq).1, (mem_diffs.1 hq).2⟩
  omega
theorem turn_mem (ps : List Txs) (n : Nat) (q : Txs) : q ∈ ps.drop n ++ ps.take n ↔ q ∈ ps := by
  conv => rhs; rw [← List.take_append_drop n ps]
  simp only [List.mem_append]
  exact Or.comm
theorem diffs_more {n : Nat} {p : Txs} (h : ps[n]? = some p) : diffs base (ps ++ [p, base]) = diffs base ps := by
  rw [show ps ++ [p, base] = (ps ++ [p]) ++ [base] by simp, diffs_old (.inl rfl), diffs_old (.inr (List.mem_of_getElem? h))]
/-- Two of three are the same. -/
def pairOk (base x y : Txs) : Prop := x = base ∨ y = base ∨ x = y
theorem diffs_one : (diffs base ps).length ≤ 1 ↔ ∀ x ∈ ps, ∀ y ∈ ps, pairOk base x y := by
  constructor
  · intro h x hx y hy
    by_cases h1 : x = base
    · exact .inl h1
    · by_cases h2 : y = base
      · exact .inr (.inl h2)
      · have k1 : x ∈ diffs base ps := mem_diffs.2 ⟨hx, h1⟩
        have k2 : y ∈ diffs base ps := mem_diffs.2 ⟨hy, h2⟩
        match hd : diffs base ps, h, k1, k2 with
        | [], _, k1, _ => simp at k1
        | [d], _, k1, k2 =>
          rw [List.mem_singleton] at k1 k2
          exact .inr (.inr (k1.trans k2.symm))
        | _ :: _ :: _, h, _, _ => simp at h
  · intro h
    match hd : diffs base ps with
    | [] => simp
    | [d] => simp
    | d :: e :: l =>
      exfalso
      have hn := nodup_diffs (base := base) (ps := ps)
      rw [hd] at hn
      have h1 := mem_diffs.1 (show d ∈ diffs base ps by rw [hd]; simp)
      have h2 := mem_diffs.1 (show e ∈ diffs base ps by rw [hd]; simp)
      rcases h d h1.1 e h2.1 with k | k | k
      · exact h1.2 k
      · exact h2.2 k
      · subst k
        simp at hn
theorem diffs_zero : (diffs base ps).length = 0 ↔ ∀ x ∈ ps, x = base := by
  constructor
  · intro h x hx
    by_cases e : x = base
    · exact e
    · have := List.length_pos_of_mem (mem_diffs.2 ⟨hx, e⟩)
      omega
  · intro h
    match hd : diffs base ps with
    | [] => rfl
    | d :: l =>
      have h1 := mem_diffs.1 (show d ∈ diffs base ps by rw [hd]; simp)
      exact absurd (h d h1.1) h1.2
/-- The base, and what differs, have each part once. -/
theorem once {p : Txs} (h : p ∈ ps) : (base :: diffs base ps).count p = 1 := by
  have hn : (base :: diffs base ps).Nodup := List.nodup_cons.2 ⟨fun hm => (mem_diffs.1 hm).2 rfl, nodup_diffs⟩
  rw [hn.count, if_pos]
  by_cases e : p = base
  · rw [e]; exact List.mem_cons_self ..
  · exact List.mem_cons_of_mem _ (mem_diffs.2 ⟨h, e⟩)
theorem pairs_at : (∀ (i k : Nat) (x y : Txs), k < i → ps[i]? = some x → ps[k]? = some y → pairOk base x y) ↔ ∀ x ∈ ps, ∀ y ∈ ps, pairOk base x y := by
  constructor
  · intro h x hx y hy
    obtain ⟨i, hi⟩ := List.mem_iff_getElem?.1 hx
    obtain ⟨k, hk⟩ := List.mem_iff_getElem?.1 hy
    rcases Nat.lt_trichotomy k i with hlt | rfl | hlt
    · exact h i k x y hlt hi hk
    · rw [hi] at hk
      injection hk with hk
      exact .inr (.inr hk)
    · rcases h k i y x hlt hk hi with e | e | e
      · exact .inr (.inl e)
      · exact .inl e
      · exact .inr (.inr e.symm)
  · intro h i k x y _ hi hk
    exact h x (List.mem_of_getElem? hi) y (List.mem_of_getElem? hk)
end
end Go.Proofs.YtdfpifipkchmnaaGreatDoor

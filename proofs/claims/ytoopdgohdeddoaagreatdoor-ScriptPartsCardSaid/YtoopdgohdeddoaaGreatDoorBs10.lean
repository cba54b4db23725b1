/- Proved here: texts joined: CkSl, ContSpan, MgLaid, ScrLn, CutBs, ScrAw, Push, ScrAwk, ScrFlag, TxO. -/
import Derived.Test.YtoopdgohdeddoaaGreatDoorBs01
import Derived.Test.YtoopdgohdeddoaaGreatDoorBs02
import Derived.Test.YtoopdgohdeddoaaGreatDoorBs04
import Derived.Test.YtoopdgohdeddoaaGreatDoorBs09
import Derived.Deep.DeepCutAuto
import Derived.RangeFuncBox
import Derived.Test.YtoopdgohdeddoaaGreatDoorChecked
import Derived.WalkLawsBesides
import Derived.IntWalk
import Derived.OwnWalk
import Derived.Maps.AppendAt
/- Proved here, without conditions on the program: slices of spans, of chunks, of slices of bytes, that read as lists. -/
namespace Go.Proofs.YtoopdgohdeddoaaGreatDoor
open Go.RowKit
set_option linter.unusedVariables false

/-- A slice of spans. -/
def Spans (w : World) (B : Nat) (A : Option Addr) (n : Nat) (ss : List Sp) : Prop :=
  ss.length = n ∧ (0 < n → ∃ b o : Nat, A = some ⟨b, o, none⟩ ∧ b < B ∧ ∀ j s, ss[j]? = some s → w.cell? ⟨b, o + j * 2, none⟩ = some (.int .i64 s.1) ∧ w.cell? ⟨b, o + j * 2 + 1, none⟩ = some (.int .i64 s.2))
/-- A slice of chunks. -/
def Cks (w : World) (B : Nat) (A : Option Addr) (n : Nat) (cs : List Ck) : Prop :=
  cs.length = n ∧ (0 < n → ∃ b o : Nat, A = some ⟨b, o, none⟩ ∧ b < B ∧ ∀ j c, cs[j]? = some c →
    w.cell? ⟨b, o + j * 4, none⟩ = some (.bool c.1) ∧ w.cell? ⟨b, o + j * 4 + 1, none⟩ = some (.int .i64 c.2.1.1) ∧ w.cell? ⟨b, o + j * 4 + 2, none⟩ = some (.int .i64 c.2.1.2) ∧
      ∃ A' n' c', w.cell? ⟨b, o + j * 4 + 3, none⟩ = some (.slice A' n' c') ∧ n' ≤ c' ∧ c' ≤ maxLen ∧ Spans w B A' n' c.2.2)
/-- A slice of slices of bytes. -/
def RowsB (w : World) (B : Nat) (A : Option Addr) (n : Nat) (rows : List (Option Addr × Nat × Nat)) (bss : List (List UInt8)) : Prop :=
  Reads w B A n (rows.map fun r => .slice r.1 r.2.1 r.2.2) ∧ rows.length = bss.length ∧ ∀ (k : Nat) (r : Option Addr × Nat × Nat) (bs : List UInt8), rows[k]? = some r → bss[k]? = some bs → r.2.1 ≤ r.2.2 ∧ r.2.2 ≤ maxLen ∧ Byts w B r.1 r.2.1 bs

section
variable {w w' : World} {B B' n : Nat} {A : Option Addr}
theorem Spans.keep {ss : List Sp} (h : Spans w B A n ss) (hk : ∀ p : Addr, p.block < B → w'.cell? p = w.cell? p) : Spans w' B A n ss :=
  ⟨h.1, fun hn => by
    obtain ⟨b, o, e, hb, hc⟩ := h.2 hn
    exact ⟨b, o, e, hb, fun j s hj => ⟨(hk _ hb).trans (hc j s hj).1, (hk _ hb).trans (hc j s hj).2⟩⟩⟩
theorem Spans.more {ss : List Sp} (h : Spans w B A n ss) (hB : B ≤ B') : Spans w B' A n ss :=
  ⟨h.1, fun hn => by
    obtain ⟨b, o, e, hb, hc⟩ := h.2 hn
    exact ⟨b, o, e, by omega, hc⟩⟩
theorem Spans.len {ss : List Sp} (h : Spans w B A n ss) : ss.length = n := h.1
theorem Spans.at_ {ss : List Sp} {k : Nat} (h : Spans w B A n ss) (hk : k < n) : ∃ b o s, A = some ⟨b, o, none⟩ ∧ b < B ∧ ss[k]? = some s ∧ w.cell? ⟨b, o + k * 2, none⟩ = some (.int .i64 s.1) ∧ w.cell? ⟨b, o + k * 2 + 1, none⟩ = some (.int .i64 s.2) := by
  obtain ⟨b, o, e, hb, hc⟩ := h.2 (by omega)
  have hl : k < ss.length := by have := h.1; omega
  exact ⟨b, o, ss[k], e, hb, List.getElem?_eq_getElem hl, hc k _ (List.getElem?_eq_getElem hl)⟩
theorem Cks.keep {cs : List Ck} (h : Cks w B A n cs) (hk : ∀ p : Addr, p.block < B → w'.cell? p = w.cell? p) : Cks w' B A n cs :=
  ⟨h.1, fun hn => by
    obtain ⟨b, o, e, hb, hc⟩ := h.2 hn
    refine ⟨b, o, e, hb, fun j c hj => ?_⟩
    obtain ⟨h1, h2, h3, A', n', c', h4, h5, h6, h7⟩ := hc j c hj
    exact ⟨(hk _ hb).trans h1, (hk _ hb).trans h2, (hk _ hb).trans h3, A', n', c', (hk _ hb).trans h4, h5, h6, h7.keep hk⟩⟩
theorem Cks.more {cs : List Ck} (h : Cks w B A n cs) (hB : B ≤ B') : Cks w B' A n cs :=
  ⟨h.1, fun hn => by
    obtain ⟨b, o, e, hb, hc⟩ := h.2 hn
    refine ⟨b, o, e, by omega, fun j c hj => ?_⟩
    obtain ⟨h1, h2, h3, A', n', c', h4, h5, h6, h7⟩ := hc j c hj
    exact ⟨h1, h2, h3, A', n', c', h4, h5, h6, h7.more hB⟩⟩
theorem Cks.len {cs : List Ck} (h : Cks w B A n cs) : cs.length = n := h.1
theorem Cks.at_ {cs : List Ck} {k : Nat} (h : Cks w B A n cs) (hk : k < n) : ∃ b o c A' n' c', A = some ⟨b, o, none⟩ ∧ b < B ∧ cs[k]? = some c ∧ w.cell? ⟨b, o + k * 4, none⟩ = some (.bool c.1) ∧ w.cell? ⟨b, o + k * 4 + 1, none⟩ = some (.int .i64 c.2.1.1) ∧
    w.cell? ⟨b, o + k * 4 + 2, none⟩ = some (.int .i64 c.2.1.2) ∧ w.cell? ⟨b, o + k * 4 + 3, none⟩ = some (.slice A' n' c') ∧ n' ≤ c' ∧ c' ≤ maxLen ∧ Spans w B A' n' c.2.2 := by
  obtain ⟨b, o, e, hb, hc⟩ := h.2 (by omega)
  have hl : k < cs.length := by have := h.1; omega
  obtain ⟨h1, h2, h3, A', n', c', h4, h5, h6, h7⟩ := hc k _ (List.getElem?_eq_getElem hl)
  exact ⟨b, o, cs[k], A', n', c', e, hb, List.getElem?_eq_getElem hl, h1, h2, h3, h4, h5, h6, h7⟩
theorem Cks.up {cs : List Ck} (h : Cks w w.heap.size A n cs) (hb : Below w.heap.size w w') : Cks w' w'.heap.size A n cs := (h.keep fun _ hp => hb.cell hp).more hb.size
theorem Cks.nil (w : World) (B : Nat) (A : Option Addr) : Cks w B A 0 [] := ⟨rfl, fun h => absurd h (by omega)⟩
theorem Cks.drewN {cs : List Ck} (h : Cks w B A n cs) (q : Nat) : Cks (w.drewN q) B A n cs := h.keep fun _ _ => rfl
theorem Cks.drew {cs : List Ck} (h : Cks w B A n cs) : Cks w.drew B A n cs := h.keep fun _ _ => rfl
theorem Byts.up {l : List UInt8} (h : Byts w w.heap.size A n l) (hb : Below w.heap.size w w') : Byts w' w'.heap.size A n l := (Byts.below h hb).more hb.size
theorem RowsB.up {rows : List (Option Addr × Nat × Nat)} {bss : List (List UInt8)} (h : RowsB w w.heap.size A n rows bss) (hb : Below w.heap.size w w') : RowsB w' w'.heap.size A n rows bss :=
  ⟨(h.1.below hb).more hb.size, h.2.1, fun k r bs h1 h2 => ⟨(h.2.2 k r bs h1 h2).1, (h.2.2 k r bs h1 h2).2.1, (h.2.2 k r bs h1 h2).2.2.up hb⟩⟩
theorem RowsB.len {rows : List (Option Addr × Nat × Nat)} {bss : List (List UInt8)} (h : RowsB w B A n rows bss) : bss.length = n := by
  have := h.1.1; have := h.2.1; simp at *; omega
theorem RowsB.at_ {k : Nat} {rows : List (Option Addr × Nat × Nat)} {bss : List (List UInt8)} (h : RowsB w B A n rows bss) (hk : k < n) :
    ∃ b o A' n' c' bs, A = some ⟨b, o, none⟩ ∧ b < B ∧ bss[k]? = some bs ∧ w.cell? ⟨b, o + k, none⟩ = some (.slice A' n' c') ∧ n' ≤ c' ∧ c' ≤ maxLen ∧ Byts w B A' n' bs := by
  obtain ⟨b, o, u, e, hb, hu, hc⟩ := Reads.at_ h.1 hk
  rw [List.getElem?_map] at hu
  cases hr : rows[k]? with
  | none => rw [hr] at hu; cases hu
  | some r =>
    rw [hr] at hu
    have hlt : k < bss.length := by have := h.len; omega
    obtain ⟨h1, h2, h3⟩ := h.2.2 k r _ hr (List.getElem?_eq_getElem hlt)
    exact ⟨b, o, r.1, r.2.1, r.2.2, bss[k], e, hb, List.getElem?_eq_getElem hlt, by rw [hc]; simpa using hu.symm, h1, h2, h3⟩
theorem Byts.at_ {l : List UInt8} {k : Nat} (h : Byts w B A n l) (hk : k < n) : ∃ b o x, A = some ⟨b, o, none⟩ ∧ b < B ∧ l[k]? = some x ∧ w.cell? ⟨b, o + k, none⟩ = some (.int .u8 x.toNat) := by
  obtain ⟨b, o, u, e, hb, hu, hc⟩ := Reads.at_ h hk
  rw [List.getElem?_map] at hu
  cases hr : l[k]? with
  | none => rw [hr] at hu; cases hu
  | some x => rw [hr] at hu; exact ⟨b, o, x, e, hb, rfl, by rw [hc]; simpa using hu.symm⟩
end

/-- Bytes as numbers. -/
def ints (l : List UInt8) : List Int := l.map fun b => (b.toNat : Int)
theorem ints_len (l : List UInt8) : (ints l).length = l.length := by simp [ints]
theorem ints_at {l : List UInt8} {k : Nat} {b : UInt8} (h : l[k]? = some b) : (ints l)[k]? = some (b.toNat : Int) := by simp [ints, h]
end Go.Proofs.YtoopdgohdeddoaaGreatDoor
/- Proved here, without conditions on the program: plain facts on spans, and on what Parts tells. -/
namespace Go.Proofs.YtoopdgohdeddoaaGreatDoor
open Go.RowKit
set_option linter.unusedVariables false

/-- Is a span one of n places? -/
def inB (s : Sp) (n : Nat) : Bool := decide (0 ≤ s.1) && decide (s.1 ≤ s.2) && decide (s.2 ≤ n)
/-- Are sides' spans, as far as place k, spans of them? -/
def insB (spans : List Sp) (sides : List Txs) (k : Nat) : Prop := ∀ (i : Nat) (s : Sp) (l : Txs), i < k → spans[i]? = some s → sides[i]? = some l → inB s l.length = true
open Classical in
noncomputable def partErr (c : Ck) (base : Txs) (sides : List Txs) : Int := if c.2.2.length ≠ sides.length then 1 else if inB c.2.1 base.length = true ∧ insB c.2.2 sides sides.length then 0 else 3
/-- The texts that lie in a span. -/
def cutT (ss : Txs) (s : Sp) : Txs := cutL ss s.1 s.2
def cutsT (spans : List Sp) (sides : List Txs) : List Txs := List.zipWith (fun s l => cutT l s) spans sides
/-- What Parts tells. -/
def PartsOut (w w' : World) (e : Ending) (er : Int) (bs : Txs) (pss : List Txs) : Prop :=
  ∃ A n c A' n' c' rows, e = .returned (.tuple #[.slice A n c, .slice A' n' c', .int .i64 er]) ∧ TxR w' w'.heap.size (A, n, c) bs ∧ n' ≤ c' ∧ c' ≤ maxLen ∧ RowsT w' w'.heap.size A' n' rows pss ∧ Below w.heap.size w w'
/-- The same, the base's part below a bound of its own. -/
def PartsOutB (B : Nat) (w w' : World) (e : Ending) (er : Int) (bs : Txs) (pss : List Txs) : Prop :=
  ∃ A n c A' n' c' rows, e = .returned (.tuple #[.slice A n c, .slice A' n' c', .int .i64 er]) ∧ TxR w' B (A, n, c) bs ∧ n' ≤ c' ∧ c' ≤ maxLen ∧ RowsT w' w'.heap.size A' n' rows pss ∧ Below w.heap.size w w'
theorem PartsOutB.nothing {B : Nat} {w w' : World} (er : Int) (h : Below w.heap.size w w') : PartsOutB B w w' (.returned (.tuple #[.slice none 0 0, .slice none 0 0, .int .i64 er])) er [] [] :=
  ⟨.none, 0, 0, .none, 0, 0, [], rfl, TxR.nil _ _, Nat.le_refl _, Nat.zero_le _, RowsT.nil _ _ _, h⟩
theorem PartsOutB.out {B : Nat} {w w' : World} {e : Ending} {er : Int} {bs : Txs} {pss : List Txs} (hB : B ≤ w.heap.size) (h : PartsOutB B w w' e er bs pss) : PartsOut w w' e er bs pss := by
  obtain ⟨A, n, c, A', n', c', rows, h1, h2, h3, h4, h5, h6⟩ := h
  exact ⟨A, n, c, A', n', c', rows, h1, h2.more (Nat.le_trans hB h6.size), h3, h4, h5, h6⟩
theorem PartsOut.nothing {w w' : World} (er : Int) (h : Below w.heap.size w w') : PartsOut w w' (.returned (.tuple #[.slice none 0 0, .slice none 0 0, .int .i64 er])) er [] [] :=
  ⟨.none, 0, 0, .none, 0, 0, [], rfl, TxR.nil _ _, Nat.le_refl _, Nat.zero_le _, RowsT.nil _ _ _, h⟩

theorem inB_parts {s : Sp} {n : Nat} (h : inB s n = true) : 0 ≤ s.1 ∧ s.1 ≤ s.2 ∧ s.2 ≤ n := by
  unfold inB at h
  simpa [and_assoc] using h
theorem insB_step {spans : List Sp} {sides : List Txs} {k : Nat} {s : Sp} {l : Txs} (h1 : spans[k]? = some s) (h2 : sides[k]? = some l) : insB spans sides (k + 1) ↔ insB spans sides k ∧ inB s l.length = true := by
  constructor
  · intro h
    exact ⟨fun i s l hi a b => h i s l (by omega) a b, h k s l (by omega) h1 h2⟩
  · rintro ⟨h, h'⟩ i s' l' hi a b
    rcases Nat.lt_or_ge i k with hk | hk
    · exact h i s' l' hk a b
    · obtain rfl : i = k := by omega
      rw [h1] at a
      rw [h2] at b
      injection a with a
      injection b with b
      subst a
      subst b
      exact h'
theorem cutsT_step {spans : List Sp} {sides : List Txs} {k : Nat} {s : Sp} {l : Txs} (h1 : spans[k]? = some s) (h2 : sides[k]? = some l) : (cutsT spans sides).take (k + 1) = (cutsT spans sides).take k ++ [cutT l s] := by
  refine take_at ?_
  unfold cutsT
  rw [List.getElem?_zipWith, h1, h2]

theorem err_arg {c : Ck} {base : Txs} {sides : List Txs} (h : c.2.2.length ≠ sides.length) : partErr c base sides = 1 := by unfold partErr; rw [if_pos h]
theorem err_range {c : Ck} {base : Txs} {sides : List Txs} (h : c.2.2.length = sides.length) (h2 : ¬ (inB c.2.1 base.length = true ∧ insB c.2.2 sides sides.length)) : partErr c base sides = 3 := by unfold partErr; rw [if_neg (by simpa using h), if_neg h2]
theorem err_none {c : Ck} {base : Txs} {sides : List Txs} (h : c.2.2.length = sides.length) (h2 : inB c.2.1 base.length = true ∧ insB c.2.2 sides sides.length) : partErr c base sides = 0 := by unfold partErr; rw [if_neg (by simpa using h), if_pos h2]
/-- The texts that Parts tells. -/
noncomputable def partBase (c : Ck) (base : Txs) (sides : List Txs) : Txs := if partErr c base sides = 0 then cutT base c.2.1 else []
noncomputable def partSides (c : Ck) (base : Txs) (sides : List Txs) : List Txs := if partErr c base sides = 0 then cutsT c.2.2 sides else []

end Go.Proofs.YtoopdgohdeddoaaGreatDoor
/- Proved here, without conditions on the program: a merge's chunks have parts; how many there are. -/
namespace Go.Proofs.YtoopdgohdeddoaaGreatDoor
open Go.RowKit
set_option linter.unusedVariables false

/-- A chunk of a base, and sides, has parts. -/
theorem laid_parts {base : Txs} {sides : List Txs} {ms : List (List Int)} {cs : List Ck} (h : Laid base sides ms cs) {c : Ck} (hc : c ∈ cs) : partErr c base sides = 0 ∧ partBase c base sides = cutB c base ∧ partSides c base sides = cutsP c sides := by
  obtain ⟨h1, h2, h3, h4⟩ := h.lies hc
  have he : partErr c base sides = 0 := err_none h4 ⟨by unfold inB; simp; omega, fun i s l hi a b => by
    obtain ⟨sp, p1, p2, p3, p4, _⟩ := h.side hc b
    rw [a] at p1
    injection p1 with p1
    subst p1
    unfold inB
    simp
    omega⟩
  refine ⟨he, ?_, ?_⟩
  · unfold partBase; rw [if_pos he]; rfl
  · unfold partSides; rw [if_pos he]; rfl
theorem cutL_le {α : Type} (l : List α) (f t : Int) : (cutL l f t).length ≤ l.length := by
  unfold cutL
  simp
  omega
theorem cutL_mem {α : Type} {l : List α} {f t : Int} {x : α} (h : x ∈ cutL l f t) : x ∈ l := by
  unfold cutL at h
  exact List.mem_of_mem_drop (List.mem_of_mem_take h)
/-- There are no more chunks than twice the places, and one. -/
theorem cov_few {m : Int} {sizes : List Int} : ∀ {cs : List Ck} {prev : Option Bool} {b : Int} {a : List Int}, Cov m sizes cs prev b a → (cs.length : Int) ≤ 2 * (m - b) + (if prev = some false then 0 else 1)
  | [], prev, b, a, h => by
    have := h.2
    subst this
    simp
    split <;> omega
  | c :: cs, prev, b, a, h => by
    obtain ⟨h1, h2⟩ := h
    have ih := cov_few h2
    have hle := h1.le
    have halt := h1.alt
    rw [List.length_cons]
    cases hc : c.1
    · rw [hc] at ih halt
      rw [if_pos rfl] at ih
      rw [if_neg halt]
      push_cast
      omega
    · have ho := h1.one hc
      rw [hc] at ih
      rw [if_neg (by simp)] at ih
      push_cast
      split <;> omega
end Go.Proofs.YtoopdgohdeddoaaGreatDoor
/- Proved here, without conditions: how many lines the editor's commands are; chunks from the last on. -/
namespace Go.Proofs.YtoopdgohdeddoaaGreatDoor
set_option linter.unusedVariables false

theorem over_ln (l : Txs) (k : Nat) : (overD l k).length ≤ l.length + 2 := by
  have h : (blockD l).length = l.length + 1 := block_len
  unfold overD
  rw [List.length_append, h]
  split
  · rw [List.length_singleton]; omega
  · simp
theorem laid_ln (b : Bool) (older yours : Txs) : (laidT b older yours).length ≤ older.length + yours.length + 3 := by
  unfold laidT
  cases b <;> simp <;> omega
theorem take_ln (f t : Nat) (yours : Txs) : (takeD f t yours).length ≤ yours.length + 3 := by
  unfold takeD
  have h1 := over_ln yours (t + 1)
  have h2 := over_ln yours (f + 1)
  split
  · simp
  · split
    · rw [List.length_cons]; omega
    · rw [List.length_cons]; omega
theorem bracket_ln (f t : Nat) (b : Bool) (older yours : Txs) : (bracketD f t b older yours).length ≤ older.length + yours.length + 9 := by
  unfold bracketD
  have h1 := over_ln (laidT b older yours) (t + 1)
  have h2 := laid_ln b older yours
  rw [List.length_cons, List.length_append]
  simp only [List.length_cons, List.length_nil]
  omega
theorem cmds_ln (c : UInt8) (x : ChD) : (cmdsD c x).length ≤ x.older.length + x.yours.length + 9 := by
  have h1 := take_ln x.f x.t x.yours
  have h2 := bracket_ln x.f x.t false x.older x.yours
  have h3 := bracket_ln x.f x.t true x.older x.yours
  unfold cmdsD
  split
  · simp
  · split
    · simp
    · omega
    · omega
    · omega
/-- One chunk more, from the last on. -/
theorem rev_step {α : Type} {g : α → Txs} {cs : List α} {k : Nat} {ck : α} (h : cs[k]? = some ck) : (cs.drop k).reverse.flatMap g = (cs.drop (k + 1)).reverse.flatMap g ++ g ck := by
  rw [drop_at h, List.reverse_cons, List.flatMap_append]
  simp
theorem rev_map {α : Type} {f : α → ChD} {c : UInt8} {cs : List α} {fin : Bool} : scriptD c (cs.map f) fin = cs.reverse.flatMap (fun x => cmdsD c (f x)) ++ tailS fin := by
  unfold scriptD tailS
  rw [← List.map_reverse, List.flatMap_map]
/-- What one chunk asks. -/
theorem cmds_is {mine older yours : Txs} {c : UInt8} {st : Bool} {f t : Int} {s0 : Sp} {sp : List Sp} (d : Nat) (hd : doesF c (kindF (cutS (st, (f, t), s0 :: sp) 0 mine) (cutB (st, (f, t), s0 :: sp) older) (cutS (st, (f, t), s0 :: sp) 1 yours)) = d) :
    (st = true → cmdsD c (chunkC mine older yours (st, (f, t), s0 :: sp)) = []) ∧ (st = false → d = 0 → cmdsD c (chunkC mine older yours (st, (f, t), s0 :: sp)) = []) ∧
    (st = false → d = 1 → cmdsD c (chunkC mine older yours (st, (f, t), s0 :: sp)) = takeD s0.1.toNat s0.2.toNat (cutS (st, (f, t), s0 :: sp) 1 yours)) ∧
    (st = false → d = 2 → cmdsD c (chunkC mine older yours (st, (f, t), s0 :: sp)) = bracketD s0.1.toNat s0.2.toNat false (cutB (st, (f, t), s0 :: sp) older) (cutS (st, (f, t), s0 :: sp) 1 yours)) ∧
    (st = false → d = 3 → cmdsD c (chunkC mine older yours (st, (f, t), s0 :: sp)) = bracketD s0.1.toNat s0.2.toNat true (cutB (st, (f, t), s0 :: sp) older) (cutS (st, (f, t), s0 :: sp) 1 yours)) := by
  unfold cmdsD chunkC
  dsimp only
  rw [hd]
  refine ⟨?_, ?_, ?_, ?_, ?_⟩
  · rintro rfl; rfl
  all_goals
    rintro rfl rfl
    rfl
end Go.Proofs.YtoopdgohdeddoaaGreatDoor
/- Proved here, without conditions: a merge's chunks by a test that can be run. -/
namespace Go.Proofs.YtoopdgohdeddoaaGreatDoor
set_option linter.unusedVariables false

def headB (c : Ck) (prev : Option Bool) (b : Int) (a : List Int) : Bool :=
  decide (c.2.1.1 = b) && decide (b ≤ c.2.1.2) && decide (c.2.2.length = a.length) && decide (prev ≠ some c.1) && !emptyB c && (List.zip c.2.2 a).all fun q => decide (q.1.1 = q.2) && decide (q.2 ≤ q.1.2) && (!c.1 || decide (q.1.2 - q.1.1 = c.2.1.2 - c.2.1.1))
theorem headB_is {c : Ck} {prev : Option Bool} {b : Int} {a : List Int} (h : headB c prev b a = true) : Head c prev b a := by
  unfold headB at h
  simp only [Bool.and_eq_true, decide_eq_true_eq, List.all_eq_true, Bool.not_eq_true', Bool.or_eq_true] at h
  obtain ⟨⟨⟨⟨⟨h1, h2⟩, h3⟩, h4⟩, h5⟩, h6⟩ := h
  refine ⟨h1, h2, h3, h4, h5, fun s sp v hs hv => ?_⟩
  obtain ⟨⟨a1, a2⟩, a3⟩ := h6 (sp, v) (List.mem_of_getElem? (i := s) (List.getElem?_zip_eq_some.2 ⟨hs, hv⟩))
  exact ⟨a1, a2, fun hc => by rcases a3 with a3 | a3; rw [hc] at a3; cases a3; exact a3⟩
def covB (m : Int) (sizes : List Int) : List Ck → Option Bool → Int → List Int → Bool
  | [], _, b, a => decide (a = sizes) && decide (b = m)
  | c :: cs, prev, b, a => headB c prev b a && covB m sizes cs (some c.1) c.2.1.2 (ends c)
theorem covB_is {m : Int} {sizes : List Int} : ∀ {cs : List Ck} {prev : Option Bool} {b : Int} {a : List Int}, covB m sizes cs prev b a = true → Cov m sizes cs prev b a
  | [], prev, b, a, h => by
    unfold covB at h
    simp only [Bool.and_eq_true, decide_eq_true_eq] at h
    exact h
  | c :: cs, prev, b, a, h => by
    unfold covB at h
    rw [Bool.and_eq_true] at h
    exact ⟨headB_is h.1, covB_is h.2⟩
def placesB (ms : List (List Int)) (c : Ck) : Bool := (List.range (c.2.1.2 - c.2.1.1).toNat).all fun j => decide (allP ms (c.2.1.1 + j) = c.1) && (!c.1 || (List.zip ms c.2.2).all fun q => decide (pl q.1 (c.2.1.1 + j) = q.2.1 + j))
theorem placesB_is {ms : List (List Int)} {c : Ck} (h : placesB ms c = true) : Places ms c := by
  unfold placesB at h
  simp only [List.all_eq_true, List.mem_range, Bool.and_eq_true, decide_eq_true_eq, Bool.or_eq_true, Bool.not_eq_true'] at h
  intro k h1 h2
  obtain ⟨a1, a2⟩ := h (k - c.2.1.1).toNat (by omega)
  have e : c.2.1.1 + ((k - c.2.1.1).toNat : Int) = k := by omega
  rw [e] at a1 a2
  refine ⟨a1, fun hc s l sp hl hs => ?_⟩
  rcases a2 with a2 | a2
  · rw [hc] at a2; cases a2
  · have := a2 (l, sp) (List.mem_of_getElem? (i := s) (List.getElem?_zip_eq_some.2 ⟨hl, hs⟩))
    dsimp only at this
    omega
theorem cutB_is {m : Int} {sizes : List Int} {ms : List (List Int)} {cs : List Ck} (h : (covB m sizes cs none 0 (List.replicate sizes.length 0) && cs.all (placesB ms)) = true) : IsCut m sizes ms cs := by
  rw [Bool.and_eq_true, List.all_eq_true] at h
  exact ⟨covB_is h.1, fun c hc => placesB_is (h.2 c hc)⟩
end Go.Proofs.YtoopdgohdeddoaaGreatDoor
/- Proved here, without conditions: what Script comes to in the statements' own example. -/
namespace Go.Proofs.YtoopdgohdeddoaaGreatDoor
set_option linter.unusedVariables false

def sA : Tx := [97, 10]
/-- A number for a text. -/
def awG (t : Tx) : Int := match t with | x :: _ => (x.toNat : Int) | [] => 0
def dotB : Tx := [46, 98, 10]
def awX : Txs := [[49, 99, 10], [46, 46, 98, 10], [46, 10], [49, 115, 47, 94, 92, 46, 47, 47, 10], [119, 10], [113, 10]]
theorem fig_1 : figD 1 = [49] := by unfold figD; rfl
theorem lin_11 : linesD 1 1 = [49] := by unfold linesD; rw [if_pos rfl, fig_1]
theorem aw_take : takeD 0 1 [dotB] = [[49, 99, 10], [46, 46, 98, 10], [46, 10], [49, 115, 47, 94, 92, 46, 47, 47, 10]] := by
  unfold takeD
  rw [if_neg (by decide), if_neg (by decide)]
  show (linesD 1 1 ++ [99, 10]) :: overD [dotB] 1 = _
  unfold overD
  rw [if_pos (by decide)]
  show (linesD 1 1 ++ [99, 10]) :: (blockD [dotB] ++ [linesD 1 1 ++ subT]) = _
  rw [lin_11]
  decide
theorem aw_scr : scriptD 101 ([(false, (0, 1), [(0, 1), (0, 1)])].map (chunkC [sA] [sA] [dotB])) true = awX := by
  have h := (cmds_is (mine := [sA]) (older := [sA]) (yours := [dotB]) (c := 101) (st := false) (f := 0) (t := 1) (s0 := (0, 1)) (sp := [(0, 1)]) 1 (by decide)).2.2.1 rfl rfl
  have h2 : cutS (false, (0, 1), [(0, 1), (0, 1)]) 1 [dotB] = [dotB] := by decide
  rw [h2] at h
  rw [rev_map]
  show ([] ++ [cmdsD 101 (chunkC [sA] [sA] [dotB] (false, (0, 1), [(0, 1), (0, 1)]))]).flatten ++ tailS true = _
  rw [h]
  show takeD 0 1 [dotB] ++ [] ++ tailS true = _
  rw [aw_take]
  decide
theorem aws_one {er : Int} {x : Txs} (h : ScriptTo 101 [sA] [sA] [dotB] true er x) : er = 0 ∧ x = awX := by
  have he : errS 101 [sA] [sA] [dotB] = 0 := by decide
  have m1 : MtOf [sA] [sA] [0] := ⟨awG, by decide, by simp [mt, awG, sA]⟩
  have m2 : MtOf [sA] [dotB] [-1] := ⟨awG, by decide, by simp [mt, lcsL, awG, sA, dotB]⟩
  have hm : MsOf [sA] [[sA], [dotB]] [[0], [-1]] := by
    refine ⟨rfl, fun s m f a b => ?_⟩
    match s, a, b with
    | 0, a, b => simp at a b; subst a; subst b; exact m1
    | 1, a, b => simp at a b; subst a; subst b; exact m2
    | s + 2, a, b => simp at a
  have hc : IsCut ([sA] : Txs).length (szs [[sA], [dotB]]) [[0], [-1]] [(false, (0, 1), [(0, 1), (0, 1)])] := cutB_is (by decide)
  have h2 : ScriptTo 101 [sA] [sA] [dotB] true 0 _ := ⟨he.symm, fun h => absurd rfl h, fun _ => ⟨_, _, hm, hc, rfl⟩⟩
  obtain ⟨r1, r2⟩ := h.one h2
  exact ⟨r1, r2.trans aw_scr⟩
theorem aws_two {er : Int} {x : Txs} (h : ScriptTo 63 [sA] [sA] [sA] true er x) : er = 1 ∧ x = [] := by
  have e : er = 1 := h.1.trans (by decide)
  exact ⟨e, h.2.1 (by rw [e]; decide)⟩
theorem aws_three {er : Int} {x : Txs} (h : ScriptTo 101 [sA] [sA] [[98]] true er x) : er = 5 ∧ x = [] := by
  have e : er = 5 := h.1.trans (by decide)
  exact ⟨e, h.2.1 (by rw [e]; decide)⟩
end Go.Proofs.YtoopdgohdeddoaaGreatDoor
/- Proved here, without conditions on the program: what lies in a world behind allocs; new blocks that read as texts, as lists of texts. -/
namespace Go.Proofs.YtoopdgohdeddoaaGreatDoor
open Go.RowKit
set_option linter.unusedVariables false

theorem push_at (w : World) (o : Obj) (k : Nat) : (w.alloc o).heap[k]? = if k = w.heap.size then some o else w.heap[k]? := by
  show (w.heap.push o)[k]? = _
  rw [Array.getElem?_push]
theorem push_size (w : World) (o : Obj) : (w.alloc o).heap.size = w.heap.size + 1 := by simp
theorem below_alloc {a w : World} (h : Below a.heap.size a w) (o : Obj) : Below a.heap.size a (w.alloc o) := h.alloc h.size o
theorem below_drew {a w : World} (h : Below a.heap.size a w) : Below a.heap.size a w.drew := below_drewN h 1
theorem two_a (w : World) (o1 o2 : Obj) : ((w.alloc o1).alloc o2).heap[w.heap.size]? = some o1 ∧ ((w.alloc o1).alloc o2).heap[w.heap.size + 1]? = some o2 := by
  constructor
  · rw [push_at, if_neg (by simp), push_at, if_pos rfl]
  · rw [push_at, push_size, if_pos rfl]
theorem one_a (w : World) (o1 : Obj) : (w.alloc o1).heap[w.heap.size]? = some o1 := by rw [push_at, if_pos rfl]
theorem TxR.but {F : Nat → Prop} {w w' : World} {r : Slc} {ss : Txs} (h : TxR w w.heap.size r ss) (hb : But F w w') (hF : 0 < r.2.1 → ∀ q o, r.1 = some ⟨q, o, none⟩ → ¬ F q) : TxR w' w'.heap.size r ss := by
  refine ⟨h.1, h.2.1, h.2.2.1, fun hn => ?_⟩
  obtain ⟨b, o, e, hlt, hc⟩ := h.2.2.2 hn
  exact ⟨b, o, e, Nat.lt_of_lt_of_le hlt hb.size, fun j u hu => (World.cell?_of_block (w := w) (hb.block b hlt (hF hn b o e))).trans (hc j u hu)⟩
theorem txr_of {W : World} {g n : Nat} {ss : Txs} {C : Array Value} {t : TypeId} (h : W.heap[g]? = some (.cells C t (0, 0))) (hC : C = (ss.map fun s => Value.string (str s)).toArray) (hn : ss.length = n) (hm : n ≤ maxLen) : TxR W W.heap.size (some ⟨g, 0, none⟩, n, n) ss := by
  refine ⟨Nat.le_refl _, hm, by simpa using hn, fun _ => ⟨g, 0, rfl, (Array.getElem?_eq_some_iff.1 h).1, fun j u hu => ?_⟩⟩
  rw [Nat.zero_add, cells_of h, hC]
  simpa using hu
theorem rowsT_of {W : World} {g n : Nat} {rows : List Slc} {sss : List Txs} {C : Array Value} {t : TypeId} (h : W.heap[g]? = some (.cells C t (0, 0))) (hC : C = (rows.map slcV).toArray) (hn : rows.length = n) (hl : rows.length = sss.length)
    (each : ∀ (k : Nat) (r : Slc) (ss : Txs), rows[k]? = some r → sss[k]? = some ss → TxR W W.heap.size r ss) : RowsT W W.heap.size (some ⟨g, 0, none⟩) n rows sss := by
  refine ⟨⟨by simpa using hn, fun _ => ⟨g, 0, rfl, (Array.getElem?_eq_some_iff.1 h).1, fun j u hu => ?_⟩⟩, hl, each⟩
  rw [Nat.zero_add, cells_of h, hC]
  simpa using hu
end Go.Proofs.YtoopdgohdeddoaaGreatDoor
/- Proved here: the statements' own example of layer 16 comes to true. -/
namespace Go.Proofs.YtoopdgohdeddoaaGreatDoor
open Go.RowKit
set_option linter.unusedVariables false
set_option maxRecDepth 100000

section
variable (H : ScriptOk)
include H
set_option maxHeartbeats 4000000 in
theorem scrAwake_any (w : World) : Calls Tryz.prog 8 #[] w fun e w' => e = .returned (.bool true) ∧ Below w.heap.size w w' := by
  obtain ⟨W0, hW0⟩ : ∃ W0, W0 = w.alloc (.cells #[.string ⟨#[97, 10]⟩] 9) := ⟨_, rfl⟩
  have hTA : TxR W0 W0.heap.size (some ⟨w.heap.size, 0, none⟩, 1, 1) [sA] := by rw [hW0]; exact txr_of (one_a w _) rfl rfl (by decide)
  have hB0 : Below w.heap.size w W0 := by rw [hW0]; exact below_alloc (Below.refl _ _) _
  have eg : W0.heap.size = w.heap.size + 1 := by rw [hW0]; simp
  obtain ⟨W1, hW1⟩ : ∃ W1, W1 = W0.alloc (.cells #[.string ⟨#[46, 98, 10]⟩] 9) := ⟨_, rfl⟩
  have hB1 : Below W0.heap.size W0 W1 := by rw [hW1]; exact below_alloc (Below.refl _ _) _
  have hTY : TxR W1 W1.heap.size (some ⟨w.heap.size + 1, 0, none⟩, 1, 1) [dotB] := by rw [← eg, hW1]; exact txr_of (one_a W0 _) rfl rfl (by decide)
  have ya : smallS [sA] := ⟨by decide, by decide⟩
  have yb : smallS [dotB] := ⟨by decide, by decide⟩
  have yc : smallS [[98]] := ⟨by decide, by decide⟩
  have hC1 := Lib.hid (H 101 _ 1 1 [sA] _ 1 1 [sA] _ 1 1 [dotB] true W1 ya ya yb (hTA.up hB1) (hTA.up hB1) hTY)
  have hC2 := Lib.hid (fun (W : World) (hW : Below W0.heap.size W0 W) => H 63 _ 1 1 [sA] _ 1 1 [sA] _ 1 1 [sA] true W ya ya ya (hTA.up hW) (hTA.up hW) (hTA.up hW))
  have hC3 := Lib.hid (fun (W : World) (hW : Below W0.heap.size W0 W) => H 101 _ 1 1 [sA] _ 1 1 [sA] (some ⟨W.heap.size, 0, none⟩) 1 1 [[98]] true (W.alloc (.cells #[.string ⟨#[98]⟩] 9)) ya ya yc (hTA.up (below_alloc hW _)) (hTA.up (below_alloc hW _)) (txr_of (one_a W _) rfl rfl (by decide)))
  have hW0h := Lib.hid hW0
  have hW1h := Lib.hid hW1
  have hB0h := Lib.hid hB0
  have hB1h := Lib.hid hB1
  clear hTA hTY hB0 hB1 hW0 hW1 ya yb yc eg H
  go_enter Tryz.func8, Tryz.ntmps8
  go_upto_region 5 with (first
    | (go_at_call 10; rw [← hW0h.out, ← hW1h.out]; refine hC1.out.mono ?_; rintro e w1 ⟨A1, n1, c1, er, x, rfl, p1, p2, p3⟩; obtain ⟨rfl, rfl⟩ := aws_one p2; have hP1 := Lib.hid p1; have hB2 := Lib.hid (hB1h.out.trans (p3.mono hB1h.out.size)); clear p1 p2 p3 hC1)
    | (go_at_call 10; refine (hC2.out _ hB2.out).mono ?_; rintro e w2 ⟨A2, n2, c2, er, x, rfl, p1, p2, p3⟩; obtain ⟨rfl, rfl⟩ := aws_two p2; have hP2 := Lib.hid (hP1.out.up p3); have hB3 := Lib.hid (hB2.out.trans (p3.mono hB2.out.size)); clear p1 p2 p3 hC2)
    | (go_at_call 10; refine (hC3.out _ hB3.out).mono ?_; rintro e w3 ⟨A3, n3, c3, er, x, rfl, p1, p2, p3⟩; obtain ⟨rfl, rfl⟩ := aws_three p2; have hba := below_alloc hB3.out (.cells #[.string ⟨#[98]⟩] 9); have hP3 := Lib.hid ((hP2.out.up (below_alloc (Below.refl _ _) (.cells #[.string ⟨#[98]⟩] 9))).up p3); have hB4 := Lib.hid (hba.trans (p3.mono hba.size)); clear p1 p2 p3 hba hC3))
  have n1e : n1 = 6 := by have := hP3.out.2.2.len; simpa [awX] using this.symm
  subst n1e
  obtain ⟨b1, o1, rfl, hb1, hc1⟩ := hP3.out.2.2.2 (by show 0 < 6; omega)
  have y0 : w3.cell? ⟨b1, o1, none⟩ = some (.string ⟨#[49, 99, 10]⟩) := hc1 0 _ rfl
  have y1 : w3.cell? ⟨b1, o1 + 1, none⟩ = some (.string ⟨#[46, 46, 98, 10]⟩) := hc1 1 _ rfl
  have y2 : w3.cell? ⟨b1, o1 + 2, none⟩ = some (.string ⟨#[46, 10]⟩) := hc1 2 _ rfl
  have y3 : w3.cell? ⟨b1, o1 + 3, none⟩ = some (.string ⟨#[49, 115, 47, 94, 92, 46, 47, 47, 10]⟩) := hc1 3 _ rfl
  have y4 : w3.cell? ⟨b1, o1 + 4, none⟩ = some (.string ⟨#[119, 10]⟩) := hc1 4 _ rfl
  clear hc1 hP1 hP2 hP3
  go_wp2
  go_ret
  exact ⟨rfl, hB0h.out.trans (hB4.out.mono hB0h.out.size)⟩
end
end Go.Proofs.YtoopdgohdeddoaaGreatDoor
/- Proved here: the statements' own flag, Few and Same of layer 16. -/
namespace Go.Proofs.YtoopdgohdeddoaaGreatDoor
open Go.RowKit
set_option linter.unusedVariables false
set_option maxRecDepth 100000

/-- One of the flags, or none. -/
def flagP (P : Nat) : UInt8 := match P with
  | 0 => 101 | 1 => 120 | 2 => 51 | 3 => 69 | 4 => 88 | 5 => 65 | _ => 63
def flagC (y : Nat) : UInt8 := flagP (y % 7)
theorem flag_known (y : Nat) : knownB (flagC y) = !decide (y % 7 = 6) := by
  obtain ⟨P, hP⟩ : ∃ P : Nat, y % 7 = P := ⟨_, rfl⟩
  unfold flagC
  rcases (by omega : P = 0 ∨ P = 1 ∨ P = 2 ∨ P = 3 ∨ P = 4 ∨ P = 5 ∨ P = 6) with rfl | rfl | rfl | rfl | rfl | rfl | rfl
  all_goals
    rw [hP]
    decide
set_option maxHeartbeats 1000000 in
theorem flag_any (y : Nat) (w : World) (hy : y ≤ 255) : Calls Tryz.prog 11 #[.int .u8 (y : Int)] w fun e w' => e = .returned (.int .u8 ((flagC y).toNat : Int)) ∧ w' = w := by
  obtain ⟨P, hP⟩ : ∃ P : Nat, y % 7 = P := ⟨_, rfl⟩
  have hPt : ((y : Int)).tmod 7 = (P : Int) := by rw [← hP]; exact Int.ofNat_tmod y 7 ▸ rfl
  rcases (by omega : P = 0 ∨ P = 1 ∨ P = 2 ∨ P = 3 ∨ P = 4 ∨ P = 5 ∨ P = 6) with rfl | rfl | rfl | rfl | rfl | rfl | rfl
  all_goals
    unfold flagC
    rw [hP]
    clear hP
    go_enter Tryz.func11, Tryz.ntmps11
    go_wp2
    go_ret
    exact ⟨rfl, rfl⟩
theorem same_S (X : Txs) (A1 A2 : Option Addr) (n1 c1 n2 c2 : Nat) (W : World) (h1 : TxR W W.heap.size (A1, n1, c1) X) (h2 : TxR W W.heap.size (A2, n2, c2) X) : Calls Tryz.prog 13 #[.slice A1 n1 c1, .slice A2 n2 c2] W fun e w' => e = .returned (.bool true) ∧ Below W.heap.size W w' := by
  have h := Same_any A1 A2 n1 n2 c1 c2 W.heap.size W.heap.size X X W (Nat.le_trans h1.1 h1.2.1) (Nat.le_trans h2.1 h2.2.1) h1.2.2 h2.2.2
  rw [decide_eq_true (rfl : X = X)] at h
  refine h.mono ?_
  rintro e w' ⟨r, q, rfl⟩
  exact ⟨r, below_drewN (Below.refl _ _) q⟩
theorem few_S {l : Txs} (h : fewB l 16 = true) : smallS l := by
  unfold fewB at h
  rw [Bool.and_eq_true, decide_eq_true_eq] at h
  refine ⟨h.1, fun t ht => ?_⟩
  have h2 := h.2
  rw [List.take_of_length_le (by omega), List.all_eq_true] at h2
  simpa using h2 t ht
end Go.Proofs.YtoopdgohdeddoaaGreatDoor
/- Proved here: texts of the call's own; numbers that an int may hold. -/
namespace Go.Proofs.YtoopdgohdeddoaaGreatDoor
open Go.RowKit
set_option linter.unusedVariables false

theorem infoStr : (Tryz.prog.info? 9).map (fun i => (i.zero, i.size, i.bytes)) = some (some (.string ByteArray.empty), 1, 16) := by kernel_rfl
/-- Texts of the call's own. -/
structure TxO (w wr : World) (v : Value) (xs : Txs) : Prop where
  own : wr.ownsRow w.heap.size 9 1 v xs.length (xs.map fun s => .string (str s))
  below : Below w.heap.size w wr
theorem TxO.out {w wr : World} {v : Value} {xs : Txs} (h : TxO w wr v xs) : TxsOut w wr (.returned v) xs := by
  obtain ⟨A, c, rfl, h1, h2, h3⟩ := own_slice h.own
  exact ⟨A, _, c, rfl, ⟨h1, h2, h3⟩, h.below⟩
theorem TxO.put {w wr w2 : World} {v v' : Value} {xs ys : Txs} {m : Nat} (h : TxO w wr v xs) (hl : ys.length = m) (hown : w2.ownsRow w.heap.size 9 1 v' (xs.length + m) ((xs.map fun s => .string (str s)) ++ ys.map fun s => .string (str s))) (hg : wr.grownBy w2 v.ownBlock) : TxO w w2 v' (xs ++ ys) := by
  refine ⟨?_, h.below.grown hg h.below.size fun j e => (h.own.lt j e).1⟩
  rw [List.length_append, hl, List.map_append]
  exact hown

/-- A number that an int may hold. -/
def inR64 (v : Int) : Prop := -9223372036854775808 ≤ v ∧ v ≤ 9223372036854775807
theorem wrap_pred {n : Int} {k m : Nat} (hn : inR64 n) (hk : k < m) (hm : m ≤ 9223372036854775807) : ((k : Int) == IntKind.i64.wrap (n - 1)) = decide ((k : Int) = n - 1) := by
  unfold inR64 at hn
  by_cases h : -9223372036854775808 ≤ n - 1
  · rw [IntWalk.i64_in _ (by omega)]
    rfl
  · have e : n = -9223372036854775808 := by omega
    subst e
    have : IntKind.i64.wrap (-9223372036854775808 - 1) = 9223372036854775807 := by decide
    rw [this]
    have h1 : ¬ (k : Int) = 9223372036854775807 := by omega
    have h2 : ¬ (k : Int) = -9223372036854775808 - 1 := by omega
    rw [decide_eq_false h2]
    simpa using h1

theorem strs_app (a b : Tx) : str a ++ str b = str (a ++ b) := by
  apply ByteArray.ext
  simp [str]
theorem str_feed (s : Tx) : str s ++ ⟨#[10]⟩ = str (s ++ [10]) := by
  apply ByteArray.ext
  simp [str]
theorem TxO.push {w wr w2 : World} {v v' : Value} {xs : Txs} {s : Tx} {o : Obj} (h : TxO w wr v xs) (hown : w2.ownsRow w.heap.size 9 1 v' (xs.length + 1) ((xs.map fun s => .string (str s)) ++ [.string (str s)])) (hg : (wr.alloc o).grownBy w2 v.ownBlock) : TxO w w2 v' (xs ++ [s]) := by
  have hs := h.below.size
  refine ⟨?_, (h.below.alloc hs o).grown hg (by simp; omega) fun j e => (h.own.lt j e).1⟩
  rw [List.length_append, List.map_append]
  exact hown

end Go.Proofs.YtoopdgohdeddoaaGreatDoor

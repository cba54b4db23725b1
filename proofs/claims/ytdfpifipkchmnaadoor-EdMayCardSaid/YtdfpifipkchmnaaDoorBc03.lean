/- Proved here: texts joined: Append, Txts. -/
import Derived.Test.YtdfpifipkchmnaaDoorBc01
import Derived.Test.YtdfpifipkchmnaaDoorBc02
import Derived.Maps.AppendAt
import Derived.RegionTactic
import Derived.OwnWalk
/- Proved here, without conditions on the program: append of a slice that reads as a list onto a row of the call's own. -/
namespace Go.Proofs.YtdfpifipkchmnaaDoor
open Go.RowKit
set_option linter.unusedVariables false

section
variable {P : Program} (w : World)

theorem run_append_of_nil (base : Nat) (t ty e : TypeId) (i : TypeInfo) (ht : P.underlying t = some (.slice e)) (hi : P.info? e = some i)
    (v : Value) (n : Nat) (xs : List Value) (hown : w.ownsRow base e 1 v n xs) (c : Nat) : (Builtin.append_ #[t, t] ty #[v, .slice none 0 c]).run P w = .ok v w := by
  rcases hown.2 with ⟨rfl, rfl⟩ | ⟨g, cap, cur, rfl, _, _, hnc, _⟩
  · simp [Builtin.append_, run_underlying ht, sizeOf, typeInfo, hi, Builtin.lenOf, Builtin.firstCells]
  · simp [Builtin.append_, run_underlying ht, sizeOf, typeInfo, hi, Builtin.lenOf, Builtin.firstCells, hnc, storeCells]

theorem run_append_reads (base : Nat) (t ty e : TypeId) (i : TypeInfo) (z : Value) (bytes : Nat) (ht : P.underlying t = some (.slice e)) (hi : P.info? e = some i) (hz : i.zero = some z)
    (hsize : i.size = 1) (hby : i.bytes = bytes) (hzs : z.cells.size = 1)
    (v : Value) (n : Nat) (xs : List Value) (hown : w.ownsRow base e 1 v n xs)
    (B : Nat) (A : Option Addr) (m c : Nat) (news : List Value) (hr : Reads w B A m news) (h1 : ∀ u ∈ news, u.oneCell' = true)
    (h63 : n + m ≤ maxLen) (hbytes : (n + m) * bytes ≤ 140737488355328) (hbase : base ≤ w.heap.size) :
    ∃ v' w', (Builtin.append_ #[t, t] ty #[v, .slice A m c]).run P w = .ok v' w' ∧ w'.ownsRow base e 1 v' (n + m) (xs ++ news) ∧ w.grownBy w' v.ownBlock := by
  rcases A with _ | ad
  · have hm : m = 0 := by
      rcases Nat.eq_zero_or_pos m with h0 | h0
      · exact h0
      · obtain ⟨_, _, h, _⟩ := hr.2 h0
        cases h
    subst hm
    have hn : news = [] := List.eq_nil_of_length_eq_zero hr.1
    subst hn
    exact ⟨v, w, run_append_of_nil w base t ty e i ht hi v n xs hown c, by simpa using hown, World.grownBy.refl w _⟩
  · have hcells : ∀ j u, news[j]? = some u → w.cell? (ad.add j) = some u := by
      intro j u hu
      rcases Nat.eq_zero_or_pos m with h0 | h0
      · subst h0
        have hn : news = [] := List.eq_nil_of_length_eq_zero hr.1
        subst hn
        simp at hu
      · obtain ⟨b, o, h, _, hc⟩ := hr.2 h0
        injection h with h
        subst h
        rw [show (⟨b, o, none⟩ : Addr).add j = ⟨b, o + j, none⟩ from by unfold Addr.add; split <;> simp_all]
        exact hc j u hu
    obtain ⟨v', w', hrun, h2, h3, _⟩ := run_append_own_at (P := P) w base t ty e i z 1 bytes ht hi hz hsize hby hzs (by decide) v n xs hown ad m c news (by rw [hr.1, Nat.mul_one]) hcells h1 h63 hbytes hbase
    exact ⟨v', w', hrun, h2, h3⟩

theorem wp_append_reads {o : Oper} {a : Act} {K : Act → World → Prop} {Q : Exit → Act → World → Prop} (s x : Operand) (t : TypeId)
    (ho : o.op = .call { callee := .builtin .append, args := #[s, x], argTypes := #[t, t] })
    (base : Nat) (e : TypeId) (i : TypeInfo) (z : Value) (bytes : Nat) (ht : P.underlying t = some (.slice e)) (hi : P.info? e = some i) (hz : i.zero = some z)
    (hsize : i.size = 1) (hby : i.bytes = bytes) (hzs : z.cells.size = 1)
    (v : Value) (n : Nat) (xs : List Value) (hs : a.eval s = v) (hown : w.ownsRow base e 1 v n xs)
    (B : Nat) (A : Option Addr) (m c : Nat) (news : List Value) (hx : a.eval x = .slice A m c) (hr : Reads w B A m news) (h1 : ∀ u ∈ news, u.oneCell' = true)
    (h63 : n + m ≤ maxLen) (hbytes : (n + m) * bytes ≤ 140737488355328) (hbase : base ≤ w.heap.size)
    (h : ∀ v' w', w'.ownsRow base e 1 v' (n + m) (xs ++ news) → w.grownBy w' v.ownBlock → K (a.put o.dst v') w') : o.wp P a w K Q := by
  obtain ⟨v', w', hrun, h2, h3⟩ := run_append_reads (P := P) w base t o.type e i z bytes ht hi hz hsize hby hzs v n xs hown B A m c news hr h1 h63 hbytes hbase
  unfold Oper.wp execOp
  simp only [ho, resolve, invoke, builtin, Sem.run_bind, Sem.run_pure, Result.andThen_ok, List.map_toArray, List.map_cons, List.map_nil, hs, hx, hrun]
  exact h v' w' h2 h3

theorem wpList_append_reads {ops : Array Oper} {rest : List Oper} {o : Oper} {a : Act} {Q : Exit → Act → World → Prop} (hgd : o.guard = none) (s x : Operand) (t : TypeId)
    (ho : o.op = .call { callee := .builtin .append, args := #[s, x], argTypes := #[t, t] })
    (base : Nat) (e : TypeId) (i : TypeInfo) (z : Value) (bytes : Nat) (ht : P.underlying t = some (.slice e)) (hi : P.info? e = some i) (hz : i.zero = some z)
    (hsize : i.size = 1) (hby : i.bytes = bytes) (hzs : z.cells.size = 1)
    (v : Value) (n : Nat) (xs : List Value) (hs : a.eval s = v) (hown : w.ownsRow base e 1 v n xs)
    (B : Nat) (A : Option Addr) (m c : Nat) (news : List Value) (hx : a.eval x = .slice A m c) (hr : Reads w B A m news) (h1 : ∀ u ∈ news, u.oneCell' = true)
    (h63 : n + m ≤ maxLen) (hbytes : (n + m) * bytes ≤ 140737488355328) (hbase : base ≤ w.heap.size)
    (h : ∀ v' w', w'.ownsRow base e 1 v' (n + m) (xs ++ news) → w.grownBy w' v.ownBlock → wpList P ops Q rest (a.put o.dst v') w') : wpList P ops Q (o :: rest) a w :=
  wpList_plain hgd fun _ hK => wp_append_reads w s x t ho base e i z bytes ht hi hz hsize hby hzs v n xs hs hown B A m c news hx hr h1 h63 hbytes hbase fun v' w' h2 h3 => hK _ _ (h v' w' h2 h3)

/-- The same where the operation is guarded, and the guard is met. -/
theorem wpList_append_readsG {ops : Array Oper} {rest : List Oper} {o : Oper} {a : Act} {Q : Exit → Act → World → Prop} (hw : Region.wanted o (yielded ops a.tmps) = true) (s x : Operand) (t : TypeId)
    (ho : o.op = .call { callee := .builtin .append, args := #[s, x], argTypes := #[t, t] })
    (base : Nat) (e : TypeId) (i : TypeInfo) (z : Value) (bytes : Nat) (ht : P.underlying t = some (.slice e)) (hi : P.info? e = some i) (hz : i.zero = some z)
    (hsize : i.size = 1) (hby : i.bytes = bytes) (hzs : z.cells.size = 1)
    (v : Value) (n : Nat) (xs : List Value) (hs : a.eval s = v) (hown : w.ownsRow base e 1 v n xs)
    (B : Nat) (A : Option Addr) (m c : Nat) (news : List Value) (hx : a.eval x = .slice A m c) (hr : Reads w B A m news) (h1 : ∀ u ∈ news, u.oneCell' = true)
    (h63 : n + m ≤ maxLen) (hbytes : (n + m) * bytes ≤ 140737488355328) (hbase : base ≤ w.heap.size)
    (h : ∀ v' w', w'.ownsRow base e 1 v' (n + m) (xs ++ news) → w.grownBy w' v.ownBlock → wpList P ops Q rest (a.put o.dst v') w') : wpList P ops Q (o :: rest) a w :=
  wpList_step fun K hK => by
    rw [if_pos hw]
    exact wp_append_reads w s x t ho base e i z bytes ht hi hz hsize hby hzs v n xs hs hown B A m c news hx hr h1 h63 hbytes hbase fun v' w' h2 h3 => hK _ _ (h v' w' h2 h3)
end

theorem bcs_one (l : List UInt8) : ∀ u ∈ bcs l, u.oneCell' = true := by
  intro u hu
  obtain ⟨b, _, rfl⟩ := List.mem_map.1 hu
  rfl
theorem strs_one (l : List (List UInt8)) : ∀ u ∈ l.map (fun s => Value.string (str s)), u.oneCell' = true := by
  intro u hu
  obtain ⟨b, _, rfl⟩ := List.mem_map.1 hu
  rfl
/-- The empty literal's row. -/
theorem own_empty (w : World) (base : Nat) (e : TypeId) (h : base ≤ w.heap.size) : (w.alloc (.cells #[] e)).ownsRow base e 1 (.slice (some ⟨w.heap.size, 0, none⟩) 0 0) 0 [] :=
  ⟨rfl, .inr ⟨w.heap.size, 0, #[], rfl, h, heap_alloc_new w _, Nat.le_refl _, Nat.zero_le _, rfl, rfl⟩⟩
end Go.Proofs.YtdfpifipkchmnaaDoor
/- Proved here, without conditions on the program: slices of slices of texts that read as lists; such rows of the call's own. -/
namespace Go.Proofs.YtdfpifipkchmnaaDoor
open Go.RowKit
set_option linter.unusedVariables false

/-- A slice's value by its parts. -/
abbrev Slc := Option Addr × Nat × Nat
def slcV (r : Slc) : Value := .slice r.1 r.2.1 r.2.2
theorem slcV_one (l : List Slc) : ∀ u ∈ l.map slcV, u.oneCell' = true := by
  intro u hu
  obtain ⟨r, _, rfl⟩ := List.mem_map.1 hu
  rfl
/-- A slice of texts that reads as ss, with its bounds. -/
def TxR (w : World) (B : Nat) (r : Slc) (ss : List (List UInt8)) : Prop := r.2.1 ≤ r.2.2 ∧ r.2.2 ≤ maxLen ∧ Strs w B r.1 r.2.1 ss
/-- A slice of slices of texts. -/
def RowsT (w : World) (B : Nat) (A : Option Addr) (n : Nat) (rows : List Slc) (sss : List (List (List UInt8))) : Prop :=
  Reads w B A n (rows.map slcV) ∧ rows.length = sss.length ∧ ∀ (k : Nat) (r : Slc) (ss : List (List UInt8)), rows[k]? = some r → sss[k]? = some ss → TxR w B r ss

section
variable {w w' : World} {B B' n : Nat} {A : Option Addr} {r : Slc} {rows : List Slc} {ss : List (List UInt8)} {sss : List (List (List UInt8))}
theorem Strs.keep (h : Strs w B A n ss) (hk : ∀ p : Addr, p.block < B → w'.cell? p = w.cell? p) : Strs w' B A n ss := Reads.keep h hk
theorem Strs.up (h : Strs w w.heap.size A n ss) (hb : Below w.heap.size w w') : Strs w' w'.heap.size A n ss := (Strs.below h hb).more hb.size
theorem Strs.nil (w : World) (B : Nat) (A : Option Addr) : Strs w B A 0 [] := ⟨rfl, fun h => absurd h (by omega)⟩
theorem TxR.keep (h : TxR w B r ss) (hk : ∀ p : Addr, p.block < B → w'.cell? p = w.cell? p) : TxR w' B r ss := ⟨h.1, h.2.1, Strs.keep h.2.2 hk⟩
theorem TxR.more (h : TxR w B r ss) (hB : B ≤ B') : TxR w B' r ss := ⟨h.1, h.2.1, h.2.2.more hB⟩
theorem TxR.below (h : TxR w B r ss) (hb : Below B w w') : TxR w' B r ss := h.keep fun _ hp => hb.cell hp
theorem TxR.up (h : TxR w w.heap.size r ss) (hb : Below w.heap.size w w') : TxR w' w'.heap.size r ss := (h.below hb).more hb.size
theorem TxR.nil (w : World) (B : Nat) : TxR w B (none, 0, 0) [] := ⟨Nat.le_refl _, Nat.zero_le _, Strs.nil _ _ _⟩
theorem RowsT.keep (h : RowsT w B A n rows sss) (hk : ∀ p : Addr, p.block < B → w'.cell? p = w.cell? p) : RowsT w' B A n rows sss := ⟨h.1.keep hk, h.2.1, fun k r ss a b => (h.2.2 k r ss a b).keep hk⟩
theorem RowsT.more (h : RowsT w B A n rows sss) (hB : B ≤ B') : RowsT w B' A n rows sss := ⟨h.1.more hB, h.2.1, fun k r ss a b => (h.2.2 k r ss a b).more hB⟩
theorem RowsT.below (h : RowsT w B A n rows sss) (hb : Below B w w') : RowsT w' B A n rows sss := h.keep fun _ hp => hb.cell hp
theorem RowsT.up (h : RowsT w w.heap.size A n rows sss) (hb : Below w.heap.size w w') : RowsT w' w'.heap.size A n rows sss := (h.below hb).more hb.size
theorem RowsT.drewN (h : RowsT w B A n rows sss) (q : Nat) : RowsT (w.drewN q) B A n rows sss := h.keep fun _ _ => rfl
theorem RowsT.drew (h : RowsT w B A n rows sss) : RowsT w.drew B A n rows sss := h.keep fun _ _ => rfl
theorem RowsT.len (h : RowsT w B A n rows sss) : sss.length = n := by have := h.1.1; have := h.2.1; simp at *; omega
theorem RowsT.rlen (h : RowsT w B A n rows sss) : rows.length = n := by have := h.1.1; simpa using this
theorem RowsT.nil (w : World) (B : Nat) (A : Option Addr) : RowsT w B A 0 [] [] := ⟨⟨rfl, fun h => absurd h (by omega)⟩, rfl, fun k r ss h => by simp at h⟩
theorem RowsT.at_ {k : Nat} (h : RowsT w B A n rows sss) (hk : k < n) :
    ∃ b o A' n' c' ss, A = some ⟨b, o, none⟩ ∧ b < B ∧ sss[k]? = some ss ∧ rows[k]? = some (A', n', c') ∧ w.cell? ⟨b, o + k, none⟩ = some (.slice A' n' c') ∧ n' ≤ c' ∧ c' ≤ maxLen ∧ Strs w B A' n' ss := by
  obtain ⟨b, o, u, e, hb, hu, hc⟩ := Reads.at_ h.1 hk
  rw [List.getElem?_map] at hu
  cases hr : rows[k]? with
  | none => rw [hr] at hu; cases hu
  | some r =>
    rw [hr] at hu
    have hlt : k < sss.length := by have := h.len; omega
    obtain ⟨h1, h2, h3⟩ := h.2.2 k r _ hr (List.getElem?_eq_getElem hlt)
    exact ⟨b, o, r.1, r.2.1, r.2.2, sss[k], e, hb, List.getElem?_eq_getElem hlt, rfl, by rw [hc]; simpa [slcV] using hu.symm, h1, h2, h3⟩
theorem RowsT.of2 (h : Rows2 w B A n rows sss) (hb : ∀ r ∈ rows, r.2.1 ≤ r.2.2 ∧ r.2.2 ≤ maxLen) : RowsT w B A n rows sss :=
  ⟨h.1, h.2.1, fun k r ss a b => ⟨(hb r (List.mem_of_getElem? a)).1, (hb r (List.mem_of_getElem? a)).2, h.2.2 k r ss a b⟩⟩
theorem RowsT.to2 (h : RowsT w B A n rows sss) : Rows2 w B A n rows sss := ⟨h.1, h.2.1, fun k r ss a b => (h.2.2 k r ss a b).2.2⟩
/-- Texts' lists aren't too long. -/
theorem RowsT.few (h : RowsT w B A n rows sss) : ∀ f ∈ sss, f.length ≤ maxLen := by
  intro f hf
  obtain ⟨k, hk⟩ := List.mem_iff_getElem?.1 hf
  have hkl := (List.getElem?_eq_some_iff.1 hk).1
  have hr : rows[k]? = some (rows[k]'(by have := h.2.1; omega)) := List.getElem?_eq_getElem _
  obtain ⟨h1, h2, h3⟩ := h.2.2 k _ f hr hk
  have := h3.len
  omega
end

/-- Rows of texts of the call's own, none of which lies in its own block. -/
structure RowsO (base : Nat) (wr : World) (v : Value) (rows : List Slc) (sss : List (List (List UInt8))) : Prop where
  own : wr.ownsRow base 22 1 v rows.length (rows.map slcV)
  len : rows.length = sss.length
  row : ∀ (k : Nat) (r : Slc) (ss : List (List UInt8)), rows[k]? = some r → sss[k]? = some ss → TxR wr wr.heap.size r ss ∧ (0 < r.2.1 → ∀ q o, r.1 = some ⟨q, o, none⟩ → v.ownBlock ≠ some q)

section
variable {base : Nat} {wr w1 w2 : World} {v v' : Value} {rows : List Slc} {sss : List (List (List UInt8))}
theorem RowsO.start (base : Nat) (w : World) : RowsO base w (.slice none 0 0) [] [] := ⟨World.ownsRow_nil _ _ _ _, rfl, fun k r ss h => by simp at h⟩
theorem RowsO.reads (h : RowsO base wr v rows sss) : ∃ A c, v = .slice A rows.length c ∧ rows.length ≤ c ∧ c ≤ maxLen ∧ RowsT wr wr.heap.size A rows.length rows sss := by
  obtain ⟨A, c, e, h1, h2, h3⟩ := own_slice h.own
  exact ⟨A, c, e, h1, h2, h3, h.len, fun k r ss a b => (h.row k r ss a b).1⟩
theorem RowsO.up (h : RowsO base wr v rows sss) (hb : Below wr.heap.size wr w1) : RowsO base w1 v rows sss :=
  ⟨ownsRow_kept h.own fun k e => hb.block k (h.own.lt k e).2, h.len, fun k r ss a b => ⟨(h.row k r ss a b).1.up hb, (h.row k r ss a b).2⟩⟩
/-- Kept by whatever leaves what lay there, but for another block of the call's own. -/
theorem RowsO.but {F : Nat → Prop} (h : RowsO base wr v rows sss) (hb : But F wr w1) (h1 : ∀ k, v.ownBlock = some k → ¬ F k) (h2 : ∀ (r : Slc), r ∈ rows → 0 < r.2.1 → ∀ q o, r.1 = some ⟨q, o, none⟩ → ¬ F q) : RowsO base w1 v rows sss := by
  refine ⟨ownsRow_kept h.own fun k e => hb.block k (h.own.lt k e).2 (h1 k e), h.len, fun k r ss a b => ?_⟩
  obtain ⟨⟨e1, e2, e3⟩, e4⟩ := h.row k r ss a b
  refine ⟨⟨e1, e2, e3.1, fun hn => ?_⟩, e4⟩
  obtain ⟨q, o, ha, hq, hc⟩ := e3.2 hn
  exact ⟨q, o, ha, by have := hb.size; omega, fun j u hu => (World.cell?_of_block (w := wr) (hb.block q hq (h2 r (List.mem_of_getElem? a) hn q o ha))).trans (hc j u hu)⟩
/-- One more row. -/
theorem RowsO.put {r : Slc} {ss : List (List UInt8)} {o : Obj} (h : RowsO base wr v rows sss) (hr : TxR wr wr.heap.size r ss) (hra : 0 < r.2.1 → ∀ q o, r.1 = some ⟨q, o, none⟩ → v.ownBlock ≠ some q)
    (hown : w2.ownsRow base 22 1 v' (rows.length + 1) (rows.map slcV ++ [slcV r])) (hg : (wr.alloc o).grownBy w2 v.ownBlock) (hloc : v'.ownBlock = v.ownBlock ∨ v'.ownBlock = some (wr.alloc o).heap.size) : RowsO base w2 v' (rows ++ [r]) (sss ++ [ss]) := by
  have hs : wr.heap.size + 1 ≤ w2.heap.size := by have := hg.size; simpa using this
  have keep : ∀ (r : Slc) (ss : List (List UInt8)), TxR wr wr.heap.size r ss → (0 < r.2.1 → ∀ q o, r.1 = some ⟨q, o, none⟩ → v.ownBlock ≠ some q) → TxR w2 w2.heap.size r ss ∧ (0 < r.2.1 → ∀ q o, r.1 = some ⟨q, o, none⟩ → v'.ownBlock ≠ some q) := by
    intro r ss h3 h4
    refine ⟨⟨h3.1, h3.2.1, h3.2.2.1, fun hn => ?_⟩, fun hn q o' e => ?_⟩
    · obtain ⟨b, o', ha, hb, hc⟩ := h3.2.2.2 hn
      have hne := h4 hn b o' ha
      refine ⟨b, o', ha, by omega, fun j u hu => ?_⟩
      rw [World.cell?_of_block (w := wr.alloc o) (hg.block b (by simp; omega) (fun e => hne e.symm)), World.cell?_of_block (w := wr) (Below.heap_alloc wr o b hb)]
      exact hc j u hu
    · have h5 := h4 hn q o' e
      obtain ⟨b, o2, ha, hb, _⟩ := h3.2.2.2 hn
      rw [e] at ha
      injection ha with ha
      injection ha with ha1 ha2
      rcases hloc with h | h
      · rw [h]; exact h5
      · rw [h]
        intro h7
        injection h7 with h7
        simp at h7
        omega
  refine ⟨by simpa using hown, by simp [h.len], fun k r' ss' h1 h2 => ?_⟩
  have hl := h.len
  rcases Nat.lt_or_ge k rows.length with hk | hk
  · rw [List.getElem?_append_left hk] at h1
    rw [List.getElem?_append_left (by omega)] at h2
    obtain ⟨e1, e2⟩ := h.row k r' ss' h1 h2
    exact keep r' ss' e1 e2
  · rw [List.getElem?_append_right hk] at h1
    rw [List.getElem?_append_right (by omega)] at h2
    have hk0 : k = rows.length := by
      have := (List.getElem?_eq_some_iff.1 h1).1
      simp at this
      omega
    subst hk0
    simp at h1
    simp [hl] at h2
    subst h1
    subst h2
    exact keep r ss hr hra
end

/-- Texts that the call has made, or was handed. -/
def TxsOut (w w' : World) (e : Ending) (ss : List (List UInt8)) : Prop := ∃ A n c, e = .returned (.slice A n c) ∧ TxR w' w'.heap.size (A, n, c) ss ∧ Below w.heap.size w w'
/-- Lists of texts that the call has made, or was handed. -/
def RowsOut (w w' : World) (e : Ending) (sss : List (List (List UInt8))) : Prop := ∃ A n c rows, e = .returned (.slice A n c) ∧ n ≤ c ∧ c ≤ maxLen ∧ RowsT w' w'.heap.size A n rows sss ∧ Below w.heap.size w w'
end Go.Proofs.YtdfpifipkchmnaaDoor

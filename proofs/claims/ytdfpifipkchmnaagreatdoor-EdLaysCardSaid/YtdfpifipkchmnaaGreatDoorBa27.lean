/- Proved here: texts joined: EdSt, EdRow. -/
import Derived.Test.YtdfpifipkchmnaaGreatDoorBa16
import Derived.Test.YtdfpifipkchmnaaGreatDoorBa26
import Derived.Deep.DeepCutAuto
import Derived.Test.YtdfpifipkchmnaaGreatDoorShelf
import Derived.Shelf.Spec.SlicesInsertGrow
/- Proved here: the landed editor's memory; how it gives up; whether texts are lines, none of them open. -/
namespace Go.Proofs.YtdfpifipkchmnaaGreatDoor
open Go.RowKit
set_option linter.unusedVariables false
set_option maxRecDepth 100000

/-- A line that is wrong, told by a panic. -/
def WR (line e : Int) : List PanicEntry := [{ v := .iface 41 (.agg #[.int .i64 line, .int .i64 e]), recovered := false }]
/-- Texts as cells. -/
def txC (l : Txs) : List Value := l.map fun s => .string (str s)
/-- The editor in block E. -/
structure EdI (B0 : Nat) (w : World) (E : Nat) (S : Slc) (fv : Value) (script : Txs) (rd : Int) (file : Txs) (wr ov : Bool) : Prop where
  box : w.heap[E]? = some (.cells #[.slice S.1 S.2.1 S.2.2, .int .i64 rd, fv, .bool wr, .bool ov] 43 (0, 0))
  own : w.ownsRow B0 9 1 fv file.length (txC file)
  scr : TxR w B0 S script
  low : B0 ≤ E

theorem cells5 {W : World} {L : Nat} {a b c d e : Value} {t : TypeId} (v' : Value) (h : W.heap[L]? = some (.cells #[a, b, c, d, e] t (0, 0))) :
    (W.setCell ⟨L, 1, none⟩ v').heap[L]? = some (.cells #[a, v', c, d, e] t (0, 0)) ∧ (W.setCell ⟨L, 2, none⟩ v').heap[L]? = some (.cells #[a, b, v', d, e] t (0, 0)) ∧ (W.setCell ⟨L, 3, none⟩ v').heap[L]? = some (.cells #[a, b, c, v', e] t (0, 0)) ∧ (W.setCell ⟨L, 4, none⟩ v').heap[L]? = some (.cells #[a, b, c, d, v'] t (0, 0)) := by
  obtain ⟨hlt, hk⟩ := Array.getElem?_eq_some_iff.1 h
  refine ⟨?_, ?_, ?_, ?_⟩
  all_goals
    show (W.heap.modify L _)[L]? = _
    rw [Array.getElem?_eq_getElem (by rw [Array.size_modify]; exact hlt), Array.getElem_modify_self, hk]
    rfl
section
variable {B0 E : Nat} {w w' : World} {S : Slc} {fv fv' : Value} {script file file' : Txs} {rd : Int} {wr ov : Bool}
theorem EdI.lt (h : EdI B0 w E S fv script rd file wr ov) : E < w.heap.size := (Array.getElem?_eq_some_iff.1 h.box).1
theorem EdI.cells (h : EdI B0 w E S fv script rd file wr ov) : w.cell? ⟨E, 0, none⟩ = some (.slice S.1 S.2.1 S.2.2) ∧ w.cell? ⟨E, 1, none⟩ = some (.int .i64 rd) ∧ w.cell? ⟨E, 2, none⟩ = some fv ∧ w.cell? ⟨E, 3, none⟩ = some (.bool wr) ∧ w.cell? ⟨E, 4, none⟩ = some (.bool ov) :=
  ⟨(cells_of h.box 0).trans rfl, (cells_of h.box 1).trans rfl, (cells_of h.box 2).trans rfl, (cells_of h.box 3).trans rfl, (cells_of h.box 4).trans rfl⟩
theorem EdI.free (h : EdI B0 w E S fv script rd file wr ov) (k : Nat) : w.frozen? ⟨E, k, none⟩ = false := unfrozen_of h.box k
theorem EdI.apart (h : EdI B0 w E S fv script rd file wr ov) : fv.ownBlock ≠ some E := cells_not_row h.box (by decide) h.own
/-- The blocks that the editor turns. -/
def EdF (E : Nat) (fv : Value) (k : Nat) : Prop := k = E ∨ fv.ownBlock = some k
theorem EdI.far (h : EdI B0 w E S fv script rd file wr ov) : ∀ k, EdF E fv k → B0 ≤ k ∧ k < w.heap.size := by
  rintro k (rfl | e)
  · exact ⟨h.low, h.lt⟩
  · exact h.own.lt k e
theorem EdI.but {F : Nat → Prop} (h : EdI B0 w E S fv script rd file wr ov) (hb : But F w w') (hF : ∀ k, F k → B0 ≤ k ∧ ¬ EdF E fv k) : EdI B0 w' E S fv script rd file wr ov :=
  ⟨(hb.block E h.lt fun k => (hF E k).2 (.inl rfl)).trans h.box, ownsRow_kept h.own fun k e => hb.block k (h.own.lt k e).2 fun hk => (hF k hk).2 (.inr e),
    h.scr.keep fun p hp => World.cell?_of_block (w := w) (hb.block p.block (by have := h.low; have := h.lt; omega) fun hk => by have := (hF _ hk).1; omega), h.low⟩
theorem EdI.up (h : EdI B0 w E S fv script rd file wr ov) (hb : Below w.heap.size w w') : EdI B0 w' E S fv script rd file wr ov :=
  h.but (F := fun _ => False) (.of_below hb fun k hk _ => hk) fun k hk => hk.elim
theorem EdI.below (h : EdI B0 w E S fv script rd file wr ov) (hb : But (EdF E fv) w w') : Below B0 w w' := hb.below (by have := h.low; have := h.lt; omega) fun k hk => (h.far k hk).1
theorem But.setB {F : Nat → Prop} {W : World} {L : Nat} (hF : F L) (k : Nat) (v : Value) : But F W (W.setCell ⟨L, k, none⟩ v) := But.setCell (F := F) W (p := ⟨L, k, none⟩) hF v
/-- Stores into the editor. -/
theorem EdI.setRd (h : EdI B0 w E S fv script rd file wr ov) (r : Int) : EdI B0 (w.setCell ⟨E, 1, none⟩ (.int .i64 r)) E S fv script r file wr ov :=
  ⟨(cells5 _ h.box).1, ownsRow_kept h.own fun k e => Below.heap_setCell _ _ _ _ (fun e2 => h.apart (by rw [e, e2])), h.scr.keep fun p hp => World.cell?_of_block (w := w) (Below.heap_setCell _ _ _ _ (fun e2 => by have := h.low; have : p.block = E := e2; omega)), h.low⟩
theorem EdI.setWr (h : EdI B0 w E S fv script rd file wr ov) (b : Bool) : EdI B0 (w.setCell ⟨E, 3, none⟩ (.bool b)) E S fv script rd file b ov :=
  ⟨(cells5 _ h.box).2.2.1, ownsRow_kept h.own fun k e => Below.heap_setCell _ _ _ _ (fun e2 => h.apart (by rw [e, e2])), h.scr.keep fun p hp => World.cell?_of_block (w := w) (Below.heap_setCell _ _ _ _ (fun e2 => by have := h.low; have : p.block = E := e2; omega)), h.low⟩
theorem EdI.setOv (h : EdI B0 w E S fv script rd file wr ov) (b : Bool) : EdI B0 (w.setCell ⟨E, 4, none⟩ (.bool b)) E S fv script rd file wr b :=
  ⟨(cells5 _ h.box).2.2.2, ownsRow_kept h.own fun k e => Below.heap_setCell _ _ _ _ (fun e2 => h.apart (by rw [e, e2])), h.scr.keep fun p hp => World.cell?_of_block (w := w) (Below.heap_setCell _ _ _ _ (fun e2 => by have := h.low; have : p.block = E := e2; omega)), h.low⟩
/-- Another file, laid in place of the file. -/
theorem EdI.setFile (h : EdI B0 w E S fv script rd file wr ov) (hb : But (fun k => fv.ownBlock = some k) w w') (hown : w'.ownsRow B0 9 1 fv' file'.length (txC file')) :
    EdI B0 (w'.setCell ⟨E, 2, none⟩ fv') E S fv' script rd file' wr ov := by
  have hbx : w'.heap[E]? = some (.cells #[.slice S.1 S.2.1 S.2.2, .int .i64 rd, fv, .bool wr, .bool ov] 43 (0, 0)) := (hb.block E h.lt fun k => h.apart k).trans h.box
  have hap : fv'.ownBlock ≠ some E := cells_not_row hbx (by decide) hown
  refine ⟨(cells5 _ hbx).2.1, ownsRow_kept hown fun k e => Below.heap_setCell _ _ _ _ (fun e2 => hap (by rw [e, e2])), h.scr.keep fun p hp => World.cell?_of_block (w := w) ?_, h.low⟩
  have hl := h.low
  have hlt := h.lt
  exact (Below.heap_setCell _ _ _ _ (fun e2 => by have : p.block = E := e2; omega)).trans (hb.block p.block (by omega) fun e => by have := (h.own.lt _ e).1; omega)
end

theorem must_ok (E : Nat) (e : Int) (w : World) : Calls Tryz.prog 36 #[.pointer (some ⟨E, 0, none⟩), .bool true, .int .i64 e] w fun x w' => x = .returned (.tuple #[]) ∧ w' = w := by
  go_enter Tryz.func36, Tryz.ntmps36
  go_wp2
  go_end0
  exact ⟨rfl, rfl⟩
theorem must_bad (E : Nat) (e rd : Int) (w : World) (h : w.cell? ⟨E, 1, none⟩ = some (.int .i64 rd)) : Calls Tryz.prog 36 #[.pointer (some ⟨E, 0, none⟩), .bool false, .int .i64 e] w fun x w' => x = .panicked (WR rd e) ∧ w' = w := by
  go_enter Tryz.func36, Tryz.ntmps36
  go_wp2
  exact ⟨rfl, rfl, rfl⟩

set_option maxHeartbeats 1000000 in
theorem edEnded_any (A : Option Addr) (n c : Nat) (l : Txs) (w : World) (hn : n ≤ maxLen) (hs : ∀ s ∈ l, s.length ≤ maxLen) (hA : TxR w w.heap.size (A, n, c) l) :
    Calls Tryz.prog 19 #[.slice A n c] w fun e w' => e = .returned (.bool (mayB l && !openB l)) ∧ w' = w := by
  have h1 := Lib.hid (lMay_any A n c w.heap.size l w hn hs hA.2.2)
  have h2 := Lib.hid (Open_any A n c w.heap.size l w hn hs hA.2.2)
  obtain ⟨a, ha⟩ : ∃ a, mayB l = a := ⟨_, rfl⟩
  obtain ⟨b, hb⟩ : ∃ b, openB l = b := ⟨_, rfl⟩
  rw [ha] at h1 ⊢
  rw [hb] at h2 ⊢
  clear hA hs ha hb
  cases a
  · go_enter Tryz.func19, Tryz.ntmps19
    go_wp2_with (first
      | (go_at_call 32; refine h1.out.mono ?_; rintro e w' ⟨rfl, rfl⟩)
      | (go_at_call 33; refine h2.out.mono ?_; rintro e w' ⟨rfl, rfl⟩))
    go_ret
    exact ⟨rfl, rfl⟩
  · go_enter Tryz.func19, Tryz.ntmps19
    go_wp2_with (first
      | (go_at_call 32; refine h1.out.mono ?_; rintro e w' ⟨rfl, rfl⟩)
      | (go_at_call 33; refine h2.out.mono ?_; rintro e w' ⟨rfl, rfl⟩))
    go_ret
    exact ⟨by simp, rfl⟩
end Go.Proofs.YtdfpifipkchmnaaGreatDoor
/- Proved here, without conditions: cells set in a row of texts of the call's own; what slices.Insert makes of it. -/
namespace Go.Proofs.YtdfpifipkchmnaaGreatDoor
open Go.RowKit
set_option linter.unusedVariables false
set_option maxRecDepth 100000

/-- Cells set in a list. -/
def setL (L : List Value) (o : Nat) (vs : List Value) : List Value := L.take o ++ vs ++ L.drop (o + vs.length)
theorem setL_len {L : List Value} {o : Nat} {vs : List Value} (h : o + vs.length ≤ L.length) : (setL L o vs).length = L.length := by
  unfold setL
  simp only [List.length_append, List.length_take, List.length_drop]
  omega
theorem rset {V : World} {L : Nat} {C : Array Value} {t : TypeId} (j : Nat) (x : Value) (h : V.heap[L]? = some (.cells C t (0, 0))) : (V.setCell ⟨L, j, none⟩ x).heap[L]? = some (.cells (C.setIfInBounds j x) t (0, 0)) := by
  obtain ⟨hlt, hk⟩ := Array.getElem?_eq_some_iff.1 h
  show (V.heap.modify L _)[L]? = _
  rw [Array.getElem?_eq_getElem (by rw [Array.size_modify]; exact hlt), Array.getElem_modify_self, hk]
  rfl
theorem setCells_block : ∀ (vs : List Value) {w : World} {g o : Nat} {L : List Value} {t : TypeId}, w.heap[g]? = some (.cells L.toArray t (0, 0)) → o + vs.length ≤ L.length → (w.setCells g o vs).heap[g]? = some (.cells (setL L o vs).toArray t (0, 0))
  | [], w, g, o, L, t, h, ho => by
    rw [World.setCells, h]
    unfold setL
    rw [List.append_nil, List.length_nil, Nat.add_zero, List.take_append_drop]
  | v :: r, w, g, o, L, t, h, ho => by
    rw [List.length_cons] at ho
    have h1 := rset (V := w) o v h
    rw [show (L.toArray.setIfInBounds o v) = (L.set o v).toArray by simp] at h1
    have h2 := setCells_block r (o := o + 1) h1 (by rw [List.length_set]; omega)
    rw [World.setCells, h2]
    congr 3
    unfold setL
    rw [List.length_cons, show o + 1 + r.length = o + (r.length + 1) by omega]
    rw [List.drop_set_of_lt (by omega)]
    rw [List.take_set, List.take_succ_eq_append_getElem (by omega), List.set_append_right _ _ (by rw [List.length_take]; omega)]
    rw [List.length_take, Nat.min_eq_left (by omega), Nat.sub_self]
    simp
theorem setCells_but (vs : List Value) : ∀ {w : World} {g o : Nat}, But (fun k => k = g) w (w.setCells g o vs) := by
  induction vs with
  | nil => intro w g o; exact But.refl _ _
  | cons v r ih => intro w g o; exact (But.setCell (F := fun k => k = g) w (p := ⟨g, o, none⟩) rfl v).trans ih fun k e => .inl e
theorem txC_one (l : Txs) : ∀ v ∈ txC l, v.oneCell' = true := strs_one l
theorem txC_len (l : Txs) : (txC l).length = l.length := by simp [txC]
theorem txC_app (a b : Txs) : txC (a ++ b) = txC a ++ txC b := by simp [txC]
theorem txC_take (a : Txs) (k : Nat) : txC (a.take k) = (txC a).take k := by simp [txC, List.map_take]
theorem txC_drop (a : Txs) (k : Nat) : txC (a.drop k) = (txC a).drop k := by simp [txC, List.map_drop]
theorem zero_str (k : Nat) : Builtin.zeroCells (Value.string ⟨#[]⟩).cells k = (List.replicate k (Value.string ⟨#[]⟩)).toArray := by
  apply Array.ext
  · simp [Builtin.zeroCells, Value.cells]
  · intro i h1 h2
    simp [Builtin.zeroCells, Value.cells, Nat.mod_one]
/-- A row of texts in a block. -/
structure RowB (w : World) (g n c : Nat) (L : List Value) (xs : Txs) : Prop where
  blk : w.heap[g]? = some (.cells L.toArray 9 (0, 0))
  len : L.length = c
  le : n ≤ c
  max : c ≤ maxLen
  pre : L.take n = txC xs
  num : xs.length = n
theorem rowB_of {w : World} {base : Nat} {v : Value} {xs : Txs} (h : w.ownsRow base 9 1 v xs.length (txC xs)) : (v = .slice none 0 0 ∧ xs = []) ∨ ∃ g c L, v = .slice (some ⟨g, 0, none⟩) xs.length c ∧ base ≤ g ∧ RowB w g xs.length c L xs := by
  rcases h.2 with ⟨hv, h0⟩ | ⟨g, cap, cur, hv, hb, hg, hnc, hcm, hcs, htk⟩
  · exact .inl ⟨hv, List.eq_nil_of_length_eq_zero h0⟩
  · refine .inr ⟨g, cap, cur.toList, hv, hb, ⟨by simpa using hg, by simpa using hcs, hnc, hcm, by simpa using htk, rfl⟩⟩
section
variable {w w' : World} {g n c base : Nat} {L : List Value} {xs ys : Txs}
theorem RowB.own (h : RowB w g n c L xs) (hb : base ≤ g) : w.ownsRow base 9 1 (.slice (some ⟨g, 0, none⟩) n c) xs.length (txC xs) := by
  refine ⟨by rw [txC_len]; omega, .inr ⟨g, c, L.toArray, by rw [h.num], hb, h.blk, by rw [h.num]; exact h.le, h.max, by simpa using h.len, by simpa [h.num] using h.pre⟩⟩
theorem RowB.lt (h : RowB w g n c L xs) : g < w.heap.size := (Array.getElem?_eq_some_iff.1 h.blk).1
theorem RowB.cell (h : RowB w g n c L xs) (k : Nat) : w.cell? ⟨g, k, none⟩ = L[k]? := by rw [cells_of h.blk]; simp
theorem RowB.cells (h : RowB w g n c L xs) : ∀ j v, (txC xs)[j]? = some v → w.cell? ⟨g, 0 + j, none⟩ = some v := fun j v hj => by
  rw [Nat.zero_add, h.cell, ← hj, ← h.pre, List.getElem?_take]
  have := (List.getElem?_eq_some_iff.1 hj).1
  rw [txC_len] at this
  rw [if_pos (by have := h.num; omega)]
theorem RowB.some_ (h : RowB w g n c L xs) {k : Nat} (hk : k < c) : (w.cell? ⟨g, k, none⟩).isSome = true := by
  rw [h.cell, List.getElem?_eq_getElem (by have := h.len; omega)]
  rfl
theorem RowB.free (h : RowB w g n c L xs) (k : Nat) : w.frozen? ⟨g, k, none⟩ = false := unfrozen_of h.blk k
theorem RowB.shape (h : RowB w g n c L xs) : w.shape? g = some (9, c) := by
  have hl := h.len
  simp [World.shape?, h.blk, hl]
end
end Go.Proofs.YtdfpifipkchmnaaGreatDoor

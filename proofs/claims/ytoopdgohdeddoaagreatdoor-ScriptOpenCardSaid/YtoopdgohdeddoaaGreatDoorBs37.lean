/- Proved here: texts joined: MgLn, ConMgC, Tab, Table, Add, AddN. -/
import Derived.Test.YtoopdgohdeddoaaGreatDoorBs01
import Derived.Test.YtoopdgohdeddoaaGreatDoorBs02
import Derived.Test.YtoopdgohdeddoaaGreatDoorBs04
import Derived.Test.YtoopdgohdeddoaaGreatDoorBs19
import Derived.Test.YtoopdgohdeddoaaGreatDoorBs36
import Derived.Test.YtoopdgohdeddoaaGreatDoorChecked
import Derived.Maps.OwnSet
import Derived.Maps.AppendAt
import Derived.Laws.LoneSync
import Derived.Lib.Hide
import Derived.WalkLawsBesides
import Derived.OwnWalk
import Derived.IntWalk
import Derived.Outline
/- Proved here: the contract of the landed merge.areLines: whether all files may be lines. -/
namespace Go.Proofs.YtoopdgohdeddoaaGreatDoor
open Go.RowKit
set_option linter.unusedVariables false
set_option maxRecDepth 100000

theorem notMay_any (A : Option Addr) (n c B : Nat) (ss : Txs) (w : World) (hn : n ≤ maxLen) (hs : ∀ s ∈ ss, s.length ≤ maxLen) (hA : Strs w B A n ss) :
    Calls Tryz.prog 57 #[.slice A n c] w fun e w' => e = .returned (.bool (!mayB ss)) ∧ w = w' := by
  have hM := Lib.hid (lMay_any A n c B ss w hn hs hA)
  obtain ⟨r, hr⟩ : ∃ r, mayB ss = r := ⟨_, rfl⟩
  rw [hr] at hM ⊢
  clear hA hr
  go_enter Tryz.func57, Tryz.ntmps57
  go_wp2_with (go_at_call 58; refine hM.out.mono ?_; rintro e w1 ⟨rfl, rfl⟩)
  go_ret
  exact ⟨rfl, rfl⟩

/-- Where a file stands that may not be lines; below 0, if none does. -/
def BadOut (w w' : World) (e : Ending) (files : List Txs) : Prop := ∃ z, e = .returned (.int .i64 z) ∧ decide (0 ≤ z) = !files.all mayB ∧ w = w'
theorem bad_at {w : World} {files : List Txs} {k : Nat} {f : Txs} (h : files[k]? = some f) (hf : mayB f = false) : BadOut w w (.returned (.int .i64 k)) files := by
  refine ⟨k, rfl, ?_, rfl⟩
  have : files.all mayB = false := by
    rw [List.all_eq_false]
    exact ⟨f, List.mem_of_getElem? h, by rw [hf]; simp⟩
  rw [this]
  simp
theorem bad_no {w : World} {files : List Txs} (h : files.all mayB = true) : BadOut w w (.returned (.int .i64 (-1))) files := by
  refine ⟨-1, rfl, ?_, rfl⟩
  rw [h]
  simp

set_option maxHeartbeats 1000000 in
theorem badIdx_any (A : Option Addr) (n c : Nat) (rows : List Slc) (files : List Txs) (w : World) (hn : n ≤ maxLen) (hA : RowsT w w.heap.size A n rows files) (hs : ∀ f ∈ files, ∀ s ∈ f, s.length ≤ maxLen) :
    Calls Tryz.prog 74 #[.slice A n c, .func (.func 57) #[] #[]] w fun e w' => BadOut w w' e files := by
  have hl := hA.len
  have hAh := Lib.hid hA
  have hlh := Lib.hid hl
  have hsh := Lib.hid hs
  unfold maxLen at hn
  clear hA hl hs
  go_enter Tryz.func74, Tryz.ntmps74
  go_wp2
  go_loop [5, 8] (fun _ i => ∃ k : Nat, k ≤ n ∧ i = .int .i64 k ∧ Hid ((files.take k).all mayB = true)) (fun _ i => n - (intOf i).toNat)
  case atStart => exact ⟨0, Nat.zero_le _, rfl, Lib.hid (by simp)⟩
  case round =>
    obtain ⟨k, hk, rfl, hno⟩ := hrel
    by_cases hlt : k < n
    · obtain ⟨b, o, A1, n1, c1, ss, rfl, hb, hss, -, hc, hnc, hcm, hS⟩ := hAh.out.at_ (k := k) hlt
      have hi1 : (0 : Int) ≤ (k : Int) := by omega
      have hi2 : (k : Int) < (n : Int) := by omega
      have hC := Lib.hid (notMay_any A1 n1 c1 w.heap.size ss w (by omega) (hsh.out ss (List.mem_of_getElem? hss)) hS)
      have hssh := Lib.hid hss
      clear hS hss
      obtain ⟨r, hr⟩ : ∃ r, mayB ss = r := ⟨_, rfl⟩
      have hrh := Lib.hid hr
      rw [hr] at hC
      clear hr
      cases r
      · have hfin := Lib.hid (bad_at (w := w) hssh.out hrh.out)
        go_wp2_with (go_at_call 57; refine hC.out.mono ?_; rintro e w1 ⟨rfl, rfl⟩)
        go_ret
        exact hfin.out
      · have hno2 : (files.take (k + 1)).all mayB = true := by
          rw [take_at hssh.out, List.all_append, hno.out]
          simp [hrh.out]
        have hno3 := Lib.hid hno2
        clear hno2
        go_wp2_with (go_at_call 57; refine hC.out.mono ?_; rintro e w1 ⟨rfl, rfl⟩)
        go_round
        case rel => exact ⟨k + 1, by omega, by go_num, hno3⟩
        case measure => simp [intOf]; omega
    · obtain rfl : k = n := by omega
      have hfin := Lib.hid (bad_no (w := w) (files := files) (by have := hno.out; rwa [List.take_of_length_le (by rw [hlh.out]; exact Nat.le_refl _)] at this))
      go_wp2
      go_ret
      exact hfin.out

theorem badHas_any (A : Option Addr) (n c : Nat) (rows : List Slc) (files : List Txs) (w : World) (hn : n ≤ maxLen) (hA : RowsT w w.heap.size A n rows files) (hs : ∀ f ∈ files, ∀ s ∈ f, s.length ≤ maxLen) :
    Calls Tryz.prog 40 #[.slice A n c, .func (.func 57) #[] #[]] w fun e w' => e = .returned (.bool (!files.all mayB)) ∧ w = w' := by
  have hI := Lib.hid (badIdx_any A n c rows files w hn hA hs)
  obtain ⟨r, hr⟩ : ∃ r, (!files.all mayB) = r := ⟨_, rfl⟩
  rw [hr]
  have hrh := Lib.hid hr
  clear hA hs hr
  go_enter Tryz.func40, Tryz.ntmps40
  go_wp2_with (go_at_call 74; refine hI.out.mono ?_; rintro e w1 ⟨z, rfl, hz, rfl⟩; rw [hrh.out] at hz; have hzh := Lib.hid hz; clear hz)
  go_ret
  exact ⟨ret_bool (by rw [← hzh.out]), rfl⟩

/-- Whether all files may be lines. -/
theorem areLines_any (A : Option Addr) (n c : Nat) (rows : List Slc) (files : List Txs) (w : World) (hn : n ≤ maxLen) (hA : RowsT w w.heap.size A n rows files) (hs : ∀ f ∈ files, ∀ s ∈ f, s.length ≤ maxLen) :
    Calls Tryz.prog 35 #[.slice A n c] w fun e w' => e = .returned (.bool (files.all mayB)) ∧ w = w' := by
  have hI := Lib.hid (badHas_any A n c rows files w hn hA hs)
  obtain ⟨r, hr⟩ : ∃ r, files.all mayB = r := ⟨_, rfl⟩
  rw [hr] at hI ⊢
  clear hA hs hr
  go_enter Tryz.func35, Tryz.ntmps35
  go_wp2_with (go_at_call 40; refine hI.out.mono ?_; rintro e w1 ⟨rfl, rfl⟩)
  go_ret
  exact ⟨ret_bool (by simp), rfl⟩
end Go.Proofs.YtoopdgohdeddoaaGreatDoor
/- What the statements ask of merge.Chunks. -/
namespace Go.Proofs.YtoopdgohdeddoaaGreatDoor
open Go.RowKit
set_option linter.unusedVariables false

/-- The contract of merge.Chunks. -/
def MergeChunksOk : Prop := ∀ (A0 : Option Addr) (n0 c0 : Nat) (base : Txs) (A : Option Addr) (n c : Nat) (rows : List Slc) (sides : List Txs) (w : World), n ≤ c → c ≤ maxLen → smallM base sides → TxR w w.heap.size (A0, n0, c0) base → RowsT w w.heap.size A n rows sides →
    Calls Tryz.prog 19 #[.slice A0 n0 c0, .slice A n c] w fun e w' => ChunksOut w w' e base sides
end Go.Proofs.YtoopdgohdeddoaaGreatDoor
/- Proved here, without conditions: when blocks of a world are a table of texts, and what keeps them so. -/
namespace Go.Proofs.YtoopdgohdeddoaaGreatDoor
open Go.RowKit Go.Maps Go.WideMaps
set_option linter.unusedVariables false

/-- What a text reads as, as a key. -/
def keyL (s : List UInt8) : Lit := .string s
/-- A number as a datum. -/
def numD (i : Nat) : DataW Unit := .lit (.int .i64 i)

theorem law9 : Keyed Tryz.prog 9 := string_keyed Tryz.underlying9
theorem zero3 (w : World) : (zeroValue 3).run Tryz.prog w = .ok (.int .i64 0) w := by kernel_rfl
theorem key_of {s : List UInt8} (h : s.length ≤ maxLen) : keyOf Tryz.prog 9 (.string (str s)) = some (keyL s) := by
  have := keyOf_string_mk (P := Tryz.prog) (k := 9) Tryz.underlying9 (s := str s) (by rw [str_size]; exact h)
  rwa [str_data] at this
theorem keyL_key (s : List UInt8) : WideAt.IsKeyLit (keyL s) := by unfold keyL; trivial
theorem keyL_inj {s t : List UInt8} (h : keyL s = keyL t) : s = t := by injection h

/-- The datum D tells each text of ts its number, and knows no other text. -/
def Tells (D : DataW Unit) (ts : List (List UInt8)) : Prop :=
  IsMap D ∧ (∀ s, Maps.has D (keyL s) = ts.contains s) ∧ ∀ i s, ts[i]? = some s → ∀ z, D.atKey (keyL s) z = numD i
theorem tells_nil : Tells (.map []) [] := ⟨isMap_empty, fun _ => rfl, fun _ _ h => by simp at h⟩
theorem Tells.put {D : DataW Unit} {ts : List (List UInt8)} {s : List UInt8} (h : Tells D ts) (hs : s ∉ ts) : Tells (D.put (keyL s) (numD ts.length)) (ts ++ [s]) := by
  refine ⟨h.1.put _ _, fun t => ?_, fun i t ht z => ?_⟩
  · by_cases e : t = s
    · subst e
      rw [has_put_same h.1 (keyL_key _)]
      simp
    · rw [has_put_other (fun e' => e (keyL_inj e')), h.2.1]
      simp [e]
  · rcases Nat.lt_or_ge i ts.length with hi | hi
    · rw [List.getElem?_append_left hi] at ht
      have hm : t ∈ ts := List.mem_of_getElem? ht
      rw [atKey_put_other (fun e => hs (by rw [← keyL_inj e]; exact hm))]
      exact h.2.2 i t ht z
    · rw [List.getElem?_append_right hi] at ht
      have h0 : i = ts.length := by
        rcases Nat.eq_zero_or_pos (i - ts.length) with h0 | h0
        · omega
        · rw [List.getElem?_eq_none (by simp; omega)] at ht; cases ht
      subst h0
      simp at ht
      subst ht
      rw [atKey_put_same h.1 (keyL_key _)]

/-- The map in a table's first field. -/
def MapIs (w : World) (F : Nat → Prop) (m : Value) (ts : List (List UInt8)) : Prop :=
  (m = .map none ∧ ts = []) ∨ ∃ bm D, m = .map (some bm) ∧ F bm ∧ w.ownsMap Tryz.prog 9 (plainElem Tryz.prog 3) bm ts.length D ∧ Tells D ts

/-- Block T is a table of the texts ts, of which the blocks of F are part. -/
structure Tab (w : World) (T : Nat) (F : Nat → Prop) (ts : List (List UInt8)) : Prop where
  nodup : ts.Nodup
  few : ts.length ≤ 1000000
  texts : ∀ s ∈ ts, s.length ≤ maxLen
  head : F T
  lies : ∀ k, F k → T ≤ k ∧ k < w.heap.size
  rest : ∃ m v, w.heap[T]? = some (.cells #[m, v, .int .i64 ts.length] 140 (0, 0)) ∧ w.ownsRow (T + 1) 9 1 v ts.length (ts.map fun s => .string (str s)) ∧ (∀ k, v.ownBlock = some k → F k) ∧ MapIs w F m ts

section
variable {F F' : Nat → Prop} {w w' : World} {T : Nat} {ts : List (List UInt8)}
theorem MapIs.kept {m : Value} (h : MapIs w F m ts) (hk : ∀ k, F k → k < w.heap.size → w'.heap[k]? = w.heap[k]?) : MapIs w' F m ts := by
  rcases h with h | ⟨bm, D, hm, hF, ⟨es, clock, hb, r⟩, hD⟩
  · exact .inl h
  · exact .inr ⟨bm, D, hm, hF, ⟨es, clock, (hk bm hF (Array.getElem?_eq_some_iff.1 hb).1).trans hb, r⟩, hD⟩
/-- A table stays what it is while none of its blocks turns. -/
theorem Tab.kept (h : Tab w T F ts) (hs : w.heap.size ≤ w'.heap.size) (hk : ∀ k, F k → k < w.heap.size → w'.heap[k]? = w.heap[k]?) : Tab w' T F ts := by
  obtain ⟨m, v, h1, h2, h3, h4⟩ := h.rest
  have hl := h.lies
  refine ⟨h.nodup, h.few, h.texts, h.head, fun k hf => ⟨(hl k hf).1, by have := (hl k hf).2; omega⟩, m, v, ?_, ?_, h3, h4.kept hk⟩
  · rw [hk T h.head (hl T h.head).2]; exact h1
  · exact ownsRow_kept h2 fun k e => hk k (h3 k e) (hl k (h3 k e)).2
theorem Tab.but {G : Nat → Prop} (h : Tab w T F ts) (hb : But G w w') (hG : ∀ k, F k → ¬ G k) : Tab w' T F ts := h.kept hb.size fun k hf hk => hb.block k hk (hG k hf)
theorem Tab.below {B : Nat} (h : Tab w T F ts) (hb : Below B w w') (hB : w.heap.size ≤ B) : Tab w' T F ts := h.kept hb.size fun k _ hk => hb.block k (by omega)
theorem Tab.drew (h : Tab w T F ts) : Tab w.drew T F ts := h.kept (Nat.le_refl _) fun _ _ _ => rfl
theorem Tab.drewN (h : Tab w T F ts) (n : Nat) : Tab (w.drewN n) T F ts := h.kept (Nat.le_refl _) fun _ _ _ => rfl
end
end Go.Proofs.YtoopdgohdeddoaaGreatDoor
/- Proved here: contracts of package intern: New, Len, atomic Add. -/
namespace Go.Proofs.YtoopdgohdeddoaaGreatDoor
open Go.RowKit Go.Maps Go.WideMaps
set_option linter.unusedVariables false

theorem New_any (w : World) :
    Calls Tryz.prog 60 #[] w fun e w' => e = .returned (.pointer (some ⟨w.heap.size, 0, none⟩)) ∧ Tab w' w.heap.size (· = w.heap.size) [] ∧ Below w.heap.size w w' ∧ w'.heap.size = w.heap.size + 1 := by
  go_enter Tryz.func60, Tryz.ntmps60
  go_wp2
  go_ret
  refine ⟨rfl, ⟨List.nodup_nil, by simp, by simp, rfl, fun k hk => ?_, .map none, .slice none 0 0, heap_alloc_new _ _, World.ownsRow_nil _ _ _ _, fun k e => ?_, .inl ⟨rfl, rfl⟩⟩, (Below.refl _ _).alloc (Nat.le_refl _) _, by simp⟩
  · subst hk; simp
  · simp [Value.ownBlock] at e

theorem Add_any (a : Addr) (x y : Int) (w : World) (hc : w.cell? a = some (.int .i64 x)) (hz : w.frozen? a = false) (hx : 0 ≤ x) (hy : 0 ≤ y) (hx1 : x ≤ 1000000000) (hy1 : y ≤ 1000000000) :
    Calls Tryz.prog 121 #[.pointer (some a), .int .i64 y] w fun e w' => e = .returned (.int .i64 (x + y)) ∧ w' = w.setCell a (.int .i64 (x + y)) := by
  obtain ⟨b, o, sp⟩ := a
  have hsp : sp = none := by simpa using World.cell?_spot hc
  subst hsp
  have ha := run_call_add (P := Tryz.prog) Tryz.func129 (by kernel_rfl) (by kernel_rfl) (by kernel_rfl) .i64 (by kernel_rfl) hc hz (y := y) (s := x + y) (by
    rw [show (x + y) = IntKind.i64.wrap (x + y) from (IntWalk.i64_in _ (by omega)).symm]; simp [go_sem])
  go_enter Tryz.func121, Tryz.ntmps121
  go_wp2
  go_ret
  exact ⟨rfl, rfl⟩
end Go.Proofs.YtoopdgohdeddoaaGreatDoor
/- Proved here: contracts of package intern: add, Id. -/
namespace Go.Proofs.YtoopdgohdeddoaaGreatDoor
open Go.RowKit Go.Maps Go.WideMaps
set_option linter.unusedVariables false

/-- Behind a step that touches blocks of F alone, block T is a table of the texts ts. -/
def After (w w' : World) (T : Nat) (F : Nat → Prop) (ts : List (List UInt8)) : Prop := ∃ F', Tab w' T F' ts ∧ But F w w' ∧ ∀ k, F' k → F k ∨ w.heap.size ≤ k

theorem cellsT {w : World} {T j : Nat} {C : Array Value} {t : TypeId} (x : Value) (h : w.heap[T]? = some (.cells C t (0, 0))) : (w.setCell ⟨T, j, none⟩ x).heap[T]? = some (.cells (C.setIfInBounds j x) t (0, 0)) :=
  heap_setCell_same w T j C t x h

/-- What add has done, in the end. -/
theorem add_end {F : Nat → Prop} {T : Nat} {ts : List (List UInt8)} {s : List UInt8} {w w0 w1 w2 : World} (h : Tab w T F ts) (hs : s ∉ ts) (hl : s.length ≤ maxLen) (hn : ts.length < 1000000)
    {bm : Nat} {D : DataW Unit} {v v' : Value} (hbw : But (fun k => F k ∨ k = bm) w w0) (hbF : F bm ∨ w.heap.size ≤ bm) (hbT : bm ≠ T)
    (hb0 : w0.heap[T]? = some (.cells #[.map (some bm), v, .int .i64 ((ts.length : Int) + 1)] 140 (0, 0))) (hlt0 : T < w0.heap.size)
    (hvF : ∀ k, v.ownBlock = some k → F k ∧ k ≠ T ∧ k ≠ bm)
    (hown1 : w1.ownsMap Tryz.prog 9 (plainElem Tryz.prog 3) bm (ts.length + 1) (D.put (keyL s) (numD ts.length))) (hg1 : w0.grownBy w1 (some bm)) (hD : Tells D ts)
    (hown2 : w2.ownsRow (T + 1) 9 1 v' (ts.length + 1) ((ts.map fun s => .string (str s)) ++ [.string (str s)])) (o : Obj) (hg2 : (w1.alloc o).grownBy w2 v.ownBlock)
    (hloc : v'.ownBlock = v.ownBlock ∨ v'.ownBlock = some (w1.alloc o).heap.size) : After w (w2.setCell ⟨T, 1, none⟩ v') T F (ts ++ [s]) := by
  have hT1 : w1.heap[T]? = some (.cells #[.map (some bm), v, .int .i64 ((ts.length : Int) + 1)] 140 (0, 0)) := (hg1.block T hlt0 (fun e => hbT (by injection e with e; exact e.symm))).trans hb0
  have hlt1 : T < w1.heap.size := Nat.lt_of_lt_of_le hlt0 hg1.size
  have hT2 : w2.heap[T]? = some (.cells #[.map (some bm), v, .int .i64 ((ts.length : Int) + 1)] 140 (0, 0)) := by
    rw [hg2.block T (by simp; omega) (fun e => (hvF T e.symm).2.1 rfl), Below.heap_alloc _ _ _ hlt1]; exact hT1
  have hbm1 : bm < w1.heap.size := hown1.lt
  have hs2 : w1.heap.size + 1 ≤ w2.heap.size := by have := hg2.size; simpa using this
  have hown2' : w2.ownsMap Tryz.prog 9 (plainElem Tryz.prog 3) bm (ts.length + 1) (D.put (keyL s) (numD ts.length)) :=
    (hown1.alloc o).kept hg2 (fun e => (hvF bm e.symm).2.2 rfl)
  have hown3 : (w2.setCell ⟨T, 1, none⟩ v').ownsMap Tryz.prog 9 (plainElem Tryz.prog 3) bm (ts.length + 1) (D.put (keyL s) (numD ts.length)) := hown2'.setCell hbT _
  have hll := hown2.lt
  have hb01 : But (fun k => F k ∨ k = bm) w w1 := hbw.trans (.of_grown hg1 (F := fun k => k = bm) (by rintro k ⟨⟩; rfl)) (fun k hk => .inl (.inr hk))
  have hb02 : But (fun k => F k ∨ k = bm) w w2 := (hb01.trans (F' := F) (.alloc _ o) (fun k hk => .inl (.inl hk))).trans (.of_grown hg2 (F := F) (fun k hk => (hvF k hk).1)) (fun k hk => .inl (.inl hk))
  have hb03 : But (fun k => F k ∨ k = bm) w (w2.setCell ⟨T, 1, none⟩ v') := hb02.trans (.setCell w2 (F := F) (p := ⟨T, 1, none⟩) h.head v') (fun k hk => .inl (.inl hk))
  have hsz : (w2.setCell ⟨T, 1, none⟩ v').heap.size = w2.heap.size := by simp [World.setCell]
  have hsw : w.heap.size ≤ w2.heap.size := hb02.size
  refine ⟨fun k => (F k ∨ k = bm) ∨ v'.ownBlock = some k, ⟨?_, ?_, ?_, .inl (.inl h.head), fun k hk => ?_, .map (some bm), v', ?_, ?_, fun k hk => .inr hk, .inr ⟨bm, _, rfl, .inl (.inr rfl), ?_, hD.put hs⟩⟩, ?_, fun k hk => ?_⟩
  · rw [List.nodup_append]
    exact ⟨h.nodup, by simp, fun a ha b hb e => by simp at hb; subst hb; exact hs (e ▸ ha)⟩
  · simp; omega
  · intro t ht
    rcases List.mem_append.1 ht with ht | ht
    · exact h.texts t ht
    · simp at ht; subst ht; exact hl
  · rw [hsz]
    rcases hk with (hk | rfl) | hk
    · have := h.lies k hk; omega
    · refine ⟨?_, by omega⟩
      rcases hbF with hf | hf
      · exact (h.lies _ hf).1
      · have := (h.lies T h.head).2; omega
    · have := hll k hk; omega
  · rw [cellsT v' hT2]; simp
  · have := ownsRow_setCell_below hown2 (a := ⟨T, 1, none⟩) (by simp) v'
    simpa using this
  · simpa using hown3
  · refine ⟨hb03.os, hb03.tape, hb03.output, hb03.size, fun k hk hn => hb03.block k hk (fun hf => ?_)⟩
    rcases hf with hf | rfl
    · exact hn hf
    · rcases hbF with hf | hf
      · exact hn hf
      · omega
  · rcases hk with (hk | rfl) | hk
    · exact .inl hk
    · exact hbF
    · rcases hloc with hv | hv
      · exact .inl (hvF k (hv ▸ hk)).1
      · rw [hv] at hk
        injection hk with hk
        have := hb01.size
        simp at hk
        exact .inr (by omega)

section
variable {w0 w1 w2 : World} {T bm n : Nat} {X o : Obj} {v : Value} {F : Nat → Prop} {ts : List (List UInt8)}
theorem stay1 (hb0 : w0.heap[T]? = some X) (hbT : bm ≠ T) (hg : w0.grownBy w1 (some bm)) : w1.heap[T]? = some X :=
  (hg.block T (Array.getElem?_eq_some_iff.1 hb0).1 (fun e => hbT (by injection e with e; exact e.symm))).trans hb0
theorem stay2 (hb0 : w0.heap[T]? = some X) (hbT : bm ≠ T) (hvT : ∀ k, v.ownBlock = some k → F k ∧ k ≠ T ∧ k ≠ bm) (hg : w0.grownBy w1 (some bm)) (hg2 : (w1.alloc o).grownBy w2 v.ownBlock) : w2.heap[T]? = some X := by
  have h1 := stay1 hb0 hbT hg
  have hlt1 := (Array.getElem?_eq_some_iff.1 h1).1
  rw [hg2.block T (by simp; omega) (fun e => (hvT T e.symm).2.1 rfl), Below.heap_alloc _ _ _ hlt1]
  exact h1
theorem row1 {base : Nat} {xs : List Value} (hown : w0.ownsRow base 9 1 v n xs) (hvT : ∀ k, v.ownBlock = some k → F k ∧ k ≠ T ∧ k ≠ bm) (hg : w0.grownBy w1 (some bm)) : w1.ownsRow base 9 1 v n xs :=
  hown.kept hg (by
    rcases hv : v.ownBlock with _ | k
    · exact .inl rfl
    · exact .inr (fun e => (hvT k hv).2.2 (by injection e)))
end

set_option maxHeartbeats 400000 in
theorem add_some (F : Nat → Prop) (T : Nat) (ts : List (List UInt8)) (s : List UInt8) (w : World) (h : Tab w T F ts) (hs : s ∉ ts) (hl : s.length ≤ maxLen) (hn : ts.length < 1000000)
    (bm : Nat) (D : DataW Unit) (v : Value) (hb : w.heap[T]? = some (.cells #[.map (some bm), v, .int .i64 ts.length] 140 (0, 0))) (hown : w.ownsRow (T + 1) 9 1 v ts.length (ts.map fun s => .string (str s)))
    (hvF : ∀ k, v.ownBlock = some k → F k) (hbF : F bm) (hmap : w.ownsMap Tryz.prog 9 (plainElem Tryz.prog 3) bm ts.length D) (hD : Tells D ts) :
    Calls Tryz.prog 109 #[.pointer (some ⟨T, 0, none⟩), .string (str s)] w fun e w' => e = .returned (.int .i64 ts.length) ∧ After w w' T F (ts ++ [s]) := by
  have c0 : w.cell? ⟨T, 0, none⟩ = some (.map (some bm)) := cells_of hb 0
  have c2 : w.cell? ⟨T, 2, none⟩ = some (.int .i64 ts.length) := cells_of hb 2
  have f2 : w.frozen? ⟨T, 2, none⟩ = false := unfrozen_of hb 2
  have hkey := key_of hl
  have hwf : (Lit.int .i64 (ts.length : Int)).wf = true := WalkArith.wf_i64 (by omega)
  have hbT : bm ≠ T := by
    rintro rfl
    obtain ⟨es, cl, hq, _⟩ := hmap
    rw [hb] at hq; cases hq
  have hvT : ∀ k, v.ownBlock = some k → F k ∧ k ≠ T ∧ k ≠ bm := fun k hk => ⟨hvF k hk, by have := (hown.lt k hk).1; omega, by
    rintro rfl
    obtain ⟨es, cl, hq, _⟩ := hmap
    rcases hown.2 with ⟨rfl, _⟩ | ⟨g, cap, cur, rfl, _, hg, _⟩
    · simp [Value.ownBlock] at hk
    · simp [Value.ownBlock] at hk; subst hk; rw [hg] at hq; cases hq⟩
  have hb0 : Hid ((w.setCell ⟨T, 2, none⟩ (.int .i64 ((ts.length : Int) + 1))).heap[T]? = some (.cells #[.map (some bm), v, .int .i64 ((ts.length : Int) + 1)] 140 (0, 0))) := Lib.hid (by
    rw [cellsT _ hb]; simp)
  have hown0 := ownsRow_setCell_below hown (a := ⟨T, 2, none⟩) (by simp) (.int .i64 ((ts.length : Int) + 1))
  have hmap0 := hmap.setCell (a := ⟨T, 2, none⟩) hbT (.int .i64 ((ts.length : Int) + 1))
  have hbut : But (fun k => F k ∨ k = bm) w (w.setCell ⟨T, 2, none⟩ (.int .i64 ((ts.length : Int) + 1))) := (But.setCell w (F := F) (p := ⟨T, 2, none⟩) h.head _).more fun k hk => .inl hk
  have hw := (h.lies T h.head).2
  clear hb hown hmap
  have q42 := fun (w : World) (r : Option Nat) => run_eql_map_nil (P := Tryz.prog) w 135 _ _ r Tryz.underlying135
  obtain ⟨i0, hi, hz0, hz1, hz2⟩ := info_parts info9
  go_enter Tryz.func109, Tryz.ntmps109
  go_wp2_with (first
    | (go_at_call 121; refine (Add_any _ _ _ _ c2 f2 (by omega) (by omega) (by omega) (by omega)).mono ?_; rintro e w' ⟨rfl, rfl⟩)
    | (at_mapUpdate; refine wpList_mapUpdate_own _ rfl _ _ _ 135 rfl 9 3 law9 Tryz.underlying135 _ bm ts.length D rfl hmap0 (by unfold maxLen; omega) _ _ _ rfl rfl hkey _ [] (plainElem_int Tryz.underlying3 hwf) ?_; intro w1 hown1 hgrow1; have c11 : w1.cell? ⟨T, 1, none⟩ = some v := cells_of (stay1 hb0.out hbT hgrow1) 1; have hs1 := hgrow1.size)
    | (at_builtin; refine wpList_append_own_at _ rfl _ _ 22 rfl (T + 1) 9 i0 (.string ⟨#[]⟩) 1 16 Tryz.underlying22 hi hz0 hz1 hz2 rfl (by decide) v ts.length _ rfl ((row1 hown0 hvT hgrow1).alloc _) ⟨w1.heap.size, 0, none⟩ 1 1 [.string (str s)] rfl rfl (cell_one_new _ _ _) (by simp [Value.oneCell']) (by unfold maxLen; omega) (by omega) (by simp at hs1 ⊢; omega) ?_; intro v' w2 hown2 hgrow2 hnil2 hloc2; clear hnil2; obtain ⟨A', cap', rfl, _, _, _⟩ := own_slice hown2; have c21 : w2.cell? ⟨T, 1, none⟩ = some v := cells_of (stay2 hb0.out hbT hvT hgrow1 hgrow2) 1; have f21 : w2.frozen? ⟨T, 1, none⟩ = false := unfrozen_of (stay2 hb0.out hbT hvT hgrow1 hgrow2) 1))
  go_ret
  exact ⟨rfl, add_end h hs hl hn hbut (.inl hbF) hbT hb0.out (Array.getElem?_eq_some_iff.1 hb0.out).1 hvT hown1 hgrow1 hD hown2 _ hgrow2 hloc2⟩
end Go.Proofs.YtoopdgohdeddoaaGreatDoor
/- Proved here: contracts of package intern: add where the table has no text yet; add; Id. -/
namespace Go.Proofs.YtoopdgohdeddoaaGreatDoor
open Go.RowKit Go.Maps Go.WideMaps
set_option linter.unusedVariables false

theorem none0 {F : Nat → Prop} {T : Nat} {w : World} {v : Value} (h : Tab w T F []) (hb : w.heap[T]? = some (.cells #[.map none, v, .int .i64 0] 140 (0, 0))) (hown : w.ownsRow (T + 1) 9 1 v 0 [])
    {w0 : World} (e : w0 = ((w.setCell ⟨T, 0, none⟩ (.map (some w.heap.size))).alloc (.map #[] 0)).setCell ⟨T, 2, none⟩ (.int .i64 1)) :
    w0.heap[T]? = some (.cells #[.map (some w.heap.size), v, .int .i64 1] 140 (0, 0)) ∧ w0.ownsRow (T + 1) 9 1 v 0 [] ∧ w0.ownsMap (H := Unit) Tryz.prog 9 (plainElem Tryz.prog 3) w.heap.size 0 (.map []) ∧ But (fun k => F k ∨ k = w.heap.size) w w0 ∧ w.heap.size ≠ T := by
  have hT := (h.lies T h.head).2
  have hne : w.heap.size ≠ T := by omega
  have hsz : (w.setCell ⟨T, 0, none⟩ (.map (some w.heap.size))).heap.size = w.heap.size := by simp [World.setCell]
  have h1 : ((w.setCell ⟨T, 0, none⟩ (.map (some w.heap.size))).alloc (.map #[] 0)).heap[T]? = some (.cells #[.map (some w.heap.size), v, .int .i64 0] 140 (0, 0)) := by
    rw [Below.heap_alloc _ _ _ (by rw [hsz]; exact hT), cellsT _ hb]
    simp
  subst e
  refine ⟨?_, ?_, ?_, ?_, hne⟩
  · rw [cellsT _ h1]; simp
  · exact ownsRow_setCell_below ((ownsRow_setCell_below hown (a := ⟨T, 0, none⟩) (by simp) _).alloc _) (a := ⟨T, 2, none⟩) (by simp) _
  · have := World.ownsMap_made (H := Unit) (w.setCell ⟨T, 0, none⟩ (.map (some w.heap.size))) Tryz.prog 9 (plainElem Tryz.prog 3)
    rw [hsz] at this
    exact this.setCell (a := ⟨T, 2, none⟩) hne _
  · exact (((But.setCell w (F := F) (p := ⟨T, 0, none⟩) h.head _).trans (.alloc (F := F) _ _) (fun k hk => .inl hk)).trans (.setCell _ (F := F) (p := ⟨T, 2, none⟩) h.head _) (fun k hk => .inl hk)).more fun k hk => .inl hk

set_option maxHeartbeats 400000 in
theorem add_none (F : Nat → Prop) (T : Nat) (s : List UInt8) (w : World) (h : Tab w T F []) (hl : s.length ≤ maxLen)
    (v : Value) (hb : w.heap[T]? = some (.cells #[.map none, v, .int .i64 0] 140 (0, 0))) (hown : w.ownsRow (T + 1) 9 1 v 0 [])
    (hvF : ∀ k, v.ownBlock = some k → F k) :
    Calls Tryz.prog 109 #[.pointer (some ⟨T, 0, none⟩), .string (str s)] w fun e w' => e = .returned (.int .i64 0) ∧ After w w' T F [s] := by
  have c0 : w.cell? ⟨T, 0, none⟩ = some (.map none) := cells_of hb 0
  have f0 : w.frozen? ⟨T, 0, none⟩ = false := unfrozen_of hb 0
  have hkey := key_of hl
  have hwf : (Lit.int .i64 0).wf = true := WalkArith.wf_i64 (by omega)
  have hTlt : T < w.heap.size := (h.lies T h.head).2
  have c01 : (w.alloc (.map #[] 0)).cell? ⟨T, 0, none⟩ = some (.map none) := by rw [World.cell?_alloc_lt _ _ _ hTlt]; exact c0
  have f01 : (w.alloc (.map #[] 0)).frozen? ⟨T, 0, none⟩ = false := by rw [World.frozen?_of_block (w := w) (Below.heap_alloc _ _ _ hTlt)]; exact f0
  have hsz : (w.setCell ⟨T, 0, none⟩ (.map (some w.heap.size))).heap.size = w.heap.size := by simp [World.setCell]
  have hA : ((w.setCell ⟨T, 0, none⟩ (.map (some w.heap.size))).alloc (.map #[] 0)).heap[T]? = some (.cells #[.map (some w.heap.size), v, .int .i64 0] 140 (0, 0)) := by
    rw [Below.heap_alloc _ _ _ (by rw [hsz]; exact hTlt), cellsT _ hb]
    simp
  have c2 : ((w.setCell ⟨T, 0, none⟩ (.map (some w.heap.size))).alloc (.map #[] 0)).cell? ⟨T, 2, none⟩ = some (.int .i64 0) := cells_of hA 2
  have f2 : ((w.setCell ⟨T, 0, none⟩ (.map (some w.heap.size))).alloc (.map #[] 0)).frozen? ⟨T, 2, none⟩ = false := unfrozen_of hA 2
  have hvT : ∀ k, v.ownBlock = some k → F k ∧ k ≠ T ∧ k ≠ w.heap.size := fun k hk => ⟨hvF k hk, by have := (hown.lt k hk).1; omega, by have := (hown.lt k hk).2; omega⟩
  have hn0 := fun {w0 : World} => none0 (w0 := w0) h hb hown
  clear hA hb hown
  have hszh := Lib.hid hsz
  clear hsz
  have q42 := fun (w : World) (r : Option Nat) => run_eql_map_nil (P := Tryz.prog) w 135 _ _ r Tryz.underlying135
  have hmm := @run_makeMap Tryz.prog
  obtain ⟨i0, hi, hz0, hz1, hz2⟩ := info_parts info9
  go_enter Tryz.func109, Tryz.ntmps109
  go_wp2_with (first
    | (go_at_call 121; refine (Add_any _ _ _ _ c2 f2 (by omega) (by omega) (by omega) (by omega)).mono ?_; rintro e w0 ⟨rfl, hw0⟩; obtain ⟨hb0, hown0, hmap0, hbut, hbT⟩ := hn0 hw0; clear hw0; have hb0' := Lib.hid hb0; have c00 := cells_of hb0 0; have hbTh := Lib.hid hbT; clear hb0 hbT; have hs0 := hbut.size)
    | (at_mapUpdate; refine wpList_mapUpdate_own _ rfl _ _ _ 135 rfl 9 3 law9 Tryz.underlying135 _ w.heap.size 0 _ rfl hmap0 (by unfold maxLen; omega) _ _ _ rfl rfl hkey _ [] (plainElem_int Tryz.underlying3 hwf) ?_; intro w1 hown1 hgrow1; have c11 : w1.cell? ⟨T, 1, none⟩ = some v := cells_of (stay1 hb0'.out hbTh.out hgrow1) 1; have hs1 := hgrow1.size)
    | (at_builtin; refine wpList_append_own_at _ rfl _ _ 22 rfl (T + 1) 9 i0 (.string ⟨#[]⟩) 1 16 Tryz.underlying22 hi hz0 hz1 hz2 rfl (by decide) v 0 _ rfl ((row1 hown0 hvT hgrow1).alloc _) ⟨w1.heap.size, 0, none⟩ 1 1 [.string (str s)] rfl rfl (cell_one_new _ _ _) (by simp [Value.oneCell']) (by unfold maxLen; omega) (by omega) (by simp at hs1 ⊢; omega) ?_; intro v' w2 hown2 hgrow2 hnil2 hloc2; clear hnil2; obtain ⟨A', cap', rfl, _, _, _⟩ := own_slice hown2; have c21 : w2.cell? ⟨T, 1, none⟩ = some v := cells_of (stay2 hb0'.out hbTh.out hvT hgrow1 hgrow2) 1; have f21 : w2.frozen? ⟨T, 1, none⟩ = false := unfrozen_of (stay2 hb0'.out hbTh.out hvT hgrow1 hgrow2) 1))
  go_ret
  refine ⟨rfl, ?_⟩
  have := add_end (v' := .slice A' (0 + 1) cap') h (by simp) hl (by simp) hbut (.inr (Nat.le_refl _)) hbTh.out hb0'.out (Array.getElem?_eq_some_iff.1 hb0'.out).1 hvT hown1 hgrow1 tells_nil hown2 _ hgrow2 hloc2
  simpa using this

theorem add_any (F : Nat → Prop) (T : Nat) (ts : List (List UInt8)) (s : List UInt8) (w : World) (h : Tab w T F ts) (hs : s ∉ ts) (hl : s.length ≤ maxLen) (hn : ts.length < 1000000) :
    Calls Tryz.prog 109 #[.pointer (some ⟨T, 0, none⟩), .string (str s)] w fun e w' => e = .returned (.int .i64 ts.length) ∧ After w w' T F (ts ++ [s]) := by
  obtain ⟨m, v, hb, hown, hvF, hm⟩ := h.rest
  rcases hm with ⟨rfl, rfl⟩ | ⟨bm, D, rfl, hbF, hmap, hD⟩
  · exact add_none F T s w h hl v hb hown hvF
  · exact add_some F T ts s w h hs hl hn bm D v hb hown hvF hbF hmap hD

set_option maxRecDepth 100000 in
set_option maxHeartbeats 400000 in
theorem Id_tab (F : Nat → Prop) (T : Nat) (ts : List (List UInt8)) (s : List UInt8) (w : World) (h : Tab w T F ts) (hl : s.length ≤ maxLen) (hn : ts.length < 1000000) :
    Calls Tryz.prog 95 #[.pointer (some ⟨T, 0, none⟩), .string (str s)] w fun e w' => e = .returned (.int .i64 (numOf ts s)) ∧ After w w' T F (withText ts s) := by
  have hkey := key_of hl
  obtain ⟨m, v, hb, hown, hvF, hm⟩ := h.rest
  have c0 : w.cell? ⟨T, 0, none⟩ = some m := cells_of hb 0
  clear hb hown hvF
  by_cases hs : s ∈ ts
  · have hlt := List.idxOf_lt_length_of_mem hs
    have hg : ts[ts.idxOf s]? = some s := by rw [List.getElem?_eq_getElem hlt, List.getElem_idxOf]
    rcases hm with ⟨rfl, rfl⟩ | ⟨bm, D, rfl, hbF, hmap, hD⟩
    · cases hs
    · have hhas : Maps.has D (keyL s) = true := by rw [hD.2.1]; simpa using hs
      have hat := Lib.hid (hD.2.2 _ _ hg (.lit (.int .i64 0)))
      clear hD hbF
      have hend : After w w T F (withText ts s) := ⟨F, by unfold withText; rw [if_pos hs]; exact h, .refl _ _, fun k hk => .inl hk⟩
      have hend' := Lib.hid hend
      clear hend hlt hg
      go_enter Tryz.func95, Tryz.ntmps95
      go_wp2_with (first
        | (at_lookup; refine wpList_lookup_own_ok_int _ rfl _ _ 135 rfl 9 3 .i64 law9 Tryz.underlying135 Tryz.underlying3 (zero3 _) bm ts.length D rfl hmap _ _ rfl hkey ?_; intro c hc hwc; have hc' := Lib.hid hc; clear hc hwc))
      go_ret
      refine ⟨ret_int ?_, hend'.out⟩
      have := hc'.out.symm.trans hat.out
      injection this with this
      injection this with _ this
  · have hidx : numOf ts s = ts.length := List.idxOf_eq_length hs
    have hwt : withText ts s = ts ++ [s] := by unfold withText; rw [if_neg hs]
    rw [hidx, hwt]
    clear hidx hwt
    rcases hm with ⟨rfl, rfl⟩ | ⟨bm, D, rfl, hbF, hmap, hD⟩
    · have hrun := look_nil (w := w) true law9 Tryz.underlying135 (zero3 _) hkey
      go_enter Tryz.func95, Tryz.ntmps95
      go_wp2_with (first
        | (go_at_call 109; refine (add_any F T [] s _ h hs hl hn).mono ?_; rintro e w' ⟨rfl, haf⟩))
      go_ret
      exact ⟨rfl, haf⟩
    · have hhas : Maps.has D (keyL s) = false := by rw [hD.2.1]; simpa using hs
      clear hD hbF
      go_enter Tryz.func95, Tryz.ntmps95
      go_wp2_with (first
        | (at_lookup; refine wpList_lookup_own_ok_int _ rfl _ _ 135 rfl 9 3 .i64 law9 Tryz.underlying135 Tryz.underlying3 (zero3 _) bm ts.length D rfl hmap _ _ rfl hkey ?_; intro c hc hwc; clear hc hwc)
        | (go_at_call 109; refine (add_any F T ts s _ h hs hl hn).mono ?_; rintro e w' ⟨rfl, haf⟩))
      go_ret
      exact ⟨rfl, haf⟩
end Go.Proofs.YtoopdgohdeddoaaGreatDoor

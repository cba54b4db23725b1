/- Proved here: texts joined: Table, Add, AddN, Nums. -/
import Derived.Test.YticgjbckfpkpjaaGreatBt34
import Derived.WalkLawsBesides
import Derived.OwnWalk
import Derived.IntWalk
import Derived.Outline
import Derived.Deep.OwnRows
/- Proved here: contracts of package intern: New, Len, atomic Add. -/
namespace Go.Proofs.YticgjbckfpkpjaaGreat
open Go.RowKit Go.Maps Go.WideMaps
set_option linter.unusedVariables false

theorem New_any (w : World) :
    Calls Tryz.prog 55 #[] w fun e w' => e = .returned (.pointer (some ⟨w.heap.size, 0, none⟩)) ∧ Tab w' w.heap.size (· = w.heap.size) [] ∧ Below w.heap.size w w' ∧ w'.heap.size = w.heap.size + 1 := by
  go_enter Tryz.func55, Tryz.ntmps55
  go_wp2
  go_ret
  refine ⟨rfl, ⟨List.nodup_nil, by simp, by simp, rfl, fun k hk => ?_, .map none, .slice none 0 0, heap_alloc_new _ _, World.ownsRow_nil _ _ _ _, fun k e => ?_, .inl ⟨rfl, rfl⟩⟩, (Below.refl _ _).alloc (Nat.le_refl _) _, by simp⟩
  · subst hk; simp
  · simp [Value.ownBlock] at e

theorem Add_any (a : Addr) (x y : Int) (w : World) (hc : w.cell? a = some (.int .i64 x)) (hz : w.frozen? a = false) (hx : 0 ≤ x) (hy : 0 ≤ y) (hx1 : x ≤ 1000000000) (hy1 : y ≤ 1000000000) :
    Calls Tryz.prog 117 #[.pointer (some a), .int .i64 y] w fun e w' => e = .returned (.int .i64 (x + y)) ∧ w' = w.setCell a (.int .i64 (x + y)) := by
  obtain ⟨b, o, sp⟩ := a
  have hsp : sp = none := by simpa using World.cell?_spot hc
  subst hsp
  have ha := run_call_add (P := Tryz.prog) Tryz.func129 (by kernel_rfl) (by kernel_rfl) (by kernel_rfl) .i64 (by kernel_rfl) hc hz (y := y) (s := x + y) (by
    rw [show (x + y) = IntKind.i64.wrap (x + y) from (IntWalk.i64_in _ (by omega)).symm]; simp [go_sem])
  go_enter Tryz.func117, Tryz.ntmps117
  go_wp2
  go_ret
  exact ⟨rfl, rfl⟩
end Go.Proofs.YticgjbckfpkpjaaGreat
/- Proved here: contracts of package intern: add, Id. -/
namespace Go.Proofs.YticgjbckfpkpjaaGreat
open Go.RowKit Go.Maps Go.WideMaps
set_option linter.unusedVariables false

/-- Behind a step that touches blocks of F alone, block T is a table of the texts ts. -/
def After (w w' : World) (T : Nat) (F : Nat → Prop) (ts : List (List UInt8)) : Prop := ∃ F', Tab w' T F' ts ∧ But F w w' ∧ ∀ k, F' k → F k ∨ w.heap.size ≤ k

theorem cellsT {w : World} {T j : Nat} {C : Array Value} {t : TypeId} (x : Value) (h : w.heap[T]? = some (.cells C t (0, 0))) : (w.setCell ⟨T, j, none⟩ x).heap[T]? = some (.cells (C.setIfInBounds j x) t (0, 0)) :=
  heap_setCell_same w T j C t x h

/-- What add has done, in the end. -/
theorem add_end {F : Nat → Prop} {T : Nat} {ts : List (List UInt8)} {s : List UInt8} {w w0 w1 w2 : World} (h : Tab w T F ts) (hs : s ∉ ts) (hl : s.length ≤ maxLen) (hn : ts.length < 1000000)
    {bm : Nat} {D : DataW Unit} {v v' : Value} (hbw : But (fun k => F k ∨ k = bm) w w0) (hbF : F bm ∨ w.heap.size ≤ bm) (hbT : bm ≠ T)
    (hb0 : w0.heap[T]? = some (.cells #[.map (some bm), v, .int .i64 ((ts.length : Int) + 1)] 145 (0, 0))) (hlt0 : T < w0.heap.size)
    (hvF : ∀ k, v.ownBlock = some k → F k ∧ k ≠ T ∧ k ≠ bm)
    (hown1 : w1.ownsMap Tryz.prog 9 (plainElem Tryz.prog 3) bm (ts.length + 1) (D.put (keyL s) (numD ts.length))) (hg1 : w0.grownBy w1 (some bm)) (hD : Tells D ts)
    (hown2 : w2.ownsRow (T + 1) 9 1 v' (ts.length + 1) ((ts.map fun s => .string (str s)) ++ [.string (str s)])) (o : Obj) (hg2 : (w1.alloc o).grownBy w2 v.ownBlock)
    (hloc : v'.ownBlock = v.ownBlock ∨ v'.ownBlock = some (w1.alloc o).heap.size) : After w (w2.setCell ⟨T, 1, none⟩ v') T F (ts ++ [s]) := by
  have hT1 : w1.heap[T]? = some (.cells #[.map (some bm), v, .int .i64 ((ts.length : Int) + 1)] 145 (0, 0)) := (hg1.block T hlt0 (fun e => hbT (by injection e with e; exact e.symm))).trans hb0
  have hlt1 : T < w1.heap.size := Nat.lt_of_lt_of_le hlt0 hg1.size
  have hT2 : w2.heap[T]? = some (.cells #[.map (some bm), v, .int .i64 ((ts.length : Int) + 1)] 145 (0, 0)) := by
    rw [hg2.block T (by simp; omega) (fun e => (hvF T e.symm).2.1 rfl), Below.heap_alloc _ _ _ hlt1]; exact hT1
  have hbm1 : bm < w1.heap.size := hown1.lt
  have hs2 : w1.heap.size + 1 ≤ w2.heap.size := by have := hg2.size; simpa using this
  have hown2' : w2.ownsMap Tryz.prog 9 (plainElem Tryz.prog 3) bm (ts.length + 1) (D.put (keyL s) (numD ts.length)) :=
    (hown1.alloc o).kept hg2 (fun e => (hvF bm e.symm).2.2 rfl)
  have hown3 : (w2.setCell ⟨T, 1, none⟩ v').ownsMap Tryz.prog 9 (plainElem Tryz.prog 3) bm (ts.length + 1) (D.put (keyL s) (numD ts.length)) := hown2'.setCell hbT _
  have hll := hown2.lt
  have hb01 : But (fun k => F k ∨ k = bm) w w1 := hbw.trans (.of_grown hg1 (F := fun k => k = bm) (by rintro k ⟨⟩; rfl)) (fun k hk => .inl (.inr hk))
  have hb02 : But (fun k => F k ∨ k = bm) w w2 := (hb01.trans (F' := F) (.alloc _ o) (fun k hk => .inl (.inl hk))).trans (.of_grown hg2 (F := F) (fun k hk => (hvF k hk).1)) (fun k hk => .inl (.inl hk))
  have hb03 : But (fun k => F k ∨ k = bm) w (w2.setCell ⟨T, 1, none⟩ v') := hb02.trans (.setCell w2 (F := F) (p := ⟨T, 1, none⟩) h.head v') (fun k hk => .inl (.inl hk))
  have hsz : (w2.setCell ⟨T, 1, none⟩ v').heap.size = w2.heap.size := by simp [World.setCell]
  have hsw : w.heap.size ≤ w2.heap.size := hb02.size
  refine ⟨fun k => (F k ∨ k = bm) ∨ v'.ownBlock = some k, ⟨?_, ?_, ?_, .inl (.inl h.head), fun k hk => ?_, .map (some bm), v', ?_, ?_, fun k hk => .inr hk, .inr ⟨bm, _, rfl, .inl (.inr rfl), ?_, hD.put hs⟩⟩, ?_, fun k hk => ?_⟩
  · rw [List.nodup_append]
    exact ⟨h.nodup, by simp, fun a ha b hb e => by simp at hb; subst hb; exact hs (e ▸ ha)⟩
  · simp; omega
  · intro t ht
    rcases List.mem_append.1 ht with ht | ht
    · exact h.texts t ht
    · simp at ht; subst ht; exact hl
  · rw [hsz]
    rcases hk with (hk | rfl) | hk
    · have := h.lies k hk; omega
    · refine ⟨?_, by omega⟩
      rcases hbF with hf | hf
      · exact (h.lies _ hf).1
      · have := (h.lies T h.head).2; omega
    · have := hll k hk; omega
  · rw [cellsT v' hT2]; simp
  · have := ownsRow_setCell_below hown2 (a := ⟨T, 1, none⟩) (by simp) v'
    simpa using this
  · simpa using hown3
  · refine ⟨hb03.os, hb03.tape, hb03.output, hb03.size, fun k hk hn => hb03.block k hk (fun hf => ?_)⟩
    rcases hf with hf | rfl
    · exact hn hf
    · rcases hbF with hf | hf
      · exact hn hf
      · omega
  · rcases hk with (hk | rfl) | hk
    · exact .inl hk
    · exact hbF
    · rcases hloc with hv | hv
      · exact .inl (hvF k (hv ▸ hk)).1
      · rw [hv] at hk
        injection hk with hk
        have := hb01.size
        simp at hk
        exact .inr (by omega)

section
variable {w0 w1 w2 : World} {T bm n : Nat} {X o : Obj} {v : Value} {F : Nat → Prop} {ts : List (List UInt8)}
theorem stay1 (hb0 : w0.heap[T]? = some X) (hbT : bm ≠ T) (hg : w0.grownBy w1 (some bm)) : w1.heap[T]? = some X :=
  (hg.block T (Array.getElem?_eq_some_iff.1 hb0).1 (fun e => hbT (by injection e with e; exact e.symm))).trans hb0
theorem stay2 (hb0 : w0.heap[T]? = some X) (hbT : bm ≠ T) (hvT : ∀ k, v.ownBlock = some k → F k ∧ k ≠ T ∧ k ≠ bm) (hg : w0.grownBy w1 (some bm)) (hg2 : (w1.alloc o).grownBy w2 v.ownBlock) : w2.heap[T]? = some X := by
  have h1 := stay1 hb0 hbT hg
  have hlt1 := (Array.getElem?_eq_some_iff.1 h1).1
  rw [hg2.block T (by simp; omega) (fun e => (hvT T e.symm).2.1 rfl), Below.heap_alloc _ _ _ hlt1]
  exact h1
theorem row1 {base : Nat} {xs : List Value} (hown : w0.ownsRow base 9 1 v n xs) (hvT : ∀ k, v.ownBlock = some k → F k ∧ k ≠ T ∧ k ≠ bm) (hg : w0.grownBy w1 (some bm)) : w1.ownsRow base 9 1 v n xs :=
  hown.kept hg (by
    rcases hv : v.ownBlock with _ | k
    · exact .inl rfl
    · exact .inr (fun e => (hvT k hv).2.2 (by injection e)))
end

set_option maxHeartbeats 400000 in
theorem add_some (F : Nat → Prop) (T : Nat) (ts : List (List UInt8)) (s : List UInt8) (w : World) (h : Tab w T F ts) (hs : s ∉ ts) (hl : s.length ≤ maxLen) (hn : ts.length < 1000000)
    (bm : Nat) (D : DataW Unit) (v : Value) (hb : w.heap[T]? = some (.cells #[.map (some bm), v, .int .i64 ts.length] 145 (0, 0))) (hown : w.ownsRow (T + 1) 9 1 v ts.length (ts.map fun s => .string (str s)))
    (hvF : ∀ k, v.ownBlock = some k → F k) (hbF : F bm) (hmap : w.ownsMap Tryz.prog 9 (plainElem Tryz.prog 3) bm ts.length D) (hD : Tells D ts) :
    Calls Tryz.prog 104 #[.pointer (some ⟨T, 0, none⟩), .string (str s)] w fun e w' => e = .returned (.int .i64 ts.length) ∧ After w w' T F (ts ++ [s]) := by
  have c0 : w.cell? ⟨T, 0, none⟩ = some (.map (some bm)) := cells_of hb 0
  have c2 : w.cell? ⟨T, 2, none⟩ = some (.int .i64 ts.length) := cells_of hb 2
  have f2 : w.frozen? ⟨T, 2, none⟩ = false := unfrozen_of hb 2
  have hkey := key_of hl
  have hwf : (Lit.int .i64 (ts.length : Int)).wf = true := WalkArith.wf_i64 (by omega)
  have hbT : bm ≠ T := by
    rintro rfl
    obtain ⟨es, cl, hq, _⟩ := hmap
    rw [hb] at hq; cases hq
  have hvT : ∀ k, v.ownBlock = some k → F k ∧ k ≠ T ∧ k ≠ bm := fun k hk => ⟨hvF k hk, by have := (hown.lt k hk).1; omega, by
    rintro rfl
    obtain ⟨es, cl, hq, _⟩ := hmap
    rcases hown.2 with ⟨rfl, _⟩ | ⟨g, cap, cur, rfl, _, hg, _⟩
    · simp [Value.ownBlock] at hk
    · simp [Value.ownBlock] at hk; subst hk; rw [hg] at hq; cases hq⟩
  have hb0 : Hid ((w.setCell ⟨T, 2, none⟩ (.int .i64 ((ts.length : Int) + 1))).heap[T]? = some (.cells #[.map (some bm), v, .int .i64 ((ts.length : Int) + 1)] 145 (0, 0))) := Lib.hid (by
    rw [cellsT _ hb]; simp)
  have hown0 := ownsRow_setCell_below hown (a := ⟨T, 2, none⟩) (by simp) (.int .i64 ((ts.length : Int) + 1))
  have hmap0 := hmap.setCell (a := ⟨T, 2, none⟩) hbT (.int .i64 ((ts.length : Int) + 1))
  have hbut : But (fun k => F k ∨ k = bm) w (w.setCell ⟨T, 2, none⟩ (.int .i64 ((ts.length : Int) + 1))) := (But.setCell w (F := F) (p := ⟨T, 2, none⟩) h.head _).more fun k hk => .inl hk
  have hw := (h.lies T h.head).2
  clear hb hown hmap
  have q42 := fun (w : World) (r : Option Nat) => run_eql_map_nil (P := Tryz.prog) w 140 _ _ r Tryz.underlying140
  obtain ⟨i0, hi, hz0, hz1, hz2⟩ := info_parts info9
  go_enter Tryz.func104, Tryz.ntmps104
  go_wp2_with (first
    | (go_at_call 117; refine (Add_any _ _ _ _ c2 f2 (by omega) (by omega) (by omega) (by omega)).mono ?_; rintro e w' ⟨rfl, rfl⟩)
    | (at_mapUpdate; refine wpList_mapUpdate_own _ rfl _ _ _ 140 rfl 9 3 law9 Tryz.underlying140 _ bm ts.length D rfl hmap0 (by unfold maxLen; omega) _ _ _ rfl rfl hkey _ [] (plainElem_int Tryz.underlying3 hwf) ?_; intro w1 hown1 hgrow1; have c11 : w1.cell? ⟨T, 1, none⟩ = some v := cells_of (stay1 hb0.out hbT hgrow1) 1; have hs1 := hgrow1.size)
    | (at_builtin; refine wpList_append_own_at _ rfl _ _ 22 rfl (T + 1) 9 i0 (.string ⟨#[]⟩) 1 16 Tryz.underlying22 hi hz0 hz1 hz2 rfl (by decide) v ts.length _ rfl ((row1 hown0 hvT hgrow1).alloc _) ⟨w1.heap.size, 0, none⟩ 1 1 [.string (str s)] rfl rfl (cell_one_new _ _ _) (by simp [Value.oneCell']) (by unfold maxLen; omega) (by omega) (by simp at hs1 ⊢; omega) ?_; intro v' w2 hown2 hgrow2 hnil2 hloc2; clear hnil2; obtain ⟨A', cap', rfl, _, _, _⟩ := own_slice hown2; have c21 : w2.cell? ⟨T, 1, none⟩ = some v := cells_of (stay2 hb0.out hbT hvT hgrow1 hgrow2) 1; have f21 : w2.frozen? ⟨T, 1, none⟩ = false := unfrozen_of (stay2 hb0.out hbT hvT hgrow1 hgrow2) 1))
  go_ret
  exact ⟨rfl, add_end h hs hl hn hbut (.inl hbF) hbT hb0.out (Array.getElem?_eq_some_iff.1 hb0.out).1 hvT hown1 hgrow1 hD hown2 _ hgrow2 hloc2⟩
end Go.Proofs.YticgjbckfpkpjaaGreat
/- Proved here: contracts of package intern: add where the table has no text yet; add; Id. -/
namespace Go.Proofs.YticgjbckfpkpjaaGreat
open Go.RowKit Go.Maps Go.WideMaps
set_option linter.unusedVariables false

theorem none0 {F : Nat → Prop} {T : Nat} {w : World} {v : Value} (h : Tab w T F []) (hb : w.heap[T]? = some (.cells #[.map none, v, .int .i64 0] 145 (0, 0))) (hown : w.ownsRow (T + 1) 9 1 v 0 [])
    {w0 : World} (e : w0 = ((w.setCell ⟨T, 0, none⟩ (.map (some w.heap.size))).alloc (.map #[] 0)).setCell ⟨T, 2, none⟩ (.int .i64 1)) :
    w0.heap[T]? = some (.cells #[.map (some w.heap.size), v, .int .i64 1] 145 (0, 0)) ∧ w0.ownsRow (T + 1) 9 1 v 0 [] ∧ w0.ownsMap (H := Unit) Tryz.prog 9 (plainElem Tryz.prog 3) w.heap.size 0 (.map []) ∧ But (fun k => F k ∨ k = w.heap.size) w w0 ∧ w.heap.size ≠ T := by
  have hT := (h.lies T h.head).2
  have hne : w.heap.size ≠ T := by omega
  have hsz : (w.setCell ⟨T, 0, none⟩ (.map (some w.heap.size))).heap.size = w.heap.size := by simp [World.setCell]
  have h1 : ((w.setCell ⟨T, 0, none⟩ (.map (some w.heap.size))).alloc (.map #[] 0)).heap[T]? = some (.cells #[.map (some w.heap.size), v, .int .i64 0] 145 (0, 0)) := by
    rw [Below.heap_alloc _ _ _ (by rw [hsz]; exact hT), cellsT _ hb]
    simp
  subst e
  refine ⟨?_, ?_, ?_, ?_, hne⟩
  · rw [cellsT _ h1]; simp
  · exact ownsRow_setCell_below ((ownsRow_setCell_below hown (a := ⟨T, 0, none⟩) (by simp) _).alloc _) (a := ⟨T, 2, none⟩) (by simp) _
  · have := World.ownsMap_made (H := Unit) (w.setCell ⟨T, 0, none⟩ (.map (some w.heap.size))) Tryz.prog 9 (plainElem Tryz.prog 3)
    rw [hsz] at this
    exact this.setCell (a := ⟨T, 2, none⟩) hne _
  · exact (((But.setCell w (F := F) (p := ⟨T, 0, none⟩) h.head _).trans (.alloc (F := F) _ _) (fun k hk => .inl hk)).trans (.setCell _ (F := F) (p := ⟨T, 2, none⟩) h.head _) (fun k hk => .inl hk)).more fun k hk => .inl hk

set_option maxHeartbeats 400000 in
theorem add_none (F : Nat → Prop) (T : Nat) (s : List UInt8) (w : World) (h : Tab w T F []) (hl : s.length ≤ maxLen)
    (v : Value) (hb : w.heap[T]? = some (.cells #[.map none, v, .int .i64 0] 145 (0, 0))) (hown : w.ownsRow (T + 1) 9 1 v 0 [])
    (hvF : ∀ k, v.ownBlock = some k → F k) :
    Calls Tryz.prog 104 #[.pointer (some ⟨T, 0, none⟩), .string (str s)] w fun e w' => e = .returned (.int .i64 0) ∧ After w w' T F [s] := by
  have c0 : w.cell? ⟨T, 0, none⟩ = some (.map none) := cells_of hb 0
  have f0 : w.frozen? ⟨T, 0, none⟩ = false := unfrozen_of hb 0
  have hkey := key_of hl
  have hwf : (Lit.int .i64 0).wf = true := WalkArith.wf_i64 (by omega)
  have hTlt : T < w.heap.size := (h.lies T h.head).2
  have c01 : (w.alloc (.map #[] 0)).cell? ⟨T, 0, none⟩ = some (.map none) := by rw [World.cell?_alloc_lt _ _ _ hTlt]; exact c0
  have f01 : (w.alloc (.map #[] 0)).frozen? ⟨T, 0, none⟩ = false := by rw [World.frozen?_of_block (w := w) (Below.heap_alloc _ _ _ hTlt)]; exact f0
  have hsz : (w.setCell ⟨T, 0, none⟩ (.map (some w.heap.size))).heap.size = w.heap.size := by simp [World.setCell]
  have hA : ((w.setCell ⟨T, 0, none⟩ (.map (some w.heap.size))).alloc (.map #[] 0)).heap[T]? = some (.cells #[.map (some w.heap.size), v, .int .i64 0] 145 (0, 0)) := by
    rw [Below.heap_alloc _ _ _ (by rw [hsz]; exact hTlt), cellsT _ hb]
    simp
  have c2 : ((w.setCell ⟨T, 0, none⟩ (.map (some w.heap.size))).alloc (.map #[] 0)).cell? ⟨T, 2, none⟩ = some (.int .i64 0) := cells_of hA 2
  have f2 : ((w.setCell ⟨T, 0, none⟩ (.map (some w.heap.size))).alloc (.map #[] 0)).frozen? ⟨T, 2, none⟩ = false := unfrozen_of hA 2
  have hvT : ∀ k, v.ownBlock = some k → F k ∧ k ≠ T ∧ k ≠ w.heap.size := fun k hk => ⟨hvF k hk, by have := (hown.lt k hk).1; omega, by have := (hown.lt k hk).2; omega⟩
  have hn0 := fun {w0 : World} => none0 (w0 := w0) h hb hown
  clear hA hb hown
  have hszh := Lib.hid hsz
  clear hsz
  have q42 := fun (w : World) (r : Option Nat) => run_eql_map_nil (P := Tryz.prog) w 140 _ _ r Tryz.underlying140
  have hmm := @run_makeMap Tryz.prog
  obtain ⟨i0, hi, hz0, hz1, hz2⟩ := info_parts info9
  go_enter Tryz.func104, Tryz.ntmps104
  go_wp2_with (first
    | (go_at_call 117; refine (Add_any _ _ _ _ c2 f2 (by omega) (by omega) (by omega) (by omega)).mono ?_; rintro e w0 ⟨rfl, hw0⟩; obtain ⟨hb0, hown0, hmap0, hbut, hbT⟩ := hn0 hw0; clear hw0; have hb0' := Lib.hid hb0; have c00 := cells_of hb0 0; have hbTh := Lib.hid hbT; clear hb0 hbT; have hs0 := hbut.size)
    | (at_mapUpdate; refine wpList_mapUpdate_own _ rfl _ _ _ 140 rfl 9 3 law9 Tryz.underlying140 _ w.heap.size 0 _ rfl hmap0 (by unfold maxLen; omega) _ _ _ rfl rfl hkey _ [] (plainElem_int Tryz.underlying3 hwf) ?_; intro w1 hown1 hgrow1; have c11 : w1.cell? ⟨T, 1, none⟩ = some v := cells_of (stay1 hb0'.out hbTh.out hgrow1) 1; have hs1 := hgrow1.size)
    | (at_builtin; refine wpList_append_own_at _ rfl _ _ 22 rfl (T + 1) 9 i0 (.string ⟨#[]⟩) 1 16 Tryz.underlying22 hi hz0 hz1 hz2 rfl (by decide) v 0 _ rfl ((row1 hown0 hvT hgrow1).alloc _) ⟨w1.heap.size, 0, none⟩ 1 1 [.string (str s)] rfl rfl (cell_one_new _ _ _) (by simp [Value.oneCell']) (by unfold maxLen; omega) (by omega) (by simp at hs1 ⊢; omega) ?_; intro v' w2 hown2 hgrow2 hnil2 hloc2; clear hnil2; obtain ⟨A', cap', rfl, _, _, _⟩ := own_slice hown2; have c21 : w2.cell? ⟨T, 1, none⟩ = some v := cells_of (stay2 hb0'.out hbTh.out hvT hgrow1 hgrow2) 1; have f21 : w2.frozen? ⟨T, 1, none⟩ = false := unfrozen_of (stay2 hb0'.out hbTh.out hvT hgrow1 hgrow2) 1))
  go_ret
  refine ⟨rfl, ?_⟩
  have := add_end (v' := .slice A' (0 + 1) cap') h (by simp) hl (by simp) hbut (.inr (Nat.le_refl _)) hbTh.out hb0'.out (Array.getElem?_eq_some_iff.1 hb0'.out).1 hvT hown1 hgrow1 tells_nil hown2 _ hgrow2 hloc2
  simpa using this

theorem add_any (F : Nat → Prop) (T : Nat) (ts : List (List UInt8)) (s : List UInt8) (w : World) (h : Tab w T F ts) (hs : s ∉ ts) (hl : s.length ≤ maxLen) (hn : ts.length < 1000000) :
    Calls Tryz.prog 104 #[.pointer (some ⟨T, 0, none⟩), .string (str s)] w fun e w' => e = .returned (.int .i64 ts.length) ∧ After w w' T F (ts ++ [s]) := by
  obtain ⟨m, v, hb, hown, hvF, hm⟩ := h.rest
  rcases hm with ⟨rfl, rfl⟩ | ⟨bm, D, rfl, hbF, hmap, hD⟩
  · exact add_none F T s w h hl v hb hown hvF
  · exact add_some F T ts s w h hs hl hn bm D v hb hown hvF hbF hmap hD

set_option maxRecDepth 100000 in
set_option maxHeartbeats 400000 in
theorem Id_tab (F : Nat → Prop) (T : Nat) (ts : List (List UInt8)) (s : List UInt8) (w : World) (h : Tab w T F ts) (hl : s.length ≤ maxLen) (hn : ts.length < 1000000) :
    Calls Tryz.prog 90 #[.pointer (some ⟨T, 0, none⟩), .string (str s)] w fun e w' => e = .returned (.int .i64 (numOf ts s)) ∧ After w w' T F (withText ts s) := by
  have hkey := key_of hl
  obtain ⟨m, v, hb, hown, hvF, hm⟩ := h.rest
  have c0 : w.cell? ⟨T, 0, none⟩ = some m := cells_of hb 0
  clear hb hown hvF
  by_cases hs : s ∈ ts
  · have hlt := List.idxOf_lt_length_of_mem hs
    have hg : ts[ts.idxOf s]? = some s := by rw [List.getElem?_eq_getElem hlt, List.getElem_idxOf]
    rcases hm with ⟨rfl, rfl⟩ | ⟨bm, D, rfl, hbF, hmap, hD⟩
    · cases hs
    · have hhas : Maps.has D (keyL s) = true := by rw [hD.2.1]; simpa using hs
      have hat := Lib.hid (hD.2.2 _ _ hg (.lit (.int .i64 0)))
      clear hD hbF
      have hend : After w w T F (withText ts s) := ⟨F, by unfold withText; rw [if_pos hs]; exact h, .refl _ _, fun k hk => .inl hk⟩
      have hend' := Lib.hid hend
      clear hend hlt hg
      go_enter Tryz.func90, Tryz.ntmps90
      go_wp2_with (first
        | (at_lookup; refine wpList_lookup_own_ok_int _ rfl _ _ 140 rfl 9 3 .i64 law9 Tryz.underlying140 Tryz.underlying3 (zero3 _) bm ts.length D rfl hmap _ _ rfl hkey ?_; intro c hc hwc; have hc' := Lib.hid hc; clear hc hwc))
      go_ret
      refine ⟨ret_int ?_, hend'.out⟩
      have := hc'.out.symm.trans hat.out
      injection this with this
      injection this with _ this
  · have hidx : numOf ts s = ts.length := List.idxOf_eq_length hs
    have hwt : withText ts s = ts ++ [s] := by unfold withText; rw [if_neg hs]
    rw [hidx, hwt]
    clear hidx hwt
    rcases hm with ⟨rfl, rfl⟩ | ⟨bm, D, rfl, hbF, hmap, hD⟩
    · have hrun := look_nil (w := w) true law9 Tryz.underlying140 (zero3 _) hkey
      go_enter Tryz.func90, Tryz.ntmps90
      go_wp2_with (first
        | (go_at_call 104; refine (add_any F T [] s _ h hs hl hn).mono ?_; rintro e w' ⟨rfl, haf⟩))
      go_ret
      exact ⟨rfl, haf⟩
    · have hhas : Maps.has D (keyL s) = false := by rw [hD.2.1]; simpa using hs
      clear hD hbF
      go_enter Tryz.func90, Tryz.ntmps90
      go_wp2_with (first
        | (at_lookup; refine wpList_lookup_own_ok_int _ rfl _ _ 140 rfl 9 3 .i64 law9 Tryz.underlying140 Tryz.underlying3 (zero3 _) bm ts.length D rfl hmap _ _ rfl hkey ?_; intro c hc hwc; clear hc hwc)
        | (go_at_call 104; refine (add_any F T ts s _ h hs hl hn).mono ?_; rintro e w' ⟨rfl, haf⟩))
      go_ret
      exact ⟨rfl, haf⟩
end Go.Proofs.YticgjbckfpkpjaaGreat
/- Proved here: contracts of package intern: numbers. -/
namespace Go.Proofs.YticgjbckfpkpjaaGreat
open Go.RowKit Go.Maps Go.WideMaps
set_option linter.unusedVariables false

/-- How far numbers has come: block b holds the numbers of k texts. -/
def NumsIn (w wr : World) (T b n : Nat) (F : Nat → Prop) (ts file fin : List (List UInt8)) (k : Nat) : Prop :=
  ∃ Fr, Tab wr T Fr (withAll ts (file.take k)) ∧ But (fun j => F j ∨ j = b) w wr ∧ (∀ j, Fr j → F j ∨ w.heap.size ≤ j) ∧ wr.rowIs b 3 n (fun j => .int .i64 (if j < k then (numOf fin (file.getD j []) : Int) else 0))

section
variable {w wr w' : World} {T b n k : Nat} {F Fr : Nat → Prop} {ts file fin : List (List UInt8)} {s : List UInt8}
theorem nums_step (hk : file[k]? = some s) (hb : b < w.heap.size) (hbF : ¬ F b) (hT : Tab wr T Fr (withAll ts (file.take k))) (hbut : But (fun j => F j ∨ j = b) w wr) (hFr : ∀ j, Fr j → F j ∨ w.heap.size ≤ j)
    (hrow : wr.rowIs b 3 n (fun j => .int .i64 (if j < k then (numOf fin (file.getD j []) : Int) else 0))) (haf : After wr w' T Fr (withText (withAll ts (file.take k)) s)) (hfin : withAll ts file <+: fin) :
    w'.rowIs b 3 n (fun j => .int .i64 (if j < k then (numOf fin (file.getD j []) : Int) else 0)) ∧ NumsIn w (w'.setCell ⟨b, k, none⟩ (.int .i64 (numOf (withAll ts (file.take k)) s))) T b n F ts file fin (k + 1) := by
  obtain ⟨F', hT', hb', hF'⟩ := haf
  have hbr : b < wr.heap.size := hrow.lt
  have hbFr : ¬ Fr b := fun h => (hFr b h).elim hbF (fun h => by omega)
  have hbF' : ¬ F' b := fun h => (hF' b h).elim hbFr (fun h => by omega)
  have hrow' : w'.rowIs b 3 n (fun j => .int .i64 (if j < k then (numOf fin (file.getD j []) : Int) else 0)) := hrow.of_block (hb'.block b hbr hbFr)
  have hta : withAll ts (file.take (k + 1)) = withText (withAll ts (file.take k)) s := by
    rw [take_at hk, withAll_app]; rfl
  have hnum : numOf (withAll ts (file.take k)) s = numOf fin s := by
    refine numOf_pre (List.IsPrefix.trans ?_ hfin)
    rw [← hta]
    conv => rhs; rw [← List.take_append_drop (k + 1) file, withAll_app]
    exact withAll_pre _ _
  refine ⟨hrow', F', ?_, ?_, ?_, ?_⟩
  · rw [hta]
    exact hT'.but (.setCell w' (F := fun j => j = b) (p := ⟨b, k, none⟩) rfl _) (fun j hj e => hbF' (e ▸ hj))
  · exact (hbut.trans hb' (fun j hj => (hFr j hj).elim (fun h => .inl (.inl h)) .inr)).trans (.setCell w' (F := fun j => j = b) (p := ⟨b, k, none⟩) rfl _) (fun j hj => .inl (.inr hj))
  · intro j hj
    rcases hF' j hj with h | h
    · exact hFr j h
    · exact .inr (by have := hbut.size; omega)
  · refine (hrow'.set k _).congr fun j hj => ?_
    rcases Nat.lt_trichotomy j k with h | rfl | h
    · rw [if_neg (by omega), if_pos h, if_pos (by omega)]
    · rw [if_pos rfl, if_pos (by omega), hnum]
      simp [List.getD, hk]
    · rw [if_neg (by omega), if_neg (by omega), if_neg (by omega)]
end

/-- Numbers were given: the slice that came back reads as them. -/
def NumsOut (w w' : World) (e : Ending) (T : Nat) (F : Nat → Prop) (ts file fin : List (List UInt8)) : Prop :=
  ∃ b, e = .returned (.slice (some ⟨b, 0, none⟩) file.length file.length) ∧ w.heap.size ≤ b ∧ w'.rowIs b 3 file.length (fun j => .int .i64 (numOf fin (file.getD j []))) ∧
    ∃ F', Tab w' T F' (withAll ts file) ∧ ¬ F' b ∧ But F w w' ∧ ∀ j, F' j → F j ∨ w.heap.size ≤ j

theorem nums_out {w wr : World} {T n : Nat} {F : Nat → Prop} {ts file fin : List (List UInt8)} (o : Obj) (hlen : file.length = n) (hb : ¬ F w.heap.size) (h : NumsIn (w.alloc o) wr T w.heap.size n F ts file fin n) :
    NumsOut w wr (.returned (.slice (some ⟨w.heap.size, 0, none⟩) n n)) T F ts file fin := by
  subst hlen
  obtain ⟨Fr, hT, hbut, hFr, hrow⟩ := h
  rw [List.take_length] at hT
  have hs : (w.alloc o).heap.size = w.heap.size + 1 := by simp
  refine ⟨w.heap.size, rfl, Nat.le_refl _, hrow.congr fun j hj => by rw [if_pos hj], Fr, hT, fun h => (hFr _ h).elim hb (fun h => by omega), ?_, fun j hj => (hFr j hj).elim .inl (fun h => .inr (by omega))⟩
  exact ⟨hbut.os, hbut.tape, hbut.output, by have := hbut.size; omega, fun k hk hn => (hbut.block k (by omega) (fun h => h.elim hn (fun h => by omega))).trans (Below.heap_alloc _ _ _ hk)⟩

set_option maxHeartbeats 400000 in
theorem numbers_any (F : Nat → Prop) (T B : Nat) (ts file fin : List (List UInt8)) (A : Option Addr) (n c : Nat) (w : World) (h : Tab w T F ts) (hB : B ≤ T) (hA : Strs w B A n file)
    (hl : ∀ s ∈ file, s.length ≤ maxLen) (hn : ts.length + n < 1000000) (hfin : withAll ts file <+: fin) :
    Calls Tryz.prog 56 #[.pointer (some ⟨T, 0, none⟩), .slice A n c] w fun e w' => NumsOut w w' e T F ts file fin := by
  have hlen := hA.len
  have hbF : ¬ F w.heap.size := fun hf => by have := (h.lies _ hf).2; omega
  have hmk := run_make_row' (P := Tryz.prog) 69 3 (.int .i64 0) 8 Tryz.underlying69 info3 rfl .i64 .i64 n (by omega) (by omega)
  have hsw : (w.alloc (.cells (madeCells #[.int .i64 0] n) 3)).heap.size = w.heap.size + 1 := by simp
  have h0 : NumsIn (w.alloc (.cells (madeCells #[.int .i64 0] n) 3)) (w.alloc (.cells (madeCells #[.int .i64 0] n) 3)) T w.heap.size n F ts file fin 0 :=
    ⟨F, (h.but (F := F) (G := fun _ => False) (.alloc w _) (fun _ _ h => h)), .refl _ _, fun j hj => .inl hj, (World.rowIs_made w (.int .i64 0) n _).congr fun j _ => by rw [if_neg (by omega)]⟩
  have hswh := Lib.hid hsw
  have hTF := h.lies T h.head
  have hlies := h.lies
  clear hsw
  go_enter Tryz.func56, Tryz.ntmps56
  go_wp2
  go_loopw [13] (fun i wr => ∃ k : Nat, k ≤ n ∧ i = .int .i64 k ∧ NumsIn (w.alloc (.cells (madeCells #[.int .i64 0] n) 3)) wr T w.heap.size n F ts file fin k) (fun i _ => n - (intOf i).toNat)
  case atStart => exact ⟨0, Nat.zero_le _, rfl, h0⟩
  case round =>
    obtain ⟨k, hk, rfl, hN⟩ := hrel
    obtain ⟨wo, rfl⟩ : ∃ wo : World, wo = wr := ⟨_, rfl⟩
    by_cases hlt : k < n
    · obtain ⟨Fr, hT, hbut, hFr, hrow⟩ := hN
      obtain ⟨b, o, t, rfl, hb, ht, hc0⟩ := hA.at_ (k := k) hlt
      have htl : t.length ≤ maxLen := hl t (List.mem_of_getElem? ht)
      have hc : wo.cell? ⟨b, o + k, none⟩ = some (.string (str t)) := by
        rw [World.cell?_of_block (w := w.alloc (.cells (madeCells #[.int .i64 0] n) 3)) (hbut.block b (by rw [hswh.out]; omega) (fun h => h.elim (fun h => by have := (hlies _ h).1; omega) (fun h => by omega))), World.cell?_alloc_lt _ _ _ (by show b < _; omega)]
        exact hc0
      have hfew : (withAll ts (file.take k)).length < 1000000 := by
        have := withAll_len (file.take k) ts
        have := List.length_take_le k file
        omega
      clear hc0
      go_wp2_with (go_at_call 90; refine (Id_tab Fr T _ t _ hT htl hfew).mono ?_; rintro e w' ⟨rfl, haf⟩; have hst := nums_step ht (by rw [hswh.out]; omega) hbF hT hbut hFr hrow haf hfin; have hck : w'.cell? ⟨w.heap.size, k, none⟩ = some (.int .i64 0) := (by rw [hst.1.cell (i := k) hlt]; simp); have hfk := hst.1.frozen k; have hN' := Lib.hid hst.2; clear hst)
      go_roundw
      case rel => exact ⟨k + 1, by omega, by go_num, hN'.out⟩
      case measure => simp [intOf]; omega
    · obtain rfl : k = n := by omega
      go_wp2
      go_ret
      exact nums_out _ hlen hbF hN
end Go.Proofs.YticgjbckfpkpjaaGreat

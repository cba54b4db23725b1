/- Proved here: contracts of package intern: add, Id. -/
import Derived.Test.YtaniikdnlebknaaTable
namespace Go.Proofs.Ytaniikdnlebknaa
open Go.RowKit Go.Maps Go.WideMaps
set_option linter.unusedVariables false

/-- Behind a step that touches blocks of F alone, block T is a table of the texts ts. -/
def After (w w' : World) (T : Nat) (F : Nat → Prop) (ts : List (List UInt8)) : Prop := ∃ F', Tab w' T F' ts ∧ But F w w' ∧ ∀ k, F' k → F k ∨ w.heap.size ≤ k

theorem info9 : (Try.prog.info? 9).map (fun i => (i.zero, i.size, i.bytes)) = some (some (.string ⟨#[]⟩), 1, 16) := by kernel_rfl

theorem cellsT {w : World} {T j : Nat} {C : Array Value} {t : TypeId} (x : Value) (h : w.heap[T]? = some (.cells C t (0, 0))) : (w.setCell ⟨T, j, none⟩ x).heap[T]? = some (.cells (C.setIfInBounds j x) t (0, 0)) :=
  heap_setCell_same w T j C t x h

/-- What add has done, in the end. -/
theorem add_end {F : Nat → Prop} {T : Nat} {ts : List (List UInt8)} {s : List UInt8} {w w0 w1 w2 : World} (h : Tab w T F ts) (hs : s ∉ ts) (hl : s.length ≤ maxLen) (hn : ts.length < 1000000)
    {bm : Nat} {D : DataW Unit} {v v' : Value} (hbw : But (fun k => F k ∨ k = bm) w w0) (hbF : F bm ∨ w.heap.size ≤ bm) (hbT : bm ≠ T)
    (hb0 : w0.heap[T]? = some (.cells #[.map (some bm), v, .int .i64 ((ts.length : Int) + 1)] 49 (0, 0))) (hlt0 : T < w0.heap.size)
    (hvF : ∀ k, v.ownBlock = some k → F k ∧ k ≠ T ∧ k ≠ bm)
    (hown1 : w1.ownsMap Try.prog 9 (plainElem Try.prog 3) bm (ts.length + 1) (D.put (keyL s) (numD ts.length))) (hg1 : w0.grownBy w1 (some bm)) (hD : Tells D ts)
    (hown2 : w2.ownsRow (T + 1) 9 1 v' (ts.length + 1) ((ts.map fun s => .string (str s)) ++ [.string (str s)])) (o : Obj) (hg2 : (w1.alloc o).grownBy w2 v.ownBlock)
    (hloc : v'.ownBlock = v.ownBlock ∨ v'.ownBlock = some (w1.alloc o).heap.size) : After w (w2.setCell ⟨T, 1, none⟩ v') T F (ts ++ [s]) := by
  have hT1 : w1.heap[T]? = some (.cells #[.map (some bm), v, .int .i64 ((ts.length : Int) + 1)] 49 (0, 0)) := (hg1.block T hlt0 (fun e => hbT (by injection e with e; exact e.symm))).trans hb0
  have hlt1 : T < w1.heap.size := Nat.lt_of_lt_of_le hlt0 hg1.size
  have hT2 : w2.heap[T]? = some (.cells #[.map (some bm), v, .int .i64 ((ts.length : Int) + 1)] 49 (0, 0)) := by
    rw [hg2.block T (by simp; omega) (fun e => (hvF T e.symm).2.1 rfl), Below.heap_alloc _ _ _ hlt1]; exact hT1
  have hbm1 : bm < w1.heap.size := hown1.lt
  have hs2 : w1.heap.size + 1 ≤ w2.heap.size := by have := hg2.size; simpa using this
  have hown2' : w2.ownsMap Try.prog 9 (plainElem Try.prog 3) bm (ts.length + 1) (D.put (keyL s) (numD ts.length)) :=
    (hown1.alloc o).kept hg2 (fun e => (hvF bm e.symm).2.2 rfl)
  have hown3 : (w2.setCell ⟨T, 1, none⟩ v').ownsMap Try.prog 9 (plainElem Try.prog 3) bm (ts.length + 1) (D.put (keyL s) (numD ts.length)) := hown2'.setCell hbT _
  have hll := hown2.lt
  have hb01 : But (fun k => F k ∨ k = bm) w w1 := hbw.trans (.of_grown hg1 (F := fun k => k = bm) (by rintro k ⟨⟩; rfl)) (fun k hk => .inl (.inr hk))
  have hb02 : But (fun k => F k ∨ k = bm) w w2 := (hb01.trans (F' := F) (.alloc _ o) (fun k hk => .inl (.inl hk))).trans (.of_grown hg2 (F := F) (fun k hk => (hvF k hk).1)) (fun k hk => .inl (.inl hk))
  have hb03 : But (fun k => F k ∨ k = bm) w (w2.setCell ⟨T, 1, none⟩ v') := hb02.trans (.setCell w2 (F := F) (p := ⟨T, 1, none⟩) h.head v') (fun k hk => .inl (.inl hk))
  have hsz : (w2.setCell ⟨T, 1, none⟩ v').heap.size = w2.heap.size := by simp [World.setCell]
  have hsw : w.heap.size ≤ w2.heap.size := hb02.size
  refine ⟨fun k => (F k ∨ k = bm) ∨ v'.ownBlock = some k, ⟨?_, ?_, ?_, .inl (.inl h.head), fun k hk => ?_, .map (some bm), v', ?_, ?_, fun k hk => .inr hk, .inr ⟨bm, _, rfl, .inl (.inr rfl), ?_, hD.put hs⟩⟩, ?_, fun k hk => ?_⟩
  · rw [List.nodup_append]
    exact ⟨h.nodup, by simp, fun a ha b hb e => by simp at hb; subst hb; exact hs (e ▸ ha)⟩
  · simp; omega
  · intro t ht
    rcases List.mem_append.1 ht with ht | ht
    · exact h.texts t ht
    · simp at ht; subst ht; exact hl
  · rw [hsz]
    rcases hk with (hk | rfl) | hk
    · have := h.lies k hk; omega
    · refine ⟨?_, by omega⟩
      rcases hbF with hf | hf
      · exact (h.lies _ hf).1
      · have := (h.lies T h.head).2; omega
    · have := hll k hk; omega
  · rw [cellsT v' hT2]; simp
  · have := ownsRow_setCell_below hown2 (a := ⟨T, 1, none⟩) (by simp) v'
    simpa using this
  · simpa using hown3
  · refine ⟨hb03.os, hb03.tape, hb03.output, hb03.size, fun k hk hn => hb03.block k hk (fun hf => ?_)⟩
    rcases hf with hf | rfl
    · exact hn hf
    · rcases hbF with hf | hf
      · exact hn hf
      · omega
  · rcases hk with (hk | rfl) | hk
    · exact .inl hk
    · exact hbF
    · rcases hloc with hv | hv
      · exact .inl (hvF k (hv ▸ hk)).1
      · rw [hv] at hk
        injection hk with hk
        have := hb01.size
        simp at hk
        exact .inr (by omega)

section
variable {w0 w1 w2 : World} {T bm n : Nat} {X o : Obj} {v : Value} {F : Nat → Prop} {ts : List (List UInt8)}
theorem stay1 (hb0 : w0.heap[T]? = some X) (hbT : bm ≠ T) (hg : w0.grownBy w1 (some bm)) : w1.heap[T]? = some X :=
  (hg.block T (Array.getElem?_eq_some_iff.1 hb0).1 (fun e => hbT (by injection e with e; exact e.symm))).trans hb0
theorem stay2 (hb0 : w0.heap[T]? = some X) (hbT : bm ≠ T) (hvT : ∀ k, v.ownBlock = some k → F k ∧ k ≠ T ∧ k ≠ bm) (hg : w0.grownBy w1 (some bm)) (hg2 : (w1.alloc o).grownBy w2 v.ownBlock) : w2.heap[T]? = some X := by
  have h1 := stay1 hb0 hbT hg
  have hlt1 := (Array.getElem?_eq_some_iff.1 h1).1
  rw [hg2.block T (by simp; omega) (fun e => (hvT T e.symm).2.1 rfl), Below.heap_alloc _ _ _ hlt1]
  exact h1
theorem row1 {base : Nat} {xs : List Value} (hown : w0.ownsRow base 9 1 v n xs) (hvT : ∀ k, v.ownBlock = some k → F k ∧ k ≠ T ∧ k ≠ bm) (hg : w0.grownBy w1 (some bm)) : w1.ownsRow base 9 1 v n xs :=
  hown.kept hg (by
    rcases hv : v.ownBlock with _ | k
    · exact .inl rfl
    · exact .inr (fun e => (hvT k hv).2.2 (by injection e)))
end

set_option maxHeartbeats 400000 in
theorem add_some (F : Nat → Prop) (T : Nat) (ts : List (List UInt8)) (s : List UInt8) (w : World) (h : Tab w T F ts) (hs : s ∉ ts) (hl : s.length ≤ maxLen) (hn : ts.length < 1000000)
    (bm : Nat) (D : DataW Unit) (v : Value) (hb : w.heap[T]? = some (.cells #[.map (some bm), v, .int .i64 ts.length] 49 (0, 0))) (hown : w.ownsRow (T + 1) 9 1 v ts.length (ts.map fun s => .string (str s)))
    (hvF : ∀ k, v.ownBlock = some k → F k) (hbF : F bm) (hmap : w.ownsMap Try.prog 9 (plainElem Try.prog 3) bm ts.length D) (hD : Tells D ts) :
    Calls Try.prog 19 #[.pointer (some ⟨T, 0, none⟩), .string (str s)] w fun e w' => e = .returned (.int .i64 ts.length) ∧ After w w' T F (ts ++ [s]) := by
  have c0 : w.cell? ⟨T, 0, none⟩ = some (.map (some bm)) := cells_of hb 0
  have c2 : w.cell? ⟨T, 2, none⟩ = some (.int .i64 ts.length) := cells_of hb 2
  have f2 : w.frozen? ⟨T, 2, none⟩ = false := unfrozen_of hb 2
  have hkey := key_of hl
  have hwf : (Lit.int .i64 (ts.length : Int)).wf = true := WalkArith.wf_i64 (by omega)
  have hbT : bm ≠ T := by
    rintro rfl
    obtain ⟨es, cl, hq, _⟩ := hmap
    rw [hb] at hq; cases hq
  have hvT : ∀ k, v.ownBlock = some k → F k ∧ k ≠ T ∧ k ≠ bm := fun k hk => ⟨hvF k hk, by have := (hown.lt k hk).1; omega, by
    rintro rfl
    obtain ⟨es, cl, hq, _⟩ := hmap
    rcases hown.2 with ⟨rfl, _⟩ | ⟨g, cap, cur, rfl, _, hg, _⟩
    · simp [Value.ownBlock] at hk
    · simp [Value.ownBlock] at hk; subst hk; rw [hg] at hq; cases hq⟩
  have hb0 : Hid ((w.setCell ⟨T, 2, none⟩ (.int .i64 ((ts.length : Int) + 1))).heap[T]? = some (.cells #[.map (some bm), v, .int .i64 ((ts.length : Int) + 1)] 49 (0, 0))) := Lib.hid (by
    rw [cellsT _ hb]; simp)
  have hown0 := ownsRow_setCell_below hown (a := ⟨T, 2, none⟩) (by simp) (.int .i64 ((ts.length : Int) + 1))
  have hmap0 := hmap.setCell (a := ⟨T, 2, none⟩) hbT (.int .i64 ((ts.length : Int) + 1))
  have hbut : But (fun k => F k ∨ k = bm) w (w.setCell ⟨T, 2, none⟩ (.int .i64 ((ts.length : Int) + 1))) := (But.setCell w (F := F) (p := ⟨T, 2, none⟩) h.head _).more fun k hk => .inl hk
  have hw := (h.lies T h.head).2
  clear hb hown hmap
  have q42 := fun (w : World) (r : Option Nat) => run_eql_map_nil (P := Try.prog) w 42 _ _ r Try.underlying42
  obtain ⟨i0, hi, hz0, hz1, hz2⟩ := info_parts info9
  go_enter Try.func19, Try.ntmps19
  go_wp2_with (first
    | (go_at_call 22; refine (Add_any _ _ _ _ c2 f2 (by omega) (by omega) (by omega) (by omega)).mono ?_; rintro e w' ⟨rfl, rfl⟩)
    | (at_mapUpdate; refine wpList_mapUpdate_own _ rfl _ _ _ 42 rfl 9 3 law9 Try.underlying42 _ bm ts.length D rfl hmap0 (by unfold maxLen; omega) _ _ _ rfl rfl hkey _ [] (plainElem_int Try.underlying3 hwf) ?_; intro w1 hown1 hgrow1; have c11 : w1.cell? ⟨T, 1, none⟩ = some v := cells_of (stay1 hb0.out hbT hgrow1) 1; have hs1 := hgrow1.size)
    | (at_builtin; refine wpList_append_own_at _ rfl _ _ 22 rfl (T + 1) 9 i0 (.string ⟨#[]⟩) 1 16 Try.underlying22 hi hz0 hz1 hz2 rfl (by decide) v ts.length _ rfl ((row1 hown0 hvT hgrow1).alloc _) ⟨w1.heap.size, 0, none⟩ 1 1 [.string (str s)] rfl rfl (cell_one_new _ _ _) (by simp [Value.oneCell']) (by unfold maxLen; omega) (by omega) (by simp at hs1 ⊢; omega) ?_; intro v' w2 hown2 hgrow2 hnil2 hloc2; clear hnil2; obtain ⟨A', cap', rfl, _, _, _⟩ := own_slice hown2; have c21 : w2.cell? ⟨T, 1, none⟩ = some v := cells_of (stay2 hb0.out hbT hvT hgrow1 hgrow2) 1; have f21 : w2.frozen? ⟨T, 1, none⟩ = false := unfrozen_of (stay2 hb0.out hbT hvT hgrow1 hgrow2) 1))
  go_ret
  exact ⟨rfl, add_end h hs hl hn hbut (.inl hbF) hbT hb0.out (Array.getElem?_eq_some_iff.1 hb0.out).1 hvT hown1 hgrow1 hD hown2 _ hgrow2 hloc2⟩
end Go.Proofs.Ytaniikdnlebknaa

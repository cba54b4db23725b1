/- Proved here: contracts of package intern: add where the table has no text yet; add; Id. -/
import Derived.Test.YtaniikdnlebknaaAdd
namespace Go.Proofs.Ytaniikdnlebknaa
open Go.RowKit Go.Maps Go.WideMaps
set_option linter.unusedVariables false

theorem none0 {F : Nat → Prop} {T : Nat} {w : World} {v : Value} (h : Tab w T F []) (hb : w.heap[T]? = some (.cells #[.map none, v, .int .i64 0] 49 (0, 0))) (hown : w.ownsRow (T + 1) 9 1 v 0 [])
    {w0 : World} (e : w0 = ((w.setCell ⟨T, 0, none⟩ (.map (some w.heap.size))).alloc (.map #[] 0)).setCell ⟨T, 2, none⟩ (.int .i64 1)) :
    w0.heap[T]? = some (.cells #[.map (some w.heap.size), v, .int .i64 1] 49 (0, 0)) ∧ w0.ownsRow (T + 1) 9 1 v 0 [] ∧ w0.ownsMap (H := Unit) Try.prog 9 (plainElem Try.prog 3) w.heap.size 0 (.map []) ∧ But (fun k => F k ∨ k = w.heap.size) w w0 ∧ w.heap.size ≠ T := by
  have hT := (h.lies T h.head).2
  have hne : w.heap.size ≠ T := by omega
  have hsz : (w.setCell ⟨T, 0, none⟩ (.map (some w.heap.size))).heap.size = w.heap.size := by simp [World.setCell]
  have h1 : ((w.setCell ⟨T, 0, none⟩ (.map (some w.heap.size))).alloc (.map #[] 0)).heap[T]? = some (.cells #[.map (some w.heap.size), v, .int .i64 0] 49 (0, 0)) := by
    rw [Below.heap_alloc _ _ _ (by rw [hsz]; exact hT), cellsT _ hb]
    simp
  subst e
  refine ⟨?_, ?_, ?_, ?_, hne⟩
  · rw [cellsT _ h1]; simp
  · exact ownsRow_setCell_below ((ownsRow_setCell_below hown (a := ⟨T, 0, none⟩) (by simp) _).alloc _) (a := ⟨T, 2, none⟩) (by simp) _
  · have := World.ownsMap_made (H := Unit) (w.setCell ⟨T, 0, none⟩ (.map (some w.heap.size))) Try.prog 9 (plainElem Try.prog 3)
    rw [hsz] at this
    exact this.setCell (a := ⟨T, 2, none⟩) hne _
  · exact (((But.setCell w (F := F) (p := ⟨T, 0, none⟩) h.head _).trans (.alloc (F := F) _ _) (fun k hk => .inl hk)).trans (.setCell _ (F := F) (p := ⟨T, 2, none⟩) h.head _) (fun k hk => .inl hk)).more fun k hk => .inl hk

set_option maxHeartbeats 400000 in
theorem add_none (F : Nat → Prop) (T : Nat) (s : List UInt8) (w : World) (h : Tab w T F []) (hl : s.length ≤ maxLen)
    (v : Value) (hb : w.heap[T]? = some (.cells #[.map none, v, .int .i64 0] 49 (0, 0))) (hown : w.ownsRow (T + 1) 9 1 v 0 [])
    (hvF : ∀ k, v.ownBlock = some k → F k) :
    Calls Try.prog 19 #[.pointer (some ⟨T, 0, none⟩), .string (str s)] w fun e w' => e = .returned (.int .i64 0) ∧ After w w' T F [s] := by
  have c0 : w.cell? ⟨T, 0, none⟩ = some (.map none) := cells_of hb 0
  have f0 : w.frozen? ⟨T, 0, none⟩ = false := unfrozen_of hb 0
  have hkey := key_of hl
  have hwf : (Lit.int .i64 0).wf = true := WalkArith.wf_i64 (by omega)
  have hTlt : T < w.heap.size := (h.lies T h.head).2
  have c01 : (w.alloc (.map #[] 0)).cell? ⟨T, 0, none⟩ = some (.map none) := by rw [World.cell?_alloc_lt _ _ _ hTlt]; exact c0
  have f01 : (w.alloc (.map #[] 0)).frozen? ⟨T, 0, none⟩ = false := by rw [World.frozen?_of_block (w := w) (Below.heap_alloc _ _ _ hTlt)]; exact f0
  have hsz : (w.setCell ⟨T, 0, none⟩ (.map (some w.heap.size))).heap.size = w.heap.size := by simp [World.setCell]
  have hA : ((w.setCell ⟨T, 0, none⟩ (.map (some w.heap.size))).alloc (.map #[] 0)).heap[T]? = some (.cells #[.map (some w.heap.size), v, .int .i64 0] 49 (0, 0)) := by
    rw [Below.heap_alloc _ _ _ (by rw [hsz]; exact hTlt), cellsT _ hb]
    simp
  have c2 : ((w.setCell ⟨T, 0, none⟩ (.map (some w.heap.size))).alloc (.map #[] 0)).cell? ⟨T, 2, none⟩ = some (.int .i64 0) := cells_of hA 2
  have f2 : ((w.setCell ⟨T, 0, none⟩ (.map (some w.heap.size))).alloc (.map #[] 0)).frozen? ⟨T, 2, none⟩ = false := unfrozen_of hA 2
  have hvT : ∀ k, v.ownBlock = some k → F k ∧ k ≠ T ∧ k ≠ w.heap.size := fun k hk => ⟨hvF k hk, by have := (hown.lt k hk).1; omega, by have := (hown.lt k hk).2; omega⟩
  have hn0 := fun {w0 : World} => none0 (w0 := w0) h hb hown
  clear hA hb hown
  have hszh := Lib.hid hsz
  clear hsz
  have q42 := fun (w : World) (r : Option Nat) => run_eql_map_nil (P := Try.prog) w 42 _ _ r Try.underlying42
  have hmm := @run_makeMap Try.prog
  obtain ⟨i0, hi, hz0, hz1, hz2⟩ := info_parts info9
  go_enter Try.func19, Try.ntmps19
  go_wp2_with (first
    | (go_at_call 22; refine (Add_any _ _ _ _ c2 f2 (by omega) (by omega) (by omega) (by omega)).mono ?_; rintro e w0 ⟨rfl, hw0⟩; obtain ⟨hb0, hown0, hmap0, hbut, hbT⟩ := hn0 hw0; clear hw0; have hb0' := Lib.hid hb0; have c00 := cells_of hb0 0; have hbTh := Lib.hid hbT; clear hb0 hbT; have hs0 := hbut.size)
    | (at_mapUpdate; refine wpList_mapUpdate_own _ rfl _ _ _ 42 rfl 9 3 law9 Try.underlying42 _ w.heap.size 0 _ rfl hmap0 (by unfold maxLen; omega) _ _ _ rfl rfl hkey _ [] (plainElem_int Try.underlying3 hwf) ?_; intro w1 hown1 hgrow1; have c11 : w1.cell? ⟨T, 1, none⟩ = some v := cells_of (stay1 hb0'.out hbTh.out hgrow1) 1; have hs1 := hgrow1.size)
    | (at_builtin; refine wpList_append_own_at _ rfl _ _ 22 rfl (T + 1) 9 i0 (.string ⟨#[]⟩) 1 16 Try.underlying22 hi hz0 hz1 hz2 rfl (by decide) v 0 _ rfl ((row1 hown0 hvT hgrow1).alloc _) ⟨w1.heap.size, 0, none⟩ 1 1 [.string (str s)] rfl rfl (cell_one_new _ _ _) (by simp [Value.oneCell']) (by unfold maxLen; omega) (by omega) (by simp at hs1 ⊢; omega) ?_; intro v' w2 hown2 hgrow2 hnil2 hloc2; clear hnil2; obtain ⟨A', cap', rfl, _, _, _⟩ := own_slice hown2; have c21 : w2.cell? ⟨T, 1, none⟩ = some v := cells_of (stay2 hb0'.out hbTh.out hvT hgrow1 hgrow2) 1; have f21 : w2.frozen? ⟨T, 1, none⟩ = false := unfrozen_of (stay2 hb0'.out hbTh.out hvT hgrow1 hgrow2) 1))
  go_ret
  refine ⟨rfl, ?_⟩
  have := add_end (v' := .slice A' (0 + 1) cap') h (by simp) hl (by simp) hbut (.inr (Nat.le_refl _)) hbTh.out hb0'.out (Array.getElem?_eq_some_iff.1 hb0'.out).1 hvT hown1 hgrow1 tells_nil hown2 _ hgrow2 hloc2
  simpa using this

theorem add_any (F : Nat → Prop) (T : Nat) (ts : List (List UInt8)) (s : List UInt8) (w : World) (h : Tab w T F ts) (hs : s ∉ ts) (hl : s.length ≤ maxLen) (hn : ts.length < 1000000) :
    Calls Try.prog 19 #[.pointer (some ⟨T, 0, none⟩), .string (str s)] w fun e w' => e = .returned (.int .i64 ts.length) ∧ After w w' T F (ts ++ [s]) := by
  obtain ⟨m, v, hb, hown, hvF, hm⟩ := h.rest
  rcases hm with ⟨rfl, rfl⟩ | ⟨bm, D, rfl, hbF, hmap, hD⟩
  · exact add_none F T s w h hl v hb hown hvF
  · exact add_some F T ts s w h hs hl hn bm D v hb hown hvF hbF hmap hD

/-- The number of s in a table of the texts ts: where it stands, or, if it doesn't, how many there are. -/
def numOf (ts : List (List UInt8)) (s : List UInt8) : Nat := ts.idxOf s
/-- The texts of a table behind s was asked. -/
def withText (ts : List (List UInt8)) (s : List UInt8) : List (List UInt8) := if s ∈ ts then ts else ts ++ [s]

set_option maxHeartbeats 400000 in
theorem Id_tab (F : Nat → Prop) (T : Nat) (ts : List (List UInt8)) (s : List UInt8) (w : World) (h : Tab w T F ts) (hl : s.length ≤ maxLen) (hn : ts.length < 1000000) :
    Calls Try.prog 12 #[.pointer (some ⟨T, 0, none⟩), .string (str s)] w fun e w' => e = .returned (.int .i64 (numOf ts s)) ∧ After w w' T F (withText ts s) := by
  have hkey := key_of hl
  obtain ⟨m, v, hb, hown, hvF, hm⟩ := h.rest
  have c0 : w.cell? ⟨T, 0, none⟩ = some m := cells_of hb 0
  clear hb hown hvF
  by_cases hs : s ∈ ts
  · have hlt := List.idxOf_lt_length_of_mem hs
    have hg : ts[ts.idxOf s]? = some s := by rw [List.getElem?_eq_getElem hlt, List.getElem_idxOf]
    rcases hm with ⟨rfl, rfl⟩ | ⟨bm, D, rfl, hbF, hmap, hD⟩
    · cases hs
    · have hhas : Maps.has D (keyL s) = true := by rw [hD.2.1]; simpa using hs
      have hat := Lib.hid (hD.2.2 _ _ hg (.lit (.int .i64 0)))
      clear hD hbF
      have hend : After w w T F (withText ts s) := ⟨F, by unfold withText; rw [if_pos hs]; exact h, .refl _ _, fun k hk => .inl hk⟩
      have hend' := Lib.hid hend
      clear hend hlt hg
      go_enter Try.func12, Try.ntmps12
      go_wp2_with (first
        | (at_lookup; refine wpList_lookup_own_ok_int _ rfl _ _ 42 rfl 9 3 .i64 law9 Try.underlying42 Try.underlying3 (zero3 _) bm ts.length D rfl hmap _ _ rfl hkey ?_; intro c hc hwc; have hc' := Lib.hid hc; clear hc hwc))
      go_ret
      refine ⟨ret_int ?_, hend'.out⟩
      have := hc'.out.symm.trans hat.out
      injection this with this
      injection this with _ this
  · have hidx : numOf ts s = ts.length := List.idxOf_eq_length hs
    have hwt : withText ts s = ts ++ [s] := by unfold withText; rw [if_neg hs]
    rw [hidx, hwt]
    clear hidx hwt
    rcases hm with ⟨rfl, rfl⟩ | ⟨bm, D, rfl, hbF, hmap, hD⟩
    · have hrun := look_nil (w := w) true law9 Try.underlying42 (zero3 _) hkey
      go_enter Try.func12, Try.ntmps12
      go_wp2_with (first
        | (go_at_call 19; refine (add_any F T [] s _ h hs hl hn).mono ?_; rintro e w' ⟨rfl, haf⟩))
      go_ret
      exact ⟨rfl, haf⟩
    · have hhas : Maps.has D (keyL s) = false := by rw [hD.2.1]; simpa using hs
      clear hD hbF
      go_enter Try.func12, Try.ntmps12
      go_wp2_with (first
        | (at_lookup; refine wpList_lookup_own_ok_int _ rfl _ _ 42 rfl 9 3 .i64 law9 Try.underlying42 Try.underlying3 (zero3 _) bm ts.length D rfl hmap _ _ rfl hkey ?_; intro c hc hwc; clear hc hwc)
        | (go_at_call 19; refine (add_any F T ts s _ h hs hl hn).mono ?_; rintro e w' ⟨rfl, haf⟩))
      go_ret
      exact ⟨rfl, haf⟩
end Go.Proofs.Ytaniikdnlebknaa

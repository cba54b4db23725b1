/- Proved here: texts joined: AddN, Nums, All. -/
import Derived.Test.YtoephlkfejcadaaGreatBf36
import Derived.Deep.OwnRows
/- Proved here: contracts of package intern: add where the table has no text yet; add; Id. -/
namespace Go.Proofs.YtoephlkfejcadaaGreat
open Go.RowKit Go.Maps Go.WideMaps
set_option linter.unusedVariables false

theorem none0 {F : Nat → Prop} {T : Nat} {w : World} {v : Value} (h : Tab w T F []) (hb : w.heap[T]? = some (.cells #[.map none, v, .int .i64 0] 153 (0, 0))) (hown : w.ownsRow (T + 1) 9 1 v 0 [])
    {w0 : World} (e : w0 = ((w.setCell ⟨T, 0, none⟩ (.map (some w.heap.size))).alloc (.map #[] 0)).setCell ⟨T, 2, none⟩ (.int .i64 1)) :
    w0.heap[T]? = some (.cells #[.map (some w.heap.size), v, .int .i64 1] 153 (0, 0)) ∧ w0.ownsRow (T + 1) 9 1 v 0 [] ∧ w0.ownsMap (H := Unit) Tryz.prog 9 (plainElem Tryz.prog 3) w.heap.size 0 (.map []) ∧ But (fun k => F k ∨ k = w.heap.size) w w0 ∧ w.heap.size ≠ T := by
  have hT := (h.lies T h.head).2
  have hne : w.heap.size ≠ T := by omega
  have hsz : (w.setCell ⟨T, 0, none⟩ (.map (some w.heap.size))).heap.size = w.heap.size := by simp [World.setCell]
  have h1 : ((w.setCell ⟨T, 0, none⟩ (.map (some w.heap.size))).alloc (.map #[] 0)).heap[T]? = some (.cells #[.map (some w.heap.size), v, .int .i64 0] 153 (0, 0)) := by
    rw [Below.heap_alloc _ _ _ (by rw [hsz]; exact hT), cellsT _ hb]
    simp
  subst e
  refine ⟨?_, ?_, ?_, ?_, hne⟩
  · rw [cellsT _ h1]; simp
  · exact ownsRow_setCell_below ((ownsRow_setCell_below hown (a := ⟨T, 0, none⟩) (by simp) _).alloc _) (a := ⟨T, 2, none⟩) (by simp) _
  · have := World.ownsMap_made (H := Unit) (w.setCell ⟨T, 0, none⟩ (.map (some w.heap.size))) Tryz.prog 9 (plainElem Tryz.prog 3)
    rw [hsz] at this
    exact this.setCell (a := ⟨T, 2, none⟩) hne _
  · exact (((But.setCell w (F := F) (p := ⟨T, 0, none⟩) h.head _).trans (.alloc (F := F) _ _) (fun k hk => .inl hk)).trans (.setCell _ (F := F) (p := ⟨T, 2, none⟩) h.head _) (fun k hk => .inl hk)).more fun k hk => .inl hk

set_option maxHeartbeats 400000 in
theorem add_none (F : Nat → Prop) (T : Nat) (s : List UInt8) (w : World) (h : Tab w T F []) (hl : s.length ≤ maxLen)
    (v : Value) (hb : w.heap[T]? = some (.cells #[.map none, v, .int .i64 0] 153 (0, 0))) (hown : w.ownsRow (T + 1) 9 1 v 0 [])
    (hvF : ∀ k, v.ownBlock = some k → F k) :
    Calls Tryz.prog 111 #[.pointer (some ⟨T, 0, none⟩), .string (str s)] w fun e w' => e = .returned (.int .i64 0) ∧ After w w' T F [s] := by
  have c0 : w.cell? ⟨T, 0, none⟩ = some (.map none) := cells_of hb 0
  have f0 : w.frozen? ⟨T, 0, none⟩ = false := unfrozen_of hb 0
  have hkey := key_of hl
  have hwf : (Lit.int .i64 0).wf = true := WalkArith.wf_i64 (by omega)
  have hTlt : T < w.heap.size := (h.lies T h.head).2
  have c01 : (w.alloc (.map #[] 0)).cell? ⟨T, 0, none⟩ = some (.map none) := by rw [World.cell?_alloc_lt _ _ _ hTlt]; exact c0
  have f01 : (w.alloc (.map #[] 0)).frozen? ⟨T, 0, none⟩ = false := by rw [World.frozen?_of_block (w := w) (Below.heap_alloc _ _ _ hTlt)]; exact f0
  have hsz : (w.setCell ⟨T, 0, none⟩ (.map (some w.heap.size))).heap.size = w.heap.size := by simp [World.setCell]
  have hA : ((w.setCell ⟨T, 0, none⟩ (.map (some w.heap.size))).alloc (.map #[] 0)).heap[T]? = some (.cells #[.map (some w.heap.size), v, .int .i64 0] 153 (0, 0)) := by
    rw [Below.heap_alloc _ _ _ (by rw [hsz]; exact hTlt), cellsT _ hb]
    simp
  have c2 : ((w.setCell ⟨T, 0, none⟩ (.map (some w.heap.size))).alloc (.map #[] 0)).cell? ⟨T, 2, none⟩ = some (.int .i64 0) := cells_of hA 2
  have f2 : ((w.setCell ⟨T, 0, none⟩ (.map (some w.heap.size))).alloc (.map #[] 0)).frozen? ⟨T, 2, none⟩ = false := unfrozen_of hA 2
  have hvT : ∀ k, v.ownBlock = some k → F k ∧ k ≠ T ∧ k ≠ w.heap.size := fun k hk => ⟨hvF k hk, by have := (hown.lt k hk).1; omega, by have := (hown.lt k hk).2; omega⟩
  have hn0 := fun {w0 : World} => none0 (w0 := w0) h hb hown
  clear hA hb hown
  have hszh := Lib.hid hsz
  clear hsz
  have q42 := fun (w : World) (r : Option Nat) => run_eql_map_nil (P := Tryz.prog) w 148 _ _ r Tryz.underlying148
  have hmm := @run_makeMap Tryz.prog
  obtain ⟨i0, hi, hz0, hz1, hz2⟩ := info_parts info9
  go_enter Tryz.func111, Tryz.ntmps111
  go_wp2_with (first
    | (go_at_call 124; refine (Add_any _ _ _ _ c2 f2 (by omega) (by omega) (by omega) (by omega)).mono ?_; rintro e w0 ⟨rfl, hw0⟩; obtain ⟨hb0, hown0, hmap0, hbut, hbT⟩ := hn0 hw0; clear hw0; have hb0' := Lib.hid hb0; have c00 := cells_of hb0 0; have hbTh := Lib.hid hbT; clear hb0 hbT; have hs0 := hbut.size)
    | (at_mapUpdate; refine wpList_mapUpdate_own _ rfl _ _ _ 148 rfl 9 3 law9 Tryz.underlying148 _ w.heap.size 0 _ rfl hmap0 (by unfold maxLen; omega) _ _ _ rfl rfl hkey _ [] (plainElem_int Tryz.underlying3 hwf) ?_; intro w1 hown1 hgrow1; have c11 : w1.cell? ⟨T, 1, none⟩ = some v := cells_of (stay1 hb0'.out hbTh.out hgrow1) 1; have hs1 := hgrow1.size)
    | (at_builtin; refine wpList_append_own_at _ rfl _ _ 22 rfl (T + 1) 9 i0 (.string ⟨#[]⟩) 1 16 Tryz.underlying22 hi hz0 hz1 hz2 rfl (by decide) v 0 _ rfl ((row1 hown0 hvT hgrow1).alloc _) ⟨w1.heap.size, 0, none⟩ 1 1 [.string (str s)] rfl rfl (cell_one_new _ _ _) (by simp [Value.oneCell']) (by unfold maxLen; omega) (by omega) (by simp at hs1 ⊢; omega) ?_; intro v' w2 hown2 hgrow2 hnil2 hloc2; clear hnil2; obtain ⟨A', cap', rfl, _, _, _⟩ := own_slice hown2; have c21 : w2.cell? ⟨T, 1, none⟩ = some v := cells_of (stay2 hb0'.out hbTh.out hvT hgrow1 hgrow2) 1; have f21 : w2.frozen? ⟨T, 1, none⟩ = false := unfrozen_of (stay2 hb0'.out hbTh.out hvT hgrow1 hgrow2) 1))
  go_ret
  refine ⟨rfl, ?_⟩
  have := add_end (v' := .slice A' (0 + 1) cap') h (by simp) hl (by simp) hbut (.inr (Nat.le_refl _)) hbTh.out hb0'.out (Array.getElem?_eq_some_iff.1 hb0'.out).1 hvT hown1 hgrow1 tells_nil hown2 _ hgrow2 hloc2
  simpa using this

theorem add_any (F : Nat → Prop) (T : Nat) (ts : List (List UInt8)) (s : List UInt8) (w : World) (h : Tab w T F ts) (hs : s ∉ ts) (hl : s.length ≤ maxLen) (hn : ts.length < 1000000) :
    Calls Tryz.prog 111 #[.pointer (some ⟨T, 0, none⟩), .string (str s)] w fun e w' => e = .returned (.int .i64 ts.length) ∧ After w w' T F (ts ++ [s]) := by
  obtain ⟨m, v, hb, hown, hvF, hm⟩ := h.rest
  rcases hm with ⟨rfl, rfl⟩ | ⟨bm, D, rfl, hbF, hmap, hD⟩
  · exact add_none F T s w h hl v hb hown hvF
  · exact add_some F T ts s w h hs hl hn bm D v hb hown hvF hbF hmap hD

set_option maxRecDepth 100000 in
set_option maxHeartbeats 400000 in
theorem Id_tab (F : Nat → Prop) (T : Nat) (ts : List (List UInt8)) (s : List UInt8) (w : World) (h : Tab w T F ts) (hl : s.length ≤ maxLen) (hn : ts.length < 1000000) :
    Calls Tryz.prog 94 #[.pointer (some ⟨T, 0, none⟩), .string (str s)] w fun e w' => e = .returned (.int .i64 (numOf ts s)) ∧ After w w' T F (withText ts s) := by
  have hkey := key_of hl
  obtain ⟨m, v, hb, hown, hvF, hm⟩ := h.rest
  have c0 : w.cell? ⟨T, 0, none⟩ = some m := cells_of hb 0
  clear hb hown hvF
  by_cases hs : s ∈ ts
  · have hlt := List.idxOf_lt_length_of_mem hs
    have hg : ts[ts.idxOf s]? = some s := by rw [List.getElem?_eq_getElem hlt, List.getElem_idxOf]
    rcases hm with ⟨rfl, rfl⟩ | ⟨bm, D, rfl, hbF, hmap, hD⟩
    · cases hs
    · have hhas : Maps.has D (keyL s) = true := by rw [hD.2.1]; simpa using hs
      have hat := Lib.hid (hD.2.2 _ _ hg (.lit (.int .i64 0)))
      clear hD hbF
      have hend : After w w T F (withText ts s) := ⟨F, by unfold withText; rw [if_pos hs]; exact h, .refl _ _, fun k hk => .inl hk⟩
      have hend' := Lib.hid hend
      clear hend hlt hg
      go_enter Tryz.func94, Tryz.ntmps94
      go_wp2_with (first
        | (at_lookup; refine wpList_lookup_own_ok_int _ rfl _ _ 148 rfl 9 3 .i64 law9 Tryz.underlying148 Tryz.underlying3 (zero3 _) bm ts.length D rfl hmap _ _ rfl hkey ?_; intro c hc hwc; have hc' := Lib.hid hc; clear hc hwc))
      go_ret
      refine ⟨ret_int ?_, hend'.out⟩
      have := hc'.out.symm.trans hat.out
      injection this with this
      injection this with _ this
  · have hidx : numOf ts s = ts.length := List.idxOf_eq_length hs
    have hwt : withText ts s = ts ++ [s] := by unfold withText; rw [if_neg hs]
    rw [hidx, hwt]
    clear hidx hwt
    rcases hm with ⟨rfl, rfl⟩ | ⟨bm, D, rfl, hbF, hmap, hD⟩
    · have hrun := look_nil (w := w) true law9 Tryz.underlying148 (zero3 _) hkey
      go_enter Tryz.func94, Tryz.ntmps94
      go_wp2_with (first
        | (go_at_call 111; refine (add_any F T [] s _ h hs hl hn).mono ?_; rintro e w' ⟨rfl, haf⟩))
      go_ret
      exact ⟨rfl, haf⟩
    · have hhas : Maps.has D (keyL s) = false := by rw [hD.2.1]; simpa using hs
      clear hD hbF
      go_enter Tryz.func94, Tryz.ntmps94
      go_wp2_with (first
        | (at_lookup; refine wpList_lookup_own_ok_int _ rfl _ _ 148 rfl 9 3 .i64 law9 Tryz.underlying148 Tryz.underlying3 (zero3 _) bm ts.length D rfl hmap _ _ rfl hkey ?_; intro c hc hwc; clear hc hwc)
        | (go_at_call 111; refine (add_any F T ts s _ h hs hl hn).mono ?_; rintro e w' ⟨rfl, haf⟩))
      go_ret
      exact ⟨rfl, haf⟩
end Go.Proofs.YtoephlkfejcadaaGreat
/- Proved here: contracts of package intern: numbers. -/
namespace Go.Proofs.YtoephlkfejcadaaGreat
open Go.RowKit Go.Maps Go.WideMaps
set_option linter.unusedVariables false

/-- How far numbers has come: block b holds the numbers of k texts. -/
def NumsIn (w wr : World) (T b n : Nat) (F : Nat → Prop) (ts file fin : List (List UInt8)) (k : Nat) : Prop :=
  ∃ Fr, Tab wr T Fr (withAll ts (file.take k)) ∧ But (fun j => F j ∨ j = b) w wr ∧ (∀ j, Fr j → F j ∨ w.heap.size ≤ j) ∧ wr.rowIs b 3 n (fun j => .int .i64 (if j < k then (numOf fin (file.getD j []) : Int) else 0))

section
variable {w wr w' : World} {T b n k : Nat} {F Fr : Nat → Prop} {ts file fin : List (List UInt8)} {s : List UInt8}
theorem nums_step (hk : file[k]? = some s) (hb : b < w.heap.size) (hbF : ¬ F b) (hT : Tab wr T Fr (withAll ts (file.take k))) (hbut : But (fun j => F j ∨ j = b) w wr) (hFr : ∀ j, Fr j → F j ∨ w.heap.size ≤ j)
    (hrow : wr.rowIs b 3 n (fun j => .int .i64 (if j < k then (numOf fin (file.getD j []) : Int) else 0))) (haf : After wr w' T Fr (withText (withAll ts (file.take k)) s)) (hfin : withAll ts file <+: fin) :
    w'.rowIs b 3 n (fun j => .int .i64 (if j < k then (numOf fin (file.getD j []) : Int) else 0)) ∧ NumsIn w (w'.setCell ⟨b, k, none⟩ (.int .i64 (numOf (withAll ts (file.take k)) s))) T b n F ts file fin (k + 1) := by
  obtain ⟨F', hT', hb', hF'⟩ := haf
  have hbr : b < wr.heap.size := hrow.lt
  have hbFr : ¬ Fr b := fun h => (hFr b h).elim hbF (fun h => by omega)
  have hbF' : ¬ F' b := fun h => (hF' b h).elim hbFr (fun h => by omega)
  have hrow' : w'.rowIs b 3 n (fun j => .int .i64 (if j < k then (numOf fin (file.getD j []) : Int) else 0)) := hrow.of_block (hb'.block b hbr hbFr)
  have hta : withAll ts (file.take (k + 1)) = withText (withAll ts (file.take k)) s := by
    rw [take_at hk, withAll_app]; rfl
  have hnum : numOf (withAll ts (file.take k)) s = numOf fin s := by
    refine numOf_pre (List.IsPrefix.trans ?_ hfin)
    rw [← hta]
    conv => rhs; rw [← List.take_append_drop (k + 1) file, withAll_app]
    exact withAll_pre _ _
  refine ⟨hrow', F', ?_, ?_, ?_, ?_⟩
  · rw [hta]
    exact hT'.but (.setCell w' (F := fun j => j = b) (p := ⟨b, k, none⟩) rfl _) (fun j hj e => hbF' (e ▸ hj))
  · exact (hbut.trans hb' (fun j hj => (hFr j hj).elim (fun h => .inl (.inl h)) .inr)).trans (.setCell w' (F := fun j => j = b) (p := ⟨b, k, none⟩) rfl _) (fun j hj => .inl (.inr hj))
  · intro j hj
    rcases hF' j hj with h | h
    · exact hFr j h
    · exact .inr (by have := hbut.size; omega)
  · refine (hrow'.set k _).congr fun j hj => ?_
    rcases Nat.lt_trichotomy j k with h | rfl | h
    · rw [if_neg (by omega), if_pos h, if_pos (by omega)]
    · rw [if_pos rfl, if_pos (by omega), hnum]
      simp [List.getD, hk]
    · rw [if_neg (by omega), if_neg (by omega), if_neg (by omega)]
end

/-- Numbers were given: the slice that came back reads as them. -/
def NumsOut (w w' : World) (e : Ending) (T : Nat) (F : Nat → Prop) (ts file fin : List (List UInt8)) : Prop :=
  ∃ b, e = .returned (.slice (some ⟨b, 0, none⟩) file.length file.length) ∧ w.heap.size ≤ b ∧ w'.rowIs b 3 file.length (fun j => .int .i64 (numOf fin (file.getD j []))) ∧
    ∃ F', Tab w' T F' (withAll ts file) ∧ ¬ F' b ∧ But F w w' ∧ ∀ j, F' j → F j ∨ w.heap.size ≤ j

theorem nums_out {w wr : World} {T n : Nat} {F : Nat → Prop} {ts file fin : List (List UInt8)} (o : Obj) (hlen : file.length = n) (hb : ¬ F w.heap.size) (h : NumsIn (w.alloc o) wr T w.heap.size n F ts file fin n) :
    NumsOut w wr (.returned (.slice (some ⟨w.heap.size, 0, none⟩) n n)) T F ts file fin := by
  subst hlen
  obtain ⟨Fr, hT, hbut, hFr, hrow⟩ := h
  rw [List.take_length] at hT
  have hs : (w.alloc o).heap.size = w.heap.size + 1 := by simp
  refine ⟨w.heap.size, rfl, Nat.le_refl _, hrow.congr fun j hj => by rw [if_pos hj], Fr, hT, fun h => (hFr _ h).elim hb (fun h => by omega), ?_, fun j hj => (hFr j hj).elim .inl (fun h => .inr (by omega))⟩
  exact ⟨hbut.os, hbut.tape, hbut.output, by have := hbut.size; omega, fun k hk hn => (hbut.block k (by omega) (fun h => h.elim hn (fun h => by omega))).trans (Below.heap_alloc _ _ _ hk)⟩

set_option maxHeartbeats 400000 in
theorem numbers_any (F : Nat → Prop) (T B : Nat) (ts file fin : List (List UInt8)) (A : Option Addr) (n c : Nat) (w : World) (h : Tab w T F ts) (hB : B ≤ T) (hA : Strs w B A n file)
    (hl : ∀ s ∈ file, s.length ≤ maxLen) (hn : ts.length + n < 1000000) (hfin : withAll ts file <+: fin) :
    Calls Tryz.prog 63 #[.pointer (some ⟨T, 0, none⟩), .slice A n c] w fun e w' => NumsOut w w' e T F ts file fin := by
  have hlen := hA.len
  have hbF : ¬ F w.heap.size := fun hf => by have := (h.lies _ hf).2; omega
  have hmk := run_make_row' (P := Tryz.prog) 76 3 (.int .i64 0) 8 Tryz.underlying76 info3 rfl .i64 .i64 n (by omega) (by omega)
  have hsw : (w.alloc (.cells (madeCells #[.int .i64 0] n) 3)).heap.size = w.heap.size + 1 := by simp
  have h0 : NumsIn (w.alloc (.cells (madeCells #[.int .i64 0] n) 3)) (w.alloc (.cells (madeCells #[.int .i64 0] n) 3)) T w.heap.size n F ts file fin 0 :=
    ⟨F, (h.but (F := F) (G := fun _ => False) (.alloc w _) (fun _ _ h => h)), .refl _ _, fun j hj => .inl hj, (World.rowIs_made w (.int .i64 0) n _).congr fun j _ => by rw [if_neg (by omega)]⟩
  have hswh := Lib.hid hsw
  have hTF := h.lies T h.head
  have hlies := h.lies
  clear hsw
  go_enter Tryz.func63, Tryz.ntmps63
  go_wp2
  go_loopw [13] (fun i wr => ∃ k : Nat, k ≤ n ∧ i = .int .i64 k ∧ NumsIn (w.alloc (.cells (madeCells #[.int .i64 0] n) 3)) wr T w.heap.size n F ts file fin k) (fun i _ => n - (intOf i).toNat)
  case atStart => exact ⟨0, Nat.zero_le _, rfl, h0⟩
  case round =>
    obtain ⟨k, hk, rfl, hN⟩ := hrel
    obtain ⟨wo, rfl⟩ : ∃ wo : World, wo = wr := ⟨_, rfl⟩
    by_cases hlt : k < n
    · obtain ⟨Fr, hT, hbut, hFr, hrow⟩ := hN
      obtain ⟨b, o, t, rfl, hb, ht, hc0⟩ := hA.at_ (k := k) hlt
      have htl : t.length ≤ maxLen := hl t (List.mem_of_getElem? ht)
      have hc : wo.cell? ⟨b, o + k, none⟩ = some (.string (str t)) := by
        rw [World.cell?_of_block (w := w.alloc (.cells (madeCells #[.int .i64 0] n) 3)) (hbut.block b (by rw [hswh.out]; omega) (fun h => h.elim (fun h => by have := (hlies _ h).1; omega) (fun h => by omega))), World.cell?_alloc_lt _ _ _ (by show b < _; omega)]
        exact hc0
      have hfew : (withAll ts (file.take k)).length < 1000000 := by
        have := withAll_len (file.take k) ts
        have := List.length_take_le k file
        omega
      clear hc0
      go_wp2_with (go_at_call 94; refine (Id_tab Fr T _ t _ hT htl hfew).mono ?_; rintro e w' ⟨rfl, haf⟩; have hst := nums_step ht (by rw [hswh.out]; omega) hbF hT hbut hFr hrow haf hfin; have hck : w'.cell? ⟨w.heap.size, k, none⟩ = some (.int .i64 0) := (by rw [hst.1.cell (i := k) hlt]; simp); have hfk := hst.1.frozen k; have hN' := Lib.hid hst.2; clear hst)
      go_roundw
      case rel => exact ⟨k + 1, by omega, by go_num, hN'.out⟩
      case measure => simp [intOf]; omega
    · obtain rfl : k = n := by omega
      go_wp2
      go_ret
      exact nums_out _ hlen hbF hN
end Go.Proofs.YtoephlkfejcadaaGreat
/- Proved here: contracts of package intern: All. -/
namespace Go.Proofs.YtoephlkfejcadaaGreat
open Go.RowKit Go.Maps Go.WideMaps
set_option linter.unusedVariables false

/-- How far All has come. -/
def AllIn (w wr : World) (T g n : Nat) (F : Nat → Prop) (files : List (List (List UInt8))) (fin : List (List UInt8)) (k : Nat) : Prop :=
  ∃ (Fr : Nat → Prop) (bs : Nat → Nat), Tab wr T Fr (withAll [] (files.take k).flatten) ∧ But (fun j => F j ∨ j = g) w wr ∧ (∀ j, Fr j → F j ∨ w.heap.size ≤ j) ∧
    wr.rowIs g 76 n (fun i => if i < k then .slice (some ⟨bs i, 0, none⟩) (files.getD i []).length (files.getD i []).length else .slice none 0 0) ∧
    ∀ i, i < k → ¬ Fr (bs i) ∧ bs i ≠ g ∧ wr.rowIs (bs i) 3 (files.getD i []).length (fun j => .int .i64 (numOf fin ((files.getD i []).getD j [])))

section
variable {w wr w' : World} {T b g n k : Nat} {F Fr : Nat → Prop} {files : List (List (List UInt8))} {file fin : List (List UInt8)} {bs : Nat → Nat}
theorem all_step (hk : files[k]? = some file) (hg : g < w.heap.size) (hgF : ¬ F g) (hT : Tab wr T Fr (withAll [] (files.take k).flatten)) (hbut : But (fun j => F j ∨ j = g) w wr) (hFr : ∀ j, Fr j → F j ∨ w.heap.size ≤ j)
    (hrow : wr.rowIs g 76 n (fun i => if i < k then .slice (some ⟨bs i, 0, none⟩) (files.getD i []).length (files.getD i []).length else .slice none 0 0))
    (hrows : ∀ i, i < k → ¬ Fr (bs i) ∧ bs i ≠ g ∧ wr.rowIs (bs i) 3 (files.getD i []).length (fun j => .int .i64 (numOf fin ((files.getD i []).getD j []))))
    (hbw : wr.heap.size ≤ b) (hrb : w'.rowIs b 3 file.length (fun j => .int .i64 (numOf fin (file.getD j []))))
    (hF' : ∃ F', Tab w' T F' (withAll (withAll [] (files.take k).flatten) file) ∧ ¬ F' b ∧ But Fr wr w' ∧ ∀ j, F' j → Fr j ∨ wr.heap.size ≤ j) :
    w'.rowIs g 76 n (fun i => if i < k then .slice (some ⟨bs i, 0, none⟩) (files.getD i []).length (files.getD i []).length else .slice none 0 0) ∧
      AllIn w (w'.setCell ⟨g, k, none⟩ (.slice (some ⟨b, 0, none⟩) file.length file.length)) T g n F files fin (k + 1) := by
  obtain ⟨F', hT', hb', hb'w, hF'⟩ := hF'
  have hgr : g < wr.heap.size := hrow.lt
  have hgFr : ¬ Fr g := fun h => (hFr g h).elim hgF (fun h => by omega)
  have hgF' : ¬ F' g := fun h => (hF' g h).elim hgFr (fun h => by omega)
  have hrow' := hrow.of_block (hb'w.block g hgr hgFr)
  have hta : withAll [] (files.take (k + 1)).flatten = withAll (withAll [] (files.take k).flatten) file := by
    rw [take_at hk, List.flatten_append, withAll_app]; simp
  have hfk : files.getD k [] = file := by simp [List.getD, hk]
  refine ⟨hrow', F', fun i => if i = k then b else bs i, ?_, ?_, ?_, ?_, ?_⟩
  · rw [hta]
    exact hT'.but (.setCell w' (F := fun j => j = g) (p := ⟨g, k, none⟩) rfl _) (fun j hj e => hgF' (e ▸ hj))
  · exact (hbut.trans hb'w (fun j hj => (hFr j hj).elim (fun h => .inl (.inl h)) .inr)).trans (.setCell w' (F := fun j => j = g) (p := ⟨g, k, none⟩) rfl _) (fun j hj => .inl (.inr hj))
  · intro j hj
    rcases hF' j hj with h | h
    · exact hFr j h
    · exact .inr (by have := hbut.size; omega)
  · refine (hrow'.set k _).congr fun j hj => ?_
    rcases Nat.lt_trichotomy j k with h | rfl | h
    · rw [if_neg (by omega), if_pos h, if_pos (by omega)]; dsimp only; rw [if_neg (by omega)]
    · rw [if_pos rfl, if_pos (by omega)]; dsimp only; rw [if_pos rfl, hfk]
    · rw [if_neg (by omega), if_neg (by omega), if_neg (by omega)]
  · intro i hi
    by_cases e : i = k
    · subst e
      dsimp only
      rw [if_pos rfl, hfk]
      exact ⟨hb', by omega, hrb.setOther (by show b ≠ g; omega) _⟩
    · dsimp only
      rw [if_neg e]
      obtain ⟨h1, h2, h3⟩ := hrows i (by omega)
      refine ⟨fun h => (hF' _ h).elim h1 (fun h => by have := h3.lt; omega), h2, ?_⟩
      exact (h3.of_block (hb'w.block _ h3.lt h1)).setOther h2 _
end

theorem all_out {w wn wr : World} {g n : Nat} {F : Nat → Prop} {files : List (List (List UInt8))} {fin : List (List UInt8)} (hn : files.length = n) (hm : n ≤ maxLen) (hw : Below w.heap.size w wn) (hg : w.heap.size ≤ g) (hF : ∀ j, F j → w.heap.size ≤ j)
    (h : AllIn wn wr w.heap.size g n F files fin n) : AllOut w wr (.returned (.slice (some ⟨g, 0, none⟩) n n)) (numsL fin files) := by
  obtain ⟨Fr, bs, hT, hbut, hFr, hrow, hrows⟩ := h
  refine ⟨_, n, n, (List.range n).map fun i => (some ⟨bs i, 0, none⟩, (files.getD i []).length, (files.getD i []).length), rfl, Nat.le_refl _, hm, ⟨?_, ?_, ?_⟩, ?_⟩
  · refine reads_of_row hrow _ (by simp) fun i u hu => ?_
    have hi : i < n := by have := (List.getElem?_eq_some_iff.1 hu).1; simpa using this
    rw [if_pos hi, ← Option.some_inj, ← hu]
    simp [hi]
  · simp [numsL, hn]
  · intro k r xs hr hx
    have hk : k < n := by have := (List.getElem?_eq_some_iff.1 hr).1; simpa using this
    simp [hk] at hr
    subst hr
    have hfk : files[k]? = some (files.getD k []) := by simp [List.getD, List.getElem?_eq_getElem (show k < files.length by omega)]
    unfold numsL at hx
    rw [List.getElem?_map, hfk] at hx
    simp only [Option.map_some, Option.some.injEq] at hx
    subst hx
    refine reads_of_row (hrows k hk).2.2 _ (by simp) fun i u hu => ?_
    rw [List.getElem?_map, List.getElem?_map] at hu
    cases hs : (files.getD k [])[i]? with
    | none => rw [hs] at hu; simp at hu
    | some s =>
      rw [hs] at hu
      simp only [Option.map_some, Option.some.injEq] at hu
      subst hu
      simp only [List.getD] at hs ⊢
      rw [hs]; rfl
  · exact hw.trans (hbut.below hw.size (fun j hj => hj.elim (hF j) (fun h => by omega)))

set_option maxHeartbeats 400000 in
theorem All_any (A : Option Addr) (n c : Nat) (rows : List (Option Addr × Nat × Nat)) (files : List (List (List UInt8))) (w : World) (hA : Rows2 w w.heap.size A n rows files)
    (hl : ∀ f ∈ files, ∀ s ∈ f, s.length ≤ maxLen) (hn : n ≤ 1000) (hn2 : ∀ f ∈ files, f.length ≤ 900) :
    Calls Tryz.prog 41 #[.slice A n c] w fun e w' => AllOut w w' e (numsL (withAll [] files.flatten) files) := by
  have hlen : files.length = n := by have := hA.1.1; have := hA.2.1; simp at *; omega
  obtain ⟨fin, hfin⟩ : ∃ fin, fin = withAll [] files.flatten := ⟨_, rfl⟩
  rw [← hfin]
  have hfh := Lib.hid hfin
  clear hfin
  have hmk := run_make_row' (P := Tryz.prog) 74 76 (.slice none 0 0) 24 Tryz.underlying74 info39 rfl .i64 .i64 n (by omega) (by omega)
  have hm : n ≤ maxLen := by unfold maxLen; omega
  go_enter Tryz.func41, Tryz.ntmps41
  go_wp2_with (go_at_call 62; refine (New_any _).mono ?_; rintro e w0 ⟨rfl, hT0, hB0, hs0⟩; have hs0' := Lib.hid hs0; clear hs0)
  have hsz : Hid ((w0.alloc (.cells (madeCells #[.slice none 0 0] n) 76)).heap.size = w0.heap.size + 1) := Lib.hid (by simp)
  have hsw : w.heap.size ≤ w0.heap.size := hB0.size
  have hgne : ¬ (w0.heap.size = w.heap.size) := by have := hs0'.out; omega
  have hB1 : Below w.heap.size w (w0.alloc (.cells (madeCells #[.slice none 0 0] n) 76)) := hB0.alloc hsw _
  have h0 : AllIn (w0.alloc (.cells (madeCells #[.slice none 0 0] n) 76)) (w0.alloc (.cells (madeCells #[.slice none 0 0] n) 76)) w.heap.size w0.heap.size n (· = w.heap.size) files fin 0 :=
    ⟨(· = w.heap.size), fun _ => 0, (hT0.but (F := (· = w.heap.size)) (G := fun _ => False) (.alloc w0 _) (fun _ _ h => h)), .refl _ _, fun j hj => .inl hj, (World.rowIs_made w0 (.slice none 0 0) n _).congr fun j _ => by rw [if_neg (by omega)], fun i hi => by omega⟩
  go_loopw [13] (fun i wr => ∃ k : Nat, k ≤ n ∧ i = .int .i64 k ∧ AllIn (w0.alloc (.cells (madeCells #[.slice none 0 0] n) 76)) wr w.heap.size w0.heap.size n (· = w.heap.size) files fin k) (fun i _ => n - (intOf i).toNat)
  case atStart => exact ⟨0, Nat.zero_le _, rfl, h0⟩
  case round =>
    obtain ⟨k, hk, rfl, hN⟩ := hrel
    obtain ⟨wo, rfl⟩ : ∃ wo : World, wo = wr := ⟨_, rfl⟩
    by_cases hlt : k < n
    · obtain ⟨Fr, bs, hT, hbut, hFr, hrow, hrows⟩ := hN
      have hbel : Below w.heap.size w wo := hB1.trans (hbut.below hB1.size (fun j hj => hj.elim (fun h => by omega) (fun h => by omega)))
      obtain ⟨b, o, A', n', c', ff, rfl, hb, ht, hc, hst⟩ := (hA.below hbel).at_ (k := k) hlt
      have hmem := List.mem_of_getElem? ht
      have hfl := hl ff hmem
      have hf9 := hn2 ff hmem
      have hffl := hst.len
      have hcount : (withAll [] (files.take k).flatten).length + n' < 1000000 := by
        have h1 := withAll_len (files.take k).flatten []
        have h2 : (files.take k).flatten.length ≤ k * 900 := by
          rw [List.length_flatten]
          clear h1 hn
          refine Nat.le_trans (sum_le (files.take k) 900 (fun f hf => hn2 f (List.mem_of_mem_take hf))) ?_
          exact Nat.mul_le_mul_right _ (List.length_take_le _ _)
        rw [List.length_nil, Nat.zero_add] at h1
        omega
      have hpre : withAll (withAll [] (files.take k).flatten) ff <+: fin := by
        rw [hfh.out, ← withAll_app]
        have : files.flatten = ((files.take k).flatten ++ ff) ++ (files.drop (k + 1)).flatten := by
          conv => lhs; rw [← List.take_append_drop k files, drop_at ht]
          simp
        conv => rhs; rw [this, withAll_app]
        exact withAll_pre _ _
      have hcount' := Lib.hid hcount
      have hpre' := Lib.hid hpre
      have hffl' := Lib.hid hffl
      have hfl' := Lib.hid hfl
      clear hcount hpre hmem hffl hfl hl hn2 h0
      go_wp2_with fail
      refine (numbers_any Fr w.heap.size w.heap.size _ ff fin A' n' c' _ hT (Nat.le_refl _) hst hfl'.out hcount'.out hpre'.out).mono ?_
      rintro e w' ⟨bn, rfl, hbn, hrb, hF'⟩
      have hst2 := all_step (F := (· = w.heap.size)) ht (by rw [hsz.out]; omega) hgne hT hbut hFr hrow hrows hbn hrb hF'
      have hck : w'.cell? ⟨w0.heap.size, k, none⟩ = some (.slice none 0 0) := (by rw [hst2.1.cell (i := k) hlt]; simp)
      have hfk := hst2.1.frozen k
      have hN' := Lib.hid hst2.2
      clear hst2 hrows hF'
      go_wp2
      go_roundw
      case rel => exact ⟨k + 1, by omega, by go_num, hN'.out⟩
      case measure => simp [intOf]; omega
    · obtain rfl : k = n := by omega
      go_wp2
      go_ret
      exact all_out hlen hm hB1 hsw (fun j hj => by omega) hN
end Go.Proofs.YtoephlkfejcadaaGreat

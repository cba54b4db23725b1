/- Proved here: texts joined: AlnLo. -/
import Derived.Test.YtoopdgohdeddoaaGreatDoorBs14
/- Proved here: the contract of the document's own function of layer 5 that makes two chunks one: longer. -/
namespace Go.Proofs.YtoopdgohdeddoaaGreatDoor
open Go.RowKit
set_option linter.unusedVariables false

/-- The sides of two chunks as one's. -/
def joinS (xs ys : List Sp) : List Sp := (List.zip xs ys).map fun p => (p.1.1, p.2.2)
theorem joinS_len {xs ys : List Sp} {n : Nat} (hx : xs.length = n) (hy : ys.length = n) : (joinS xs ys).length = n := by
  unfold joinS
  rw [List.length_map, List.length_zip, hx, hy, Nat.min_self]
theorem joinS_at {xs ys : List Sp} {i : Nat} {x y : Sp} (hx : xs[i]? = some x) (hy : ys[i]? = some y) : (joinS xs ys)[i]? = some (x.1, y.2) := by
  unfold joinS
  have h : (List.zip xs ys)[i]? = some (x, y) := List.getElem?_zip_eq_some.2 ⟨hx, hy⟩
  rw [List.getElem?_map, h]
  rfl

/-- How far longer has come. -/
structure LonIn (w wr : World) (a b : Value) (fin : Bool) (f t : Int) (v : Value) (zs : List Sp) : Prop where
  one : wr.heap[w.heap.size]? = some (.cells (match a with | .agg cs => cs | _ => #[]) 51 (0, 0))
  two : wr.heap[w.heap.size + 1]? = some (.cells (match b with | .agg cs => cs | _ => #[]) 51 (0, 0))
  res : wr.heap[w.heap.size + 1 + 1]? = some (.cells #[.bool false, .int .i64 0, .int .i64 0, .slice none 0 0] 51 (0, 0))
  out : wr.heap[w.heap.size + 1 + 1 + 1]? = some (.cells #[.bool fin, .int .i64 f, .int .i64 t, v] 51 (0, 0))
  own : wr.ownsRow (w.heap.size + 4) 48 2 v zs.length (spCs zs)
  below : Below w.heap.size w wr
theorem LonIn.put {w wr w1 w2 : World} {a b : Value} {fin : Bool} {f t : Int} {v v' : Value} {zs : List Sp} {s : Sp} {o : Obj} (h : LonIn w wr a b fin f t v zs) (hb1 : Below wr.heap.size wr w1)
    (hown : w2.ownsRow (w.heap.size + 4) 48 2 v' (zs.length + 1) (spCs zs ++ spC s)) (hg : (w1.alloc o).grownBy w2 v.ownBlock) :
    (w2.heap[w.heap.size + 1 + 1 + 1]? = some (.cells #[.bool fin, .int .i64 f, .int .i64 t, v] 51 (0, 0))) ∧ LonIn w (w2.setCell ⟨w.heap.size + 1 + 1 + 1, 3, none⟩ v') a b fin f t v' (zs ++ [s]) := by
  have hlt : ∀ {k : Nat} {x : Obj}, wr.heap[k]? = some x → k < wr.heap.size := fun hk => (Array.getElem?_eq_some_iff.1 hk).1
  have hsz := hlt h.out
  have hne : ∀ k, k < w.heap.size + 4 → some k ≠ v.ownBlock := fun k hk e => by have := (h.own.lt k e.symm).1; omega
  have hk : ∀ k, k < w.heap.size + 4 → k < wr.heap.size → w2.heap[k]? = wr.heap[k]? := fun k h1 h2 => by
    have hw1 := hb1.size
    exact (hg.block k (by simp; omega) (hne k h1)).trans ((Below.heap_alloc w1 _ _ (by omega)).trans (hb1.block k h2))
  have hout := (hk _ (by omega) hsz).trans h.out
  have hset : ∀ k, k ≠ w.heap.size + 1 + 1 + 1 → (w2.setCell ⟨w.heap.size + 1 + 1 + 1, 3, none⟩ v').heap[k]? = w2.heap[k]? := fun k hk => Below.heap_setCell _ _ _ _ hk
  have hB2 : Below w.heap.size w w2 := ((h.below.trans (hb1.mono h.below.size)).alloc (by have := h.below.size; have := hb1.size; omega) o).grown hg (by have := h.below.size; have := hb1.size; simp; omega) (fun j e => by have := (h.own.lt j e).1; omega)
  refine ⟨hout, ⟨(hset _ (by omega)).trans ((hk _ (by omega) (by omega)).trans h.one), (hset _ (by omega)).trans ((hk _ (by omega) (by omega)).trans h.two), (hset _ (by omega)).trans ((hk _ (by omega) (by omega)).trans h.res), ?_, ?_, hB2.setCell (by show w.heap.size ≤ w.heap.size + 1 + 1 + 1; omega) _⟩⟩
  · unfold World.setCell
    dsimp only
    rw [Array.getElem?_modify, if_pos rfl, hout]
    rfl
  · rw [List.length_append, spCs_snoc]
    exact ownsRow_kept hown fun k e => hset k (by have := (hown.lt k e).1; omega)

set_option maxRecDepth 100000 in
set_option maxHeartbeats 8000000 in
theorem rLonger_any (st st' : Bool) (f t f' t' : Int) (A A' : Option Addr) (n c c' : Nat) (xs ys : List Sp) (w : World) (hn : n ≤ 100) (hA : Spans w w.heap.size A n xs) (hA' : Spans w w.heap.size A' n ys) :
    Calls Tryz.prog 91 #[.agg #[.bool st, .int .i64 f, .int .i64 t, .slice A n c], .agg #[.bool st', .int .i64 f', .int .i64 t', .slice A' n c']] w fun e w' => ChunkOut w w' e (st, (f, t'), joinS xs ys) := by
  have hl := hA.len
  have hl' := hA'.len
  obtain ⟨i0, hi, hzz⟩ := Option.map_eq_some_iff.1 infoSpan
  simp only [Prod.mk.injEq] at hzz
  obtain ⟨hz0, hz1, hz2⟩ := hzz
  have hjl := Lib.hid (joinS_len hl hl')
  obtain ⟨W0, hW0⟩ : ∃ W0, W0 = (((w.alloc (.cells #[.bool st, .int .i64 f, .int .i64 t, .slice A n c] 51)).alloc (.cells #[.bool st', .int .i64 f', .int .i64 t', .slice A' n c'] 51)).alloc (.cells #[.bool false, .int .i64 0, .int .i64 0, .slice none 0 0] 51)).alloc (.cells #[.bool st, .int .i64 f, .int .i64 t', .slice none 0 0] 51) := ⟨_, rfl⟩
  have hst : Hid (LonIn w W0 (.agg #[.bool st, .int .i64 f, .int .i64 t, .slice A n c]) (.agg #[.bool st', .int .i64 f', .int .i64 t', .slice A' n c']) st f t' (.slice none 0 0) []) := Lib.hid (by
    rw [hW0]
    refine ⟨?_, ?_, ?_, ?_, World.ownsRow_nil _ _ _ _, ((((Below.refl _ w).alloc (Nat.le_refl _) _).alloc (by simp) _).alloc (by simp; omega) _).alloc (by simp; omega) _⟩
    · simp only [push_at, push_size]; repeat (first | rw [if_pos trivial] | rw [if_pos (by omega)] | rw [if_neg (by omega)])
    · simp only [push_at, push_size]; repeat (first | rw [if_pos trivial] | rw [if_pos (by omega)] | rw [if_neg (by omega)])
    · simp only [push_at, push_size]; repeat (first | rw [if_pos trivial] | rw [if_pos (by omega)] | rw [if_neg (by omega)])
    · simp only [push_at, push_size]; repeat (first | rw [if_pos trivial] | rw [if_pos (by omega)] | rw [if_neg (by omega)]))
  have hW0h := Lib.hid hW0
  have hAh := Lib.hid hA
  have hA0h := Lib.hid hA'
  have hlh := Lib.hid (And.intro hl hl')
  clear hA hA' hW0 hl hl'
  go_enter Tryz.func91, Tryz.ntmps91
  go_upto_region 4 with fail
  rw [← hW0h.out]
  go_wp2
  go_loopw [6] (fun s6 wr => ∃ (i : Nat) (v : Value), i ≤ n ∧ s6 = .int .i64 i ∧ Hid (LonIn w wr (.agg #[.bool st, .int .i64 f, .int .i64 t, .slice A n c]) (.agg #[.bool st', .int .i64 f', .int .i64 t', .slice A' n c']) st f t' v ((joinS xs ys).take i))) (fun s6 _ => n - (intOf s6).toNat)
  case atStart => exact ⟨0, _, Nat.zero_le _, rfl, hst⟩
  case round =>
    obtain ⟨i, v, hin, rfl, hI⟩ := hrel
    obtain ⟨wo, rfl⟩ : ∃ wo : World, wo = wr := ⟨_, rfl⟩
    clear hst
    have a3 : wo.cell? ⟨w.heap.size, 3, none⟩ = some (.slice A n c) := by rw [cells_of hI.out.one]; rfl
    have b3 : wo.cell? ⟨w.heap.size + 1, 3, none⟩ = some (.slice A' n c') := by rw [cells_of hI.out.two]; rfl
    by_cases hlt : i < n
    · obtain ⟨b1, o1, s1, rfl, hb1, hs1, p1, p2⟩ := (hAh.out.keep (w' := wo) (fun p hp => hI.out.below.cell hp)).at_ hlt
      obtain ⟨b2, o2, s2, rfl, hb2, hs2, q1, q2⟩ := (hA0h.out.keep (w' := wo) (fun p hp => hI.out.below.cell hp)).at_ hlt
      have i1 : (0 : Int) ≤ (i : Int) := by omega
      have i2 : (i : Int) < (n : Int) := by omega
      have o3 : wo.cell? ⟨w.heap.size + 1 + 1 + 1, 3, none⟩ = some v := by rw [cells_of hI.out.out]; rfl
      have hown := hI.out.own
      have hsz : w.heap.size + 4 ≤ wo.heap.size := (Array.getElem?_eq_some_iff.1 hI.out.out).1
      have hzl : ((joinS xs ys).take i).length = i := by
        rw [List.length_take, hjl.out]
        omega
      have hzip : (joinS xs ys).take (i + 1) = (joinS xs ys).take i ++ [(s1.1, s2.2)] := take_at (joinS_at hs1 hs2)
      rw [hzl] at hown
      have hmax : Hid (i + 1 ≤ maxLen ∧ (i + 1) * 16 ≤ 140737488355328) := Lib.hid ⟨by unfold maxLen; omega, by omega⟩
      have hput : Hid (∀ (v' : Value) (w1 w2 : World) (o : Obj), Below wo.heap.size wo w1 → w2.ownsRow (w.heap.size + 4) 48 2 v' (i + 1) (spCs ((joinS xs ys).take i) ++ spC (s1.1, s2.2)) → (w1.alloc o).grownBy w2 v.ownBlock →
          (w2.heap[w.heap.size + 1 + 1 + 1]? = some (.cells #[.bool st, .int .i64 f, .int .i64 t', v] 51 (0, 0))) ∧ LonIn w (w2.setCell ⟨w.heap.size + 1 + 1 + 1, 3, none⟩ v') (.agg #[.bool st, .int .i64 f, .int .i64 t, .slice (some ⟨b1, o1, none⟩) n c]) (.agg #[.bool st', .int .i64 f', .int .i64 t', .slice (some ⟨b2, o2, none⟩) n c']) st f t' v' ((joinS xs ys).take (i + 1))) := Lib.hid (fun v' w1 w2 o h1 h2 h3 => by
        rw [hzip]
        exact hI.out.put h1 (by rw [hzl]; exact h2) h3)
      have o4 : (wo.alloc (.cells #[.int .i64 s1.1, .int .i64 s2.2] 48)).cell? ⟨w.heap.size + 1 + 1 + 1, 3, none⟩ = some v := (World.cell?_alloc_lt _ _ _ (by show w.heap.size + 1 + 1 + 1 < _; omega)).trans o3
      clear hzip hzl hs1 hs2 p2 q1
      go_wp2
      go_region_law (refine appendO_step rfl (.tmp 25) (.tmp 39) 49 rfl (w.heap.size + 4) 48 i0 (.agg #[.int .i64 0, .int .i64 0]) 2 16 Tryz.underlying49 hi hz0 hz1 hz2 rfl (by decide) v i _ (by simp [Act.eval]) (show (wo.alloc (.cells #[.int .i64 s1.1, .int .i64 s2.2] 48)).ownsRow (w.heap.size + 4) 48 2 v i _ from hown.alloc _) ⟨wo.heap.size, 0, none⟩ 1 1 (spC (s1.1, s2.2)) (by simp [Act.eval]) rfl (cell_new_sp wo (s1.1, s2.2) _) (spC_one _) hmax.out.1 hmax.out.2 (by simp; omega) ?_; intro v' w8 hown8 hg8 hloc8; obtain ⟨g', cap', rfl⟩ := ownsRow_succ hown8; obtain ⟨hc8, hI8⟩ := hput.out _ wo.drew w8 (.cells #[.int .i64 s1.1, .int .i64 s2.2] 48) ⟨rfl, rfl, rfl, Nat.le_refl _, fun _ _ => rfl⟩ hown8 hg8; have e8 : w8.cell? ⟨w.heap.size + 1 + 1 + 1, 3, none⟩ = some v := (by rw [cells_of hc8]; rfl); have z8 := unfrozen_of hc8 3; have hI8h := Lib.hid hI8; clear hc8 hI8)
      all_goals (go_wp2; go_roundw)
      all_goals first
        | exact ⟨i + 1, _, by omega, by go_num, hI8h⟩
        | (simp [intOf] <;> omega)
    · obtain rfl : i = n := by omega
      obtain ⟨e0, e1, e2, e3, -⟩ := piece_at hI.out.out
      obtain ⟨r0, r1, r2, r3, z0, z1, z2, z3⟩ := piece_at hI.out.res
      have hzt : (joinS xs ys).take i = joinS xs ys := List.take_of_length_le (by rw [hjl.out]; omega)
      have hI2 := hI.out
      rw [hzt] at hI2
      have hown := hI2.own
      rw [hjl.out] at hown
      have hB := hI2.below
      have hown2 : ((((wo.setCell ⟨w.heap.size + 1 + 1, 0, none⟩ (.bool st)).setCell ⟨w.heap.size + 1 + 1, 1, none⟩ (.int .i64 f)).setCell ⟨w.heap.size + 1 + 1, 2, none⟩ (.int .i64 t')).setCell ⟨w.heap.size + 1 + 1, 3, none⟩ v).ownsRow (w.heap.size + 4) 48 2 v i (spCs (joinS xs ys)) := ownsRow_kept hown fun k e => by
        have := (hown.lt k e).1
        exact ((((Below.heap_setCell _ _ _ _ (by show k ≠ w.heap.size + 1 + 1; omega)).trans (Below.heap_setCell _ _ _ _ (by show k ≠ w.heap.size + 1 + 1; omega))).trans (Below.heap_setCell _ _ _ _ (by show k ≠ w.heap.size + 1 + 1; omega))).trans (Below.heap_setCell _ _ _ _ (by show k ≠ w.heap.size + 1 + 1; omega)))
      have hB2 := (((hB.setCell (p := ⟨w.heap.size + 1 + 1, 0, none⟩) (by show w.heap.size ≤ w.heap.size + 1 + 1; omega) (.bool st)).setCell (p := ⟨w.heap.size + 1 + 1, 1, none⟩) (by show w.heap.size ≤ w.heap.size + 1 + 1; omega) (.int .i64 f)).setCell (p := ⟨w.heap.size + 1 + 1, 2, none⟩) (by show w.heap.size ≤ w.heap.size + 1 + 1; omega) (.int .i64 t')).setCell (p := ⟨w.heap.size + 1 + 1, 3, none⟩) (by show w.heap.size ≤ w.heap.size + 1 + 1; omega) v
      obtain ⟨A5, c5, rfl, k1, k2, k3, k4⟩ := spans_of_own hown2
      have hfin : Hid (ChunkOut w _ (.returned (.agg #[.bool st, .int .i64 f, .int .i64 t', .slice A5 i c5])) (st, (f, t'), joinS xs ys)) := Lib.hid ⟨A5, i, c5, rfl, k1, k2, k3, fun h g o e => by have := k4 h g o e; omega, hB2⟩
      clear hI2 hown hown2 hB2 k3 k4 hzt hB
      go_wp2
      refine bodyPost_ret (v := .agg #[.bool st, .int .i64 f, .int .i64 t', .slice A5 i c5]) (by simp [results, Tryz.results91, go_sem, World.cell?_setCell_same', r0, r1, r2, r3]) rfl ?_
      exact hfin.out
end Go.Proofs.YtoopdgohdeddoaaGreatDoor

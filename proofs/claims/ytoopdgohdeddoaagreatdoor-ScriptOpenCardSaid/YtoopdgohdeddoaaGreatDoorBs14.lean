/- Proved here: texts joined: AlnChunk, AlnEmpty, AlnPl. -/
import Derived.Test.YtoopdgohdeddoaaGreatDoorBs10
import Derived.Test.YtoopdgohdeddoaaGreatDoorBs13
import Derived.WalkLawsBesides
import Derived.IntWalk
import Derived.OwnWalk
import Derived.Maps.AppendAt
import Derived.Deep.RegionLaw
import Derived.Deep.DeepCutAuto
import Derived.Outline
import Derived.RangeFuncBox
/- Proved here: the contract of the document's own function of layer 5 that makes a chunk: chunk. -/
namespace Go.Proofs.YtoopdgohdeddoaaGreatDoor
open Go.RowKit
set_option linter.unusedVariables false

/-- Spans' cells. -/
def spC (s : Sp) : List Value := [.int .i64 s.1, .int .i64 s.2]
def spCs (ss : List Sp) : List Value := ss.flatMap spC
theorem spCs_len : ∀ ss : List Sp, (spCs ss).length = ss.length * 2
  | [] => rfl
  | s :: ss => by
    show (spC s ++ spCs ss).length = _
    rw [List.length_append, spCs_len ss, List.length_cons]
    show 2 + ss.length * 2 = _
    omega
theorem spCs_at : ∀ (ss : List Sp) (j r : Nat) (s : Sp), ss[j]? = some s → r < 2 → (spCs ss)[j * 2 + r]? = (spC s)[r]?
  | [], _, _, _, h, _ => by simp at h
  | d :: ss, 0, r, s, h, hr => by
    simp at h
    subst h
    show (spC d ++ spCs ss)[0 * 2 + r]? = _
    rw [Nat.zero_mul, Nat.zero_add, List.getElem?_append_left (by show r < 2; exact hr)]
  | d :: ss, j + 1, r, s, h, hr => by
    show (spC d ++ spCs ss)[(j + 1) * 2 + r]? = _
    rw [List.getElem?_append_right (by show 2 ≤ _; omega), show (j + 1) * 2 + r - (spC d).length = j * 2 + r by show (j + 1) * 2 + r - 2 = _; omega]
    exact spCs_at ss j r s (by simpa using h) hr
theorem spC_one (s : Sp) : ∀ u ∈ spC s, u.oneCell' = true := by
  intro u hu
  simp [spC] at hu
  rcases hu with rfl | rfl <;> rfl
theorem infoSpan : (Tryz.prog.info? 48).map (fun i => (i.zero, i.size, i.bytes)) = some (some (.agg #[.int .i64 0, .int .i64 0]), 2, 16) := by kernel_rfl
theorem cell_new_sp (w : World) (s : Sp) (t : TypeId) : ∀ j u, (spC s)[j]? = some u → (w.alloc (.cells #[.int .i64 s.1, .int .i64 s.2] t)).cell? ((⟨w.heap.size, 0, none⟩ : Addr).add j) = some u := by
  intro j u hu
  rw [addr_add, World.cell?_alloc_mark]
  simpa [spC] using hu
/-- Spans of the call's own read as them, and lie above the base. -/
theorem spans_of_own {w : World} {base n : Nat} {v : Value} {ss : List Sp} (h : w.ownsRow base 48 2 v n (spCs ss)) : ∃ A c, v = .slice A n c ∧ n ≤ c ∧ c ≤ maxLen ∧ Spans w w.heap.size A n ss ∧ (0 < n → ∀ g o, A = some ⟨g, o, none⟩ → base ≤ g) := by
  have hl : ss.length = n := by have := h.1; rw [spCs_len] at this; omega
  have hr := h
  rcases h.2 with ⟨rfl, h0⟩ | ⟨g, cap, cur, rfl, hb, _, hnc, hcm, _⟩
  · exact ⟨none, 0, by rw [h0], by omega, Nat.zero_le _, ⟨hl, fun hn => absurd hn (by omega)⟩, fun hn => absurd hn (by omega)⟩
  · refine ⟨_, cap, rfl, hnc, hcm, ⟨hl, fun hn => ⟨g, 0, rfl, (hr.lt g rfl).2, fun j s hj => ?_⟩⟩, fun hn g' o e => by injection e with e; injection e with e1 e2; omega⟩
    have hc := hr.cells (g := g) rfl
    have kk : ∀ r, r < 2 → ∀ u, (spC s)[r]? = some u → w.cell? ⟨g, 0 + j * 2 + r, none⟩ = some u := fun r hr2 u hu => by
      rw [Nat.zero_add, ← addr_add]
      exact hc _ u ((spCs_at ss j r s hj hr2).trans hu)
    have k0 := kk 0 (by omega) (.int .i64 s.1) rfl
    have k1 := kk 1 (by omega) (.int .i64 s.2) rfl
    exact ⟨k0, k1⟩

/-- A chunk that a call tells, its sides new. -/
def ChunkOut (w w' : World) (e : Ending) (c : Ck) : Prop :=
  ∃ A n cap, e = .returned (.agg #[.bool c.1, .int .i64 c.2.1.1, .int .i64 c.2.1.2, .slice A n cap]) ∧ n ≤ cap ∧ cap ≤ maxLen ∧ Spans w' w'.heap.size A n c.2.2 ∧ (0 < n → ∀ g o, A = some ⟨g, o, none⟩ → w.heap.size ≤ g) ∧ Below w.heap.size w w'
/-- From where sides go on. -/
def froms (n0 n : Nat) (ss : List Sp) : List Int := if n0 = 0 then List.replicate n 0 else ss.map fun s => s.2

/-- How far chunk has come: its argument, its result's block, the chunk itself. -/
structure ChkIn (w wr : World) (st : Bool) (f t : Int) (A0 : Option Addr) (n0 c0 : Nat) (b : Int) (v : Value) (zs : List Sp) : Prop where
  arg : wr.heap[w.heap.size]? = some (.cells #[.bool st, .int .i64 f, .int .i64 t, .slice A0 n0 c0] 51 (0, 0))
  res : wr.heap[w.heap.size + 1]? = some (.cells #[.bool false, .int .i64 0, .int .i64 0, .slice none 0 0] 51 (0, 0))
  out : wr.heap[w.heap.size + 1 + 1]? = some (.cells #[.bool false, .int .i64 t, .int .i64 b, v] 51 (0, 0))
  own : wr.ownsRow (w.heap.size + 3) 48 2 v zs.length (spCs zs)
  below : Below w.heap.size w wr
theorem spCs_snoc (zs : List Sp) (s : Sp) : spCs (zs ++ [s]) = spCs zs ++ spC s := by simp [spCs]
theorem ChkIn.put {w wr w1 w2 : World} {st : Bool} {f t b : Int} {A0 : Option Addr} {n0 c0 : Nat} {v v' : Value} {zs : List Sp} {s : Sp} {o : Obj} (h : ChkIn w wr st f t A0 n0 c0 b v zs) (hb1 : Below wr.heap.size wr w1)
    (hown : w2.ownsRow (w.heap.size + 3) 48 2 v' (zs.length + 1) (spCs zs ++ spC s)) (hg : (w1.alloc o).grownBy w2 v.ownBlock) :
    (w2.heap[w.heap.size + 1 + 1]? = some (.cells #[.bool false, .int .i64 t, .int .i64 b, v] 51 (0, 0))) ∧ ChkIn w (w2.setCell ⟨w.heap.size + 1 + 1, 3, none⟩ v') st f t A0 n0 c0 b v' (zs ++ [s]) := by
  have hlt : ∀ {k : Nat} {x : Obj}, wr.heap[k]? = some x → k < wr.heap.size := fun hk => (Array.getElem?_eq_some_iff.1 hk).1
  have hsz := hlt h.out
  have hne : ∀ k, k < w.heap.size + 3 → some k ≠ v.ownBlock := fun k hk e => by have := (h.own.lt k e.symm).1; omega
  have hk : ∀ k, k < w.heap.size + 3 → k < wr.heap.size → w2.heap[k]? = wr.heap[k]? := fun k h1 h2 => by
    have hw1 := hb1.size
    exact (hg.block k (by simp; omega) (hne k h1)).trans ((Below.heap_alloc w1 _ _ (by omega)).trans (hb1.block k h2))
  have hout := (hk _ (by omega) hsz).trans h.out
  have hset : ∀ k, k ≠ w.heap.size + 1 + 1 → (w2.setCell ⟨w.heap.size + 1 + 1, 3, none⟩ v').heap[k]? = w2.heap[k]? := fun k hk => Below.heap_setCell _ _ _ _ hk
  have hB2 : Below w.heap.size w w2 := ((h.below.trans (hb1.mono h.below.size)).alloc (by have := h.below.size; have := hb1.size; omega) o).grown hg (by have := h.below.size; have := hb1.size; simp; omega) (fun j e => by have := (h.own.lt j e).1; omega)
  refine ⟨hout, ⟨(hset _ (by omega)).trans ((hk _ (by omega) (by omega)).trans h.arg), (hset _ (by omega)).trans ((hk _ (by omega) (by omega)).trans h.res), ?_, ?_, hB2.setCell (by show w.heap.size ≤ w.heap.size + 1 + 1; omega) _⟩⟩
  · unfold World.setCell
    dsimp only
    rw [Array.getElem?_modify, if_pos rfl, hout]
    rfl
  · rw [List.length_append, spCs_snoc]
    exact ownsRow_kept hown fun k e => hset k (by have := (hown.lt k e).1; omega)

set_option maxRecDepth 100000 in
set_option maxHeartbeats 4000000 in
theorem rChunk_any (st : Bool) (f t : Int) (A0 : Option Addr) (n0 c0 : Nat) (ss : List Sp) (b : Int) (A : Option Addr) (n c : Nat) (fs : List Int) (w : World) (hn : n ≤ 100) (h0 : n0 = 0 ∨ n0 = n) (hA0 : Spans w w.heap.size A0 n0 ss) (hA : Nums w w.heap.size A n fs) :
    Calls Tryz.prog 87 #[.agg #[.bool st, .int .i64 f, .int .i64 t, .slice A0 n0 c0], .int .i64 b, .slice A n c] w fun e w' => ChunkOut w w' e (false, (t, b), List.zip (froms n0 n ss) fs) := by
  have hl := hA.len
  have hl0 := hA0.len
  obtain ⟨i0, hi, hzz⟩ := Option.map_eq_some_iff.1 infoSpan
  simp only [Prod.mk.injEq] at hzz
  obtain ⟨hz0, hz1, hz2⟩ := hzz
  have hfl : (froms n0 n ss).length = n := by unfold froms; split <;> simp <;> omega
  obtain ⟨W0, hW0⟩ : ∃ W0, W0 = ((w.alloc (.cells #[.bool st, .int .i64 f, .int .i64 t, .slice A0 n0 c0] 51)).alloc (.cells #[.bool false, .int .i64 0, .int .i64 0, .slice none 0 0] 51)).alloc (.cells #[.bool false, .int .i64 t, .int .i64 b, .slice none 0 0] 51) := ⟨_, rfl⟩
  have hst : Hid (ChkIn w W0 st f t A0 n0 c0 b (.slice none 0 0) []) := Lib.hid (by
    rw [hW0]
    refine ⟨?_, ?_, ?_, World.ownsRow_nil _ _ _ _, (((Below.refl _ w).alloc (Nat.le_refl _) _).alloc (by simp) _).alloc (by simp; omega) _⟩
    · simp only [push_at, push_size]; repeat (first | rw [if_pos trivial] | rw [if_pos (by omega)] | rw [if_neg (by omega)])
    · simp only [push_at, push_size]; repeat (first | rw [if_pos trivial] | rw [if_pos (by omega)] | rw [if_neg (by omega)])
    · simp only [push_at, push_size]; repeat (first | rw [if_pos trivial] | rw [if_pos (by omega)] | rw [if_neg (by omega)]))
  have hW0h := Lib.hid hW0
  have hAh := Lib.hid hA
  have hA0h := Lib.hid hA0
  have hflh := Lib.hid hfl
  clear hA hA0 hfl hW0
  go_enter Tryz.func87, Tryz.ntmps87
  go_upto_region 2 with fail
  rw [← hW0h.out]
  go_wp2
  go_loopw [8, 9] (fun s8 _ wr => ∃ (i : Nat) (v : Value), i ≤ n ∧ s8 = .int .i64 i ∧ Hid (ChkIn w wr st f t A0 n0 c0 b v ((List.zip (froms n0 n ss) fs).take i))) (fun s8 _ _ => n - (intOf s8).toNat)
  case atStart => exact ⟨0, _, Nat.zero_le _, rfl, hst⟩
  case round =>
    obtain ⟨i, v, hin, rfl, hI⟩ := hrel
    obtain ⟨wo, rfl⟩ : ∃ wo : World, wo = wr := ⟨_, rfl⟩
    clear hst
    have a3 : wo.cell? ⟨w.heap.size, 3, none⟩ = some (.slice A0 n0 c0) := by rw [cells_of hI.out.arg]; rfl
    by_cases hlt : i < n
    · obtain ⟨b1, o1, x, rfl, hb1, hx, hc1⟩ := (hAh.out.below hI.out.below).at_ hlt
      have i1 : (0 : Int) ≤ (i : Int) := by omega
      have i2 : (i : Int) < (n : Int) := by omega
      have o3 : wo.cell? ⟨w.heap.size + 1 + 1, 3, none⟩ = some v := by rw [cells_of hI.out.out]; rfl
      have hown := hI.out.own
      have hsz : w.heap.size + 3 ≤ wo.heap.size := (Array.getElem?_eq_some_iff.1 hI.out.out).1
      obtain ⟨u, hu⟩ : ∃ u, (froms n0 n ss)[i]? = some u := ⟨_, List.getElem?_eq_getElem (by rw [hflh.out]; exact hlt)⟩
      have hzl : ((List.zip (froms n0 n ss) fs).take i).length = i := by
        rw [List.length_take, List.length_zip, hflh.out]
        omega
      have hzip : (List.zip (froms n0 n ss) fs).take (i + 1) = (List.zip (froms n0 n ss) fs).take i ++ [(u, x)] := take_at (List.getElem?_zip_eq_some.2 ⟨hu, hx⟩)
      rw [hzl] at hown
      have hmax : Hid (i + 1 ≤ maxLen ∧ (i + 1) * 16 ≤ 140737488355328) := Lib.hid ⟨by unfold maxLen; omega, by omega⟩
      have hput : Hid (∀ (v' : Value) (w1 w2 : World) (o : Obj), Below wo.heap.size wo w1 → w2.ownsRow (w.heap.size + 3) 48 2 v' (i + 1) (spCs ((List.zip (froms n0 n ss) fs).take i) ++ spC (u, x)) → (w1.alloc o).grownBy w2 v.ownBlock →
          (w2.heap[w.heap.size + 1 + 1]? = some (.cells #[.bool false, .int .i64 t, .int .i64 b, v] 51 (0, 0))) ∧ ChkIn w (w2.setCell ⟨w.heap.size + 1 + 1, 3, none⟩ v') st f t A0 n0 c0 b v' ((List.zip (froms n0 n ss) fs).take (i + 1))) := Lib.hid (fun v' w1 w2 o h1 h2 h3 => by
        rw [hzip]
        exact hI.out.put h1 (by rw [hzl]; exact h2) h3)
      by_cases hn0 : n0 = 0
      · have hu0 : u = 0 := by
          have := hu
          unfold froms at this
          rw [if_pos hn0, List.getElem?_replicate, if_pos hlt] at this
          injection this with this
          exact this.symm
        subst hu0
        subst hn0
        clear hu hx hzip hzl
        have o4 : (wo.alloc (.cells #[.int .i64 (0 : Int), .int .i64 x] 48)).cell? ⟨w.heap.size + 1 + 1, 3, none⟩ = some v := (World.cell?_alloc_lt _ _ _ (by show w.heap.size + 1 + 1 < _; omega)).trans o3
        go_wp2
        go_region_law (refine appendO_step rfl (.tmp 33) (.tmp 40) 49 rfl (w.heap.size + 3) 48 i0 (.agg #[.int .i64 0, .int .i64 0]) 2 16 Tryz.underlying49 hi hz0 hz1 hz2 rfl (by decide) v i _ (by simp [Act.eval]) (show (wo.alloc (.cells #[.int .i64 (0 : Int), .int .i64 x] 48)).ownsRow (w.heap.size + 3) 48 2 v i _ from hown.alloc _) ⟨wo.heap.size, 0, none⟩ 1 1 (spC ((0 : Int), x)) (by simp [Act.eval]) rfl (cell_new_sp wo ((0 : Int), x) _) (spC_one _) hmax.out.1 hmax.out.2 (by simp; omega) ?_; intro v' w8 hown8 hg8 hloc8; obtain ⟨g', cap', rfl⟩ := ownsRow_succ hown8; obtain ⟨hc8, hI8⟩ := hput.out _ wo.drew w8 (.cells #[.int .i64 (0 : Int), .int .i64 x] 48) ⟨rfl, rfl, rfl, Nat.le_refl _, fun _ _ => rfl⟩ hown8 hg8; have e8 : w8.cell? ⟨w.heap.size + 1 + 1, 3, none⟩ = some v := (by rw [cells_of hc8]; rfl); have z8 := unfrozen_of hc8 3; have hI8h := Lib.hid hI8; clear hc8 hI8)
        all_goals (go_wp2; go_roundw)
        all_goals first
          | exact ⟨i + 1, _, by omega, by go_num, hI8h⟩
          | (simp [intOf] <;> omega)
      · have hnn : n0 = n := by rcases h0 with h | h; exact absurd h hn0; exact h
        subst hnn
        obtain ⟨b2, o2, s2, rfl, hb2, hs2, q1, q2⟩ := (hA0h.out.keep (w' := wo) (fun p hp => hI.out.below.cell hp)).at_ hlt
        have hu2 : u = s2.2 := by
          have := hu
          unfold froms at this
          rw [if_neg hn0, List.getElem?_map, hs2] at this
          injection this with this
          exact this.symm
        subst hu2
        have hpos : (0 : Int) < (n0 : Int) := by omega
        have hpos2 : decide (0 < n0) = true := decide_eq_true (by omega)
        clear hu hx hzip hzl hs2 q1
        have o4 : (wo.alloc (.cells #[.int .i64 s2.2, .int .i64 x] 48)).cell? ⟨w.heap.size + 1 + 1, 3, none⟩ = some v := (World.cell?_alloc_lt _ _ _ (by show w.heap.size + 1 + 1 < _; omega)).trans o3
        go_wp2
        go_region_law (refine appendO_step rfl (.tmp 33) (.tmp 40) 49 rfl (w.heap.size + 3) 48 i0 (.agg #[.int .i64 0, .int .i64 0]) 2 16 Tryz.underlying49 hi hz0 hz1 hz2 rfl (by decide) v i _ (by simp [Act.eval]) (show (wo.alloc (.cells #[.int .i64 s2.2, .int .i64 x] 48)).ownsRow (w.heap.size + 3) 48 2 v i _ from hown.alloc _) ⟨wo.heap.size, 0, none⟩ 1 1 (spC (s2.2, x)) (by simp [Act.eval]) rfl (cell_new_sp wo (s2.2, x) _) (spC_one _) hmax.out.1 hmax.out.2 (by simp; omega) ?_; intro v' w8 hown8 hg8 hloc8; obtain ⟨g', cap', rfl⟩ := ownsRow_succ hown8; obtain ⟨hc8, hI8⟩ := hput.out _ wo.drew w8 (.cells #[.int .i64 s2.2, .int .i64 x] 48) ⟨rfl, rfl, rfl, Nat.le_refl _, fun _ _ => rfl⟩ hown8 hg8; have e8 : w8.cell? ⟨w.heap.size + 1 + 1, 3, none⟩ = some v := (by rw [cells_of hc8]; rfl); have z8 := unfrozen_of hc8 3; have hI8h := Lib.hid hI8; clear hc8 hI8)
        all_goals (go_wp2; go_roundw)
        all_goals first
          | exact ⟨i + 1, _, by omega, by go_num, hI8h⟩
          | (simp [intOf] <;> omega)
    · obtain rfl : i = n := by omega
      obtain ⟨e0, e1, e2, e3, -⟩ := piece_at hI.out.out
      obtain ⟨r0, r1, r2, r3, z0, z1, z2, z3⟩ := piece_at hI.out.res
      have hzt : (List.zip (froms n0 i ss) fs).take i = List.zip (froms n0 i ss) fs := List.take_of_length_le (by rw [List.length_zip, hflh.out]; omega)
      have hzn : (List.zip (froms n0 i ss) fs).length = i := by rw [List.length_zip, hflh.out]; have := hAh.out.len; omega
      have hI2 := hI.out
      rw [hzt] at hI2
      have hown := hI2.own
      rw [hzn] at hown
      have hB := hI2.below
      have hown2 : ((((wo.setCell ⟨w.heap.size + 1, 0, none⟩ (.bool false)).setCell ⟨w.heap.size + 1, 1, none⟩ (.int .i64 t)).setCell ⟨w.heap.size + 1, 2, none⟩ (.int .i64 b)).setCell ⟨w.heap.size + 1, 3, none⟩ v).ownsRow (w.heap.size + 3) 48 2 v i (spCs (List.zip (froms n0 i ss) fs)) := ownsRow_kept hown fun k e => by
        have := (hown.lt k e).1
        exact ((((Below.heap_setCell _ _ _ _ (by show k ≠ w.heap.size + 1; omega)).trans (Below.heap_setCell _ _ _ _ (by show k ≠ w.heap.size + 1; omega))).trans (Below.heap_setCell _ _ _ _ (by show k ≠ w.heap.size + 1; omega))).trans (Below.heap_setCell _ _ _ _ (by show k ≠ w.heap.size + 1; omega)))
      have hB2 := (((hB.setCell (p := ⟨w.heap.size + 1, 0, none⟩) (by show w.heap.size ≤ w.heap.size + 1; omega) (.bool false)).setCell (p := ⟨w.heap.size + 1, 1, none⟩) (by show w.heap.size ≤ w.heap.size + 1; omega) (.int .i64 t)).setCell (p := ⟨w.heap.size + 1, 2, none⟩) (by show w.heap.size ≤ w.heap.size + 1; omega) (.int .i64 b)).setCell (p := ⟨w.heap.size + 1, 3, none⟩) (by show w.heap.size ≤ w.heap.size + 1; omega) v
      obtain ⟨A5, c5, rfl, k1, k2, k3, k4⟩ := spans_of_own hown2
      have hfin : Hid (ChunkOut w _ (.returned (.agg #[.bool false, .int .i64 t, .int .i64 b, .slice A5 i c5])) (false, (t, b), List.zip (froms n0 i ss) fs)) := Lib.hid ⟨A5, i, c5, rfl, k1, k2, k3, fun h g o e => by have := k4 h g o e; omega, hB2⟩
      clear hI2 hown hown2 hB2 k3 k4 hzt hzn hB
      go_wp2
      refine bodyPost_ret (v := .agg #[.bool false, .int .i64 t, .int .i64 b, .slice A5 i c5]) (by simp [results, Tryz.results87, go_sem, World.cell?_setCell_same', r0, r1, r2, r3]) rfl ?_
      exact hfin.out
end Go.Proofs.YtoopdgohdeddoaaGreatDoor
/- Proved here: the contract of the document's own function of layer 5 that tells an empty chunk: Empty. As s05/XAlignSame has it, in a text of its own: stage 8's seats have no Same of layer 5. -/
namespace Go.Proofs.YtoopdgohdeddoaaGreatDoor
open Go.RowKit
set_option linter.unusedVariables false

theorem some_step {ss : List Sp} {k : Nat} {s : Sp} (h : ss[k]? = some s) : (ss.take (k + 1)).any (fun s => decide (s.1 < s.2)) = ((ss.take k).any (fun s => decide (s.1 < s.2)) || decide (s.1 < s.2)) := by
  rw [take_at h, List.any_append]
  simp

/-- A chunk as a value. -/
def ckV (c : Ck) (A : Option Addr) (n k : Nat) : Value := .agg #[.bool c.1, .int .i64 c.2.1.1, .int .i64 c.2.1.2, .slice A n k]

set_option maxHeartbeats 1000000 in
theorem Empty_any (st : Bool) (f t : Int) (ss : List Sp) (A : Option Addr) (n c B : Nat) (w : World) (hn : n ≤ maxLen) (hB : B ≤ w.heap.size) (hA : Spans w B A n ss) :
    Calls Tryz.prog 89 #[.agg #[.bool st, .int .i64 f, .int .i64 t, .slice A n c]] w fun e w' => e = .returned (.bool (emptyB (st, (f, t), ss))) ∧ Below w.heap.size w w' := by
  have hl := hA.len
  unfold maxLen at hn
  have hA1 : Spans (w.alloc (.cells #[.bool st, .int .i64 f, .int .i64 t, .slice A n c] 51)) B A n ss := hA.keep fun p hp => World.cell?_alloc_lt _ _ p (by omega)
  have hb1 : Below w.heap.size w (w.alloc (.cells #[.bool st, .int .i64 f, .int .i64 t, .slice A n c] 51)) := (Below.refl _ _).alloc (Nat.le_refl _) _
  have hc1 : (w.alloc (.cells #[.bool st, .int .i64 f, .int .i64 t, .slice A n c] 51)).cell? ⟨w.heap.size, 3, none⟩ = some (.slice A n c) := by rw [World.cell?_alloc_mark]; rfl
  have h0 := Lib.hid (And.intro hc1 (And.intro hA1 hb1))
  obtain ⟨sb, hsb⟩ : ∃ sb, decide (f < t) = sb := ⟨_, rfl⟩
  have hr : emptyB (st, (f, t), ss) = !(sb || (ss.take n).any fun s => decide (s.1 < s.2)) := by
    unfold emptyB
    rw [← hsb, List.take_of_length_le (by omega)]
  have hrh := Lib.hid hr
  clear hA1 hb1 hc1 hr hA
  go_enter Tryz.func89, Tryz.ntmps89
  go_wp2
  go_loopw [3, 4] (fun s3 s4 wr => ∃ (k : Nat) (ob : Bool), k ≤ n ∧ s4 = .int .i64 k ∧ s3 = .bool ob ∧ Hid (ob = (sb || (ss.take k).any fun s => decide (s.1 < s.2))) ∧ wr.cell? ⟨w.heap.size, 3, none⟩ = some (.slice A n c) ∧ Hid (Spans wr B A n ss) ∧ Below w.heap.size w wr) (fun _ s4 _ => n - (intOf s4).toNat)
  case atStart => exact ⟨0, sb, Nat.zero_le _, rfl, rfl, Lib.hid (by simp), h0.out.1, Lib.hid h0.out.2.1, h0.out.2.2⟩
  case round =>
    obtain ⟨k, ob, hk, rfl, rfl, hob, hc, hS, hBe⟩ := hrel
    obtain ⟨wo, rfl⟩ : ∃ wo : World, wo = wr := ⟨_, rfl⟩
    clear h0 hsb
    by_cases hlt : k < n
    · obtain ⟨b, o, s, rfl, hb, hs, d1, d2⟩ := hS.out.at_ (k := k) hlt
      obtain ⟨s1, s2⟩ := s
      have hst := some_step hs
      have i1 : (0 : Int) ≤ (k : Int) := by omega
      have i2 : (k : Int) < (n : Int) := by omega
      cases ob
      · by_cases hlt2 : s1 < s2
        · have hq : Hid (true = (sb || (ss.take (k + 1)).any fun s => decide (s.1 < s.2))) := Lib.hid (by rw [hst]; simp [hlt2])
          clear hst
          go_wp2
          go_quiet (fail)
          obtain ⟨z1, rfl⟩ : ∃ z1, z1 = nq := ⟨_, rfl⟩
          go_wp2
          go_roundw
          case rel => exact ⟨k + 1, true, by omega, by go_num, rfl, hq, hc, hS, below_drewN hBe z1⟩
          case measure => simp [intOf] <;> omega
        · have hq : Hid (false = (sb || (ss.take (k + 1)).any fun s => decide (s.1 < s.2))) := Lib.hid (by rw [hst, ← Bool.or_assoc, ← hob.out]; simp [hlt2])
          clear hst
          go_wp2
          go_quiet (fail)
          obtain ⟨z1, rfl⟩ : ∃ z1, z1 = nq := ⟨_, rfl⟩
          go_wp2
          go_roundw
          case rel => exact ⟨k + 1, false, by omega, by go_num, by simp [hlt2], hq, hc, hS, below_drewN hBe z1⟩
          case measure => simp [intOf] <;> omega
      · have hq : Hid (true = (sb || (ss.take (k + 1)).any fun s => decide (s.1 < s.2))) := Lib.hid (by rw [hst, ← Bool.or_assoc, ← hob.out]; simp)
        clear hst
        go_wp2
        go_quiet (fail)
        obtain ⟨z1, rfl⟩ : ∃ z1, z1 = nq := ⟨_, rfl⟩
        go_wp2
        go_roundw
        case rel => exact ⟨k + 1, true, by omega, by go_num, rfl, hq, hc, hS, below_drewN hBe z1⟩
        case measure => simp [intOf] <;> omega
    · obtain rfl : k = n := by omega
      go_wp2
      go_ret
      exact ⟨ret_bool (by rw [hrh.out, ← hob.out]), hBe⟩

end Go.Proofs.YtoopdgohdeddoaaGreatDoor
/- Proved here: the contract of the document's own function of layer 5 that tells a place's places: places. -/
namespace Go.Proofs.YtoopdgohdeddoaaGreatDoor
open Go.RowKit
set_option linter.unusedVariables false

theorem infoIntP : (Tryz.prog.info? 3).map (fun i => (i.zero, i.size, i.bytes)) = some (some (.int .i64 0), 1, 8) := by kernel_rfl

set_option maxRecDepth 100000 in
set_option maxHeartbeats 2000000 in
theorem rPlaces_any (A : Option Addr) (n c B m k : Nat) (more : Int) (rows : List (Option Addr × Nat × Nat)) (ms : List (List Int)) (w : World) (hn : n ≤ 100) (hk : k < m) (hmo : 0 ≤ more ∧ more ≤ 1) (hms : MsR m ms) (hB : B ≤ w.heap.size) (hA : RowsN w B A n rows ms) :
    Calls Tryz.prog 88 #[.slice A n c, .int .i64 k, .int .i64 more] w fun e w' => ∃ A' c', e = .returned (.slice A' n c') ∧ n ≤ c' ∧ c' ≤ maxLen ∧ Nums w' w'.heap.size A' n (ms.map fun l => pl l k + more) ∧ Below w.heap.size w w' := by
  have hl := hA.len
  obtain ⟨i0, hi, hz0, hz1, hz2⟩ := info_parts infoIntP
  have hAh := Lib.hid hA
  have hmsh := Lib.hid hms
  have hlh := Lib.hid hl
  have hkm := Lib.hid hk
  have i3 : (0 : Int) ≤ (k : Int) := by omega
  clear hA hms hl hk
  go_enter Tryz.func88, Tryz.ntmps88
  go_wp2
  go_loopw [7, 8] (fun s7 s8 wr => ∃ (i : Nat) (v : Value), i ≤ n ∧ s8 = .int .i64 i ∧ v = s7 ∧ wr.ownsRow w.heap.size 3 1 v i (((ms.take i).map fun l => pl l k + more).map fun x => .int .i64 x) ∧ Below w.heap.size w wr) (fun _ s8 _ => n - (intOf s8).toNat)
  case atStart => exact ⟨0, _, Nat.zero_le _, rfl, rfl, World.ownsRow_nil _ _ _ _, Below.refl _ _⟩
  case round =>
    obtain ⟨i, v, hin, rfl, rfl, hown, hBe⟩ := hrel
    obtain ⟨wo, rfl⟩ : ∃ wo : World, wo = wr := ⟨_, rfl⟩
    by_cases hlt : i < n
    · obtain ⟨b, o, A1, n1, c1, l, rfl, hb, hml, hc, hN⟩ := (hAh.out.below (hBe.mono hB)).at_ hlt
      have hn1 : n1 = m := by have := hN.len; have := (hmsh.out l (List.mem_of_getElem? hml)).1; omega
      subst hn1
      obtain ⟨b1, o1, u, rfl, hb1, hu, hc1⟩ := hN.at_ hkm.out
      obtain ⟨hpl, hur⟩ := hmsh.out.at_ hml hu
      have i1 : (0 : Int) ≤ (i : Int) := by omega
      have i2 : (i : Int) < (n : Int) := by omega
      have i4 : (k : Int) < (n1 : Int) := by have := hkm.out; omega
      have hw3 : IntKind.i64.wrap (u + more) = u + more := IntWalk.i64_in _ (by omega)
      have hmax : Hid (i + 1 ≤ maxLen ∧ (i + 1) * 8 ≤ 140737488355328) := Lib.hid ⟨by unfold maxLen; omega, by omega⟩
      have hso := hBe.size
      have htk := Lib.hid (take_at hml)
      have hplh := Lib.hid hpl
      clear hml hu hpl hur hN
      go_wp2_with (at_builtin; refine wpList_append_own_at _ rfl _ _ 75 rfl w.heap.size 3 i0 (.int .i64 0) 1 8 Tryz.underlying75 hi hz0 hz1 hz2 rfl (by decide) v i _ rfl (hown.alloc _) ⟨wo.heap.size, 0, none⟩ 1 1 [.int .i64 (u + more)] rfl rfl (cell_one_new _ _ _) (by simp [Value.oneCell']) hmax.out.1 hmax.out.2 (by simp; omega) ?_; intro v' w2 hown2 hg2 hnil2 hloc2; clear hnil2)
      go_roundw
      case rel => exact ⟨i + 1, v', by omega, by go_num, rfl, by rw [htk.out]; simpa [hplh.out] using hown2, (hBe.alloc hso _).grown hg2 (by simp; omega) (fun j e => (hown.lt j e).1)⟩
      case measure => simp [intOf]; omega
    · obtain rfl : i = n := by omega
      rw [List.take_of_length_le (by rw [hlh.out]; exact Nat.le_refl _)] at hown
      go_wp2
      go_ret
      obtain ⟨A5, c5, rfl, h1, h2, h3⟩ := nums_of_own hown
      exact ⟨A5, c5, rfl, h1, h2, h3, hBe⟩
end Go.Proofs.YtoopdgohdeddoaaGreatDoor

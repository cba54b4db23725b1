/- Proved here: texts joined: AlnLo, CkOut. -/
import Derived.Test.YticgjbckfpkpjaaGreatBt11
/- Proved here: the contract of the document's own function of layer 5 that makes two chunks one: longer. -/
namespace Go.Proofs.YticgjbckfpkpjaaGreat
open Go.RowKit
set_option linter.unusedVariables false

/-- The sides of two chunks as one's. -/
def joinS (xs ys : List Sp) : List Sp := (List.zip xs ys).map fun p => (p.1.1, p.2.2)
theorem joinS_len {xs ys : List Sp} {n : Nat} (hx : xs.length = n) (hy : ys.length = n) : (joinS xs ys).length = n := by
  unfold joinS
  rw [List.length_map, List.length_zip, hx, hy, Nat.min_self]
theorem joinS_at {xs ys : List Sp} {i : Nat} {x y : Sp} (hx : xs[i]? = some x) (hy : ys[i]? = some y) : (joinS xs ys)[i]? = some (x.1, y.2) := by
  unfold joinS
  have h : (List.zip xs ys)[i]? = some (x, y) := List.getElem?_zip_eq_some.2 ⟨hx, hy⟩
  rw [List.getElem?_map, h]
  rfl

/-- How far longer has come. -/
structure LonIn (w wr : World) (a b : Value) (fin : Bool) (f t : Int) (v : Value) (zs : List Sp) : Prop where
  one : wr.heap[w.heap.size]? = some (.cells (match a with | .agg cs => cs | _ => #[]) 48 (0, 0))
  two : wr.heap[w.heap.size + 1]? = some (.cells (match b with | .agg cs => cs | _ => #[]) 48 (0, 0))
  res : wr.heap[w.heap.size + 1 + 1]? = some (.cells #[.bool false, .int .i64 0, .int .i64 0, .slice none 0 0] 48 (0, 0))
  out : wr.heap[w.heap.size + 1 + 1 + 1]? = some (.cells #[.bool fin, .int .i64 f, .int .i64 t, v] 48 (0, 0))
  own : wr.ownsRow (w.heap.size + 4) 45 2 v zs.length (spCs zs)
  below : Below w.heap.size w wr
theorem LonIn.put {w wr w1 w2 : World} {a b : Value} {fin : Bool} {f t : Int} {v v' : Value} {zs : List Sp} {s : Sp} {o : Obj} (h : LonIn w wr a b fin f t v zs) (hb1 : Below wr.heap.size wr w1)
    (hown : w2.ownsRow (w.heap.size + 4) 45 2 v' (zs.length + 1) (spCs zs ++ spC s)) (hg : (w1.alloc o).grownBy w2 v.ownBlock) :
    (w2.heap[w.heap.size + 1 + 1 + 1]? = some (.cells #[.bool fin, .int .i64 f, .int .i64 t, v] 48 (0, 0))) ∧ LonIn w (w2.setCell ⟨w.heap.size + 1 + 1 + 1, 3, none⟩ v') a b fin f t v' (zs ++ [s]) := by
  have hlt : ∀ {k : Nat} {x : Obj}, wr.heap[k]? = some x → k < wr.heap.size := fun hk => (Array.getElem?_eq_some_iff.1 hk).1
  have hsz := hlt h.out
  have hne : ∀ k, k < w.heap.size + 4 → some k ≠ v.ownBlock := fun k hk e => by have := (h.own.lt k e.symm).1; omega
  have hk : ∀ k, k < w.heap.size + 4 → k < wr.heap.size → w2.heap[k]? = wr.heap[k]? := fun k h1 h2 => by
    have hw1 := hb1.size
    exact (hg.block k (by simp; omega) (hne k h1)).trans ((Below.heap_alloc w1 _ _ (by omega)).trans (hb1.block k h2))
  have hout := (hk _ (by omega) hsz).trans h.out
  have hset : ∀ k, k ≠ w.heap.size + 1 + 1 + 1 → (w2.setCell ⟨w.heap.size + 1 + 1 + 1, 3, none⟩ v').heap[k]? = w2.heap[k]? := fun k hk => Below.heap_setCell _ _ _ _ hk
  have hB2 : Below w.heap.size w w2 := ((h.below.trans (hb1.mono h.below.size)).alloc (by have := h.below.size; have := hb1.size; omega) o).grown hg (by have := h.below.size; have := hb1.size; simp; omega) (fun j e => by have := (h.own.lt j e).1; omega)
  refine ⟨hout, ⟨(hset _ (by omega)).trans ((hk _ (by omega) (by omega)).trans h.one), (hset _ (by omega)).trans ((hk _ (by omega) (by omega)).trans h.two), (hset _ (by omega)).trans ((hk _ (by omega) (by omega)).trans h.res), ?_, ?_, hB2.setCell (by show w.heap.size ≤ w.heap.size + 1 + 1 + 1; omega) _⟩⟩
  · unfold World.setCell
    dsimp only
    rw [Array.getElem?_modify, if_pos rfl, hout]
    rfl
  · rw [List.length_append, spCs_snoc]
    exact ownsRow_kept hown fun k e => hset k (by have := (hown.lt k e).1; omega)

set_option maxRecDepth 100000 in
set_option maxHeartbeats 8000000 in
theorem rLonger_any (st st' : Bool) (f t f' t' : Int) (A A' : Option Addr) (n c c' : Nat) (xs ys : List Sp) (w : World) (hn : n ≤ 100) (hA : Spans w w.heap.size A n xs) (hA' : Spans w w.heap.size A' n ys) :
    Calls Tryz.prog 77 #[.agg #[.bool st, .int .i64 f, .int .i64 t, .slice A n c], .agg #[.bool st', .int .i64 f', .int .i64 t', .slice A' n c']] w fun e w' => ChunkOut w w' e (st, (f, t'), joinS xs ys) := by
  have hl := hA.len
  have hl' := hA'.len
  obtain ⟨i0, hi, hzz⟩ := Option.map_eq_some_iff.1 infoSpan
  simp only [Prod.mk.injEq] at hzz
  obtain ⟨hz0, hz1, hz2⟩ := hzz
  have hjl := Lib.hid (joinS_len hl hl')
  obtain ⟨W0, hW0⟩ : ∃ W0, W0 = (((w.alloc (.cells #[.bool st, .int .i64 f, .int .i64 t, .slice A n c] 48)).alloc (.cells #[.bool st', .int .i64 f', .int .i64 t', .slice A' n c'] 48)).alloc (.cells #[.bool false, .int .i64 0, .int .i64 0, .slice none 0 0] 48)).alloc (.cells #[.bool st, .int .i64 f, .int .i64 t', .slice none 0 0] 48) := ⟨_, rfl⟩
  have hst : Hid (LonIn w W0 (.agg #[.bool st, .int .i64 f, .int .i64 t, .slice A n c]) (.agg #[.bool st', .int .i64 f', .int .i64 t', .slice A' n c']) st f t' (.slice none 0 0) []) := Lib.hid (by
    rw [hW0]
    refine ⟨?_, ?_, ?_, ?_, World.ownsRow_nil _ _ _ _, ((((Below.refl _ w).alloc (Nat.le_refl _) _).alloc (by simp) _).alloc (by simp; omega) _).alloc (by simp; omega) _⟩
    · simp only [push_at, push_size]; repeat (first | rw [if_pos trivial] | rw [if_pos (by omega)] | rw [if_neg (by omega)])
    · simp only [push_at, push_size]; repeat (first | rw [if_pos trivial] | rw [if_pos (by omega)] | rw [if_neg (by omega)])
    · simp only [push_at, push_size]; repeat (first | rw [if_pos trivial] | rw [if_pos (by omega)] | rw [if_neg (by omega)])
    · simp only [push_at, push_size]; repeat (first | rw [if_pos trivial] | rw [if_pos (by omega)] | rw [if_neg (by omega)]))
  have hW0h := Lib.hid hW0
  have hAh := Lib.hid hA
  have hA0h := Lib.hid hA'
  have hlh := Lib.hid (And.intro hl hl')
  clear hA hA' hW0 hl hl'
  go_enter Tryz.func77, Tryz.ntmps77
  go_upto_region 4 with fail
  rw [← hW0h.out]
  go_wp2
  go_loopw [6] (fun s6 wr => ∃ (i : Nat) (v : Value), i ≤ n ∧ s6 = .int .i64 i ∧ Hid (LonIn w wr (.agg #[.bool st, .int .i64 f, .int .i64 t, .slice A n c]) (.agg #[.bool st', .int .i64 f', .int .i64 t', .slice A' n c']) st f t' v ((joinS xs ys).take i))) (fun s6 _ => n - (intOf s6).toNat)
  case atStart => exact ⟨0, _, Nat.zero_le _, rfl, hst⟩
  case round =>
    obtain ⟨i, v, hin, rfl, hI⟩ := hrel
    obtain ⟨wo, rfl⟩ : ∃ wo : World, wo = wr := ⟨_, rfl⟩
    clear hst
    have a3 : wo.cell? ⟨w.heap.size, 3, none⟩ = some (.slice A n c) := by rw [cells_of hI.out.one]; rfl
    have b3 : wo.cell? ⟨w.heap.size + 1, 3, none⟩ = some (.slice A' n c') := by rw [cells_of hI.out.two]; rfl
    by_cases hlt : i < n
    · obtain ⟨b1, o1, s1, rfl, hb1, hs1, p1, p2⟩ := (hAh.out.keep (w' := wo) (fun p hp => hI.out.below.cell hp)).at_ hlt
      obtain ⟨b2, o2, s2, rfl, hb2, hs2, q1, q2⟩ := (hA0h.out.keep (w' := wo) (fun p hp => hI.out.below.cell hp)).at_ hlt
      have i1 : (0 : Int) ≤ (i : Int) := by omega
      have i2 : (i : Int) < (n : Int) := by omega
      have o3 : wo.cell? ⟨w.heap.size + 1 + 1 + 1, 3, none⟩ = some v := by rw [cells_of hI.out.out]; rfl
      have hown := hI.out.own
      have hsz : w.heap.size + 4 ≤ wo.heap.size := (Array.getElem?_eq_some_iff.1 hI.out.out).1
      have hzl : ((joinS xs ys).take i).length = i := by
        rw [List.length_take, hjl.out]
        omega
      have hzip : (joinS xs ys).take (i + 1) = (joinS xs ys).take i ++ [(s1.1, s2.2)] := take_at (joinS_at hs1 hs2)
      rw [hzl] at hown
      have hmax : Hid (i + 1 ≤ maxLen ∧ (i + 1) * 16 ≤ 140737488355328) := Lib.hid ⟨by unfold maxLen; omega, by omega⟩
      have hput : Hid (∀ (v' : Value) (w1 w2 : World) (o : Obj), Below wo.heap.size wo w1 → w2.ownsRow (w.heap.size + 4) 45 2 v' (i + 1) (spCs ((joinS xs ys).take i) ++ spC (s1.1, s2.2)) → (w1.alloc o).grownBy w2 v.ownBlock →
          (w2.heap[w.heap.size + 1 + 1 + 1]? = some (.cells #[.bool st, .int .i64 f, .int .i64 t', v] 48 (0, 0))) ∧ LonIn w (w2.setCell ⟨w.heap.size + 1 + 1 + 1, 3, none⟩ v') (.agg #[.bool st, .int .i64 f, .int .i64 t, .slice (some ⟨b1, o1, none⟩) n c]) (.agg #[.bool st', .int .i64 f', .int .i64 t', .slice (some ⟨b2, o2, none⟩) n c']) st f t' v' ((joinS xs ys).take (i + 1))) := Lib.hid (fun v' w1 w2 o h1 h2 h3 => by
        rw [hzip]
        exact hI.out.put h1 (by rw [hzl]; exact h2) h3)
      have o4 : (wo.alloc (.cells #[.int .i64 s1.1, .int .i64 s2.2] 45)).cell? ⟨w.heap.size + 1 + 1 + 1, 3, none⟩ = some v := (World.cell?_alloc_lt _ _ _ (by show w.heap.size + 1 + 1 + 1 < _; omega)).trans o3
      clear hzip hzl hs1 hs2 p2 q1
      go_wp2
      go_region_law (refine appendO_step rfl (.tmp 25) (.tmp 39) 46 rfl (w.heap.size + 4) 45 i0 (.agg #[.int .i64 0, .int .i64 0]) 2 16 Tryz.underlying46 hi hz0 hz1 hz2 rfl (by decide) v i _ (by simp [Act.eval]) (show (wo.alloc (.cells #[.int .i64 s1.1, .int .i64 s2.2] 45)).ownsRow (w.heap.size + 4) 45 2 v i _ from hown.alloc _) ⟨wo.heap.size, 0, none⟩ 1 1 (spC (s1.1, s2.2)) (by simp [Act.eval]) rfl (cell_new_sp wo (s1.1, s2.2) _) (spC_one _) hmax.out.1 hmax.out.2 (by simp; omega) ?_; intro v' w8 hown8 hg8 hloc8; obtain ⟨g', cap', rfl⟩ := ownsRow_succ hown8; obtain ⟨hc8, hI8⟩ := hput.out _ wo.drew w8 (.cells #[.int .i64 s1.1, .int .i64 s2.2] 45) ⟨rfl, rfl, rfl, Nat.le_refl _, fun _ _ => rfl⟩ hown8 hg8; have e8 : w8.cell? ⟨w.heap.size + 1 + 1 + 1, 3, none⟩ = some v := (by rw [cells_of hc8]; rfl); have z8 := unfrozen_of hc8 3; have hI8h := Lib.hid hI8; clear hc8 hI8)
      all_goals (go_wp2; go_roundw)
      all_goals first
        | exact ⟨i + 1, _, by omega, by go_num, hI8h⟩
        | (simp [intOf] <;> omega)
    · obtain rfl : i = n := by omega
      obtain ⟨e0, e1, e2, e3, -⟩ := piece_at hI.out.out
      obtain ⟨r0, r1, r2, r3, z0, z1, z2, z3⟩ := piece_at hI.out.res
      have hzt : (joinS xs ys).take i = joinS xs ys := List.take_of_length_le (by rw [hjl.out]; omega)
      have hI2 := hI.out
      rw [hzt] at hI2
      have hown := hI2.own
      rw [hjl.out] at hown
      have hB := hI2.below
      have hown2 : ((((wo.setCell ⟨w.heap.size + 1 + 1, 0, none⟩ (.bool st)).setCell ⟨w.heap.size + 1 + 1, 1, none⟩ (.int .i64 f)).setCell ⟨w.heap.size + 1 + 1, 2, none⟩ (.int .i64 t')).setCell ⟨w.heap.size + 1 + 1, 3, none⟩ v).ownsRow (w.heap.size + 4) 45 2 v i (spCs (joinS xs ys)) := ownsRow_kept hown fun k e => by
        have := (hown.lt k e).1
        exact ((((Below.heap_setCell _ _ _ _ (by show k ≠ w.heap.size + 1 + 1; omega)).trans (Below.heap_setCell _ _ _ _ (by show k ≠ w.heap.size + 1 + 1; omega))).trans (Below.heap_setCell _ _ _ _ (by show k ≠ w.heap.size + 1 + 1; omega))).trans (Below.heap_setCell _ _ _ _ (by show k ≠ w.heap.size + 1 + 1; omega)))
      have hB2 := (((hB.setCell (p := ⟨w.heap.size + 1 + 1, 0, none⟩) (by show w.heap.size ≤ w.heap.size + 1 + 1; omega) (.bool st)).setCell (p := ⟨w.heap.size + 1 + 1, 1, none⟩) (by show w.heap.size ≤ w.heap.size + 1 + 1; omega) (.int .i64 f)).setCell (p := ⟨w.heap.size + 1 + 1, 2, none⟩) (by show w.heap.size ≤ w.heap.size + 1 + 1; omega) (.int .i64 t')).setCell (p := ⟨w.heap.size + 1 + 1, 3, none⟩) (by show w.heap.size ≤ w.heap.size + 1 + 1; omega) v
      obtain ⟨A5, c5, rfl, k1, k2, k3, k4⟩ := spans_of_own hown2
      have hfin : Hid (ChunkOut w _ (.returned (.agg #[.bool st, .int .i64 f, .int .i64 t', .slice A5 i c5])) (st, (f, t'), joinS xs ys)) := Lib.hid ⟨A5, i, c5, rfl, k1, k2, k3, fun h g o e => by have := k4 h g o e; omega, hB2⟩
      clear hI2 hown hown2 hB2 k3 k4 hzt hB
      go_wp2
      refine bodyPost_ret (v := .agg #[.bool st, .int .i64 f, .int .i64 t', .slice A5 i c5]) (by simp [results, Tryz.results77, go_sem, World.cell?_setCell_same', r0, r1, r2, r3]) rfl ?_
      exact hfin.out
end Go.Proofs.YticgjbckfpkpjaaGreat
/- Proved here, without conditions on the program: chunks of the call's own. -/
namespace Go.Proofs.YticgjbckfpkpjaaGreat
open Go.RowKit
set_option linter.unusedVariables false

theorem infoCk : (Tryz.prog.info? 48).map (fun i => (i.zero, i.size, i.bytes)) = some (some (.agg #[.bool false, .int .i64 0, .int .i64 0, .slice none 0 0]), 4, 48) := by kernel_rfl
/-- A chunk's sides, as a slice. -/
abbrev CkV := Option Addr × Nat × Nat
def ckR (w : World) (B : Nat) (r : CkV) (c : Ck) : Prop := r.2.1 ≤ r.2.2 ∧ r.2.2 ≤ maxLen ∧ Spans w B r.1 r.2.1 c.2.2
def cqC (q : CkV × Ck) : List Value := [.bool q.2.1, .int .i64 q.2.2.1.1, .int .i64 q.2.2.1.2, .slice q.1.1 q.1.2.1 q.1.2.2]
def cqCs (qs : List (CkV × Ck)) : List Value := qs.flatMap cqC
def cksOf (qs : List (CkV × Ck)) : List Ck := qs.map fun q => q.2
theorem ckR.keep {w w' : World} {B : Nat} {r : CkV} {c : Ck} (h : ckR w B r c) (hk : ∀ p : Addr, p.block < B → w'.cell? p = w.cell? p) : ckR w' B r c := ⟨h.1, h.2.1, h.2.2.keep hk⟩
theorem ckR.more {w : World} {B B' : Nat} {r : CkV} {c : Ck} (h : ckR w B r c) (hB : B ≤ B') : ckR w B' r c := ⟨h.1, h.2.1, h.2.2.more hB⟩
theorem cqCs_len : ∀ qs : List (CkV × Ck), (cqCs qs).length = qs.length * 4
  | [] => rfl
  | q :: qs => by
    show (cqC q ++ cqCs qs).length = _
    rw [List.length_append, cqCs_len qs, List.length_cons]
    show 4 + qs.length * 4 = _
    omega
theorem cqCs_at : ∀ (qs : List (CkV × Ck)) (j r : Nat) (q : CkV × Ck), qs[j]? = some q → r < 4 → (cqCs qs)[j * 4 + r]? = (cqC q)[r]?
  | [], _, _, _, h, _ => by simp at h
  | d :: qs, 0, r, q, h, hr => by
    simp at h
    subst h
    show (cqC d ++ cqCs qs)[0 * 4 + r]? = _
    rw [Nat.zero_mul, Nat.zero_add, List.getElem?_append_left (by show r < 4; exact hr)]
  | d :: qs, j + 1, r, q, h, hr => by
    show (cqC d ++ cqCs qs)[(j + 1) * 4 + r]? = _
    rw [List.getElem?_append_right (by show 4 ≤ _; omega), show (j + 1) * 4 + r - (cqC d).length = j * 4 + r by show (j + 1) * 4 + r - 4 = _; omega]
    exact cqCs_at qs j r q (by simpa using h) hr
theorem cqCs_snoc (qs : List (CkV × Ck)) (q : CkV × Ck) : cqCs (qs ++ [q]) = cqCs qs ++ cqC q := by simp [cqCs]
theorem cqC_one (q : CkV × Ck) : ∀ u ∈ cqC q, u.oneCell' = true := by
  intro u hu
  simp [cqC] at hu
  rcases hu with rfl | rfl | rfl | rfl <;> rfl
def ckObj (q : CkV × Ck) : Obj := .cells #[.bool q.2.1, .int .i64 q.2.2.1.1, .int .i64 q.2.2.1.2, .slice q.1.1 q.1.2.1 q.1.2.2] 48
theorem cell_new_cq (w : World) (q : CkV × Ck) : ∀ j u, (cqC q)[j]? = some u → (w.alloc (ckObj q)).cell? ((⟨w.heap.size, 0, none⟩ : Addr).add j) = some u := by
  intro j u hu
  unfold ckObj
  rw [addr_add, World.cell?_alloc_mark]
  simpa [cqC] using hu

/-- Chunks of the call's own, above block B; their sides stand, whatever becomes of the chunks' own block, and of what lies below B. -/
structure CksO (B : Nat) (wr : World) (v : Value) (qs : List (CkV × Ck)) : Prop where
  own : wr.ownsRow B 48 4 v qs.length (cqCs qs)
  row : ∀ w2, But (fun k => v.ownBlock = some k ∨ k < B) wr w2 → ∀ q ∈ qs, ckR w2 w2.heap.size q.1 q.2
  size : B ≤ wr.heap.size
section
variable {B : Nat} {wr w1 w2 : World} {v v' : Value} {qs : List (CkV × Ck)}
theorem CksO.start {B : Nat} {w : World} (h : B ≤ w.heap.size) : CksO B w (.slice none 0 0) [] := ⟨World.ownsRow_nil _ _ _ _, fun w2 h q hq => by simp at hq, h⟩
theorem CksO.up (h : CksO B wr v qs) (hb : Below wr.heap.size wr w1) : CksO B w1 v qs :=
  ⟨ownsRow_kept h.own fun k e => hb.block k (h.own.lt k e).2, fun w2 h2 => h.row w2 ((But.of_below hb fun k hk _ => hk).trans h2 fun k e => .inl e), Nat.le_trans h.size hb.size⟩
theorem CksO.touch (h : CksO B wr v qs) (hb : But (fun k => k < B) wr w1) : CksO B w1 v qs :=
  ⟨ownsRow_kept h.own fun k e => hb.block k (h.own.lt k e).2 (by have := (h.own.lt k e).1; omega), fun w2 h2 => h.row w2 ((hb.more fun k e => .inr e).trans h2 fun k e => .inl e), Nat.le_trans h.size hb.size⟩
theorem CksO.put {q : CkV × Ck} {o : Obj} (h : CksO B wr v qs) (hr : ∀ w2, But (fun k => v.ownBlock = some k ∨ k < B) wr w2 → ckR w2 w2.heap.size q.1 q.2)
    (hown : w2.ownsRow B 48 4 v' (qs.length + 1) (cqCs qs ++ cqC q)) (hg : (wr.alloc o).grownBy w2 v.ownBlock) (hloc : v'.ownBlock = v.ownBlock ∨ v'.ownBlock = some (wr.alloc o).heap.size) : CksO B w2 v' (qs ++ [q]) := by
  have hb2 : But (fun k => v.ownBlock = some k ∨ k < B) wr w2 := ((But.alloc wr o).trans (But.of_grown hg fun k e => e) fun k e => .inl e).more fun k e => .inl e
  refine ⟨by rw [List.length_append, cqCs_snoc]; exact hown, fun w3 h3 p hp => ?_, Nat.le_trans h.size hb2.size⟩
  have hb3 : But (fun k => v.ownBlock = some k ∨ k < B) wr w3 := hb2.trans h3 fun k e => by
    rcases e with e | e
    · rcases hloc with hl | hl
      · exact .inl (.inl (hl.symm.trans e))
      · rw [hl] at e
        injection e with e
        exact .inr (by rw [← e]; simp)
    · exact .inl (.inr e)
  rcases List.mem_append.1 hp with hp | hp
  · exact h.row w3 hb3 p hp
  · rw [List.mem_singleton.1 hp]
    exact hr w3 hb3
/-- Without the last one. -/
theorem CksO.pop {g cap n : Nat} {q : CkV × Ck} (h : CksO B wr (.slice (some ⟨g, 0, none⟩) (n + 1) cap) (qs ++ [q])) (hn : qs.length = n) : CksO B wr (.slice (some ⟨g, 0, none⟩) n cap) qs := by
  have h1 := h.own
  rw [List.length_append, List.length_singleton, hn, cqCs_snoc] at h1
  refine ⟨by rw [hn]; exact ownsRow_pop (by rw [cqCs_len, hn]) h1, fun w2 h2 p hp => h.row w2 h2 p (List.mem_append_left _ hp), h.size⟩
theorem CksO.reads (h : CksO B wr v qs) : ∃ A c, v = .slice A qs.length c ∧ qs.length ≤ c ∧ c ≤ maxLen ∧ Cks wr wr.heap.size A qs.length (cksOf qs) := by
  have hr := h.own
  have hrow := h.row wr (But.refl _ _)
  have hread : ∀ (g c : Nat), v = .slice (some ⟨g, 0, none⟩) qs.length c → Cks wr wr.heap.size (some ⟨g, 0, none⟩) qs.length (cksOf qs) := by
    rintro g c rfl
    refine ⟨by simp [cksOf], fun hn => ⟨g, 0, rfl, (hr.lt g rfl).2, fun j c hj => ?_⟩⟩
    unfold cksOf at hj
    rw [List.getElem?_map] at hj
    cases hq : qs[j]? with
    | none => rw [hq] at hj; cases hj
    | some q =>
      rw [hq] at hj
      simp at hj
      subst hj
      have hc := hr.cells (g := g) rfl
      have kk : ∀ r, r < 4 → ∀ u, (cqC q)[r]? = some u → wr.cell? ⟨g, 0 + j * 4 + r, none⟩ = some u := fun r hr2 u hu => by
        rw [Nat.zero_add, ← addr_add]
        exact hc _ u ((cqCs_at qs j r _ hq hr2).trans hu)
      have k0 := kk 0 (by omega) (.bool q.2.1) rfl
      have k1 := kk 1 (by omega) (.int .i64 q.2.2.1.1) rfl
      have k2 := kk 2 (by omega) (.int .i64 q.2.2.1.2) rfl
      have k3 := kk 3 (by omega) (.slice q.1.1 q.1.2.1 q.1.2.2) rfl
      obtain ⟨e1, e2, e3⟩ := hrow q (List.mem_of_getElem? hq)
      exact ⟨k0, k1, k2, q.1.1, q.1.2.1, q.1.2.2, k3, e1, e2, e3⟩
  rcases hr.2 with ⟨rfl, h0⟩ | ⟨g, cap, cur, rfl, _, _, hnc, hcm, _⟩
  · have : qs = [] := List.eq_nil_of_length_eq_zero h0
    subst this
    exact ⟨none, 0, rfl, Nat.le_refl _, Nat.zero_le _, Cks.nil _ _ _⟩
  · exact ⟨_, cap, rfl, hnc, hcm, hread g cap rfl⟩
end
/-- Chunks that a call tells, and no error. -/
def CksOut (w w' : World) (e : Ending) (cs : List Ck) : Prop := ∃ A n c, e = .returned (.tuple #[.slice A n c, .int .i64 0]) ∧ n ≤ c ∧ c ≤ maxLen ∧ Cks w' w'.heap.size A n cs ∧ Below w.heap.size w w'
/-- A chunk that was told stands, but for blocks that lay ahead. -/
theorem ChunkOut.stay {F : Nat → Prop} {w w' w2 : World} {A : Option Addr} {n cap : Nat} {c : Ck} (h1 : n ≤ cap) (h2 : cap ≤ maxLen) (h3 : Spans w' w'.heap.size A n c.2.2) (h4 : 0 < n → ∀ g o, A = some ⟨g, o, none⟩ → w.heap.size ≤ g) (hb : But F w' w2) (hF : ∀ k, F k → k < w.heap.size) : ckR w2 w2.heap.size (A, n, cap) c := by
  refine ⟨h1, h2, h3.1, fun hn => ?_⟩
  obtain ⟨b, o, e, hlt, hc⟩ := h3.2 hn
  have hge := h4 hn b o e
  have key : ∀ q : Addr, q.block = b → w2.cell? q = w'.cell? q := fun q hq => World.cell?_of_block (by rw [hq]; exact hb.block b hlt (fun hf => by have := hF b hf; omega))
  exact ⟨b, o, e, Nat.lt_of_lt_of_le hlt hb.size, fun j s hj => ⟨(key _ rfl).trans (hc j s hj).1, (key _ rfl).trans (hc j s hj).2⟩⟩
end Go.Proofs.YticgjbckfpkpjaaGreat

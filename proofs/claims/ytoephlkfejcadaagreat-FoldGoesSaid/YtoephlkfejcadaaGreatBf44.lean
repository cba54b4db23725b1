/- Proved here: texts joined: MgGo, PkClean. -/
import Derived.Test.YtoephlkfejcadaaGreatBf09
import Derived.Test.YtoephlkfejcadaaGreatBf20
import Derived.Test.YtoephlkfejcadaaGreatBf32
import Derived.Test.YtoephlkfejcadaaGreatBf42
import Derived.Test.YtoephlkfejcadaaGreatBf43
import Derived.RangeFuncKeeps
import Derived.Maps.OwnIn
import Derived.RangeFuncBox
/- Proved here: the contract of the landed merge.Merge. -/
namespace Go.Proofs.YtoephlkfejcadaaGreat
open Go.RowKit Go.Shelf
set_option linter.unusedVariables false
set_option maxRecDepth 100000
attribute [local go_sem] Oper.semAt_some

theorem merges_bad {base : Txs} {sides : List Txs} {fav : Int} {un : Bool} {w : World} {z : Int} (hz : errM base sides fav un = z) (h0 : z ≠ 0) {w' : World} (hb : Below w.heap.size w w') : MergeNew w w' (.returned (.tuple #[.slice none 0 0, .int .i64 z])) base sides fav un :=
  ⟨z, none, 0, 0, [], [], rfl, Nat.le_refl _, Nat.zero_le _, fun _ _ => Pcs.nil _ _ _, ⟨hz.symm, fun _ => rfl, fun h => absurd h h0⟩, hb⟩

/-- How far Merge has come: its pieces lie in a row of its own, told by block lo. -/
def GoIn (w0 : World) (lo b : Nat) (pre : List Pc) (wr : World) : Prop :=
  ∃ (v : Value) (qs : List (PcV × Pc)), qs.map (fun q => q.2) = pre ∧ Boxed wr lo 26 v ∧ wr.ownsRow (b + 2) 44 4 v qs.length (pcCs qs) ∧
    (∀ w2, But (fun k => lo ≤ k ∧ (k < b + 2 ∨ v.ownBlock = some k)) wr w2 → ∀ q ∈ qs, PcR w2 w2.heap.size q.1 q.2) ∧ Below lo w0 wr
theorem goIn_bides {w0 : World} {lo b : Nat} (h0 : lo ≤ w0.heap.size) (hb : lo < b) : BidesO b (2 + 0) (GoIn w0 lo b) := by
  intro s w w' row hs hg hr
  obtain ⟨v, qs, h1, h2, h3, h4, h5⟩ := hs
  have hl := h2.lt
  have hne : ∀ k, (k < b ∨ b + 2 ≤ k) → row ≠ some k := fun k hk e => by have := hr k e; omega
  refine ⟨v, qs, h1, (hg.block lo hl (fun e => hne lo (.inl hb) e.symm)).trans h2, ownsRow_kept h3 fun k e => hg.block k (h3.lt k e).2 (fun e2 => hne k (.inr (h3.lt k e).1) e2.symm), fun w2 hw2 => h4 w2 ?_, h5.grown hg (by have := h5.size; omega) (fun k e => by have := (hr k e).1; omega)⟩
  exact (But.of_grown (F := fun k => lo ≤ k ∧ (k < b + 2 ∨ v.ownBlock = some k)) hg fun k e => by have := hr k e; exact ⟨by omega, .inl (by omega)⟩).trans hw2 fun k e => .inl e

theorem row_cellsP {W : World} {n₀ : Nat} {e : TypeId} {size : Nat} {v : Value} {k : Nat} {xs : List Value} (h : W.ownsRow n₀ e size v k xs) {r : Nat} (hr : v.ownBlock = some r) {o : Obj} (ho : W.heap[r]? = some o) : o.isCells = true := by
  rcases h.2 with ⟨rfl, _⟩ | ⟨g, cap, cur, rfl, _, hg, _⟩
  · cases hr
  · obtain rfl : g = r := by simpa [Value.ownBlock] using hr
    rw [hg] at ho; cases ho; rfl
/-- One more piece. -/
theorem goIn_put {w0 wr w1 : World} {lo b S : Nat} {v v' : Value} {qs : List (PcV × Pc)} {x : Pc} {pv : PcV} {o : Obj} (hlo : lo ≤ w0.heap.size) (hlb : lo + 5 ≤ b) (hbx : Boxed wr lo 26 v) (hown : wr.ownsRow (b + 2) 44 4 v qs.length (pcCs qs))
    (hrow : ∀ w2, But (fun k => lo ≤ k ∧ (k < b + 2 ∨ v.ownBlock = some k)) wr w2 → ∀ q ∈ qs, PcR w2 w2.heap.size q.1 q.2) (hB : Below lo w0 wr) (hS : ∀ k, v.ownBlock = some k → k < S) (hbS : b + 2 ≤ S)
    (hpv : ∀ w2, But (fun k => lo ≤ k ∧ k < S) wr w2 → PcR w2 w2.heap.size pv x) (hown' : w1.ownsRow (b + 2) 44 4 v' (qs.length + 1) (pcCs qs ++ pcC x.1 pv)) (hg : (wr.alloc o).grownBy w1 v.ownBlock) (hloc : v'.ownBlock = v.ownBlock ∨ v'.ownBlock = some (wr.alloc o).heap.size) :
    Boxed w1 lo 26 v ∧ GoIn w0 lo b (qs.map (fun q => q.2) ++ [x]) (w1.setCell ⟨lo, 0, none⟩ v') ∧ Leaves (ReadP lo (lo + 1)) b (2 + 0) wr (w1.setCell ⟨lo, 0, none⟩ v') := by
  have hge : ∀ k, v.ownBlock = some k → b + 2 ≤ k := fun k e => (hown.lt k e).1
  have hl := hbx.lt
  have hv0 : Boxed (wr.alloc o) lo 26 v := hbx.alloc o
  have hv1 : Boxed w1 lo 26 v := (hg.block lo (by simp; omega) (fun e => by have := hge lo e.symm; omega)).trans hv0
  have hbut : But (fun k => k = lo ∨ v.ownBlock = some k) wr (w1.setCell ⟨lo, 0, none⟩ v') :=
    ((But.alloc wr o).trans (But.of_grown (F := fun k => v.ownBlock = some k) hg fun k e => e) (fun k e => .inl (.inr e))).trans (But.setCell (F := fun k => k = lo) w1 (p := ⟨lo, 0, none⟩) rfl v') fun k e => .inl (.inl e)
  have hnew : ∀ k, v'.ownBlock = some k → v.ownBlock = some k ∨ wr.heap.size ≤ k := fun k e => by
    rcases hloc with h | h
    · exact .inl (h.symm.trans e)
    · rw [h] at e
      injection e with e
      exact .inr (by rw [← e]; simp)
  refine ⟨hv1, ⟨v', qs ++ [(pv, x)], by simp, hv1.set v', ?_, fun w3 h3 q hq => ?_, hB.trans (hbut.below (by have := hB.size; omega) fun k e => ?_)⟩, Leaves.but hbut (fun r hr => ?_) (fun r hr hb o' ho => ?_)⟩
  · rw [List.length_append, pcCs_snoc]
    exact ownsRow_kept hown' fun k e => Below.heap_setCell _ _ _ _ (by have := (hown'.lt k e).1; show k ≠ lo; omega)
  · rcases List.mem_append.1 hq with hq | hq
    · refine hrow w3 ((hbut.more (F' := fun k => lo ≤ k ∧ (k < b + 2 ∨ v.ownBlock = some k)) fun k e => ?_).trans h3 fun k e => ?_) q hq
      · rcases e with e | e
        · exact ⟨by omega, .inl (by omega)⟩
        · exact ⟨by have := hge k e; omega, .inr e⟩
      · obtain ⟨e1, e2 | e2⟩ := e
        · exact .inl ⟨e1, .inl e2⟩
        · rcases hnew k e2 with e3 | e3
          · exact .inl ⟨e1, .inr e3⟩
          · exact .inr e3
    · rw [List.mem_singleton.1 hq]
      refine hpv w3 ((hbut.more (F' := fun k => lo ≤ k ∧ k < S) fun k e => ?_).trans h3 fun k e => ?_)
      · rcases e with e | e
        · exact ⟨by omega, by omega⟩
        · exact ⟨by have := hge k e; omega, hS k e⟩
      · obtain ⟨e1, e2 | e2⟩ := e
        · exact .inl ⟨e1, by omega⟩
        · rcases hnew k e2 with e3 | e3
          · exact .inl ⟨e1, hS k e3⟩
          · exact .inr e3
  · rcases e with e | e
    · omega
    · have := hge k e; omega
  · rcases hr with e | e
    · exact ⟨fun h => by unfold ReadP at h; omega, .inl (by omega)⟩
    · have := hge r e
      exact ⟨fun h => by unfold ReadP at h; omega, .inr (by omega)⟩
  · rcases hr with e | e
    · omega
    · exact row_cellsP hown e ho
theorem goIn_reads {w0 V : World} {lo b : Nat} {pre : List Pc} (hlo : lo = w0.heap.size) (hlb : lo < b) (h : GoIn w0 lo b pre V) : ∃ A c vs, Boxed V lo 26 (.slice A pre.length c) ∧ pre.length ≤ c ∧ c ≤ maxLen ∧ Pcs V V.heap.size A pre.length vs pre ∧ Below w0.heap.size w0 V := by
  obtain ⟨v, qs, h1, h2, h3, h4, h5⟩ := h
  have hP : PcsO w0 V v qs := ⟨ownsRow_low h3 (by omega), fun w2 hw2 => h4 w2 (hw2.more fun k e => ⟨by have := (h3.lt k e).1; omega, .inr e⟩), by rw [← hlo]; exact h5⟩
  obtain ⟨A, c, rfl, r1, r2, r3⟩ := hP.reads
  have hl : pre.length = qs.length := by rw [← h1, List.length_map]
  rw [hl]
  rw [h1] at r3
  exact ⟨A, c, _, h2, r1, r2, r3, hP.below⟩
theorem cell_putD {W : World} {D : Nat} {l : Option (List Deferred)} {p : Addr} (h : W.heap[D]? = some (.deferred l)) (l' : Option (List Deferred)) : (W.putObj D (.deferred l')).cell? p = W.cell? p := by
  by_cases e : p.block = D
  · have hlt := (Array.getElem?_eq_some_iff.1 h).1
    have h2 : (W.putObj D (.deferred l')).heap[D]? = some (.deferred l') := World.putObj_heap_same hlt
    simp [World.cell?, e, h, h2]
  · exact World.cell?_of_block (World.putObj_heap_other e)

theorem But.putD {W : World} {D : Nat} (l' : Option (List Deferred)) : But (fun k => k = D) W (W.putObj D (.deferred l')) :=
  ⟨rfl, rfl, rfl, by simp, fun k _ hn => World.putObj_heap_other hn⟩
/-- What the round's variable holds. -/
def VarP (lo b : Nat) (x : Pc) (Bp : Nat) (W : World) : Prop :=
  ∃ (v : PcV) (S : Nat) (u : Value), W.heap[Bp]? = some (.cells #[.bool x.1, .slice v.1.1 v.1.2.1 v.1.2.2, .slice v.2.1.1 v.2.1.2.1 v.2.1.2.2, .slice v.2.2.1 v.2.2.2.1 v.2.2.2.2] 44 (0, 0)) ∧ Boxed W lo 26 u ∧ (∀ k, u.ownBlock = some k → k < S) ∧ b + 2 ≤ S ∧ S ≤ Bp ∧
    ∀ w2, But (fun k => lo ≤ k ∧ k < S) W w2 → PcR w2 w2.heap.size v x
theorem varP_bides {lo b : Nat} (hb : lo < b) (x : Pc) (Bp : Nat) : BidesO b (2 + 0) (fun (_ : Unit) W => VarP lo b x Bp W) := by
  intro s w w' row hs hg hr
  obtain ⟨v, S, u, h1, h2, h3, h4, h5, h6⟩ := hs
  have hne : ∀ k, (k < b ∨ b + 2 ≤ k) → row ≠ some k := fun k hk e => by have := hr k e; omega
  have hp := (Array.getElem?_eq_some_iff.1 h1).1
  refine ⟨v, S, u, (hg.block Bp hp (fun e => hne Bp (.inr (by omega)) e.symm)).trans h1, (hg.block lo h2.lt (fun e => hne lo (.inl hb) e.symm)).trans h2, h3, h4, h5, fun w2 hw2 => h6 w2 ?_⟩
  exact (But.of_grown (F := fun k => lo ≤ k ∧ k < S) hg fun k e => by have := hr k e; exact ⟨by omega, by omega⟩).trans hw2 fun k e => .inl e

set_option maxHeartbeats 4000000 in
theorem merge_bad (A0 : Option Addr) (n0 c0 : Nat) (base : Txs) (A : Option Addr) (n c : Nat) (rows : List Slc) (sides : List Txs) (fav : Int) (un : Bool) (w : World) (hnc : n ≤ c) (hcm : c ≤ maxLen) (hsm : smallM base sides) (hA0 : TxR w w.heap.size (A0, n0, c0) base) (hA : RowsT w w.heap.size A n rows sides) (N : Nat) (hN : 8 ≤ N)
    (hbad : wrongN base sides ≠ 0 ∨ mayHow fav un sides.length = false) :
    CallsIn Fence.wide N Tryz.prog 13 #[.slice A0 n0 c0, .slice A n c, .agg #[.int .i64 fav, .bool un]] w fun e w' => MergeNew w w' e base sides fav un := by
  obtain ⟨W0, hW0⟩ : ∃ W0, W0 = w.alloc (.cells #[.int .i64 fav, .bool un] 36) := ⟨_, rfl⟩
  have hb0 : Below w.heap.size w W0 := by rw [hW0]; exact (Below.refl _ _).alloc (Nat.le_refl _) _
  have k0 : W0.heap[w.heap.size]? = some (.cells #[.int .i64 fav, .bool un] 36 (0, 0)) := by rw [hW0]; exact Go.Deep.blk_alloc_new w _
  have hC := Lib.hid (chunks_any A0 n0 c0 base A n c rows sides W0 hnc hcm hsm (hA0.up hb0) (hA.up hb0))
  have hl := hA.len
  have hN1 : 1 ≤ N := by omega
  have hN2 : 1 ≤ N - 1 := by omega
  have hN3 : 1 ≤ N - 1 - 1 := by omega
  obtain ⟨z, hz⟩ : ∃ z, wrongN base sides = z := ⟨_, rfl⟩
  have hzh := Lib.hid hz
  have hb0h := Lib.hid hb0
  have hk0h := Lib.hid k0
  have hlt : Hid (w.heap.size < W0.heap.size) := Lib.hid (Array.getElem?_eq_some_iff.1 k0).1
  by_cases h0 : z = 0
  · subst h0
    have hmay : mayHow fav un n = false := by
      rcases hbad with h | h
      · exact absurd hz h
      · rw [← hl]; exact h
    have hM := Lib.hid (fun W => mayHow_any fav un n W)
    rw [hmay] at hM
    have he : errM base sides fav un = 1 := by
      unfold errM
      rw [if_neg (by rw [hz]; simp), if_pos]
      unfold mayHow at hmay
      have := of_decide_eq_false hmay
      by_cases e1 : fav < 0
      · exact .inl e1
      · by_cases e2 : (sides.length : Int) < fav
        · exact .inr (.inl e2)
        · refine .inr (.inr ⟨fun e => this ⟨by omega, by omega, .inl e⟩, ?_⟩)
          cases un with
          | true => rfl
          | false => exact absurd ⟨by omega, by omega, .inr rfl⟩ this
    have hfin := Lib.hid (fun w' hb => merges_bad (w := w) (w' := w') he (by decide) hb)
    subst hW0
    clear hz hbad hA hA0 hmay he hsm hb0 k0
    refine callsIn_of_wp_marks Tryz.func13 rfl trivial ?_ rfl
    simp only [Tryz.ntmps13, List.size_toArray, List.length_cons, List.length_nil, Nat.reduceAdd, Nat.reduceSub, Array.replicate_succ, Array.replicate_zero, List.push_toArray, List.append_toArray, List.nil_append, List.cons_append]
    gi_wp2_with (refine ⟨trivial, ?_⟩; first
      | (gi_at_call 19; refine (callsIn_wide.2 hC.out).mono ?_; rintro e w1 ⟨er, A1, n1, c1, cs, rfl, q1, q2, q3, q4, q5⟩; have her : er = 0 := (q4.1.trans hzh.out); subst her; have hb1 := Lib.hid q5; have e1 := (q5.block _ hlt.out).trans hk0h.out; have x0 : w1.cell? ⟨w.heap.size, 0, none⟩ = some (.int .i64 fav) := (by rw [cells_of e1]; rfl); have x1 : w1.cell? ⟨w.heap.size, 1, none⟩ = some (.bool un) := (by rw [cells_of e1]; rfl); clear q1 q2 q3 q4 q5 e1)
      | (gi_at_call 30; refine (callsIn_wide.2 (hM.out _)).mono ?_; rintro e w2 ⟨rfl, hb2⟩))
    refine ⟨_, results_tmp2 rfl _ _ _, ?_⟩
    exact hfin.out _ (hb0h.out.trans ((hb1.out.trans (hb2.mono hb1.out.size)).mono hb0h.out.size))
  · have he : errM base sides fav un = z := by
      unfold errM
      rw [if_pos (by rw [hz]; exact h0), hz]
    have hfin := Lib.hid (fun w' hb => merges_bad (w := w) (w' := w') he h0 hb)
    have hz0 : (z != 0) = true := by simpa using h0
    subst hW0
    clear hz hbad hA hA0 he hsm h0 hb0 k0
    refine callsIn_of_wp_marks Tryz.func13 rfl trivial ?_ rfl
    simp only [Tryz.ntmps13, List.size_toArray, List.length_cons, List.length_nil, Nat.reduceAdd, Nat.reduceSub, Array.replicate_succ, Array.replicate_zero, List.push_toArray, List.append_toArray, List.nil_append, List.cons_append]
    gi_wp2_with (refine ⟨trivial, ?_⟩; gi_at_call 19; refine (callsIn_wide.2 hC.out).mono ?_; rintro e w1 ⟨er, A1, n1, c1, cs, rfl, q1, q2, q3, q4, q5⟩; have her : er = z := (q4.1.trans hzh.out); subst her; have hb1 := Lib.hid q5; clear q1 q2 q3 q4 q5)
    refine ⟨_, results_tmp2 rfl _ _ _, ?_⟩
    exact hfin.out _ (hb0h.out.trans (hb1.out.mono hb0h.out.size))

theorem fiveG (w : World) (o1 o2 o3 o4 o5 : Obj) : (((((w.alloc o1).alloc o2).alloc o3).alloc o4).alloc o5).heap.size = w.heap.size + 5 ∧ (((((w.alloc o1).alloc o2).alloc o3).alloc o4).alloc o5).heap[w.heap.size]? = some o1 ∧ (((((w.alloc o1).alloc o2).alloc o3).alloc o4).alloc o5).heap[w.heap.size + 1]? = some o2 ∧
    (((((w.alloc o1).alloc o2).alloc o3).alloc o4).alloc o5).heap[w.heap.size + 2]? = some o3 ∧ (((((w.alloc o1).alloc o2).alloc o3).alloc o4).alloc o5).heap[w.heap.size + 3]? = some o4 ∧ (((((w.alloc o1).alloc o2).alloc o3).alloc o4).alloc o5).heap[w.heap.size + 4]? = some o5 ∧ Below w.heap.size w (((((w.alloc o1).alloc o2).alloc o3).alloc o4).alloc o5) := by
  have n1 := Go.Deep.blk_alloc_new w o1
  have n2 := Go.Deep.blk_alloc_new (w.alloc o1) o2
  have n3 := Go.Deep.blk_alloc_new ((w.alloc o1).alloc o2) o3
  have n4 := Go.Deep.blk_alloc_new (((w.alloc o1).alloc o2).alloc o3) o4
  have n5 := Go.Deep.blk_alloc_new ((((w.alloc o1).alloc o2).alloc o3).alloc o4) o5
  simp only [push_size] at n2 n3 n4 n5
  have b2 := Below.heap_alloc (w.alloc o1) o2
  have b3 := Below.heap_alloc ((w.alloc o1).alloc o2) o3
  have b4 := Below.heap_alloc (((w.alloc o1).alloc o2).alloc o3) o4
  have b5 := Below.heap_alloc ((((w.alloc o1).alloc o2).alloc o3).alloc o4) o5
  simp only [push_size] at b2 b3 b4 b5
  refine ⟨by simp, ?_, ?_, ?_, ?_, n5, ?_⟩
  · exact (b5 _ (by omega)).trans ((b4 _ (by omega)).trans ((b3 _ (by omega)).trans ((b2 _ (by omega)).trans n1)))
  · exact (b5 _ (by omega)).trans ((b4 _ (by omega)).trans ((b3 _ (by omega)).trans n2))
  · exact (b5 _ (by omega)).trans ((b4 _ (by omega)).trans n3)
  · exact (b5 _ (by omega)).trans n4
  · exact (((((Below.refl _ w).alloc (Nat.le_refl _) o1).alloc (by simp) o2).alloc (by simp; omega) o3).alloc (by simp; omega) o4).alloc (by simp; omega) o5

set_option maxHeartbeats 8000000 in
theorem merge_good (A0 : Option Addr) (n0 c0 : Nat) (base : Txs) (A : Option Addr) (n c : Nat) (rows : List Slc) (sides : List Txs) (fav : Int) (un : Bool) (w : World) (hnc : n ≤ c) (hcm : c ≤ maxLen) (hfav : inR64 fav) (hsm : smallM base sides) (hA0 : TxR w w.heap.size (A0, n0, c0) base) (hA : RowsT w w.heap.size A n rows sides) (N : Nat) (hN : 8 ≤ N)
    (hz : wrongN base sides = 0) (hmay : mayHow fav un sides.length = true) :
    CallsIn Fence.wide N Tryz.prog 13 #[.slice A0 n0 c0, .slice A n c, .agg #[.int .i64 fav, .bool un]] w fun e w' => MergeNew w w' e base sides fav un := by
  obtain ⟨W0, hW0⟩ : ∃ W0, W0 = w.alloc (.cells #[.int .i64 fav, .bool un] 36) := ⟨_, rfl⟩
  have hb0 : Below w.heap.size w W0 := by rw [hW0]; exact (Below.refl _ _).alloc (Nat.le_refl _) _
  have k0 : W0.heap[w.heap.size]? = some (.cells #[.int .i64 fav, .bool un] 36 (0, 0)) := by rw [hW0]; exact Go.Deep.blk_alloc_new w _
  have hC := Lib.hid (chunks_any A0 n0 c0 base A n c rows sides W0 hnc hcm hsm (hA0.up hb0) (hA.up hb0))
  have hl := hA.len
  have hN1 : 1 ≤ N := by omega
  have hN2 : 1 ≤ N - 1 := by omega
  have hN3 : 1 ≤ N - 1 - 1 := by omega
  have hzh := Lib.hid hz
  have hb0h := Lib.hid hb0
  have hk0h := Lib.hid k0
  have hlt : Hid (w.heap.size < W0.heap.size) := Lib.hid (Array.getElem?_eq_some_iff.1 k0).1
  have hM := Lib.hid (fun W => mayHow_any fav un n W)
  rw [hl] at hmay
  rw [hmay] at hM
  have hsmh := Lib.hid hsm
  have hAh := Lib.hid hA
  have hA0h := Lib.hid hA0
  have hmayh := Lib.hid hmay
  subst hW0
  clear hz hA hA0 hmay hsm hb0 k0
  refine callsIn_of_wp_marks Tryz.func13 rfl trivial ?_ rfl
  simp only [Tryz.ntmps13, List.size_toArray, List.length_cons, List.length_nil, Nat.reduceAdd, Nat.reduceSub, Array.replicate_succ, Array.replicate_zero, List.push_toArray, List.append_toArray, List.nil_append, List.cons_append]
  gi_wp2_with (refine ⟨trivial, ?_⟩; first
    | (gi_at_call 19; refine (callsIn_wide.2 hC.out).mono ?_; rintro e w1 ⟨er, A1, n1, c1, cs, rfl, q1, q2, q3, q4, q5⟩; have her : er = 0 := (q4.1.trans hzh.out); subst her; have hb1 := Lib.hid q5; have hcs := Lib.hid (And.intro q1 (And.intro q2 (And.intro q3 q4))); have e1 := (q5.block _ hlt.out).trans hk0h.out; have x0 : w1.cell? ⟨w.heap.size, 0, none⟩ = some (.int .i64 fav) := (by rw [cells_of e1]; rfl); have x1 : w1.cell? ⟨w.heap.size, 1, none⟩ = some (.bool un) := (by rw [cells_of e1]; rfl); have hlt1 := Nat.lt_of_lt_of_le hlt.out q5.size; clear q1 q2 q3 q4 q5 e1)
    | (gi_at_call 30; refine (callsIn_wide.2 (hM.out _)).mono ?_; rintro e w2 ⟨rfl, hb2⟩; have y0 := (hb2.cell (p := ⟨w.heap.size, 0, none⟩) hlt1).trans x0; have y1 := (hb2.cell (p := ⟨w.heap.size, 1, none⟩) hlt1).trans x1; have hlt2 := Nat.lt_of_lt_of_le hlt1 hb2.size; have hb2h := Lib.hid hb2; clear hb2)
    | (gi_at_call 31; refine (callsIn_wide.2 (pieces_any _ _ _ _ _ _ _ _ _ _ _ _)).mono ?_; rintro e w' ⟨rfl, rfl⟩))
  obtain ⟨hs5, h50, h51, h52, h53, h54, hB5⟩ := fiveG w2 (.cells #[.slice none 0 0] 26) (.cells #[.slice A1 n1 c1] 46) (.cells #[.slice A0 n0 c0] 22) (.cells #[.slice A n c] 23) (.cells #[.int .i64 fav, .bool un] 36)
  obtain ⟨W5, hW5⟩ : ∃ W5, W5 = (((((w2.alloc (.cells #[.slice none 0 0] 26)).alloc (.cells #[.slice A1 n1 c1] 46)).alloc (.cells #[.slice A0 n0 c0] 22)).alloc (.cells #[.slice A n c] 23)).alloc (.cells #[.int .i64 fav, .bool un] 36)) := ⟨_, rfl⟩
  rw [← hW5] at hs5 h50 h51 h52 h53 h54 hB5 ⊢
  have hbw1 : Below w.heap.size w w1 := hb0h.out.trans (hb1.out.mono hb0h.out.size)
  have hbw2 : Below w.heap.size w w2 := hbw1.trans (hb2h.out.mono hbw1.size)
  have hbw5 : Below w.heap.size w W5 := hbw2.trans (hB5.mono hbw2.size)
  have hwz1 := hbw1.size
  have hwz2 := hbw2.size
  have h12 := hb2h.out.size
  obtain ⟨ms, hMs, hCut⟩ := hcs.out.2.2.2.2.2 rfl
  have hLaid := hMs.laid hCut
  obtain ⟨v1, v2, v3, v4, v5, v6⟩ := wrong_none hzh.out
  have hn1 : cs.length = n1 := hcs.out.2.2.1.1
  have hfew : cs.length ≤ 201 := by
    have h1 := cov_few hCut.1
    rw [if_neg (by simp)] at h1
    have h2 := (hsmh.out.2 base (List.mem_cons_self ..)).1
    omega
  have hHold : HoldsP W5 w2.heap.size (w2.heap.size + 1) A1 n1 c1 cs A0 n0 c0 base A n c rows sides fav un :=
    ⟨h51, h52, h53, h54, by omega, ((hcs.out.2.2.1.keep fun p hp => hb2h.out.cell hp).more h12).keep fun p hp => hB5.cell hp, ((hA0h.out.below hbw2).more hwz2).below hB5, ((hAh.out.below hbw2).more hwz2).below hB5⟩
  have hit := pieces_iter (N - 1) (by omega) w2.heap.size (w2.heap.size + 1) A1 n1 c1 cs A0 n0 c0 base A n c rows sides fav un W5 (by omega) (by omega) hfav hsmh.out hHold (fun c hc => laid_parts hLaid hc)
  obtain ⟨i0, hi, hzz⟩ := Option.map_eq_some_iff.1 infoPc
  simp only [Prod.mk.injEq] at hzz
  obtain ⟨hz0, hz1, hz2⟩ := hzz
  have hloh : Hid (w2.heap.size < W5.heap.size) := Lib.hid (by omega)
  have hlo5 : Hid (w2.heap.size + 5 ≤ W5.heap.size) := Lib.hid (by omega)
  have hfin : Hid (∀ (A8 : Option Addr) (n8 c8 : Nat) (vs : List PcV) (V : World), n8 ≤ c8 → c8 ≤ maxLen → (∀ w2, But (fun k => k < w.heap.size) V w2 → Pcs w2 w2.heap.size A8 n8 vs (mergeD base sides fav un cs)) → Below w.heap.size w V → MergeNew w V (.returned (.tuple #[.slice A8 n8 c8, .int .i64 0])) base sides fav un) :=
    Lib.hid fun A8 n8 c8 vs V r1 r2 r3 r4 => by
      refine ⟨0, A8, n8, c8, vs, _, rfl, r1, r2, r3, ⟨?_, fun h => absurd rfl h, fun _ => ⟨ms, cs, hMs, hCut, rfl⟩⟩, r4⟩
      unfold errM
      rw [if_neg (by rw [hzh.out]; simp), if_neg]
      have hm := hmayh.out
      unfold mayHow at hm
      obtain ⟨m1, m2, m3⟩ := of_decide_eq_true hm
      rintro (e | e | ⟨e1, e2⟩)
      · omega
      · omega
      · rcases m3 with m3 | m3
        · exact e1 m3
        · rw [m3] at e2; cases e2
  have hnor : Hid (∀ (A8 : Option Addr) (c8 : Nat) (vs : List PcV) (V : World), cs.length ≤ c8 → c8 ≤ maxLen → Pcs V V.heap.size A8 cs.length vs (cs.map (pcOf base sides fav un)) → Calls Tryz.prog 32 #[.slice A8 cs.length c8] V fun e w' => PcsNew V w' e (mergeD base sides fav un cs)) :=
    Lib.hid fun A8 c8 vs V r1 r2 r3 => normal_new A8 cs.length c8 vs (cs.map (pcOf base sides fav un)) V r1 r2 (by omega) (merge_sumM hsmh.out v2 fav un (by omega)) (merge_smallN hsmh.out fav un cs) r3
  have hlenh := Lib.hid hfew
  have hbw2h := Lib.hid hbw2
  have hB5h := Lib.hid hB5
  clear hC hM hcs x0 x1 y0 y1 hlt hlt1 hlt2 hMs hCut hLaid hHold h51 h52 h53 h54 v1 v2 v3 v4 v5 v6 hn1 hfew hbw1 hbw2 hbw5 hW5 hb1 hb2h hk0h hb0h
  refine wpIn_range_iterS rfl (by omega) (gf := 49) (lb := #[.pointer (some ⟨w2.heap.size + 1, 0, none⟩), .pointer (some ⟨w2.heap.size + 1 + 1, 0, none⟩), .pointer (some ⟨w2.heap.size + 1 + 1 + 1, 0, none⟩), .pointer (some ⟨w2.heap.size + 1 + 1 + 1 + 1, 0, none⟩)]) rfl trivial (enters_of Tryz.func49 (by kernel_rfl) rfl)
    hit (fun r h => ?hR) (fun x vs V0 V1 h => ?hps) (GoIn w2 w2.heap.size W5.heap.size) ?hI ?h0
    (fun x a' V => ∃ Bp u31, VarP w2.heap.size W5.heap.size x Bp V ∧ a' = { tmps := #[.slice A0 n0 c0, .slice A n c, .agg #[.int .i64 fav, .bool un], undef, undef, .pointer (some ⟨w.heap.size, 0, none⟩), .slice none 0 0, .int .i64 0, .slice A1 n1 c1, .int .i64 0, .pointer (some ⟨w2.heap.size, 0, none⟩), .pointer (some ⟨Bp, 0, none⟩), .tuple #[.slice A1 n1 c1, .int .i64 0], .slice A0 n0 c0, .slice A n c, .tuple #[.slice A1 n1 c1, .int .i64 0], .slice A1 n1 c1, .int .i64 0, .int .i64 0, .bool false, undef, .agg #[.int .i64 fav, .bool un], .slice A n c, .int .i64 (n : Int), .bool true, .bool false, .slice A1 n1 c1, .slice A0 n0 c0, .slice A n c, .agg #[.int .i64 fav, .bool un], .func (.func 49) #[] #[.pointer (some ⟨w2.heap.size + 1, 0, none⟩), .pointer (some ⟨w2.heap.size + 1 + 1, 0, none⟩), .pointer (some ⟨w2.heap.size + 1 + 1 + 1, 0, none⟩), .pointer (some ⟨w2.heap.size + 1 + 1 + 1 + 1, 0, none⟩)], u31, undef, undef, undef, undef, undef, undef], defers := [] })
    ?hAx ?assign ?body ?done
  case hR =>
    unfold ReadP at h
    have := hlo5.out
    omega
  case hps =>
    obtain ⟨v, rfl, -⟩ := h
    rfl
  case hI => exact goIn_bides (Nat.le_refl _) hloh.out
  case h0 => exact ⟨.slice none 0 0, [], rfl, h50, World.ownsRow_nil _ _ _ _, fun w3 h3 q hq => by simp at hq, hB5h.out⟩
  case hAx =>
    intro x a' s X Y row hs hg hr
    obtain ⟨Bp, u31, h1, h2⟩ := hs
    exact ⟨Bp, u31, varP_bides hloh.out x Bp () X Y row h1 hg hr, h2⟩
  case assign =>
    rintro l1 pre x vs V0 V K hi hsV hbV ⟨pv, rfl, hst⟩ hK
    obtain ⟨v, qs, h1, h2, h3, h4, h5⟩ := hi
    have hbVh := Lib.hid hbV
    have hVP := Lib.hid (show VarP w2.heap.size W5.heap.size x V.heap.size (V.alloc (.cells #[.bool x.1, .slice pv.1.1 pv.1.2.1 pv.1.2.2, .slice pv.2.1.1 pv.2.1.2.1 pv.2.1.2.2, .slice pv.2.2.1 pv.2.2.2.1 pv.2.2.2.2] 44)) from
      ⟨pv, V0.heap.size, v, Go.Deep.blk_alloc_new _ _, (show Boxed V w2.heap.size 26 v from (hbV.block _ h2.lt).trans h2).alloc _, fun k e => (h3.lt k e).2, by omega, hbV.size, fun w3 hw3 => hst w3 ((But.alloc V _).trans hw3 fun k e => .inl e)⟩)
    clear h1 h2 h3 h4 h5 hst hbV
    unfold pcA
    gi_wp2
    exact hK _ _ ((Below.refl _ V).alloc (Nat.le_refl _) _) ⟨V.heap.size, _, hVP.out, rfl⟩
  case body =>
    rintro l1 pre post x a' V hx hsV hG ⟨Bp, u31, hV, rfl⟩
    obtain ⟨v, qs, h1, h2, h3, h4, h5⟩ := hG
    obtain ⟨pv, S, u, g1, g2, g3, g4, g5, g6⟩ := hV
    have huv : v = u := by
      have e := h2.symm.trans g2
      simpa using e
    subst huv
    obtain ⟨x0, x1, x2, x3, -⟩ := piece_at g1
    have hBpl := (Array.getElem?_eq_some_iff.1 g1).1
    have hlen : qs.length ≤ 1000 := by
      have e := congrArg List.length hx
      rw [List.length_map, List.length_append, List.length_cons, ← h1, List.length_map] at e
      have := hlenh.out
      omega
    have hmax : Hid (qs.length + 1 ≤ maxLen ∧ (qs.length + 1) * 80 ≤ 140737488355328) := Lib.hid ⟨by unfold maxLen; omega, by omega⟩
    have hc1 := h2.cell
    have hput := Lib.hid (fun v' w3 hown' hg hloc => goIn_put (x := x) (pv := pv) (w1 := w3) (v' := v') (S := S) (o := .cells #[.bool x.1, .slice pv.1.1 pv.1.2.1 pv.1.2.2, .slice pv.2.1.1 pv.2.1.2.1 pv.2.1.2.2, .slice pv.2.2.1 pv.2.2.2.1 pv.2.2.2.2] 44) (Nat.le_refl _) hlo5.out h2 h3 h4 h5 g3 g4 g6 hown' hg hloc)
    have hown := h3
    have hlv : w2.heap.size < V.heap.size := h2.lt
    have h1h := Lib.hid h1
    clear h1 h4 h5 g1 g2 g3 g4 g5 g6 hx
    gi_wp2_with (gi_at_builtin; refine wpListIn_append_own_at _ rfl _ _ 26 rfl (W5.heap.size + 2) 44 i0 (.agg #[.bool false, .slice none 0 0, .slice none 0 0, .slice none 0 0]) 4 80 Tryz.underlying26 hi hz0 hz1 hz2 rfl (by decide) _ _ _ rfl (hown.alloc _) ⟨V.heap.size, 0, none⟩ 1 1 (pcC x.1 pv) rfl rfl (cell_new_pc _ _ _ _) (pcC_one _ _) hmax.out.1 hmax.out.2 (by simp; omega) ?_; intro v' w3 hown' hgrow hnil hloc; obtain ⟨g', cap', rfl⟩ := ownsRow_succ hown'; obtain ⟨hbx1, hG2, hLv⟩ := hput.out _ _ hown' hgrow hloc; have hc2 := hbx1.cell; have hf2 := hbx1.frozen; have hG2h := Lib.hid hG2; have hLvh := Lib.hid hLv; clear hG2 hLv hnil hloc)
    rw [h1h.out] at hG2h
    exact ⟨hLvh.out, hG2h.out⟩
  case done =>
    rintro D V hD hV2 hG hK
    obtain ⟨A8, c8, vs, hbx, r1, r2, r3, r4⟩ := goIn_reads rfl hloh.out hG
    rw [List.length_map] at hbx r1 r3
    have hc := hbx.cell
    have hNm := Lib.hid (hnor.out A8 c8 vs V r1 r2 r3)
    have hr4 := Lib.hid r4
    have hKh := Lib.hid hK
    clear hG r1 r2 r3 r4 hbx
    gi_wp2_with (refine ⟨trivial, ?_⟩; gi_at_call 32; refine (callsIn_wide.2 hNm.out).mono ?_; rintro e w3 ⟨A9, n9, c9, vs9, rfl, s1, s2, s3, s4⟩; have hs := Lib.hid (And.intro s1 (And.intro s2 (And.intro s3 s4))); clear s1 s2 s3 s4)
    obtain ⟨s1, s2, s3, s4⟩ := hs.out
    have hDl := (Array.getElem?_eq_some_iff.1 hKh.out).1
    have hK3 := (s4.block D hDl).trans hKh.out
    refine ⟨by simp, .inl ⟨_, _, rfl, run_takeDeferred hK3, ?_⟩⟩
    refine ⟨_, results_tmp2 rfl _ _ _, ?_⟩
    have hsz : (w3.putObj D (.deferred none)).heap.size = w3.heap.size := by simp
    have hwV : w.heap.size ≤ V.heap.size := Nat.le_trans hbw2h.out.size hr4.out.size
    exact hfin.out A9 n9 c9 vs9 _ s1 s2 (fun w2 hb2 => s3 w2 (((But.putD none).more (F' := fun k => k < V.heap.size) (by rintro k rfl; exact hDl)).trans hb2 fun k e => .inl (by omega))) ((hbw2h.out.trans ((hr4.out.trans (s4.mono hr4.out.size)).mono hbw2h.out.size)).trans (belowK_b (w := w) (Nat.le_refl _) w3 D _ _ (by have := hbw2h.out.size; have := hlo5.out; omega) hK3 rfl rfl))

/-- The landed package keeps what the laws ask of Merge. -/
theorem merge_new (A0 : Option Addr) (n0 c0 : Nat) (base : Txs) (A : Option Addr) (n c : Nat) (rows : List Slc) (sides : List Txs) (fav : Int) (un : Bool) (w : World) (hnc : n ≤ c) (hcm : c ≤ maxLen) (hfav : inR64 fav) (hsm : smallM base sides) (hA0 : TxR w w.heap.size (A0, n0, c0) base) (hA : RowsT w w.heap.size A n rows sides) :
    Calls Tryz.prog 13 #[.slice A0 n0 c0, .slice A n c, .agg #[.int .i64 fav, .bool un]] w fun e w' => MergeNew w w' e base sides fav un := by
  by_cases h : wrongN base sides = 0 ∧ mayHow fav un sides.length = true
  · exact callsIn_wide.1 (merge_good A0 n0 c0 base A n c rows sides fav un w hnc hcm hfav hsm hA0 hA 8 (Nat.le_refl _) h.1 h.2)
  · refine callsIn_wide.1 (merge_bad A0 n0 c0 base A n c rows sides fav un w hnc hcm hsm hA0 hA 8 (Nat.le_refl _) ?_)
    by_cases h1 : wrongN base sides = 0
    · refine .inr ?_
      cases hm : mayHow fav un sides.length with
      | false => rfl
      | true => exact absurd ⟨h1, hm⟩ h
    · exact .inl h1
theorem merge_any : MergeMergeOk := fun A0 n0 c0 base A n c rows sides fav un w h1 h2 h3 h4 h5 h6 => (merge_new A0 n0 c0 base A n c rows sides fav un w h1 h2 h3 h4 h5 h6).mono fun e w' h => h.out
end Go.Proofs.YtoephlkfejcadaaGreat
/- Proved here: the contract of the landed pick.Clean. -/
namespace Go.Proofs.YtoephlkfejcadaaGreat
open Go.RowKit
set_option linter.unusedVariables false

set_option maxHeartbeats 400000 in
theorem isConf_any (A1 A2 A3 : Option Addr) (n1 c1 n2 c2 n3 c3 : Nat) (cf : Bool) (w : World) :
    Calls Tryz.prog 34 #[.agg #[.bool cf, .slice A1 n1 c1, .slice A2 n2 c2, .slice A3 n3 c3]] w fun e w' => e = .returned (.bool cf) ∧ Below w.heap.size w w' := by
  go_enter Tryz.func34, Tryz.ntmps34
  go_wp2
  go_ret
  exact ⟨rfl, (Below.refl _ _).alloc (Nat.le_refl _) _⟩

theorem clean_upto {ps : List Pc} {k : Nat} {p : Pc} (h : ps[k]? = some p) : cleanB (ps.take (k + 1)) = (cleanB (ps.take k) && !p.1) := by
  rw [take_at h]
  unfold cleanB
  simp
theorem clean_conf {ps : List Pc} {k : Nat} {p : Pc} (h : ps[k]? = some p) (hp : p.1 = true) : cleanB ps = false := by
  unfold cleanB
  rw [List.all_eq_false]
  exact ⟨p, List.mem_of_getElem? h, by simp [hp]⟩

set_option maxRecDepth 100000 in
set_option maxHeartbeats 1000000 in
theorem indexConf_any (A : Option Addr) (n c : Nat) (vs : List PcV) (ps : List Pc) (w : World) (hn : n ≤ maxLen) (hA : Pcs w w.heap.size A n vs ps) :
    Calls Tryz.prog 56 #[.slice A n c, .func (.func 34) #[] #[]] w fun e w' => (∃ z : Int, e = .returned (.int .i64 z) ∧ decide (0 ≤ z) = !cleanB ps) ∧ Below w.heap.size w w' := by
  have hl := hA.len
  have hAh := Lib.hid hA
  have hlh := Lib.hid hl
  unfold maxLen at hn
  clear hA hl
  go_enter Tryz.func56, Tryz.ntmps56
  go_wp2
  go_loopw [5, 8] (fun _ i wr => ∃ k : Nat, k ≤ n ∧ i = .int .i64 k ∧ Hid (cleanB (ps.take k) = true) ∧ Hid (Below w.heap.size w wr)) (fun _ i _ => n - (intOf i).toNat)
  case atStart => exact ⟨0, Nat.zero_le _, rfl, Lib.hid rfl, Lib.hid (Below.refl _ _)⟩
  case round =>
    obtain ⟨k, hk, rfl, hq, hw⟩ := hrel
    obtain ⟨wo, rfl⟩ : ∃ wo : World, wo = wr := ⟨_, rfl⟩
    by_cases hlt : k < n
    · obtain ⟨b, o, cf, At, nt, ct, Ab, nb, cb, As, ns, cs, t, bs, ss, rfl, hb, hv, hp, k1, k2, k3, k4, j⟩ := (hAh.out.below hw.out).at_ (k := k) hlt
      have i1 : (0 : Int) ≤ (k : Int) := by omega
      have i2 : (k : Int) < (n : Int) := by omega
      have hsz := hw.out.size
      have hC := Lib.hid ((isConf_any At Ab As nt ct nb cb ns cs cf wo).mono fun e w' h => (⟨h.1, hw.out.trans (h.2.mono hsz)⟩ : _ ∧ Below w.heap.size w w'))
      have hph := Lib.hid hp
      clear hp hv j
      cases cf
      · go_wp2_with (go_at_call 34; refine hC.out.mono ?_; rintro e w1 ⟨rfl, hb1⟩; have hb1h := Lib.hid hb1; clear hb1)
        go_roundw
        case rel => exact ⟨k + 1, by omega, by go_num, Lib.hid (by rw [clean_upto hph.out, hq.out]; rfl), hb1h⟩
        case measure => simp [intOf]; omega
      · have hno := Lib.hid (clean_conf hph.out rfl)
        go_wp2_with (go_at_call 34; refine hC.out.mono ?_; rintro e w1 ⟨rfl, hb1⟩; have hb1h := Lib.hid hb1; clear hb1)
        go_ret
        exact ⟨⟨_, rfl, by rw [hno.out]; simp⟩, hb1h.out⟩
    · obtain rfl : k = n := by omega
      have hyes : Hid (cleanB ps = true) := Lib.hid (by have := hq.out; rwa [List.take_of_length_le (by rw [hlh.out]; exact Nat.le_refl _)] at this)
      go_wp2
      go_ret
      exact ⟨⟨_, rfl, by rw [hyes.out]; rfl⟩, hw.out⟩

set_option maxHeartbeats 800000 in
theorem containsConf_any (A : Option Addr) (n c : Nat) (vs : List PcV) (ps : List Pc) (w : World) (hn : n ≤ maxLen) (hA : Pcs w w.heap.size A n vs ps) :
    Calls Tryz.prog 33 #[.slice A n c, .func (.func 34) #[] #[]] w fun e w' => e = .returned (.bool (!cleanB ps)) ∧ Below w.heap.size w w' := by
  have hI := Lib.hid (indexConf_any A n c vs ps w hn hA)
  obtain ⟨r, hr⟩ : ∃ r, (!cleanB ps) = r := ⟨_, rfl⟩
  rw [hr] at hI ⊢
  clear hA hr hn
  go_enter Tryz.func33, Tryz.ntmps33
  go_wp2_with (go_at_call 56; refine hI.out.mono ?_; rintro e w1 ⟨⟨z, rfl, hz⟩, hb1⟩; have hb1h := Lib.hid hb1; have hzh := Lib.hid hz; clear hb1 hz)
  go_ret
  exact ⟨ret_bool hzh.out, hb1h.out⟩

set_option maxHeartbeats 800000 in
theorem clean_ok : PickCleanOk := by
  intro A n c vs ps w h1 h2 h3 h4
  have hC := Lib.hid (containsConf_any A n c vs ps w (Nat.le_trans h1 h2) h4)
  obtain ⟨r, hr⟩ : ∃ r, cleanB ps = r := ⟨_, rfl⟩
  rw [hr] at hC ⊢
  clear h1 h2 h3 h4 hr
  go_enter Tryz.func14, Tryz.ntmps14
  go_wp2_with (go_at_call 33; refine hC.out.mono ?_; rintro e w1 ⟨rfl, hb1⟩; have hb1h := Lib.hid hb1; clear hb1)
  go_ret
  exact ⟨ret_bool (by simp), hb1h.out⟩
end Go.Proofs.YtoephlkfejcadaaGreat

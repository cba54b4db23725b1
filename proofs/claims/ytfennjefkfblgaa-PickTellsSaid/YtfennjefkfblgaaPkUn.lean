/- Proved here: the contract of the landed package pick's union, and of the pile of texts that it puts together. -/
import Derived.Test.YtfennjefkfblgaaPkFns
import Derived.Test.YtfennjefkfblgaaUnPure
import Derived.Test.YtfennjefkfblgaaLinOpen
import Derived.Laws.EntriesVeiled
import Derived.RangeFuncBox
namespace Go.Proofs.Ytfennjefkfblgaa
open Go.RowKit
set_option linter.unusedVariables false

/-- The pile of texts: its block, the block of the method value that tells what was put last. -/
structure PileS (w wr : World) (v : Value) (xs : Txs) : Prop where
  box : Boxed wr w.heap.size 63 v
  fn : Boxed wr (w.heap.size + 1) 64 (.func (.func 44) #[.pointer (some ⟨w.heap.size, 0, none⟩)] #[])
  own : TxO w wr v xs
section
variable {w wr w1 w2 : World} {v v' : Value} {xs ys : Txs}
theorem pile_not {L : Nat} {t : TypeId} {u : Value} (h : Boxed wr L t u) (hT : TxO w wr v xs) (ht : t ≠ 9) : ∀ k, v.ownBlock = some k → k ≠ L := fun k e h1 => Boxed.not_row h ht hT.own (by rw [e, h1])
theorem PileS.drewN (h : PileS w wr v xs) (q : Nat) : PileS w (wr.drewN q) v xs := ⟨h.box, h.fn, h.own.own, below_drewN h.own.below q⟩
theorem PileS.put {A : Option Addr} {n c : Nat} (h : PileS w wr v xs) (hT : TxO w w2 (.slice A n c) ys) (hg : wr.grownBy w2 v.ownBlock) : Boxed w2 w.heap.size 63 v ∧ PileS w (w2.setCell ⟨w.heap.size, 0, none⟩ (.slice A n c)) (.slice A n c) ys := by
  have hb : Boxed w2 w.heap.size 63 v := h.box.kept hg fun e => pile_not h.box h.own (by decide) _ e.symm rfl
  have hf := h.fn.kept hg fun e => pile_not h.fn h.own (by decide) _ e.symm rfl
  have hs : But (fun k => k = w.heap.size) w2 (w2.setCell ⟨w.heap.size, 0, none⟩ (.slice A n c)) := But.setCell (F := fun j => j = w.heap.size) w2 (p := ⟨w.heap.size, 0, none⟩) rfl _
  have hlt := hf.lt
  refine ⟨hb, hb.set _, (hs.block _ hlt (by omega)).trans hf, ownsRow_kept hT.own fun k e => hs.block k (hT.own.lt k e).2 (pile_not hb hT (by decide) k e), hT.below.trans (hs.below hT.below.size (by rintro k rfl; exact Nat.le_refl _))⟩
end

set_option maxRecDepth 100000 in
set_option maxHeartbeats 1000000 in
theorem pilePut_any (A : Option Addr) (n c B : Nat) (v : Value) (xs ys : Txs) (w wr : World) (hP : PileS w wr v xs) (hA : Strs wr B A n ys) (hm : xs.length + n ≤ 1000000000) :
    Calls Try.prog 47 #[.pointer (some ⟨w.heap.size, 0, none⟩), .slice A n c] wr fun e w' => e = .returned (.tuple #[]) ∧ ∃ v', PileS w w' v' (xs ++ ys) := by
  obtain ⟨i0, hi, hzz⟩ := Option.map_eq_some_iff.1 infoStr
  simp only [Prod.mk.injEq] at hzz
  obtain ⟨hz0, hz1, hz2⟩ := hzz
  have hl := Lib.hid hA.len
  have hle : Hid (xs.length + n ≤ maxLen ∧ (xs.length + n) * 16 ≤ 140737488355328) := Lib.hid ⟨by unfold maxLen; omega, by omega⟩
  have x0 := hP.box.cell
  have hown := hP.own.own
  have hsz := hP.own.below.size
  have hPh := Lib.hid hP
  have hAh := Lib.hid hA
  clear hP hA hm
  go_enter Try.func47, Try.ntmps47
  go_wp2_with (at_builtin; refine wpList_append_reads _ rfl _ _ 22 rfl w.heap.size 9 i0 (.string ByteArray.empty) 16 Try.underlying22 hi hz0 hz1 hz2 rfl v xs.length _ rfl hown B A n c _ rfl hAh.out (strs_one _) hle.out.1 hle.out.2 hsz ?_; intro v' w2 hown2 hg2; have hT := hPh.out.own.put hl.out hown2 hg2; obtain ⟨A2, c2, rfl, -, -, -⟩ := own_slice hown2; have hfin := Lib.hid (hPh.out.put hT hg2); have x1 := hfin.out.1.cell; have x2 := hfin.out.1.frozen; clear hT x0)

  go_end0
  exact ⟨rfl, _, hfin.out.2⟩

set_option maxRecDepth 100000 in
set_option maxHeartbeats 1000000 in
theorem pileLast_any (g m cap : Nat) (w : World) (L : Nat) (hm : m < maxLen) (hL : Boxed w L 63 (.slice (some ⟨g, 0, none⟩) (m + 1) cap)) :
    Calls Try.prog 44 #[.pointer (some ⟨L, 0, none⟩)] w fun e w' => e = .returned (.pointer (some ⟨g, m, none⟩)) ∧ ∃ q, w' = w.drewN q := by
  obtain ⟨N, hN⟩ : ∃ N, m + 1 = N := ⟨_, rfl⟩
  rw [hN] at hL
  unfold maxLen at hm
  have x0 := hL.cell
  have e0 : ((N : Int) == 0) = false := by simp; omega
  have e1 : (N : Int) - 1 = (m : Int) := by omega
  have e2 : IntKind.i64.wrap ((N : Int) - 1) = (m : Int) := by rw [e1]; exact IntWalk.i64_in _ (by omega)
  have i1 : (0 : Int) ≤ (m : Int) := by omega
  have i2 : (m : Int) < (N : Int) := by omega
  clear hL hN
  go_enter Try.func44, Try.ntmps44
  go_wp2
  go_quiet (fail)
  go_wp2
  go_ret
  exact ⟨by simp, nq, rfl⟩
end Go.Proofs.Ytfennjefkfblgaa

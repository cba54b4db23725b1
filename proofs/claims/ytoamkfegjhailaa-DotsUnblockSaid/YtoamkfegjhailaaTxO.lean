/- Proved here: texts of the call's own; numbers that an int may hold. -/
import Derived.Test.YtoamkfegjhailaaTxts
import Derived.Test.YtoamkfegjhailaaAppend
import Derived.Test.YtoamkfegjhailaaPush
import Derived.Test.YtoamkfegjhailaaChecked
import Derived.WalkLawsBesides
import Derived.IntWalk
import Derived.OwnWalk
import Derived.Maps.AppendAt
namespace Go.Proofs.Ytoamkfegjhailaa
open Go.RowKit
set_option linter.unusedVariables false

theorem infoStr : (Try.prog.info? 9).map (fun i => (i.zero, i.size, i.bytes)) = some (some (.string ByteArray.empty), 1, 16) := by kernel_rfl
/-- Texts of the call's own. -/
structure TxO (w wr : World) (v : Value) (xs : Txs) : Prop where
  own : wr.ownsRow w.heap.size 9 1 v xs.length (xs.map fun s => .string (str s))
  below : Below w.heap.size w wr
theorem TxO.out {w wr : World} {v : Value} {xs : Txs} (h : TxO w wr v xs) : TxsOut w wr (.returned v) xs := by
  obtain ⟨A, c, rfl, h1, h2, h3⟩ := own_slice h.own
  exact ⟨A, _, c, rfl, ⟨h1, h2, h3⟩, h.below⟩
theorem TxO.put {w wr w2 : World} {v v' : Value} {xs ys : Txs} {m : Nat} (h : TxO w wr v xs) (hl : ys.length = m) (hown : w2.ownsRow w.heap.size 9 1 v' (xs.length + m) ((xs.map fun s => .string (str s)) ++ ys.map fun s => .string (str s))) (hg : wr.grownBy w2 v.ownBlock) : TxO w w2 v' (xs ++ ys) := by
  refine ⟨?_, h.below.grown hg h.below.size fun j e => (h.own.lt j e).1⟩
  rw [List.length_append, hl, List.map_append]
  exact hown

/-- A number that an int may hold. -/
def inR64 (v : Int) : Prop := -9223372036854775808 ≤ v ∧ v ≤ 9223372036854775807
theorem wrap_pred {n : Int} {k m : Nat} (hn : inR64 n) (hk : k < m) (hm : m ≤ 9223372036854775807) : ((k : Int) == IntKind.i64.wrap (n - 1)) = decide ((k : Int) = n - 1) := by
  unfold inR64 at hn
  by_cases h : -9223372036854775808 ≤ n - 1
  · rw [IntWalk.i64_in _ (by omega)]
    rfl
  · have e : n = -9223372036854775808 := by omega
    subst e
    have : IntKind.i64.wrap (-9223372036854775808 - 1) = 9223372036854775807 := by decide
    rw [this]
    have h1 : ¬ (k : Int) = 9223372036854775807 := by omega
    have h2 : ¬ (k : Int) = -9223372036854775808 - 1 := by omega
    rw [decide_eq_false h2]
    simpa using h1

theorem strs_app (a b : Tx) : str a ++ str b = str (a ++ b) := by
  apply ByteArray.ext
  simp [str]
theorem str_feed (s : Tx) : str s ++ ⟨#[10]⟩ = str (s ++ [10]) := by
  apply ByteArray.ext
  simp [str]
theorem TxO.push {w wr w2 : World} {v v' : Value} {xs : Txs} {s : Tx} {o : Obj} (h : TxO w wr v xs) (hown : w2.ownsRow w.heap.size 9 1 v' (xs.length + 1) ((xs.map fun s => .string (str s)) ++ [.string (str s)])) (hg : (wr.alloc o).grownBy w2 v.ownBlock) : TxO w w2 v' (xs ++ [s]) := by
  have hs := h.below.size
  refine ⟨?_, (h.below.alloc hs o).grown hg (by simp; omega) fun j e => (h.own.lt j e).1⟩
  rw [List.length_append, List.map_append]
  exact hown

end Go.Proofs.Ytoamkfegjhailaa

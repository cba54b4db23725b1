/- Proved here, without conditions on the program: what lies in a world behind allocs; new blocks that read as texts, as lists of texts. -/
import Derived.Test.YtoamkfegjhailaaTxts
import Derived.Test.YtoamkfegjhailaaContPure
namespace Go.Proofs.Ytoamkfegjhailaa
open Go.RowKit
set_option linter.unusedVariables false

theorem push_at (w : World) (o : Obj) (k : Nat) : (w.alloc o).heap[k]? = if k = w.heap.size then some o else w.heap[k]? := by
  show (w.heap.push o)[k]? = _
  rw [Array.getElem?_push]
theorem push_size (w : World) (o : Obj) : (w.alloc o).heap.size = w.heap.size + 1 := by simp
theorem below_alloc {a w : World} (h : Below a.heap.size a w) (o : Obj) : Below a.heap.size a (w.alloc o) := h.alloc h.size o
theorem below_drew {a w : World} (h : Below a.heap.size a w) : Below a.heap.size a w.drew := below_drewN h 1
theorem two_a (w : World) (o1 o2 : Obj) : ((w.alloc o1).alloc o2).heap[w.heap.size]? = some o1 ∧ ((w.alloc o1).alloc o2).heap[w.heap.size + 1]? = some o2 := by
  constructor
  · rw [push_at, if_neg (by simp), push_at, if_pos rfl]
  · rw [push_at, push_size, if_pos rfl]
theorem one_a (w : World) (o1 : Obj) : (w.alloc o1).heap[w.heap.size]? = some o1 := by rw [push_at, if_pos rfl]
theorem TxR.but {F : Nat → Prop} {w w' : World} {r : Slc} {ss : Txs} (h : TxR w w.heap.size r ss) (hb : But F w w') (hF : 0 < r.2.1 → ∀ q o, r.1 = some ⟨q, o, none⟩ → ¬ F q) : TxR w' w'.heap.size r ss := by
  refine ⟨h.1, h.2.1, h.2.2.1, fun hn => ?_⟩
  obtain ⟨b, o, e, hlt, hc⟩ := h.2.2.2 hn
  exact ⟨b, o, e, Nat.lt_of_lt_of_le hlt hb.size, fun j u hu => (World.cell?_of_block (w := w) (hb.block b hlt (hF hn b o e))).trans (hc j u hu)⟩
theorem txr_of {W : World} {g n : Nat} {ss : Txs} {C : Array Value} {t : TypeId} (h : W.heap[g]? = some (.cells C t (0, 0))) (hC : C = (ss.map fun s => Value.string (str s)).toArray) (hn : ss.length = n) (hm : n ≤ maxLen) : TxR W W.heap.size (some ⟨g, 0, none⟩, n, n) ss := by
  refine ⟨Nat.le_refl _, hm, by simpa using hn, fun _ => ⟨g, 0, rfl, (Array.getElem?_eq_some_iff.1 h).1, fun j u hu => ?_⟩⟩
  rw [Nat.zero_add, cells_of h, hC]
  simpa using hu
theorem rowsT_of {W : World} {g n : Nat} {rows : List Slc} {sss : List Txs} {C : Array Value} {t : TypeId} (h : W.heap[g]? = some (.cells C t (0, 0))) (hC : C = (rows.map slcV).toArray) (hn : rows.length = n) (hl : rows.length = sss.length)
    (each : ∀ (k : Nat) (r : Slc) (ss : Txs), rows[k]? = some r → sss[k]? = some ss → TxR W W.heap.size r ss) : RowsT W W.heap.size (some ⟨g, 0, none⟩) n rows sss := by
  refine ⟨⟨by simpa using hn, fun _ => ⟨g, 0, rfl, (Array.getElem?_eq_some_iff.1 h).1, fun j u hu => ?_⟩⟩, hl, each⟩
  rw [Nat.zero_add, cells_of h, hC]
  simpa using hu
end Go.Proofs.Ytoamkfegjhailaa

/- Proved here: texts joined: RowF. -/
import Derived.Test.YtidfhgocnglnjaaBz09
import Derived.Test.YtidfhgocnglnjaaBz10
import Derived.Test.YtidfhgocnglnjaaChecked
import Derived.RangeFuncBox
import Derived.Deep.OwnRows
/- Proved here, without conditions: a new slice of slices of texts, and its cells as they are set one by one. -/
namespace Go.Proofs.Ytidfhgocnglnjaa
open Go.RowKit
set_option linter.unusedVariables false

theorem make_rows (n : Nat) (hn : n ≤ 1000000) (w : World) : (Instr.makeSlice 23 (.int .i64 (n : Int)) (.int .i64 (n : Int))).run Try.prog w = .ok (.slice (some ⟨w.heap.size, 0, none⟩) n n) (w.alloc (.cells (madeCells #[.slice none 0 0] n) 22)) := by
  obtain ⟨i, hi, hzz⟩ := Option.map_eq_some_iff.1 infoTxs
  simp only [Prod.mk.injEq] at hzz
  obtain ⟨hz, hs, hb⟩ := hzz
  have := run_make (P := Try.prog) w 23 22 i (.slice none 0 0) Try.underlying23 hi hz .i64 .i64 n n (by omega) (Int.le_refl _) (by rw [hb]; omega) (by omega)
  simp only [Int.toNat_natCast, hs, Nat.mul_one] at this
  exact this

/-- The cells of parts, as far as they are asked. -/
def rowF (rs : List Slc) (i : Nat) : Value := slcV (rs.getD i (none, 0, 0))
theorem rowF_set {w : World} {G n k : Nat} {rs : List Slc} {r : Slc} (h : w.rowIs G 22 n (rowF rs)) (hk : rs.length = k) : (w.setCell ⟨G, k, none⟩ (slcV r)).rowIs G 22 n (rowF (rs ++ [r])) := by
  refine (h.set k _).congr fun i hi => ?_
  unfold rowF
  subst hk
  by_cases e : i = rs.length
  · subst e
    simp
  · rw [if_neg e]
    congr 1
    rw [List.getD_eq_getElem?_getD, List.getD_eq_getElem?_getD]
    rcases Nat.lt_or_ge i rs.length with h1 | h1
    · rw [List.getElem?_append_left h1]
    · rw [List.getElem?_eq_none h1, List.getElem?_eq_none (by simp; omega)]

end Go.Proofs.Ytidfhgocnglnjaa

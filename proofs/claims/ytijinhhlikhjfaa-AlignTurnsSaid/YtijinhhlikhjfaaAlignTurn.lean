/- Proved here, without conditions on the program: rows of slices that were picked out of those that came in; append of what reads as a list, as a step of a region. -/
import Derived.Test.YtijinhhlikhjfaaAlignSel
import Derived.Test.YtijinhhlikhjfaaAlignLawB
import Derived.Test.YtijinhhlikhjfaaAppend
import Derived.Deep.RegionLaw
import Derived.BigRegion
import Derived.Deep.CutRange
import Derived.Deep.DeepCutAuto
import Derived.Outline
namespace Go.Proofs.Ytijinhhlikhjfaa
open Go.RowKit
set_option linter.unusedVariables false

theorem step_append_reads {P : Program} {ops : Array Oper} {o : Oper} {a : Act} {w : World} {K : Act → World → Prop} {Q : Exit → Act → World → Prop} {E : Prop} (hg : o.guard = none) (s x : Operand) (t : TypeId)
    (ho : o.op = .call { callee := .builtin .append, args := #[s, x], argTypes := #[t, t] })
    (base : Nat) (e : TypeId) (i : TypeInfo) (z : Value) (bytes : Nat) (ht : P.underlying t = some (.slice e)) (hi : P.info? e = some i) (hz : i.zero = some z)
    (hsize : i.size = 1) (hby : i.bytes = bytes) (hzs : z.cells.size = 1)
    (v : Value) (n : Nat) (xs : List Value) (hs : a.eval s = v) (hown : w.ownsRow base e 1 v n xs)
    (B : Nat) (A : Option Addr) (m c : Nat) (news : List Value) (hx : a.eval x = .slice A m c) (hr : Reads w B A m news) (h1 : ∀ u ∈ news, u.oneCell' = true)
    (h63 : n + m ≤ maxLen) (hbytes : (n + m) * bytes ≤ 140737488355328) (hbase : base ≤ w.heap.size)
    (h : ∀ v' w', w'.ownsRow base e 1 v' (n + m) (xs ++ news) → w.grownBy w' v.ownBlock → K (a.put o.dst v') w') : if Region.wanted o (yielded ops a.tmps) = true then Oper.wp P o a w K Q else E := by
  rw [if_pos (by simp [Region.wanted, hg])]
  exact wp_append_reads w s x t ho base e i z bytes ht hi hz hsize hby hzs v n xs hs hown B A m c news hx hr h1 h63 hbytes hbase h

theorem Reads.cutAt {w : World} {B n b o : Nat} {xs : List Value} (h : Reads w B (some ⟨b, o, none⟩) n xs) {a m : Nat} (ham : a + m ≤ n) : Reads w B (some ⟨b, o + a, none⟩) m ((xs.drop a).take m) := by
  have hl := h.1
  refine ⟨by simp; omega, fun hm => ?_⟩
  obtain ⟨b', o', e, hb, hc⟩ := h.2 (by omega)
  injection e with e
  injection e with e1 e2
  subst e1
  subst e2
  refine ⟨b, o + a, rfl, hb, fun j u hu => ?_⟩
  rw [Nat.add_assoc]
  refine hc (a + j) u ?_
  rw [← hu, List.getElem?_take]
  have hj : j < m := by
    have := (List.getElem?_eq_some_iff.1 hu).1
    simp at this; omega
  rw [if_pos hj, List.getElem?_drop]

/-- Slices as values. -/
def slV (r : Option Addr × Nat × Nat) : Value := .slice r.1 r.2.1 r.2.2
theorem slV_one (l : List (Option Addr × Nat × Nat)) : ∀ u ∈ l.map slV, u.oneCell' = true := by
  intro u hu
  obtain ⟨r, _, rfl⟩ := List.mem_map.1 hu
  rfl
/-- Rows that were picked read as the lists that were picked. -/
theorem rowsB_sel {w : World} {B n m : Nat} {A A' : Option Addr} {rows : List (Option Addr × Nat × Nat)} {bss : List (List UInt8)} {p : List Nat} {d : Option Addr × Nat × Nat} (h : RowsB w B A n rows bss) (hp : ∀ i ∈ p, i < n) (hm : p.length = m) (hr : Reads w B A' m ((sel d p rows).map slV)) :
    RowsB w B A' m (sel d p rows) (sel [] p bss) := by
  have hl := h.len
  have hrl : rows.length = n := by have := h.2.1; omega
  refine ⟨hr, by rw [sel_len, sel_len], fun k r bs e1 e2 => ?_⟩
  obtain ⟨i, d1, d2⟩ := sel_at (by rw [hrl]; exact hp) e1
  obtain ⟨j, d3, d4⟩ := sel_at (by rw [hl]; exact hp) e2
  rw [d1] at d3
  injection d3 with d3
  subst d3
  exact h.2.2 i r bs d2 d4
theorem infoRow : (Try.prog.info? 22).map (fun i => (i.zero, i.size, i.bytes)) = some (some (.slice none 0 0), 1, 24) := by kernel_rfl
end Go.Proofs.Ytijinhhlikhjfaa

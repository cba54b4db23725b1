/- Proved here: texts joined: PkPile. -/
import Derived.Test.YtidfhgocnglnjaaBz29
import Derived.Laws.EntriesVeiled
import Derived.RangeFuncBox
/- Proved here: the pile of pieces of the landed package pick: what was put last, one more piece. -/
namespace Go.Proofs.Ytidfhgocnglnjaa
open Go.RowKit
set_option linter.unusedVariables false

section
variable {P : Program} (w : World)
/-- append of what reads as a list, and where it lies then. -/
theorem run_append_readsL (base : Nat) (t ty e : TypeId) (i : TypeInfo) (z : Value) (bytes : Nat) (ht : P.underlying t = some (.slice e)) (hi : P.info? e = some i) (hz : i.zero = some z)
    (hsize : i.size = 1) (hby : i.bytes = bytes) (hzs : z.cells.size = 1)
    (v : Value) (n : Nat) (xs : List Value) (hown : w.ownsRow base e 1 v n xs)
    (B : Nat) (A : Option Addr) (m c : Nat) (news : List Value) (hr : Reads w B A m news) (h1 : ∀ u ∈ news, u.oneCell' = true)
    (h63 : n + m ≤ maxLen) (hbytes : (n + m) * bytes ≤ 140737488355328) (hbase : base ≤ w.heap.size) :
    ∃ v' w', (Builtin.append_ #[t, t] ty #[v, .slice A m c]).run P w = .ok v' w' ∧ w'.ownsRow base e 1 v' (n + m) (xs ++ news) ∧ w.grownBy w' v.ownBlock ∧ (v'.ownBlock = v.ownBlock ∨ v'.ownBlock = some w.heap.size) := by
  rcases A with _ | ad
  · have hm : m = 0 := by
      rcases Nat.eq_zero_or_pos m with h0 | h0
      · exact h0
      · obtain ⟨_, _, h, _⟩ := hr.2 h0
        cases h
    subst hm
    have hn : news = [] := List.eq_nil_of_length_eq_zero hr.1
    subst hn
    exact ⟨v, w, run_append_of_nil w base t ty e i ht hi v n xs hown c, by simpa using hown, World.grownBy.refl w _, .inl rfl⟩
  · have hcells : ∀ j u, news[j]? = some u → w.cell? (ad.add j) = some u := by
      intro j u hu
      rcases Nat.eq_zero_or_pos m with h0 | h0
      · subst h0
        have hn : news = [] := List.eq_nil_of_length_eq_zero hr.1
        subst hn
        simp at hu
      · obtain ⟨b, o, h, _, hc⟩ := hr.2 h0
        injection h with h
        subst h
        rw [show (⟨b, o, none⟩ : Addr).add j = ⟨b, o + j, none⟩ from by unfold Addr.add; split <;> simp_all]
        exact hc j u hu
    obtain ⟨v', w', hrun, h2, h3, _, h5⟩ := run_append_own_at (P := P) w base t ty e i z 1 bytes ht hi hz hsize hby hzs (by decide) v n xs hown ad m c news (by rw [hr.1, Nat.mul_one]) hcells h1 h63 hbytes hbase
    exact ⟨v', w', hrun, h2, h3, h5⟩
theorem wpList_append_readsL {ops : Array Oper} {rest : List Oper} {o : Oper} {a : Act} {Q : Exit → Act → World → Prop} (hgd : o.guard = none) (s x : Operand) (t : TypeId)
    (ho : o.op = .call { callee := .builtin .append, args := #[s, x], argTypes := #[t, t] })
    (base : Nat) (e : TypeId) (i : TypeInfo) (z : Value) (bytes : Nat) (ht : P.underlying t = some (.slice e)) (hi : P.info? e = some i) (hz : i.zero = some z)
    (hsize : i.size = 1) (hby : i.bytes = bytes) (hzs : z.cells.size = 1)
    (v : Value) (n : Nat) (xs : List Value) (hs : a.eval s = v) (hown : w.ownsRow base e 1 v n xs)
    (B : Nat) (A : Option Addr) (m c : Nat) (news : List Value) (hx : a.eval x = .slice A m c) (hr : Reads w B A m news) (h1 : ∀ u ∈ news, u.oneCell' = true)
    (h63 : n + m ≤ maxLen) (hbytes : (n + m) * bytes ≤ 140737488355328) (hbase : base ≤ w.heap.size)
    (h : ∀ v' w', w'.ownsRow base e 1 v' (n + m) (xs ++ news) → w.grownBy w' v.ownBlock → (v'.ownBlock = v.ownBlock ∨ v'.ownBlock = some w.heap.size) → wpList P ops Q rest (a.put o.dst v') w') : wpList P ops Q (o :: rest) a w :=
  wpList_plain hgd fun _ hK => by
    obtain ⟨v', w', hrun, h2, h3, h4⟩ := run_append_readsL (P := P) w base t o.type e i z bytes ht hi hz hsize hby hzs v n xs hown B A m c news hr h1 h63 hbytes hbase
    unfold Oper.wp execOp
    simp only [ho, resolve, invoke, builtin, Sem.run_bind, Sem.run_pure, Result.andThen_ok, List.map_toArray, List.map_cons, List.map_nil, hs, hx, hrun]
    exact hK _ _ (h v' w' h2 h3 h4)
end

/-- What was put last, where nothing was. -/
theorem pileLastP_none (L c : Nat) (A : Option Addr) (w : World) (hL : Boxed w L 47 (.slice A 0 c)) :
    Calls Try.prog 31 #[.pointer (some ⟨L, 0, none⟩)] w fun e w' => e = .returned (.pointer none) ∧ w' = w := by
  have x0 := hL.cell
  clear hL
  go_enter Try.func31, Try.ntmps31
  go_wp2
  go_ret
  exact ⟨rfl, rfl⟩
set_option maxRecDepth 100000 in
set_option maxHeartbeats 1000000 in
theorem pileLastP_any (g m N cap : Nat) (w : World) (L : Nat) (hm : m < maxLen) (hN : m + 1 = N) (hL : Boxed w L 47 (.slice (some ⟨g, 0, none⟩) N cap)) :
    Calls Try.prog 31 #[.pointer (some ⟨L, 0, none⟩)] w fun e w' => e = .returned (.pointer (some ⟨g, m * 4, none⟩)) ∧ ∃ q, w' = w.drewN q := by
  unfold maxLen at hm
  have x0 := hL.cell
  have e0 : ((N : Int) == 0) = false := by simp; omega
  have e1 : (N : Int) - 1 = (m : Int) := by omega
  have e2 : IntKind.i64.wrap ((N : Int) - 1) = (m : Int) := by rw [e1]; exact IntWalk.i64_in _ (by omega)
  have i1 : (0 : Int) ≤ (m : Int) := by omega
  have i2 : (m : Int) < (N : Int) := by omega
  clear hL hN
  go_enter Try.func31, Try.ntmps31
  go_wp2
  go_quiet (fail)
  go_wp2
  go_ret
  exact ⟨by simp, nq, rfl⟩

set_option maxRecDepth 100000 in
set_option maxHeartbeats 1000000 in
/-- One more piece, that lies in a block of its own. -/
theorem pilePutP_any (L base n h : Nat) (v : Value) (cells : List Value) (cf : Bool) (r : PcV) (w : World) (hn : n ≤ 1000000) (hL : Boxed w L 47 v) (hown : w.ownsRow base 25 4 v n cells) (hbase : base ≤ w.heap.size) (hh : w.heap[h]? = some (pcObj cf r)) :
    Calls Try.prog 33 #[.pointer (some ⟨L, 0, none⟩), .slice (some ⟨h, 0, none⟩) 1 1] w fun e w' => e = .returned (.tuple #[]) ∧ ∃ v' w2, w' = w2.setCell ⟨L, 0, none⟩ v' ∧
      w2.ownsRow base 25 4 v' (n + 1) (cells ++ pcC cf r) ∧ w.grownBy w2 v.ownBlock ∧ (v'.ownBlock = v.ownBlock ∨ v'.ownBlock = some w.heap.size) := by
  obtain ⟨j0, hj, hyy⟩ := Option.map_eq_some_iff.1 infoPc
  simp only [Prod.mk.injEq] at hyy
  obtain ⟨hy0, hy1, hy2⟩ := hyy
  have hmax : Hid (n + 1 ≤ maxLen ∧ (n + 1) * 80 ≤ 140737488355328) := Lib.hid ⟨by unfold maxLen; omega, by omega⟩
  have hcell : Hid (∀ j u, (pcC cf r)[j]? = some u → w.cell? ((⟨h, 0, none⟩ : Addr).add j) = some u) := Lib.hid (fun j u hu => by
    rw [addr_add, cells_of (t := 25) hh]
    simpa [pcC, slcV] using hu)
  have x0 := hL.cell
  have hLh := Lib.hid hL
  clear hL hn hh
  go_enter Try.func33, Try.ntmps33
  go_wp2_with (at_builtin; refine wpList_append_own_at _ rfl _ _ 26 rfl base 25 j0 (.agg #[.bool false, .slice none 0 0, .slice none 0 0, .slice none 0 0]) 4 80 Try.underlying26 hj hy0 hy1 hy2 rfl (by decide) v n _ rfl hown ⟨h, 0, none⟩ 1 1 (pcC cf r) rfl rfl hcell.out (pcC_one _ _) hmax.out.1 hmax.out.2 hbase ?_; intro v' w2 hown2 hg2 hnil2 hloc2; clear hnil2; obtain ⟨g2, c2, rfl⟩ := ownsRow_succ hown2; have hbx : Boxed w2 L 47 v := hLh.out.kept hg2 (Boxed.not_row hLh.out (by decide) hown); have x1 := hbx.cell; have x2 := hbx.frozen; have hfin := Lib.hid (And.intro hown2 (And.intro hg2 hloc2)); clear hbx x0 hown2 hg2 hloc2)
  go_end0
  exact ⟨rfl, _, w2, rfl, hfin.out.1, hfin.out.2.1, hfin.out.2.2⟩
end Go.Proofs.Ytidfhgocnglnjaa

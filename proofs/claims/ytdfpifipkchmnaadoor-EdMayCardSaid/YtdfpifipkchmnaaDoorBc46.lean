/- Proved here: texts joined: EdFn. -/
import Derived.Test.YtdfpifipkchmnaaDoorBc45
import Derived.Tactics2
import Derived.Defers
import Derived.Recover
import Derived.Deep.RegionLaw
/- Proved here: the landed Run's deferred closure: of a line that is wrong; where nothing is. -/
namespace Go.Proofs.YtdfpifipkchmnaaDoor
open Go.RowKit
set_option linter.unusedVariables false
set_option maxRecDepth 100000

theorem fn_tmps (v0 v1 v2 v3 : Value) : (#[v0, v1, v2, v3] : Array Value) ++ Array.replicate (Tryd.f13.ntmps - (#[v0, v1, v2, v3] : Array Value).size) undef = #[v0, v1, v2, v3, undef, undef, undef, undef, undef, undef, undef, undef, undef, undef, undef, undef, undef] := by
  rw [Tryd.ntmps13]
  rfl
theorem catch_idle (p0 p1 p2 p3 : Addr) (w : World) :
    CallsD Tryd.prog 13 #[.pointer (some p0), .pointer (some p1), .pointer (some p2), .pointer (some p3)] .returning w fun e u' w' => e = .returned (.tuple #[]) ∧ u' = .returning ∧ w' = w := by
  refine callsD_of_wpS Tryd.func13 rfl fun c₀ cs hu => ?_
  rw [fn_tmps]
  apply wpS_seq
  apply wpS_region
  simp [wpOpsS, go_sem, recoverD, hu, Exit.thenS]
  refine wpS_of_wp ?_
  go_wp2
  cases c₀
  simp_all [bodyPostS, results, Tryd.results13]
/-- Four variables are stored. -/
theorem boxes4 {w1 : World} {L : Nat} {t0 t1 t2 t3 : TypeId} {v0 v1 v2 v3 : Value} (h0 : Boxed w1 L t0 v0) (h1 : Boxed w1 (L + 1) t1 v1) (h2 : Boxed w1 (L + 1 + 1) t2 v2) (h3 : Boxed w1 (L + 1 + 1 + 1) t3 v3) (u0 u1 u2 u3 : Value) :
    let V := (((w1.setCell ⟨L, 0, none⟩ u0).setCell ⟨L + 1, 0, none⟩ u1).setCell ⟨L + 1 + 1, 0, none⟩ u2).setCell ⟨L + 1 + 1 + 1, 0, none⟩ u3
    Boxed V L t0 u0 ∧ Boxed V (L + 1) t1 u1 ∧ Boxed V (L + 1 + 1) t2 u2 ∧ Boxed V (L + 1 + 1 + 1) t3 u3 ∧ But (fun j => L ≤ j ∧ j < L + 4) w1 V := by
  have o1 : ∀ (w : World) (a b : Nat) (t : TypeId) (v u : Value), Boxed w a t v → a ≠ b → Boxed (w.setCell ⟨b, 0, none⟩ u) a t v := fun w a b t v u h hne => (Below.heap_setCell w ⟨b, 0, none⟩ u a hne).trans h
  have b1 : ∀ (w : World) (b : Nat) (u : Value), L ≤ b ∧ b < L + 4 → But (fun j => L ≤ j ∧ j < L + 4) w (w.setCell ⟨b, 0, none⟩ u) := fun w b u hb => But.setCell (F := fun j => L ≤ j ∧ j < L + 4) w (p := ⟨b, 0, none⟩) hb u
  refine ⟨o1 _ _ _ _ _ _ (o1 _ _ _ _ _ _ (o1 _ _ _ _ _ _ (h0.set u0) (by omega)) (by omega)) (by omega), o1 _ _ _ _ _ _ (o1 _ _ _ _ _ _ ((o1 _ _ _ _ _ _ h1 (by omega)).set u1) (by omega)) (by omega), o1 _ _ _ _ _ _ ((o1 _ _ _ _ _ _ (o1 _ _ _ _ _ _ h2 (by omega)) (by omega)).set u2) (by omega), (o1 _ _ _ _ _ _ (o1 _ _ _ _ _ _ (o1 _ _ _ _ _ _ h3 (by omega)) (by omega)) (by omega)).set u3, ?_⟩
  exact (((b1 _ _ u0 (by omega)).trans (b1 _ _ u1 (by omega)) fun j e => .inl e).trans (b1 _ _ u2 (by omega)) fun j e => .inl e).trans (b1 _ _ u3 (by omega)) fun j e => .inl e

set_option maxHeartbeats 4000000 in
theorem catch_wrong (L : Nat) (v0 v1 v2 v3 : Value) (line er : Int) (w : World) (h0 : Boxed w L 22 v0) (h1 : Boxed w (L + 1) 4 v1) (h2 : Boxed w (L + 1 + 1) 3 v2) (h3 : Boxed w (L + 1 + 1 + 1) 25 v3) :
    CallsD Tryd.prog 13 #[.pointer (some ⟨L, 0, none⟩), .pointer (some ⟨L + 1, 0, none⟩), .pointer (some ⟨L + 1 + 1, 0, none⟩), .pointer (some ⟨L + 1 + 1 + 1, 0, none⟩)] (.panicking (WR line er)) w fun e u' w' =>
      (e = .returned (.tuple #[]) ∧ u' = .panicking [{ v := .iface 33 (.agg #[.int .i64 line, .int .i64 er]), recovered := true }]) ∧ (Boxed w' L 22 (.slice none 0 0) ∧ Boxed w' (L + 1) 4 (.bool false) ∧ Boxed w' (L + 1 + 1) 3 (.int .i64 line) ∧ Boxed w' (L + 1 + 1 + 1) 25 (.int .i64 er)) ∧ Below L w w' := by
  have hta : ∀ v W, (Instr.typeAssert (.iface 33 v) 20 33 true).run Tryd.prog W = .ok (.tuple #[v, .bool true]) W := fun v W => by kernel_rfl
  have hl3 := h3.lt
  obtain ⟨W0, hW0⟩ : ∃ W0, W0 = w.alloc (.cells #[.int .i64 line, .int .i64 er] 33) := ⟨_, rfl⟩
  have hb0 : Below w.heap.size w W0 := by rw [hW0]; exact below_alloc (Below.refl _ _) _
  have hbx : W0.heap[w.heap.size]? = some (.cells #[.int .i64 line, .int .i64 er] 33 (0, 0)) := by rw [hW0, push_at, if_pos rfl]
  have k0 : Boxed W0 L 22 v0 := (hb0.block _ h0.lt).trans h0
  have k1 : Boxed W0 (L + 1) 4 v1 := (hb0.block _ h1.lt).trans h1
  have k2 : Boxed W0 (L + 1 + 1) 3 v2 := (hb0.block _ h2.lt).trans h2
  have k3 : Boxed W0 (L + 1 + 1 + 1) 25 v3 := (hb0.block _ h3.lt).trans h3
  have hfin := Lib.hid (boxes4 (w1 := W0) k0 k1 k2 k3 (.slice none 0 0) (.bool false) (.int .i64 line) (.int .i64 er))
  have hbel : Hid (∀ V, But (fun j => L ≤ j ∧ j < L + 4) W0 V → Below L w V.drew) := Lib.hid (fun V hb => ((hb0.mono (by omega)).trans (hb.below (by have := hb0.size; omega) fun k hk => hk.1)).trans (below_drewN (Below.refl _ _) 1))
  have x0 := k0.cell
  have x1 := k1.cell
  have x2 := k2.cell
  have x3 := k3.cell
  have g0 := k0.frozen
  have g1 := k1.frozen
  have g2 := k2.frozen
  have g3 := k3.frozen
  have z0 : W0.cell? ⟨w.heap.size, 0, none⟩ = some (.int .i64 line) := (cells_of hbx 0).trans rfl
  have z1 : W0.cell? ⟨w.heap.size, 1, none⟩ = some (.int .i64 er) := (cells_of hbx 1).trans rfl
  have hW0h := Lib.hid hW0
  obtain ⟨Bx, hBx⟩ : ∃ Bx, w.heap.size = Bx := ⟨_, rfl⟩
  have n0 : Bx ≠ L := by omega
  have n1 : Bx ≠ L + 1 := by omega
  have n2 : Bx ≠ L + 1 + 1 := by omega
  have n3 : Bx ≠ L + 1 + 1 + 1 := by omega
  rw [hBx] at z0 z1
  have hBxh := Lib.hid hBx
  clear h0 h1 h2 h3 hl3 hW0 hb0 hbx k0 k1 k2 k3 hBx
  refine callsD_of_wpS Tryd.func13 rfl fun c₀ cs hu => ?_
  rw [fn_tmps]
  unfold WR at hu
  apply wpS_seq
  apply wpS_region
  simp [wpOpsS, go_sem, recoverD, hu, Exit.thenS]
  refine wpS_of_wp ?_
  go_upto_region 7 with fail
  rw [← hW0h.out, hBxh.out]
  go_region_law fail
  all_goals
    obtain ⟨b0, b1, b2, b3, hbt⟩ := hfin.out
    refine ⟨rfl, _, rfl, .tuple #[], by simp [results, Tryd.results13], ⟨rfl, rfl⟩, ⟨b0, b1, b2, b3⟩, hbel.out _ hbt⟩
end Go.Proofs.YtdfpifipkchmnaaDoor

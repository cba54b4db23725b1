/- Proved here: texts joined: EdFn, Ed, EdBoth. -/
import Derived.Test.YtdfpifipkchmnaaGreatDoorBa14
import Derived.Test.YtdfpifipkchmnaaGreatDoorBa16
import Derived.Test.YtdfpifipkchmnaaGreatDoorBa31
import Derived.Test.YtdfpifipkchmnaaGreatDoorBa43
import Derived.Tactics2
import Derived.Defers
import Derived.Recover
import Derived.Deep.RegionLaw
import Derived.Deep.RegionHeld3
import Derived.Deep.DeepCutAuto
/- Proved here: the landed Run's deferred closure: of a line that is wrong; where nothing is. -/
namespace Go.Proofs.YtdfpifipkchmnaaGreatDoor
open Go.RowKit
set_option linter.unusedVariables false
set_option maxRecDepth 100000

theorem fn_tmps (v0 v1 v2 v3 : Value) : (#[v0, v1, v2, v3] : Array Value) ++ Array.replicate (Tryz.f20.ntmps - (#[v0, v1, v2, v3] : Array Value).size) undef = #[v0, v1, v2, v3, undef, undef, undef, undef, undef, undef, undef, undef, undef, undef, undef, undef, undef] := by
  rw [Tryz.ntmps20]
  rfl
theorem catch_idle (p0 p1 p2 p3 : Addr) (w : World) :
    CallsD Tryz.prog 20 #[.pointer (some p0), .pointer (some p1), .pointer (some p2), .pointer (some p3)] .returning w fun e u' w' => e = .returned (.tuple #[]) ∧ u' = .returning ∧ w' = w := by
  refine callsD_of_wpS Tryz.func20 rfl fun c₀ cs hu => ?_
  rw [fn_tmps]
  apply wpS_seq
  apply wpS_region
  simp [wpOpsS, go_sem, recoverD, hu, Exit.thenS]
  refine wpS_of_wp ?_
  go_wp2
  cases c₀
  simp_all [bodyPostS, results, Tryz.results20]
/-- Four variables are stored. -/
theorem boxes4 {w1 : World} {L : Nat} {t0 t1 t2 t3 : TypeId} {v0 v1 v2 v3 : Value} (h0 : Boxed w1 L t0 v0) (h1 : Boxed w1 (L + 1) t1 v1) (h2 : Boxed w1 (L + 1 + 1) t2 v2) (h3 : Boxed w1 (L + 1 + 1 + 1) t3 v3) (u0 u1 u2 u3 : Value) :
    let V := (((w1.setCell ⟨L, 0, none⟩ u0).setCell ⟨L + 1, 0, none⟩ u1).setCell ⟨L + 1 + 1, 0, none⟩ u2).setCell ⟨L + 1 + 1 + 1, 0, none⟩ u3
    Boxed V L t0 u0 ∧ Boxed V (L + 1) t1 u1 ∧ Boxed V (L + 1 + 1) t2 u2 ∧ Boxed V (L + 1 + 1 + 1) t3 u3 ∧ But (fun j => L ≤ j ∧ j < L + 4) w1 V := by
  have o1 : ∀ (w : World) (a b : Nat) (t : TypeId) (v u : Value), Boxed w a t v → a ≠ b → Boxed (w.setCell ⟨b, 0, none⟩ u) a t v := fun w a b t v u h hne => (Below.heap_setCell w ⟨b, 0, none⟩ u a hne).trans h
  have b1 : ∀ (w : World) (b : Nat) (u : Value), L ≤ b ∧ b < L + 4 → But (fun j => L ≤ j ∧ j < L + 4) w (w.setCell ⟨b, 0, none⟩ u) := fun w b u hb => But.setCell (F := fun j => L ≤ j ∧ j < L + 4) w (p := ⟨b, 0, none⟩) hb u
  refine ⟨o1 _ _ _ _ _ _ (o1 _ _ _ _ _ _ (o1 _ _ _ _ _ _ (h0.set u0) (by omega)) (by omega)) (by omega), o1 _ _ _ _ _ _ (o1 _ _ _ _ _ _ ((o1 _ _ _ _ _ _ h1 (by omega)).set u1) (by omega)) (by omega), o1 _ _ _ _ _ _ ((o1 _ _ _ _ _ _ (o1 _ _ _ _ _ _ h2 (by omega)) (by omega)).set u2) (by omega), (o1 _ _ _ _ _ _ (o1 _ _ _ _ _ _ (o1 _ _ _ _ _ _ h3 (by omega)) (by omega)) (by omega)).set u3, ?_⟩
  exact (((b1 _ _ u0 (by omega)).trans (b1 _ _ u1 (by omega)) fun j e => .inl e).trans (b1 _ _ u2 (by omega)) fun j e => .inl e).trans (b1 _ _ u3 (by omega)) fun j e => .inl e

set_option maxHeartbeats 4000000 in
theorem catch_wrong (L : Nat) (v0 v1 v2 v3 : Value) (line er : Int) (w : World) (h0 : Boxed w L 22 v0) (h1 : Boxed w (L + 1) 4 v1) (h2 : Boxed w (L + 1 + 1) 3 v2) (h3 : Boxed w (L + 1 + 1 + 1) 25 v3) :
    CallsD Tryz.prog 20 #[.pointer (some ⟨L, 0, none⟩), .pointer (some ⟨L + 1, 0, none⟩), .pointer (some ⟨L + 1 + 1, 0, none⟩), .pointer (some ⟨L + 1 + 1 + 1, 0, none⟩)] (.panicking (WR line er)) w fun e u' w' =>
      (e = .returned (.tuple #[]) ∧ u' = .panicking [{ v := .iface 41 (.agg #[.int .i64 line, .int .i64 er]), recovered := true }]) ∧ (Boxed w' L 22 (.slice none 0 0) ∧ Boxed w' (L + 1) 4 (.bool false) ∧ Boxed w' (L + 1 + 1) 3 (.int .i64 line) ∧ Boxed w' (L + 1 + 1 + 1) 25 (.int .i64 er)) ∧ Below L w w' := by
  have hta : ∀ v W, (Instr.typeAssert (.iface 41 v) 20 41 true).run Tryz.prog W = .ok (.tuple #[v, .bool true]) W := fun v W => by kernel_rfl
  have hl3 := h3.lt
  obtain ⟨W0, hW0⟩ : ∃ W0, W0 = w.alloc (.cells #[.int .i64 line, .int .i64 er] 41) := ⟨_, rfl⟩
  have hb0 : Below w.heap.size w W0 := by rw [hW0]; exact below_alloc (Below.refl _ _) _
  have hbx : W0.heap[w.heap.size]? = some (.cells #[.int .i64 line, .int .i64 er] 41 (0, 0)) := by rw [hW0, push_at, if_pos rfl]
  have k0 : Boxed W0 L 22 v0 := (hb0.block _ h0.lt).trans h0
  have k1 : Boxed W0 (L + 1) 4 v1 := (hb0.block _ h1.lt).trans h1
  have k2 : Boxed W0 (L + 1 + 1) 3 v2 := (hb0.block _ h2.lt).trans h2
  have k3 : Boxed W0 (L + 1 + 1 + 1) 25 v3 := (hb0.block _ h3.lt).trans h3
  have hfin := Lib.hid (boxes4 (w1 := W0) k0 k1 k2 k3 (.slice none 0 0) (.bool false) (.int .i64 line) (.int .i64 er))
  have hbel : Hid (∀ V, But (fun j => L ≤ j ∧ j < L + 4) W0 V → Below L w V.drew) := Lib.hid (fun V hb => ((hb0.mono (by omega)).trans (hb.below (by have := hb0.size; omega) fun k hk => hk.1)).trans (below_drewN (Below.refl _ _) 1))
  have x0 := k0.cell
  have x1 := k1.cell
  have x2 := k2.cell
  have x3 := k3.cell
  have g0 := k0.frozen
  have g1 := k1.frozen
  have g2 := k2.frozen
  have g3 := k3.frozen
  have z0 : W0.cell? ⟨w.heap.size, 0, none⟩ = some (.int .i64 line) := (cells_of hbx 0).trans rfl
  have z1 : W0.cell? ⟨w.heap.size, 1, none⟩ = some (.int .i64 er) := (cells_of hbx 1).trans rfl
  have hW0h := Lib.hid hW0
  obtain ⟨Bx, hBx⟩ : ∃ Bx, w.heap.size = Bx := ⟨_, rfl⟩
  have n0 : Bx ≠ L := by omega
  have n1 : Bx ≠ L + 1 := by omega
  have n2 : Bx ≠ L + 1 + 1 := by omega
  have n3 : Bx ≠ L + 1 + 1 + 1 := by omega
  rw [hBx] at z0 z1
  have hBxh := Lib.hid hBx
  clear h0 h1 h2 h3 hl3 hW0 hb0 hbx k0 k1 k2 k3 hBx
  refine callsD_of_wpS Tryz.func20 rfl fun c₀ cs hu => ?_
  rw [fn_tmps]
  unfold WR at hu
  apply wpS_seq
  apply wpS_region
  simp [wpOpsS, go_sem, recoverD, hu, Exit.thenS]
  refine wpS_of_wp ?_
  go_upto_region 7 with fail
  rw [← hW0h.out, hBxh.out]
  go_region_law fail
  all_goals
    obtain ⟨b0, b1, b2, b3, hbt⟩ := hfin.out
    refine ⟨rfl, _, rfl, .tuple #[], by simp [results, Tryz.results20], ⟨rfl, rfl⟩, ⟨b0, b1, b2, b3⟩, hbel.out _ hbt⟩
end Go.Proofs.YtdfpifipkchmnaaGreatDoor
/- Proved here: the contract of the landed ed.Run. -/
namespace Go.Proofs.YtdfpifipkchmnaaGreatDoor
open Go.RowKit
set_option linter.unusedVariables false
set_option maxRecDepth 100000

/-- Run's results, and nothing else, before anything is done. -/
def runW (w : World) : World := ((((w.alloc (.cells #[.slice none 0 0] 22)).alloc (.cells #[.bool false] 4)).alloc (.cells #[.int .i64 0] 3)).alloc (.cells #[.int .i64 0] 25))
theorem runW_ok (w : World) : (runW w).heap.size = w.heap.size + 4 ∧ Boxed (runW w) w.heap.size 22 (.slice none 0 0) ∧ Boxed (runW w) (w.heap.size + 1) 4 (.bool false) ∧ Boxed (runW w) (w.heap.size + 1 + 1) 3 (.int .i64 0) ∧ Boxed (runW w) (w.heap.size + 1 + 1 + 1) 25 (.int .i64 0) ∧ Below w.heap.size w (runW w) := by
  obtain ⟨h0, h1, h2, h3, h4, h5⟩ := four_new w (.cells #[.slice none 0 0] 22) (.cells #[.bool false] 4) (.cells #[.int .i64 0] 3) (.cells #[.int .i64 0] 25)
  exact ⟨h0, h1, h2, h3, h4, h5⟩

section
variable {As : Option Addr} {ns cs : Nat} {script : Txs} {A : Option Addr} {n c : Nat} {file : Txs} {w : World}
theorem edR_of (h : (mayB file && !openB file) = true) : edR script file = match runE script.length 0 script file false with
    | .inl (e, line) => ([], false, line, e)
    | .inr (f, sv) => (f, sv, 0, 0) := by
  have hn : ¬ (mayB file = false ∨ openB file = true) := by
    rw [Bool.and_eq_true] at h
    rintro (h1 | h1)
    · rw [h.1] at h1; cases h1
    · rw [h1] at h; simp at h
  unfold edR
  rw [if_neg hn]
  cases runE script.length 0 script file false with
  | inl p => rfl
  | inr p => rfl
theorem edR_arg (h : (mayB file && !openB file) = false) : edR script file = ([], false, 0, 1) := by
  unfold edR
  rw [if_pos]
  cases h1 : mayB file
  · exact .inl rfl
  · rw [h1] at h
    exact .inr (by simpa using h)

set_option maxHeartbeats 2000000 in
theorem run_arg (hf : smallE file) (hA : TxR w w.heap.size (A, n, c) file) (hbad : (mayB file && !openB file) = false) :
    Calls Tryz.prog 9 #[.slice As ns cs, .slice A n c] w fun e w' => EdOut w w' e ([], false, 0, 1) := by
  obtain ⟨W0, hW0⟩ : ∃ W0, W0 = runW w := ⟨_, rfl⟩
  have hok := runW_ok w
  rw [← hW0] at hok
  obtain ⟨hsz, k0, k1, k2, k3, hb0⟩ := hok
  have hl : file.length = n := hA.2.2.len
  have hen := Lib.hid (edEnded_any A n c file W0 (Nat.le_trans hA.1 hA.2.1) (fun s h => by have := hf.2 s h; unfold maxLen; omega) (hA.up hb0))
  rw [hbad] at hen
  have h4 := Lib.hid (boxes4 k0 k1 k2 k3 (.slice none 0 0) (.bool false) (.int .i64 0) (.int .i64 1))
  have x0 := k0.cell
  have x1 := k1.cell
  have x2 := k2.cell
  have x3 := k3.cell
  have g0 := k0.frozen
  have g1 := k1.frozen
  have g2 := k2.frozen
  have g3 := k3.frozen
  have hk := Lib.hid (And.intro hW0 hb0)
  clear hW0 hb0 hsz k0 k1 k2 k3 hl hA hf hbad
  go_enter_defers Tryz.func9, Tryz.ntmps9
  go_upto_region 1 with fail
  change Code.wp Tryz.prog _ _ _ (runW w)
  rw [← hk.out.1]
  go_wp2_with (go_at_call 19; refine hen.out.mono ?_; rintro e w' ⟨rfl, hww⟩; have hws := hww.symm; clear hww; subst hws)
  obtain ⟨b0, b1, b2, b3, hbt⟩ := h4.out
  have d0 := b0.cell
  have d1 := b1.cell
  have d2 := b2.cell
  have d3 := b3.cell
  refine ⟨.tuple #[.slice none 0 0, .bool false, .int .i64 0, .int .i64 1], by simp [results, Tryz.results9, go_sem, d0, d1, d2, d3], none, 0, 0, rfl, TxR.nil _ _, hk.out.2.trans (hbt.below hk.out.2.size fun k h => h.1)⟩

/-- The editor, made. -/
def edObj (S : Slc) (v : Value) : Obj := .cells #[.slice S.1 S.2.1 S.2.2, .int .i64 0, v, .bool false, .bool false] 43
theorem ed_new {W0 w1 : World} {v : Value} (hb0 : Below w.heap.size w W0) (hB : w.heap.size ≤ W0.heap.size) (hS : TxR w w.heap.size (As, ns, cs) script) (hT : TxO W0 w1 v file) : EdI W0.heap.size (w1.alloc (edObj (As, ns, cs) v)) w1.heap.size (As, ns, cs) v script ((0 : Nat) : Int) file false false :=
  ⟨by rw [push_at, if_pos rfl]; rfl, ownsRow_kept hT.own fun k e => Below.heap_alloc _ _ _ (hT.own.lt k e).2, ((hS.below (hb0.trans ((hT.below.mono hB).trans ((Below.refl _ _).alloc (by have := hT.below.size; omega) _)))).more hB), hT.below.size⟩

set_option maxHeartbeats 4000000 in
theorem run_good (hs : smallE script) (hf : smallE file) (hS : TxR w w.heap.size (As, ns, cs) script) (hA : TxR w w.heap.size (A, n, c) file) (hok : (mayB file && !openB file) = true) :
    Calls Tryz.prog 9 #[.slice As ns cs, .slice A n c] w fun e w' => EdOut w w' e (edR script file) := by
  rw [edR_of hok]
  obtain ⟨W0, hW0⟩ : ∃ W0, W0 = runW w := ⟨_, rfl⟩
  have hW := runW_ok w
  rw [← hW0] at hW
  obtain ⟨hsz, k0, k1, k2, k3, hb0⟩ := hW
  have hl : file.length = n := hA.2.2.len
  have hen := Lib.hid (edEnded_any A n c file W0 (Nat.le_trans hA.1 hA.2.1) (fun s h => by have := hf.2 s h; unfold maxLen; omega) (hA.up hb0))
  rw [hok] at hen
  have hcl := Lib.hid (cloneT_any A n c W0.heap.size file W0 (by have := hf.1; omega) (Nat.le_refl _) (hA.up hb0).2.2)
  have hall := Lib.hid (fun (w1 : World) (v : Value) (hT : TxO W0 w1 v file) => all_any (ed_new hb0 (by omega) hS hT) hs hf)
  have hkx := Lib.hid (fun (V : World) (hV : Below W0.heap.size W0 V) => And.intro ((hV.block _ k0.lt).trans k0 : Boxed V w.heap.size 22 (.slice none 0 0)) (And.intro ((hV.block _ k1.lt).trans k1 : Boxed V (w.heap.size + 1) 4 (.bool false)) (And.intro ((hV.block _ k2.lt).trans k2 : Boxed V (w.heap.size + 1 + 1) 3 (.int .i64 0)) ((hV.block _ k3.lt).trans k3 : Boxed V (w.heap.size + 1 + 1 + 1) 25 (.int .i64 0)))))
  have hk := Lib.hid (And.intro hW0 (And.intro hb0 hsz))
  have hmf : ∀ (fn : Fn) (first cap : Array Value) (w : World), (Instr.makeFunc fn first cap).run Tryz.prog w = .ok (.func fn first cap) w := fun _ _ _ _ => rfl
  clear hW0 hb0 hsz k0 k1 k2 k3 hl hA hf hok hs hS
  obtain ⟨X, hX⟩ : ∃ X, runE script.length 0 script file false = X := ⟨_, rfl⟩
  rw [hX] at hall ⊢
  clear hX
  rcases X with ⟨er, line⟩ | ⟨f, sv⟩
  · dsimp only
    go_enter_defers Tryz.func9, Tryz.ntmps9
    go_upto_region 1 with fail
    change Code.wp Tryz.prog _ _ _ (runW w)
    rw [← hk.out.1]
    go_upto_region 5 with (first
      | (go_at_call 19; refine hen.out.mono ?_; rintro e w' ⟨rfl, hww⟩; have hws := hww.symm; clear hww; subst hws)
      | (go_at_call 21; refine hcl.out.mono ?_; rintro e w1 ⟨v, rfl, hT⟩; obtain ⟨A1, c1, rfl, -, -, -⟩ := own_slice hT.own; have hTh := Lib.hid hT; clear hT))
    obtain ⟨W4, hW4⟩ : ∃ W4, W4 = w1.alloc (edObj (As, ns, cs) (.slice A1 file.length c1)) := ⟨_, rfl⟩
    change Code.wp Tryz.prog _ _ _ (w1.alloc (edObj (As, ns, cs) (.slice A1 file.length c1)))
    have hC := Lib.hid ((hall.out w1 _ hTh.out).mono (fun e w' (h : EdWrong W0.heap.size _ w' e line er) => h))
    have hb4 := Lib.hid (hTh.out.below.trans ((Below.refl W0.heap.size w1).alloc hTh.out.below.size (edObj (As, ns, cs) (.slice A1 file.length c1))))
    rw [← hW4] at hC hb4 ⊢
    clear hW4 hall
    go_wp2_with (go_at_call 22; refine hC.out.mono ?_; rintro e w5 ⟨rfl, hb5⟩; have hb5h := Lib.hid (hb4.out.trans hb5); clear hb5)
    obtain ⟨k0, k1, k2, k3⟩ := hkx.out w5 hb5h.out
    refine leaves_cons (f := 20) (args := #[.pointer (some ⟨w.heap.size, 0, none⟩), .pointer (some ⟨w.heap.size + 1, 0, none⟩), .pointer (some ⟨w.heap.size + 1 + 1, 0, none⟩), .pointer (some ⟨w.heap.size + 1 + 1 + 1, 0, none⟩)]) (by simp) (by simp [go_sem]) ?_
    refine (catch_wrong w.heap.size _ _ _ _ (line : Int) (er : Int) w5 k0 k1 k2 k3).mono ?_
    rintro e u' w6 ⟨⟨rfl, rfl⟩, ⟨b0, b1, b2, b3⟩, hb6⟩
    have d0 := b0.cell
    have d1 := b1.cell
    have d2 := b2.cell
    have d3 := b3.cell
    refine ⟨.tuple #[.slice none 0 0, .bool false, .int .i64 (line : Int), .int .i64 (er : Int)], by simp [results, Tryz.results9, go_sem, d0, d1, d2, d3], none, 0, 0, rfl, TxR.nil _ _, (hk.out.2.1.trans (hb5h.out.mono hk.out.2.1.size)).trans hb6⟩
  · dsimp only
    go_enter_defers Tryz.func9, Tryz.ntmps9
    go_upto_region 1 with fail
    change Code.wp Tryz.prog _ _ _ (runW w)
    rw [← hk.out.1]
    go_upto_region 5 with (first
      | (go_at_call 19; refine hen.out.mono ?_; rintro e w' ⟨rfl, hww⟩; have hws := hww.symm; clear hww; subst hws)
      | (go_at_call 21; refine hcl.out.mono ?_; rintro e w1 ⟨v, rfl, hT⟩; obtain ⟨A1, c1, rfl, -, -, -⟩ := own_slice hT.own; have hTh := Lib.hid hT; clear hT))
    obtain ⟨W4, hW4⟩ : ∃ W4, W4 = w1.alloc (edObj (As, ns, cs) (.slice A1 file.length c1)) := ⟨_, rfl⟩
    change Code.wp Tryz.prog _ _ _ (w1.alloc (edObj (As, ns, cs) (.slice A1 file.length c1)))
    obtain ⟨E, hE⟩ : ∃ E, w1.heap.size = E := ⟨_, rfl⟩
    have hEl : W0.heap.size ≤ E := by have := hTh.out.below.size; omega
    have hC := Lib.hid ((hall.out w1 _ hTh.out).mono (fun e w' (h : ∃ fv rd ov, e = .returned (.tuple #[]) ∧ EdI W0.heap.size w' w1.heap.size (As, ns, cs) fv script rd f sv ov ∧ Below W0.heap.size _ w') => h))
    have hb4 := Lib.hid (hTh.out.below.trans ((Below.refl W0.heap.size w1).alloc hTh.out.below.size (edObj (As, ns, cs) (.slice A1 file.length c1))))
    rw [← hW4, hE] at hC
    rw [← hW4] at hb4
    rw [← hW4, hE]
    have hsz := hk.out.2.2
    have n0 : E ≠ w.heap.size := by omega
    have n1 : E ≠ w.heap.size + 1 := by omega
    have n2 : E ≠ w.heap.size + 1 + 1 := by omega
    have n3 : E ≠ w.heap.size + 1 + 1 + 1 := by omega
    have hszh := Lib.hid hsz
    clear hW4 hall hE hEl hsz
    go_upto_region 6 with (go_at_call 22; refine hC.out.mono ?_; rintro e w5 ⟨fv, rd, ov, rfl, hE5, hb5⟩; obtain ⟨A5, c5, rfl, -, -, -⟩ := own_slice hE5.own; have hb5h := Lib.hid (hb4.out.trans hb5); have hE5h := Lib.hid hE5; clear hb5 hE5)
    obtain ⟨-, -, z2, z3, -⟩ := hE5h.out.cells
    obtain ⟨k0, k1, k2, k3⟩ := hkx.out w5 hb5h.out
    have hfin := Lib.hid (boxes4 k0 k1 k2 k3 (.slice A5 f.length c5) (.bool sv) (.int .i64 0) (.int .i64 0))
    have x0 := Boxed.cell k0
    have x1 := Boxed.cell k1
    have x2 := Boxed.cell k2
    have x3 := Boxed.cell k3
    have g0 := Boxed.frozen k0
    have g1 := Boxed.frozen k1
    have g2 := Boxed.frozen k2
    have g3 := Boxed.frozen k3
    have hown : Hid (∀ V, But (fun j => w.heap.size ≤ j ∧ j < w.heap.size + 4) w5 V → TxR V V.heap.size (A5, f.length, c5) f) := Lib.hid (fun V hb => txr_own (ownsRow_kept hE5h.out.own fun k e => hb.block k (hE5h.out.own.lt k e).2 fun hk2 => by have := (hE5h.out.own.lt k e).1; have := hszh.out; omega))
    have hbf : Hid (∀ V, But (fun j => w.heap.size ≤ j ∧ j < w.heap.size + 4) w5 V → Below w.heap.size w V) := Lib.hid (fun V hb => (hk.out.2.1.trans (hb5h.out.mono hk.out.2.1.size)).trans (hb.below (by have := hk.out.2.1.size; have := hb5h.out.size; omega) fun k hk => hk.1))
    clear k0 k1 k2 k3
    refine wp_region_noPanic ?_
    go_region_law fail
    all_goals
      refine NoPanic.normal ?_
      go_wp2
      obtain ⟨b0, b1, b2, b3, hbt⟩ := hfin.out
      refine leaves_cons (f := 20) (args := #[.pointer (some ⟨w.heap.size, 0, none⟩), .pointer (some ⟨w.heap.size + 1, 0, none⟩), .pointer (some ⟨w.heap.size + 1 + 1, 0, none⟩), .pointer (some ⟨w.heap.size + 1 + 1 + 1, 0, none⟩)]) (by simp) (by simp [go_sem]) ?_
      refine (catch_idle ⟨w.heap.size, 0, none⟩ ⟨w.heap.size + 1, 0, none⟩ ⟨w.heap.size + 1 + 1, 0, none⟩ ⟨w.heap.size + 1 + 1 + 1, 0, none⟩ _).mono ?_
      rintro e u' w6 ⟨rfl, rfl, rfl⟩
      have d0 := b0.cell
      have d1 := b1.cell
      have d2 := b2.cell
      have d3 := b3.cell
      refine ⟨.tuple #[.slice A5 f.length c5, .bool sv, .int .i64 0, .int .i64 0], by simp [results, Tryz.results9, go_sem, d0, d1, d2, d3], A5, f.length, c5, rfl, (hown.out _ hbt).up (below_drewN (Below.refl _ _) 1), (hbf.out _ hbt).trans (below_drewN (Below.refl _ _) 1)⟩
theorem ed_ok : EdRunOk := fun As ns cs script A n c file w hs hf hS hA => by
  cases hok : (mayB file && !openB file)
  · rw [edR_arg hok]
    exact run_arg hf hA hok
  · exact run_good hs hf hS hA hok
end
end Go.Proofs.YtdfpifipkchmnaaGreatDoor
/- Proved here: two lists of texts, one behind the other, as the statements make them. -/
namespace Go.Proofs.YtdfpifipkchmnaaGreatDoor
open Go.RowKit
set_option linter.unusedVariables false
set_option maxRecDepth 100000

set_option maxHeartbeats 2000000 in
theorem sBoth_own (A : Option Addr) (n c : Nat) (a : Txs) (A' : Option Addr) (n' c' : Nat) (b : Txs) (w : World) (ha : a.length ≤ 100000) (hb : b.length ≤ 100000) (hA : TxR w w.heap.size (A, n, c) a) (hB : TxR w w.heap.size (A', n', c') b) :
    Calls Tryz.prog 16 #[.slice A n c, .slice A' n' c'] w fun e w' => OwnT w w' e (a ++ b) := by
  obtain ⟨i0, hi, hzz⟩ := Option.map_eq_some_iff.1 infoStr
  simp only [Prod.mk.injEq] at hzz
  obtain ⟨hz0, hz1, hz2⟩ := hzz
  have hal : a.length = n := hA.2.2.len
  have hbl : b.length = n' := hB.2.2.len
  have hown0 := own_empty w w.heap.size 9 (Nat.le_refl _)
  have hO0 := Lib.hid (TxO.mk (w := w) (xs := []) hown0 (below_alloc (Below.refl _ _) _))
  have hR1 : Hid (∀ V, Below w.heap.size w V → Strs V w.heap.size A n a) := Lib.hid (fun V hV => Strs.below hA.2.2 hV)
  have hR2 : Hid (∀ V, Below w.heap.size w V → Strs V w.heap.size A' n' b) := Lib.hid (fun V hV => Strs.below hB.2.2 hV)
  have hmax : Hid ((0 + n ≤ maxLen ∧ (0 + n) * 16 ≤ 140737488355328) ∧ (n + n' ≤ maxLen ∧ (n + n') * 16 ≤ 140737488355328)) := Lib.hid (by unfold maxLen; omega)
  have hput1 : Hid (∀ (v1 : Value) (w3 : World), w3.ownsRow w.heap.size 9 1 v1 (0 + n) ([] ++ a.map fun s => .string (str s)) → (w.alloc (.cells #[] 9)).grownBy w3 (some w.heap.size) → TxO w w3 v1 a ∧ w3.ownsRow w.heap.size 9 1 v1 n (a.map fun s => .string (str s))) := Lib.hid (fun v1 w3 h1 h2 => by
    have h3 := hO0.out.put hal h1 h2
    rw [List.nil_append] at h3
    refine ⟨h3, ?_⟩
    have := h3.own
    rw [hal] at this
    exact this)
  have hput2 : Hid (∀ (v1 v2 : Value) (w3 w4 : World), TxO w w3 v1 a → w4.ownsRow w.heap.size 9 1 v2 (n + n') ((a.map fun s => .string (str s)) ++ b.map fun s => .string (str s)) → w3.grownBy w4 v1.ownBlock → TxO w w4 v2 (a ++ b)) := Lib.hid (fun v1 v2 w3 w4 h0 h1 h2 => h0.put hbl (by rw [hal]; exact h1) h2)
  have tok1 := trivial
  clear hA hB hal hbl ha hb
  go_enter Tryz.func16, Tryz.ntmps16
  go_wp2_with (first
    | (at_builtin; have _t := tok1; refine wpList_append_reads _ rfl _ _ 22 rfl w.heap.size 9 i0 (.string ByteArray.empty) 16 Tryz.underlying22 hi hz0 hz1 hz2 rfl _ 0 [] rfl hown0 w.heap.size A n c _ rfl (hR1.out _ hO0.out.below) (strs_one _) hmax.out.1.1 hmax.out.1.2 hO0.out.below.size ?_; intro v1 w3 hown1 hg1; obtain ⟨p1, p2⟩ := hput1.out v1 w3 hown1 hg1; have hT3 := Lib.hid p1; have hown3 := p2; have tok2 := trivial; clear tok1 hown1 hg1 p1 p2 hown0)
    | (at_builtin; have _t := tok2; refine wpList_append_reads _ rfl _ _ 22 rfl w.heap.size 9 i0 (.string ByteArray.empty) 16 Tryz.underlying22 hi hz0 hz1 hz2 rfl v1 n _ rfl hown3 w.heap.size A' n' c' _ rfl (hR2.out _ hT3.out.below) (strs_one _) hmax.out.2.1 hmax.out.2.2 hT3.out.below.size ?_; intro v2 w4 hown1 hg1; have hT4 := Lib.hid (hput2.out v1 v2 w3 w4 hT3.out hown1 hg1); clear tok2 hown1 hg1 hown3))
  go_ret
  exact ⟨_, rfl, hT4.out⟩
theorem sBoth_any (A : Option Addr) (n c : Nat) (a : Txs) (A' : Option Addr) (n' c' : Nat) (b : Txs) (w : World) (ha : a.length ≤ 100000) (hb : b.length ≤ 100000) (hA : TxR w w.heap.size (A, n, c) a) (hB : TxR w w.heap.size (A', n', c') b) :
    Calls Tryz.prog 16 #[.slice A n c, .slice A' n' c'] w fun e w' => TxsOut w w' e (a ++ b) := (sBoth_own A n c a A' n' c' b w ha hb hA hB).mono fun e w' h => let ⟨_, he, hT⟩ := h; he ▸ hT.out

end Go.Proofs.YtdfpifipkchmnaaGreatDoor

/- Proved here: texts joined: AlignMatch, AlignMats, AlignCon, MgNum. -/
import Derived.Test.YticgjbckfpkpjaaGreatBu06
import Derived.Test.YticgjbckfpkpjaaGreatBu08
import Derived.Test.YticgjbckfpkpjaaGreatBu13
import Derived.Test.YticgjbckfpkpjaaGreatBu17
import Derived.Test.YticgjbckfpkpjaaGreatBu18
/- Proved here: contracts of the document's own answers of layers 3 and 5: Match (of numbers of the call's own), Matches. -/
namespace Go.Proofs.YticgjbckfpkpjaaGreat
open Go.RowKit
set_option linter.unusedVariables false

theorem own_base {w : World} {b1 b2 n : Nat} {e : TypeId} {size : Nat} {v : Value} {xs : List Value} (h : w.ownsRow b1 e size v n xs) (hb : b2 ≤ b1) : w.ownsRow b2 e size v n xs := by
  refine ⟨h.1, ?_⟩
  rcases h.2 with h | ⟨g, cap, cur, e1, h2, r⟩
  · exact .inl h
  · exact .inr ⟨g, cap, cur, e1, Nat.le_trans hb h2, r⟩

theorem match_step {w1 wr w2 : World} {v : Value} {a b done : List Int} {i j j' : Nat} {u : Int} {o : Obj} (h : mtAt a b 0 0 = done ++ mtAt a b i j) (hu : mtAt a b i j = u :: mtAt a b (i + 1) j') (hB : Below w1.heap.size w1 wr) (hl : ∀ k, v.ownBlock = some k → w1.heap.size ≤ k ∧ k < wr.heap.size)
    (hg : (wr.alloc o).grownBy w2 v.ownBlock) : mtAt a b 0 0 = (done ++ [u]) ++ mtAt a b (i + 1) j' ∧ Below w1.heap.size w1 w2 :=
  ⟨by rw [h, hu]; simp, (hB.alloc hB.size o).grown hg (by have := hB.size; simp; omega) (fun k e => (hl k e).1)⟩

set_option maxRecDepth 100000 in
set_option maxHeartbeats 2000000 in
theorem rMatch_any (A A' : Option Addr) (n n' c c' B B' : Nat) (a b : List Int) (w : World) (hn : n ≤ 1000) (hn' : n' ≤ 1000) (hA : Nums w B A n a) (hA' : Nums w B' A' n' b) (hB : B ≤ w.heap.size) (hB' : B' ≤ w.heap.size) :
    Calls Tryz.prog 70 #[.slice A n c, .slice A' n' c'] w fun e w' => OwnNums w w' e (mt a b 0) := by
  have hl := hA.len
  have hl' := hA'.len
  obtain ⟨M, hM⟩ : ∃ M, M = (n + 1) * (n' + 1) := ⟨_, rfl⟩
  have hMb : M ≤ 1002001 := by
    rw [hM]
    exact Nat.le_trans (Nat.mul_le_mul (show n + 1 ≤ 1001 by omega) (show n' + 1 ≤ 1001 by omega)) (by decide)
  have hR := rest_any A A' n n' c c' B B' a b w hn hn' hA hA' hB hB'
  rw [← hM] at hR
  have hR' := Lib.hid hR
  have hMh := Lib.hid hM
  clear hM hR
  obtain ⟨i0, hi, hz0, hz1, hz2⟩ := info_parts infoInt
  have hgo : mt a b 0 = mtAt a b 0 0 := rfl
  rw [hgo]
  clear hgo
  go_enter Tryz.func70, Tryz.ntmps70
  go_wp2_with (go_at_call 97; refine hR'.out.mono ?_; rintro e w1 ⟨rfl, hrow, hB1⟩; have hw1 := hrow.lt)
  have hrowh := Lib.hid hrow
  clear hrow
  go_loopw [7, 8, 9] (fun sv sj si wr => ∃ (i j : Nat) (v : Value) (done : List Int), i ≤ n ∧ j ≤ n' ∧ si = .int .i64 i ∧ sj = .int .i64 j ∧ v = sv ∧ done.length = i ∧ Hid (mtAt a b 0 0 = done ++ mtAt a b i j) ∧ wr.ownsRow w1.heap.size 3 1 v i (done.map fun x => .int .i64 x) ∧ Below w1.heap.size w1 wr) (fun _ _ i _ => n - (intOf i).toNat)
  case atStart => exact ⟨0, 0, _, [], Nat.zero_le _, Nat.zero_le _, rfl, rfl, rfl, rfl, Lib.hid rfl, World.ownsRow_nil _ _ _ _, Below.refl _ _⟩
  case round =>
    obtain ⟨i, j0, v, done, hi', hj0, rfl, rfl, rfl, hdl, hmt, hown, hBr⟩ := hrel
    have hdl' := Lib.hid hdl
    clear hdl
    obtain ⟨wo, rfl⟩ : ∃ wo : World, wo = wr := ⟨_, rfl⟩
    by_cases hlt : i < n
    · obtain ⟨P, hP⟩ : ∃ P, P = (i + 1) * (n' + 1) := ⟨_, rfl⟩
      obtain ⟨Q, hQ⟩ : ∃ Q, Q = i * (n' + 1) := ⟨_, rfl⟩
      have hPQ : P = Q + (n' + 1) := by rw [hP, hQ, Nat.add_mul, Nat.one_mul]
      have hPM : P + (n' + 1) ≤ M := by
        rw [hP, hMh.out, ← Nat.succ_mul]
        exact Nat.mul_le_mul_right _ (by omega)
      have hQM : Q + n' < M := by omega
      have m1 : ((i : Int) + 1) * ((n' : Int) + 1) = (P : Int) := by rw [hP]; push_cast; rfl
      have m2 : (i : Int) * ((n' : Int) + 1) = (Q : Int) := by rw [hQ]; push_cast; rfl
      have hPh := Lib.hid hP
      have hQh := Lib.hid hQ
      have hPQh := Lib.hid hPQ
      clear hP hQ hPQ
      go_wp2
      go_loopw [8] (fun sj wr => ∃ (j q : Nat), j ≤ n' ∧ sj = .int .i64 j ∧ wr = wo.drewN q ∧ Hid (mtAt a b i j0 = mtAt a b i j)) (fun sj _ => n' - (intOf sj).toNat)
      case atStart => exact ⟨j0, 0, hj0, rfl, rfl, Lib.hid rfl⟩
      case round =>
        obtain ⟨j, q, hj, rfl, hwr, hmj⟩ := hrel
        have hwr' := Lib.hid hwr
        clear hwr
        have hBw : Below w1.heap.size w1 wr := by rw [hwr'.out]; exact below_drewN hBr q
        have hsw : wr.heap.size = wo.heap.size := by rw [hwr'.out]; rfl
        have hBe : Below w.heap.size w wr := hB1.trans (hBw.mono hB1.size)
        have hownr : wr.ownsRow w1.heap.size 3 1 v i (done.map fun x => .int .i64 x) := ownsRow_kept hown fun k e => by rw [hwr'.out]; rfl
        have hrw : wr.rowIs w.heap.size 3 M (fun t => .int .i64 (lcsAt a b (t / (n' + 1)) (t % (n' + 1)))) := hrowh.out.of_block (hBw.block _ hw1)
        have hrwh := Lib.hid hrw
        have hmax : Hid (i + 1 ≤ maxLen ∧ (i + 1) * 8 ≤ 140737488355328) := Lib.hid ⟨by unfold maxLen; omega, by omega⟩
        have hso : w1.heap.size ≤ wr.heap.size := hBw.size
        have hll := Lib.hid hownr.lt
        have hswh := Lib.hid hsw
        clear hrw hsw
        obtain ⟨ba, oa, x, rfl, hba, hx, hxa⟩ := hA.at_ (k := i) hlt
        have cx : wr.cell? ⟨ba, oa + i, none⟩ = some (.int .i64 x) := (hBe.cell (p := ⟨ba, oa + i, none⟩) (by show ba < _; omega)).trans hxa
        clear hxa
        by_cases hjn : j < n'
        · obtain ⟨bb, ob, y, rfl, hbb, hy, hyb⟩ := hA'.at_ (k := j) hjn
          have cy : wr.cell? ⟨bb, ob + j, none⟩ = some (.int .i64 y) := (hBe.cell (p := ⟨bb, ob + j, none⟩) (by show bb < _; omega)).trans hyb
          clear hyb
          have hj1 : (0 : Int) ≤ (i : Int) := by omega
          have hj2 : (i : Int) < (n : Int) := by omega
          have hj3 : (0 : Int) ≤ (j : Int) := by omega
          have hj4 : (j : Int) < (n' : Int) := by omega
          by_cases hxy : x = y
          · have hb1 : (x != y) = false := by simpa using hxy
            have hb2 : (x == y) = true := by simpa using hxy
            have hu := mtAt_pair hx (hxy ▸ hy)
            rw [← hmj.out] at hu
            have huh := Lib.hid hu
            clear hxy hu
            go_wp2
            go_quiet (fail)
            obtain ⟨z1, rfl⟩ : ∃ z1, z1 = nq := ⟨_, rfl⟩
            go_wp2
            go_quiet (fail)
            obtain ⟨z2, rfl⟩ : ∃ z2, z2 = nq := ⟨_, rfl⟩
            have hownz : (wr.drewN (z1 + z2)).ownsRow w1.heap.size 3 1 v i (done.map fun x => .int .i64 x) := hownr
            go_wp2_with (at_builtin; refine wpList_append_own_at _ rfl _ _ 69 rfl w1.heap.size 3 i0 (.int .i64 0) 1 8 Tryz.underlying69 hi hz0 hz1 hz2 rfl (by decide) v i _ rfl (hownz.alloc _) ⟨wr.heap.size, 0, none⟩ 1 1 [.int .i64 (j : Int)] rfl rfl (cell_one_new _ _ _) (by simp [Value.oneCell']) hmax.out.1 hmax.out.2 (by simp; omega) ?_; intro v' w2 hown2 hg2 hnil2 hloc2; clear hnil2)
            go_roundw
            case rel =>
              obtain ⟨h1, h2⟩ := match_step (w1 := w1) hmt.out huh.out (below_drewN hBw (z1 + z2)) hll.out hg2
              exact ⟨i + 1, j + 1, v', done ++ [(j : Int)], by omega, by omega, by go_num, by go_num, rfl, by simp [hdl'.out], Lib.hid h1, by simpa using hown2, h2⟩
            case measure => simp [intOf]; omega
          · have hb1 : (x != y) = true := by simpa using hxy
            have hb2 : (x == y) = false := by simpa using hxy
            obtain ⟨t1, ht1⟩ : ∃ t1, t1 = P + j := ⟨_, rfl⟩
            obtain ⟨t0, ht0⟩ : ∃ t0, t0 = Q + j := ⟨_, rfl⟩
            obtain ⟨t2, ht2⟩ : ∃ t2, t2 = Q + (j + 1) := ⟨_, rfl⟩
            have c1 : wr.cell? ⟨w.heap.size, t1, none⟩ = some (.int .i64 (lcsAt a b (i + 1) j)) := by
              rw [hrwh.out.cell (show t1 < M by omega), ht1, hPh.out, (div_at (by omega : j < n' + 1)).1, (div_at (by omega : j < n' + 1)).2]
            have c2 : wr.cell? ⟨w.heap.size, t2, none⟩ = some (.int .i64 (lcsAt a b i (j + 1))) := by
              rw [hrwh.out.cell (show t2 < M by omega), ht2, hQh.out, (div_at (by omega : j + 1 < n' + 1)).1, (div_at (by omega : j + 1 < n' + 1)).2]
            have hsk := fun h => mtAt_skip hx hy hxy (i := i) (j := j) h
            have hps := fun h => mtAt_pass hx hy hxy (i := i) (j := j) h
            have l1 := lcsAt_le_left a b (i + 1) j
            have l2 := lcsAt_le_left a b i (j + 1)
            obtain ⟨v1, hv1⟩ : ∃ v, v = lcsAt a b (i + 1) j := ⟨_, rfl⟩
            obtain ⟨v2, hv2⟩ : ∃ v, v = lcsAt a b i (j + 1) := ⟨_, rfl⟩
            rw [← hv1] at c1 l1 hsk hps
            rw [← hv2] at c2 l2 hsk hps
            have hsk' := Lib.hid hsk
            have hps' := Lib.hid hps
            have e1 : IntKind.i64.wrap ((i : Int) + 1) = (i : Int) + 1 := IntWalk.i64_in _ (by omega)
            have e2 : IntKind.i64.wrap (((i : Int) + 1) * ((n' : Int) + 1)) = (P : Int) := by rw [m1]; exact IntWalk.i64_in _ (by omega)
            have e3 : IntKind.i64.wrap ((P : Int) + (j : Int)) = (t1 : Int) := by rw [ht1]; push_cast; exact IntWalk.i64_in _ (by omega)
            have e4 : IntKind.i64.wrap ((i : Int) * ((n' : Int) + 1)) = (Q : Int) := by rw [m2]; exact IntWalk.i64_in _ (by omega)
            have e5 : IntKind.i64.wrap ((Q : Int) + (j : Int)) = (t0 : Int) := by rw [ht0]; push_cast; exact IntWalk.i64_in _ (by omega)
            have e6 : IntKind.i64.wrap ((t0 : Int) + 1) = (t2 : Int) := by rw [ht0, ht2]; push_cast; rw [IntWalk.i64_in _ (by omega)]; omega
            have i1 : (0 : Int) ≤ (t1 : Int) := by omega
            have i2 : (t1 : Int) < (M : Int) := by omega
            have i3 : (0 : Int) ≤ (t2 : Int) := by omega
            have i4 : (t2 : Int) < (M : Int) := by omega
            clear ht0 ht1 ht2 hv1 hv2 hsk hps hxy
            by_cases hv : v1 < v2
            · have hsk2 := Lib.hid (hsk'.out hv)
              have hvi : ((v1 : Int) < (v2 : Int)) := by omega
              go_wp2
              go_quiet (fail)
              clear e1 e2 e3 e4 e5 e6
              obtain ⟨z1, rfl⟩ : ∃ z1, z1 = nq := ⟨_, rfl⟩
              go_wp2
              go_roundw
              case rel => exact ⟨j + 1, q + z1, by omega, by go_num, by rw [hwr'.out, World.drewN_drewN], Lib.hid (by rw [hmj.out, hsk2.out])⟩
              case measure => simp [intOf]; omega
            · have hu := hps'.out hv
              rw [← hmj.out] at hu
              have huh := Lib.hid hu
              have hvi : ¬ ((v1 : Int) < (v2 : Int)) := by omega
              clear hu
              go_wp2
              go_quiet (fail)
              clear e1 e2 e3 e4 e5 e6
              obtain ⟨z1, rfl⟩ : ∃ z1, z1 = nq := ⟨_, rfl⟩
              go_wp2
              go_quiet (fail)
              obtain ⟨z2, rfl⟩ : ∃ z2, z2 = nq := ⟨_, rfl⟩
              have hownz : (wr.drewN (z1 + z2)).ownsRow w1.heap.size 3 1 v i (done.map fun x => .int .i64 x) := hownr
              go_wp2_with (at_builtin; refine wpList_append_own_at _ rfl _ _ 69 rfl w1.heap.size 3 i0 (.int .i64 0) 1 8 Tryz.underlying69 hi hz0 hz1 hz2 rfl (by decide) v i _ rfl (hownz.alloc _) ⟨wr.heap.size, 0, none⟩ 1 1 [.int .i64 (-1)] rfl rfl (cell_one_new _ _ _) (by simp [Value.oneCell']) hmax.out.1 hmax.out.2 (by simp; omega) ?_; intro v' w2 hown2 hg2 hnil2 hloc2; clear hnil2)
              go_roundw
              case rel =>
                obtain ⟨h1, h2⟩ := match_step (w1 := w1) hmt.out huh.out (below_drewN hBw (z1 + z2)) hll.out hg2
                exact ⟨i + 1, j, v', done ++ [(-1)], by omega, by omega, by go_num, rfl, rfl, by simp [hdl'.out], Lib.hid h1, by simpa using hown2, h2⟩
              case measure => simp [intOf]; omega
        · obtain rfl : j = n' := by omega
          have hjf : decide (j < j) = false := by simp
          have hu := mtAt_out (a := a) (b := b) (i := i) (j := j) (by omega) (by omega)
          rw [← hmj.out] at hu
          have huh := Lib.hid hu
          clear hu
          go_wp2
          go_quiet (fail)
          obtain ⟨z1, rfl⟩ : ∃ z1, z1 = nq := ⟨_, rfl⟩
          go_wp2
          go_quiet (fail)
          obtain ⟨z2, rfl⟩ : ∃ z2, z2 = nq := ⟨_, rfl⟩
          have hownz : (wr.drewN (z1 + z2)).ownsRow w1.heap.size 3 1 v i (done.map fun x => .int .i64 x) := hownr
          go_wp2_with (at_builtin; refine wpList_append_own_at _ rfl _ _ 69 rfl w1.heap.size 3 i0 (.int .i64 0) 1 8 Tryz.underlying69 hi hz0 hz1 hz2 rfl (by decide) v i _ rfl (hownz.alloc _) ⟨wr.heap.size, 0, none⟩ 1 1 [.int .i64 (-1)] rfl rfl (cell_one_new _ _ _) (by simp [Value.oneCell']) hmax.out.1 hmax.out.2 (by simp; omega) ?_; intro v' w2 hown2 hg2 hnil2 hloc2; clear hnil2)
          go_roundw
          case rel =>
            obtain ⟨h1, h2⟩ := match_step (w1 := w1) hmt.out huh.out (below_drewN hBw (z1 + z2)) hll.out hg2
            exact ⟨i + 1, j, v', done ++ [(-1)], by omega, by omega, by go_num, rfl, rfl, by simp [hdl'.out], Lib.hid h1, by simpa using hown2, h2⟩
          case measure => simp [intOf]; omega
    · obtain rfl : i = n := by omega
      go_wp2
      go_ret
      have hd : done = mtAt a b 0 0 := by
        have := hmt.out
        rw [mtAt_end (a := a) (b := b) (i := i) (j := j0) (by omega), List.append_nil] at this
        exact this.symm
      subst hd
      refine ⟨v, rfl, ?_, hB1.trans (hBr.mono hB1.size)⟩
      have h4 := own_base hown hB1.size
      rw [show (mtAt a b 0 0).length = i from hdl'.out]
      exact h4

/-- The sizes of sides, and the base's match with each. -/
def sizesOf (sides : List (List Int)) : List Int := sides.map fun s => (s.length : Int)
def msOf (base : List Int) (sides : List (List Int)) : List (List Int) := sides.map fun s => mt base s 0

/-- What Matches tells, as far as it has come. -/
structure MatIn (w wr : World) (v1 v2 : Value) (rows : List (Option Addr × Nat × Nat)) (sizes : List Int) (ms : List (List Int)) : Prop where
  own1 : wr.ownsRow w.heap.size 3 1 v1 sizes.length (sizes.map fun x => .int .i64 x)
  rows2 : RowsIn w wr v2 (fun k => v1.ownBlock = some k) rows ms
  below : Below w.heap.size w wr
theorem MatIn.apart {w wr : World} {v1 v2 : Value} {rows : List (Option Addr × Nat × Nat)} {sizes : List Int} {ms : List (List Int)} (h : MatIn w wr v1 v2 rows sizes ms) : v1.ownBlock = none ∨ v1.ownBlock ≠ v2.ownBlock := own_apart h.own1 h.rows2.own (by decide)
end Go.Proofs.YticgjbckfpkpjaaGreat
/- Proved here: the contract of the document's own Matches of layer 5. -/
namespace Go.Proofs.YticgjbckfpkpjaaGreat
open Go.RowKit
set_option linter.unusedVariables false

section
variable {w wo w1 w2 w3 : World} {v1 v2 v1' v2' : Value} {rows : List (Option Addr × Nat × Nat)} {sizes : List Int} {ms : List (List Int)}
theorem MatIn.low (h : MatIn w wo v1 v2 rows sizes ms) (hb : Below wo.heap.size wo w1) : MatIn w w1 v1 v2 rows sizes ms :=
  ⟨ownsRow_kept h.own1 fun k e => hb.block k (h.own1.lt k e).2, h.rows2.kept hb.size (fun k hk _ => hb.block k hk) (fun k e1 e2 => (h.apart.elim (fun h => by rw [h] at e2; cases e2) (fun h => h (e2.trans e1.symm)))), h.below.trans (hb.mono h.below.size)⟩
theorem MatIn.size {z : Int} {o : Obj} (h : MatIn w wo v1 v2 rows sizes ms) (hown : w1.ownsRow w.heap.size 3 1 v1' (sizes.length + 1) ((sizes.map fun x => .int .i64 x) ++ [.int .i64 z])) (hg : (wo.alloc o).grownBy w1 v1.ownBlock) (hloc : v1'.ownBlock = v1.ownBlock ∨ v1'.ownBlock = some (wo.alloc o).heap.size) : MatIn w w1 v1' v2 rows (sizes ++ [z]) ms := by
  have hs : wo.heap.size + 1 ≤ w1.heap.size := by have := hg.size; simpa using this
  have hk : ∀ k, k < wo.heap.size → ¬ v1.ownBlock = some k → w1.heap[k]? = wo.heap[k]? := fun k h1 h2 => (hg.block k (by simp; omega) (fun e => h2 e.symm)).trans (Below.heap_alloc wo o k h1)
  have h2 := h.rows2.kept (by omega) hk (fun k e1 e2 => (h.apart.elim (fun h => by rw [h] at e2; cases e2) (fun h => h (e2.trans e1.symm))))
  refine ⟨by simpa using hown, ⟨h2.own, h2.len, fun k r xs a b => ?_⟩, (h.below.alloc h.below.size o).grown hg (by have := h.below.size; simp; omega) (fun j e => (h.own1.lt j e).1)⟩
  obtain ⟨e1, e2, e3, e4⟩ := h2.row k r xs a b
  obtain ⟨_, _, e5, e6⟩ := h.rows2.row k r xs a b
  refine ⟨e1, e2, e3, fun hn q o' e => ⟨(e4 hn q o' e).1, fun e7 => ?_⟩⟩
  obtain ⟨g, o2, ha, hb, _⟩ := e5.2 hn
  rw [e] at ha
  injection ha with ha
  injection ha with ha1 ha2
  rcases hloc with hl | hl
  · rw [hl] at e7
    exact (e6 hn q o' e).2 e7
  · rw [hl] at e7
    injection e7 with e7
    simp at e7
    omega
theorem MatIn.put {xs : List Int} {A : Option Addr} {n c : Nat} {o : Obj} (h : MatIn w w1 v1 v2 rows sizes ms) (hb : Below w1.heap.size w1 w2) (hu : w2.ownsRow w1.heap.size 3 1 (.slice A n c) n (xs.map fun x => .int .i64 x)) (hnc : n ≤ c) (hcm : c ≤ maxLen) (hN : Nums w2 w2.heap.size A n xs)
    (hown : w3.ownsRow w.heap.size 69 1 v2' (rows.length + 1) ((rows.map fun r => .slice r.1 r.2.1 r.2.2) ++ [.slice A n c])) (hg : (w2.alloc o).grownBy w3 v2.ownBlock) (hloc : v2'.ownBlock = v2.ownBlock ∨ v2'.ownBlock = some (w2.alloc o).heap.size) : MatIn w w3 v1 v2' (rows ++ [(A, n, c)]) sizes (ms ++ [xs]) := by
  have h2 := h.low hb
  have hs : w2.heap.size + 1 ≤ w3.heap.size := by have := hg.size; simpa using this
  have hnew : ∀ q o, A = some ⟨q, o, none⟩ → v2.ownBlock ≠ some q ∧ ¬ v1.ownBlock = some q := by
    intro q o e
    subst e
    have h3 := (hu.lt q rfl).1
    refine ⟨fun e => ?_, fun e => ?_⟩
    · have := (h.rows2.own.lt q e).2; omega
    · have := (h.own1.lt q e).2; omega
  refine ⟨ownsRow_kept h2.own1 fun k e => ?_, h2.rows2.put (r := (A, n, c)) hnc hcm hN (fun _ => hnew) hown hg hloc, ?_⟩
  · have hk := (h2.own1.lt k e).2
    rw [hg.block k (by simp; omega) (fun e2 => (h2.apart.elim (fun h => by rw [h] at e; cases e) (fun h => h (e.trans e2)))), Below.heap_alloc w2 o k hk]
  · exact (h2.below.alloc h2.below.size o).grown hg (by have := h2.below.size; simp; omega) (fun j e => (h2.rows2.own.lt j e).1)
end

/-- What Matches tells. -/
def MatsOut (w w' : World) (e : Ending) (sizes : List Int) (ms : List (List Int)) : Prop := ∃ v1 v2 rows, e = .returned (.tuple #[v1, v2]) ∧ MatIn w w' v1 v2 rows sizes ms

theorem RowsN.up {w w' : World} {A : Option Addr} {n : Nat} {rows : List (Option Addr × Nat × Nat)} {xss : List (List Int)} (h : RowsN w w.heap.size A n rows xss) (hb : Below w.heap.size w w') : RowsN w' w'.heap.size A n rows xss := (RowsN.below h hb).more hb.size

set_option maxHeartbeats 2000000 in
theorem Matches_any (A : Option Addr) (n c : Nat) (base : List Int) (A' : Option Addr) (n' c' : Nat) (rows : List (Option Addr × Nat × Nat)) (sides : List (List Int)) (w : World) (hn : n ≤ 1000) (hn' : n' ≤ 1000) (hs : ∀ s ∈ sides, s.length ≤ 1000) (hA : Nums w w.heap.size A n base) (hA' : RowsN w w.heap.size A' n' rows sides) :
    Calls Tryz.prog 35 #[.slice A n c, .slice A' n' c'] w fun e w' => MatsOut w w' e (sizesOf sides) (msOf base sides) := by
  have hlen := hA'.len
  obtain ⟨i0, hi, hz0, hz1, hz2⟩ := info_parts infoIntA
  obtain ⟨i1, hj, hy0, hy1, hy2⟩ := info_parts infoRowA
  have hM := Lib.hid (fun (A1 : Option Addr) (n1 c1 : Nat) (s : List Int) (w' : World) (h1 : n1 ≤ 1000) (hb : Below w.heap.size w w') (h : Nums w' w'.heap.size A1 n1 s) => rMatch_any A A1 n n1 c c1 w'.heap.size w'.heap.size base s w' hn h1 (hA.up hb) h (Nat.le_refl _) (Nat.le_refl _))
  have hsh := Lib.hid hs
  clear hs hA
  go_enter Tryz.func35, Tryz.ntmps35
  go_wp2
  go_loopw [6, 7, 8] (fun s1 s2 si wr => ∃ (k : Nat) (v1 v2 : Value) (rs : List (Option Addr × Nat × Nat)), k ≤ n' ∧ si = .int .i64 k ∧ v1 = s1 ∧ v2 = s2 ∧ Hid (rs.length = k ∧ MatIn w wr v1 v2 rs (sizesOf (sides.take k)) (msOf base (sides.take k)))) (fun _ _ si _ => n' - (intOf si).toNat)
  case atStart => exact ⟨0, _, _, [], Nat.zero_le _, rfl, rfl, rfl, Lib.hid ⟨rfl, World.ownsRow_nil _ _ _ _, ⟨World.ownsRow_nil _ _ _ _, rfl, fun k r xs h => by simp at h⟩, Below.refl _ _⟩⟩
  case round =>
    obtain ⟨k, v1, v2, rs, hk, rfl, rfl, rfl, hR⟩ := hrel
    obtain ⟨wo, rfl⟩ : ∃ wo : World, wo = wr := ⟨_, rfl⟩
    by_cases hlt : k < n'
    · have hBe := hR.out.2.below
      obtain ⟨b, o, A1, n1, c1, s, rfl, hb, hs, hc0, hN⟩ := hA'.at_ (k := k) hlt
      have hc := (hBe.cell (p := ⟨b, o + k, none⟩) hb).trans hc0
      have hnl := hN.len
      have hsl : n1 ≤ 1000 := by have := hsh.out s (List.mem_of_getElem? hs); omega
      have hki : (k : Int) < (n' : Int) := by omega
      have hso := hBe.size
      have hown1 := hR.out.2.own1
      have hkl : Hid ((sizesOf (sides.take k)).length = k) := Lib.hid (by unfold sizesOf; rw [List.length_map, List.length_take]; omega)
      rw [hkl.out] at hown1
      have ht1 : Hid (sizesOf (sides.take (k + 1)) = sizesOf (sides.take k) ++ [(n1 : Int)]) := Lib.hid (by unfold sizesOf; rw [take_at hs, List.map_append, ← hnl]; rfl)
      have ht2 : Hid (msOf base (sides.take (k + 1)) = msOf base (sides.take k) ++ [mt base s 0]) := Lib.hid (by unfold msOf; rw [take_at hs, List.map_append]; rfl)
      have hmax : Hid (k + 1 ≤ maxLen ∧ (k + 1) * 8 ≤ 140737488355328 ∧ (k + 1) * 24 ≤ 140737488355328) := Lib.hid ⟨by unfold maxLen; omega, by omega, by omega⟩
      have hNh := Lib.hid hN
      have hch := Lib.hid hc0
      have hbh := Lib.hid hb
      clear hN hs hnl hBe hc0 hb
      have tok1 := trivial
      go_wp2_with (first
        | (at_builtin; have _t := tok1; refine wpList_append_own_at _ rfl _ _ 69 rfl w.heap.size 3 i0 (.int .i64 0) 1 8 Tryz.underlying69 hi hz0 hz1 hz2 rfl (by decide) v1 k _ rfl (hown1.alloc _) ⟨wo.heap.size, 0, none⟩ 1 1 [.int .i64 (n1 : Int)] rfl rfl (cell_one_new _ _ _) (by simp [Value.oneCell']) hmax.out.1 hmax.out.2.1 (by simp; omega) ?_; intro v1' w1 hown2 hg2 hnil2 hloc2; clear hnil2 tok1; have hm1 := Lib.hid (hR.out.2.size (by rw [hkl.out]; exact hown2) hg2 hloc2); have hcc := (hm1.out.below.cell (p := ⟨b, o + k, none⟩) hbh.out).trans hch.out; have hcall := Lib.hid (hM.out A1 n1 c1 s w1 hsl hm1.out.below (hNh.out.up hm1.out.below)); clear hown2 hg2 hloc2 hc)
        | (go_at_call 70; refine hcall.out.mono ?_; rintro e w2 ⟨u, rfl, hu, hb2⟩; obtain ⟨Au, cu, rfl, q1, q2, q3⟩ := nums_of_own hu; have hrl := hR.out.1; have hown3 := (hm1.out.low hb2).rows2.own; rw [hrl] at hown3; have hso2 := (hm1.out.low hb2).below.size; have huh := Lib.hid (And.intro hu hb2); clear hu hb2 hrl)
        | (at_builtin; refine wpList_append_own_at _ rfl _ _ 67 rfl w.heap.size 69 i1 (.slice none 0 0) 1 24 Tryz.underlying67 hj hy0 hy1 hy2 rfl (by decide) v2 k _ rfl (hown3.alloc _) ⟨w2.heap.size, 0, none⟩ 1 1 [.slice Au (mt base s 0).length cu] rfl rfl (cell_one_new _ _ _) (by simp [Value.oneCell']) hmax.out.1 hmax.out.2.2 (by simp; omega) ?_; intro v2' w3 hown4 hg4 hnil4 hloc4; clear hnil4))
      have hfin := hm1.out.put huh.out.2 huh.out.1 q1 q2 q3 (by rw [hR.out.1]; exact hown4) hg4 hloc4
      go_roundw
      case rel => exact ⟨k + 1, v1', v2', rs ++ [(Au, (mt base s 0).length, cu)], by omega, by go_num, rfl, rfl, Lib.hid ⟨by simp [hR.out.1], by rw [ht1.out, ht2.out]; exact hfin⟩⟩
      case measure => simp [intOf] <;> omega
    · obtain rfl : k = n' := by omega
      go_wp2
      go_ret2
      refine ⟨_, _, rs, rfl, ?_⟩
      have := hR.out.2
      rwa [List.take_of_length_le (by omega)] at this
end Go.Proofs.YticgjbckfpkpjaaGreat
/- What the statements ask of package align: the contract of Align; the matches of lists may be. -/
namespace Go.Proofs.YticgjbckfpkpjaaGreat
open Go.RowKit
set_option linter.unusedVariables false

/-- Chunks were made, and nothing that was there has turned. -/
def CkOut (w w' : World) (e : Ending) (er : Int) (cs : List Ck) : Prop := ∃ A n c, e = .returned (.tuple #[.slice A n c, .int .i64 er]) ∧ n = cs.length ∧ n ≤ c ∧ c ≤ maxLen ∧ Cks w' w'.heap.size A n cs ∧ Below w.heap.size w w'
/-- How Align ends, of matches that may be. -/
def AlignOut (w w' : World) (e : Ending) (m : Int) (sizes : List Int) (ms : List (List Int)) : Prop := ∃ cs, IsCut m sizes ms cs ∧ CkOut w w' e 0 cs

/-- The contracts of package align. -/
structure AlignOk : Prop where
  align_ok : ∀ (A : Option Addr) (n c : Nat) (sizes : List Int) (A' : Option Addr) (n' c' : Nat) (rows : List (Option Addr × Nat × Nat)) (ms : List (List Int)) (m : Nat) (w : World), 1 ≤ n → n ≤ 16 → n ≤ c → c ≤ maxLen → n' ≤ c' → c' ≤ maxLen → ms.length = n → m ≤ 2000 →
    (∀ z ∈ sizes, 0 ≤ z ∧ z ≤ 2000) → (∀ (k : Nat) (l : List Int) (z : Int), ms[k]? = some l → sizes[k]? = some z → IsMatch m l z) → Nums w w.heap.size A n sizes → RowsN w w.heap.size A' n' rows ms →
    Calls Tryz.prog 32 #[.int .i64 m, .slice A n c, .slice A' n' c'] w fun e w' => AlignOut w w' e m sizes ms
  align_nil : ∀ (m : Nat) (w : World), m ≤ 2000 →
    Calls Tryz.prog 32 #[.int .i64 m, .slice none 0 0, .slice none 0 0] w fun e w' => CkOut w w' e 1 []

/-- The matches of lists may be. -/
theorem mt_match (a b : List Int) : IsMatch a.length (mt a b 0) b.length := by
  have hg := mt_good a b 0
  refine ⟨mt_len a b 0, fun u hu hne => ?_, ?_⟩
  · obtain ⟨i, hi⟩ := List.mem_iff_getElem?.1 hu
    obtain ⟨y, hy, ⟨x, _, hx⟩, _⟩ := hg i u hi hne
    have := (List.getElem?_eq_some_iff.1 hx).1
    omega
  · rw [List.pairwise_iff_getElem]
    intro i j hi hj hlt h1 h2
    obtain ⟨_, _, _, h⟩ := hg j _ (List.getElem?_eq_getElem hj) h2
    exact h i _ hlt (List.getElem?_eq_getElem hi)

theorem sizes_len (l : List (List Int)) : (sizesOf l).length = l.length := by simp [sizesOf]
theorem ms_len (b : List Int) (l : List (List Int)) : (msOf b l).length = l.length := by simp [msOf]
theorem ms_match {b : List Int} {l : List (List Int)} {k : Nat} {x : List Int} {z : Int} (h1 : (msOf b l)[k]? = some x) (h2 : (sizesOf l)[k]? = some z) : IsMatch b.length x z := by
  unfold msOf at h1
  unfold sizesOf at h2
  rw [List.getElem?_map] at h1 h2
  cases hs : l[k]? with
  | none => rw [hs] at h1; cases h1
  | some s =>
    rw [hs] at h1 h2
    injection h1 with h1
    injection h2 with h2
    subst h1
    subst h2
    exact mt_match b s
theorem match_may {m : Nat} {l : List Int} {z : Int} (h : IsMatch m l z) (hz : 0 ≤ z) : may l z = true := by
  unfold may
  simp only [Bool.and_eq_true, decide_eq_true_eq]
  exact ⟨hz, mayL_of h.2.1 h.2.2⟩
end Go.Proofs.YticgjbckfpkpjaaGreat
/- Proved here, without conditions: the numbers of all texts tell them apart; the matches by them. -/
namespace Go.Proofs.YticgjbckfpkpjaaGreat
open Go.RowKit
set_option linter.unusedVariables false

theorem withAll_mem {s : Tx} : ∀ (l ts : List Tx), (s ∈ ts ∨ s ∈ l) → s ∈ withAll ts l
  | [], ts, h => by rcases h with h | h; exact h; cases h
  | t :: l, ts, h => by
    show s ∈ withAll (withText ts t) l
    refine withAll_mem l _ ?_
    rcases h with h | h
    · exact .inl ((withText_pre ts t).subset h)
    · rcases List.mem_cons.1 h with rfl | h
      · exact .inl (withText_mem ts s)
      · exact .inr h
theorem numOf_inj {fin : List Tx} {s t : Tx} (hs : s ∈ fin) (ht : t ∈ fin) (h : (numOf fin s : Int) = (numOf fin t : Int)) : s = t := by
  have h1 : fin.idxOf s = fin.idxOf t := by unfold numOf at h; omega
  have h2 : fin[fin.idxOf s]? = some s := by rw [List.getElem?_eq_getElem (List.idxOf_lt_length_of_mem hs), List.getElem_idxOf]
  have h3 : fin[fin.idxOf t]? = some t := by rw [List.getElem?_eq_getElem (List.idxOf_lt_length_of_mem ht), List.getElem_idxOf]
  rw [h1, h3] at h2
  injection h2 with h2
  exact h2.symm
/-- The matches by the numbers of all texts. -/
theorem ms_of (base : Txs) (sides : List Txs) : MsOf base sides (msOf (base.map fun s => (numOf (withAll [] (base :: sides).flatten) s : Int)) (sides.map fun d => d.map fun s => (numOf (withAll [] (base :: sides).flatten) s : Int))) := by
  refine ⟨by simp [msOf], fun s l d h1 h2 => ⟨fun t => (numOf (withAll [] (base :: sides).flatten) t : Int), fun x hx y hy h => ?_, ?_⟩⟩
  · refine numOf_inj (withAll_mem _ _ (.inr ?_)) (withAll_mem _ _ (.inr ?_)) h
    · exact List.mem_flatten.2 ⟨base, List.mem_cons_self .., hx⟩
    · exact List.mem_flatten.2 ⟨d, List.mem_cons_of_mem _ (List.mem_of_getElem? h2), hy⟩
  · unfold msOf at h1
    rw [List.map_map, List.getElem?_map, h2] at h1
    simpa using h1.symm
theorem sizes_of (f : Tx → Int) (sides : List Txs) : sizesOf (sides.map fun d => d.map f) = szs sides := by
  unfold sizesOf szs
  rw [List.map_map]
  exact List.map_congr_left fun d _ => by simp

end Go.Proofs.YticgjbckfpkpjaaGreat

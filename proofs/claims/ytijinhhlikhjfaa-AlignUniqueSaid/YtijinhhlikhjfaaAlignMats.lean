/- Proved here: the contract of the document's own Matches of layer 5. -/
import Derived.Test.YtijinhhlikhjfaaAlignMatch
namespace Go.Proofs.Ytijinhhlikhjfaa
open Go.RowKit
set_option linter.unusedVariables false

section
variable {w wo w1 w2 w3 : World} {v1 v2 v1' v2' : Value} {rows : List (Option Addr × Nat × Nat)} {sizes : List Int} {ms : List (List Int)}
theorem MatIn.low (h : MatIn w wo v1 v2 rows sizes ms) (hb : Below wo.heap.size wo w1) : MatIn w w1 v1 v2 rows sizes ms :=
  ⟨ownsRow_kept h.own1 fun k e => hb.block k (h.own1.lt k e).2, h.rows2.kept hb.size (fun k hk _ => hb.block k hk) (fun k e1 e2 => (h.apart.elim (fun h => by rw [h] at e2; cases e2) (fun h => h (e2.trans e1.symm)))), h.below.trans (hb.mono h.below.size)⟩
theorem MatIn.size {z : Int} {o : Obj} (h : MatIn w wo v1 v2 rows sizes ms) (hown : w1.ownsRow w.heap.size 3 1 v1' (sizes.length + 1) ((sizes.map fun x => .int .i64 x) ++ [.int .i64 z])) (hg : (wo.alloc o).grownBy w1 v1.ownBlock) (hloc : v1'.ownBlock = v1.ownBlock ∨ v1'.ownBlock = some (wo.alloc o).heap.size) : MatIn w w1 v1' v2 rows (sizes ++ [z]) ms := by
  have hs : wo.heap.size + 1 ≤ w1.heap.size := by have := hg.size; simpa using this
  have hk : ∀ k, k < wo.heap.size → ¬ v1.ownBlock = some k → w1.heap[k]? = wo.heap[k]? := fun k h1 h2 => (hg.block k (by simp; omega) (fun e => h2 e.symm)).trans (Below.heap_alloc wo o k h1)
  have h2 := h.rows2.kept (by omega) hk (fun k e1 e2 => (h.apart.elim (fun h => by rw [h] at e2; cases e2) (fun h => h (e2.trans e1.symm))))
  refine ⟨by simpa using hown, ⟨h2.own, h2.len, fun k r xs a b => ?_⟩, (h.below.alloc h.below.size o).grown hg (by have := h.below.size; simp; omega) (fun j e => (h.own1.lt j e).1)⟩
  obtain ⟨e1, e2, e3, e4⟩ := h2.row k r xs a b
  obtain ⟨_, _, e5, e6⟩ := h.rows2.row k r xs a b
  refine ⟨e1, e2, e3, fun hn q o' e => ⟨(e4 hn q o' e).1, fun e7 => ?_⟩⟩
  obtain ⟨g, o2, ha, hb, _⟩ := e5.2 hn
  rw [e] at ha
  injection ha with ha
  injection ha with ha1 ha2
  rcases hloc with hl | hl
  · rw [hl] at e7
    exact (e6 hn q o' e).2 e7
  · rw [hl] at e7
    injection e7 with e7
    simp at e7
    omega
theorem MatIn.put {xs : List Int} {A : Option Addr} {n c : Nat} {o : Obj} (h : MatIn w w1 v1 v2 rows sizes ms) (hb : Below w1.heap.size w1 w2) (hu : w2.ownsRow w1.heap.size 3 1 (.slice A n c) n (xs.map fun x => .int .i64 x)) (hnc : n ≤ c) (hcm : c ≤ maxLen) (hN : Nums w2 w2.heap.size A n xs)
    (hown : w3.ownsRow w.heap.size 26 1 v2' (rows.length + 1) ((rows.map fun r => .slice r.1 r.2.1 r.2.2) ++ [.slice A n c])) (hg : (w2.alloc o).grownBy w3 v2.ownBlock) (hloc : v2'.ownBlock = v2.ownBlock ∨ v2'.ownBlock = some (w2.alloc o).heap.size) : MatIn w w3 v1 v2' (rows ++ [(A, n, c)]) sizes (ms ++ [xs]) := by
  have h2 := h.low hb
  have hs : w2.heap.size + 1 ≤ w3.heap.size := by have := hg.size; simpa using this
  have hnew : ∀ q o, A = some ⟨q, o, none⟩ → v2.ownBlock ≠ some q ∧ ¬ v1.ownBlock = some q := by
    intro q o e
    subst e
    have h3 := (hu.lt q rfl).1
    refine ⟨fun e => ?_, fun e => ?_⟩
    · have := (h.rows2.own.lt q e).2; omega
    · have := (h.own1.lt q e).2; omega
  refine ⟨ownsRow_kept h2.own1 fun k e => ?_, h2.rows2.put (r := (A, n, c)) hnc hcm hN (fun _ => hnew) hown hg hloc, ?_⟩
  · have hk := (h2.own1.lt k e).2
    rw [hg.block k (by simp; omega) (fun e2 => (h2.apart.elim (fun h => by rw [h] at e; cases e) (fun h => h (e.trans e2)))), Below.heap_alloc w2 o k hk]
  · exact (h2.below.alloc h2.below.size o).grown hg (by have := h2.below.size; simp; omega) (fun j e => (h2.rows2.own.lt j e).1)
end

/-- What Matches tells. -/
def MatsOut (w w' : World) (e : Ending) (sizes : List Int) (ms : List (List Int)) : Prop := ∃ v1 v2 rows, e = .returned (.tuple #[v1, v2]) ∧ MatIn w w' v1 v2 rows sizes ms

theorem RowsN.up {w w' : World} {A : Option Addr} {n : Nat} {rows : List (Option Addr × Nat × Nat)} {xss : List (List Int)} (h : RowsN w w.heap.size A n rows xss) (hb : Below w.heap.size w w') : RowsN w' w'.heap.size A n rows xss := (RowsN.below h hb).more hb.size

set_option maxHeartbeats 2000000 in
theorem Matches_any (A : Option Addr) (n c : Nat) (base : List Int) (A' : Option Addr) (n' c' : Nat) (rows : List (Option Addr × Nat × Nat)) (sides : List (List Int)) (w : World) (hn : n ≤ 1000) (hn' : n' ≤ 1000) (hs : ∀ s ∈ sides, s.length ≤ 1000) (hA : Nums w w.heap.size A n base) (hA' : RowsN w w.heap.size A' n' rows sides) :
    Calls Try.prog 10 #[.slice A n c, .slice A' n' c'] w fun e w' => MatsOut w w' e (sizesOf sides) (msOf base sides) := by
  have hlen := hA'.len
  obtain ⟨i0, hi, hz0, hz1, hz2⟩ := info_parts infoIntA
  obtain ⟨i1, hj, hy0, hy1, hy2⟩ := info_parts infoRowA
  have hM := Lib.hid (fun (A1 : Option Addr) (n1 c1 : Nat) (s : List Int) (w' : World) (h1 : n1 ≤ 1000) (hb : Below w.heap.size w w') (h : Nums w' w'.heap.size A1 n1 s) => rMatch_any A A1 n n1 c c1 w'.heap.size w'.heap.size base s w' hn h1 (hA.up hb) h (Nat.le_refl _) (Nat.le_refl _))
  have hsh := Lib.hid hs
  clear hs hA
  go_enter Try.func10, Try.ntmps10
  go_wp2
  go_loopw [6, 7, 8] (fun s1 s2 si wr => ∃ (k : Nat) (v1 v2 : Value) (rs : List (Option Addr × Nat × Nat)), k ≤ n' ∧ si = .int .i64 k ∧ v1 = s1 ∧ v2 = s2 ∧ Hid (rs.length = k ∧ MatIn w wr v1 v2 rs (sizesOf (sides.take k)) (msOf base (sides.take k)))) (fun _ _ si _ => n' - (intOf si).toNat)
  case atStart => exact ⟨0, _, _, [], Nat.zero_le _, rfl, rfl, rfl, Lib.hid ⟨rfl, World.ownsRow_nil _ _ _ _, ⟨World.ownsRow_nil _ _ _ _, rfl, fun k r xs h => by simp at h⟩, Below.refl _ _⟩⟩
  case round =>
    obtain ⟨k, v1, v2, rs, hk, rfl, rfl, rfl, hR⟩ := hrel
    obtain ⟨wo, rfl⟩ : ∃ wo : World, wo = wr := ⟨_, rfl⟩
    by_cases hlt : k < n'
    · have hBe := hR.out.2.below
      obtain ⟨b, o, A1, n1, c1, s, rfl, hb, hs, hc0, hN⟩ := hA'.at_ (k := k) hlt
      have hc := (hBe.cell (p := ⟨b, o + k, none⟩) hb).trans hc0
      have hnl := hN.len
      have hsl : n1 ≤ 1000 := by have := hsh.out s (List.mem_of_getElem? hs); omega
      have hki : (k : Int) < (n' : Int) := by omega
      have hso := hBe.size
      have hown1 := hR.out.2.own1
      have hkl : Hid ((sizesOf (sides.take k)).length = k) := Lib.hid (by unfold sizesOf; rw [List.length_map, List.length_take]; omega)
      rw [hkl.out] at hown1
      have ht1 : Hid (sizesOf (sides.take (k + 1)) = sizesOf (sides.take k) ++ [(n1 : Int)]) := Lib.hid (by unfold sizesOf; rw [take_at hs, List.map_append, ← hnl]; rfl)
      have ht2 : Hid (msOf base (sides.take (k + 1)) = msOf base (sides.take k) ++ [mt base s 0]) := Lib.hid (by unfold msOf; rw [take_at hs, List.map_append]; rfl)
      have hmax : Hid (k + 1 ≤ maxLen ∧ (k + 1) * 8 ≤ 140737488355328 ∧ (k + 1) * 24 ≤ 140737488355328) := Lib.hid ⟨by unfold maxLen; omega, by omega, by omega⟩
      have hNh := Lib.hid hN
      have hch := Lib.hid hc0
      have hbh := Lib.hid hb
      clear hN hs hnl hBe hc0 hb
      have tok1 := trivial
      go_wp2_with (first
        | (at_builtin; have _t := tok1; refine wpList_append_own_at _ rfl _ _ 26 rfl w.heap.size 3 i0 (.int .i64 0) 1 8 Try.underlying26 hi hz0 hz1 hz2 rfl (by decide) v1 k _ rfl (hown1.alloc _) ⟨wo.heap.size, 0, none⟩ 1 1 [.int .i64 (n1 : Int)] rfl rfl (cell_one_new _ _ _) (by simp [Value.oneCell']) hmax.out.1 hmax.out.2.1 (by simp; omega) ?_; intro v1' w1 hown2 hg2 hnil2 hloc2; clear hnil2 tok1; have hm1 := Lib.hid (hR.out.2.size (by rw [hkl.out]; exact hown2) hg2 hloc2); have hcc := (hm1.out.below.cell (p := ⟨b, o + k, none⟩) hbh.out).trans hch.out; have hcall := Lib.hid (hM.out A1 n1 c1 s w1 hsl hm1.out.below (hNh.out.up hm1.out.below)); clear hown2 hg2 hloc2 hc)
        | (go_at_call 19; refine hcall.out.mono ?_; rintro e w2 ⟨u, rfl, hu, hb2⟩; obtain ⟨Au, cu, rfl, q1, q2, q3⟩ := nums_of_own hu; have hrl := hR.out.1; have hown3 := (hm1.out.low hb2).rows2.own; rw [hrl] at hown3; have hso2 := (hm1.out.low hb2).below.size; have huh := Lib.hid (And.intro hu hb2); clear hu hb2 hrl)
        | (at_builtin; refine wpList_append_own_at _ rfl _ _ 27 rfl w.heap.size 26 i1 (.slice none 0 0) 1 24 Try.underlying27 hj hy0 hy1 hy2 rfl (by decide) v2 k _ rfl (hown3.alloc _) ⟨w2.heap.size, 0, none⟩ 1 1 [.slice Au (mt base s 0).length cu] rfl rfl (cell_one_new _ _ _) (by simp [Value.oneCell']) hmax.out.1 hmax.out.2.2 (by simp; omega) ?_; intro v2' w3 hown4 hg4 hnil4 hloc4; clear hnil4))
      have hfin := hm1.out.put huh.out.2 huh.out.1 q1 q2 q3 (by rw [hR.out.1]; exact hown4) hg4 hloc4
      go_roundw
      case rel => exact ⟨k + 1, v1', v2', rs ++ [(Au, (mt base s 0).length, cu)], by omega, by go_num, rfl, rfl, Lib.hid ⟨by simp [hR.out.1], by rw [ht1.out, ht2.out]; exact hfin⟩⟩
      case measure => simp [intOf] <;> omega
    · obtain rfl : k = n' := by omega
      go_wp2
      go_ret2
      refine ⟨_, _, rs, rfl, ?_⟩
      have := hR.out.2
      rwa [List.take_of_length_le (by omega)] at this
end Go.Proofs.Ytijinhhlikhjfaa

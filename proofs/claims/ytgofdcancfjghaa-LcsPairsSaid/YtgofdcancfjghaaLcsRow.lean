/- Proved here: the contract of package lcs' measureRow: one row of the reckoning, out of the row behind it. -/
import Derived.Test.YtgofdcancfjghaaLcsRef
import Derived.RegionTactic
import Derived.BigRegion
import Derived.ChangeAlike
namespace Go.Proofs.Ytgofdcancfjghaa
open Go.RowKit
set_option linter.unusedVariables false

theorem infoBool : (Try.prog.info? 4).map (fun i => (i.zero, i.size, i.bytes)) = some (some (.bool false), 1, 1) := by kernel_rfl

/-- Whether a's place i is what is skipped, where i and j are not the same. -/
def skipAt (a b : List Int) (i j : Nat) : Bool := decide (lcsAt a b i (j + 1) ≤ lcsAt a b (i + 1) j)

/-- One row of the reckoning, as far as it has come: from J on. -/
structure RowIn (w wr : World) (P Q n' i J : Nat) (a b : List Int) (g : Nat → Int) : Prop where
  row : wr.rowIs P 3 (n' + 1) (fun t => .int .i64 (if J ≤ t then (lcsAt a b i t : Int) else g t))
  next : wr.rowIs Q 3 (n' + 1) (fun t => .int .i64 (lcsAt a b (i + 1) t))
  skips : wr.rowIs w.heap.size 4 n' (fun t => .bool (decide (J ≤ t) && skipAt a b i t))
  but : But (fun k => k = P) w wr

section
variable {w wr : World} {P Q n' i q J : Nat} {a b : List Int} {g : Nat → Int}
theorem RowIn.drew (h : RowIn w wr P Q n' i J a b g) : RowIn w wr.drew P Q n' i J a b g := ⟨h.row, h.next, h.skips, ⟨h.but.os, h.but.tape, h.but.output, h.but.size, h.but.block⟩⟩
theorem RowIn.step (hPw : P < w.heap.size) (hQw : Q < w.heap.size) (hPQ : P ≠ Q) (h : RowIn w wr P Q n' i (q + 1) a b g) {s : Bool} {v : Nat} (hs : s = skipAt a b i q) (hv : v = lcsAt a b i q) :
    RowIn w ((wr.setCell ⟨w.heap.size, q, none⟩ (.bool s)).setCell ⟨P, q, none⟩ (.int .i64 v)) P Q n' i q a b g := by
  subst hs
  subst hv
  refine ⟨?_, ?_, ?_, ?_⟩
  · refine ((h.row.setOther (a := ⟨w.heap.size, q, none⟩) (by show P ≠ w.heap.size; omega) _).set q _).congr fun t _ => ?_
    by_cases e : t = q
    · subst e; simp
    · rw [if_neg e]
      by_cases h1 : q + 1 ≤ t
      · rw [if_pos h1, if_pos (by omega)]
      · rw [if_neg h1, if_neg (by omega)]
  · exact (h.next.setOther (a := ⟨w.heap.size, q, none⟩) (by show Q ≠ w.heap.size; omega) _).setOther (a := ⟨P, q, none⟩) (fun e => hPQ e.symm) _
  · refine ((h.skips.set q _).setOther (a := ⟨P, q, none⟩) (by show w.heap.size ≠ P; omega) _).congr fun t _ => ?_
    by_cases e : t = q
    · subst e; simp
    · rw [if_neg e]
      by_cases h1 : q + 1 ≤ t
      · simp [h1, show q ≤ t by omega]
      · simp [h1, show ¬ q ≤ t by omega]
  · have h1 := But.setCell (F := fun k => k = w.heap.size) wr (p := ⟨w.heap.size, q, none⟩) rfl (.bool (skipAt a b i q))
    have h2 := But.setCell (F := fun k => k = P) (wr.setCell ⟨w.heap.size, q, none⟩ (.bool (skipAt a b i q))) (p := ⟨P, q, none⟩) rfl (.int .i64 (lcsAt a b i q))
    exact (h.but.trans h1 fun k e => .inr (by omega)).trans h2 fun k e => .inl e
end

/-- What measureRow leaves. -/
def RowOut (w w' : World) (e : Ending) (P n' i : Nat) (a b : List Int) : Prop :=
  e = .returned (.slice (some ⟨w.heap.size, 0, none⟩) n' n') ∧ w'.rowIs P 3 (n' + 1) (fun t => .int .i64 (lcsAt a b i t)) ∧ w'.rowIs w.heap.size 4 n' (fun t => .bool (skipAt a b i t)) ∧ But (fun k => k = P) w w'

set_option maxRecDepth 100000 in
set_option maxHeartbeats 2000000 in
theorem row_any (A' : Option Addr) (n' c' B' P Q cP cQ i : Nat) (x : Int) (a b : List Int) (g : Nat → Int) (w : World) (hn' : n' ≤ 2000) (hla : a.length ≤ 2000) (hx : a[i]? = some x) (hA' : Nums w B' A' n' b) (hB' : B' ≤ P) (hPQ : P ≠ Q)
    (hP : w.rowIs P 3 (n' + 1) (fun t => .int .i64 (g t))) (hg : g n' = 0) (hQ : w.rowIs Q 3 (n' + 1) (fun t => .int .i64 (lcsAt a b (i + 1) t))) :
    Calls Try.prog 32 #[.int .i64 x, .slice A' n' c', .slice (some ⟨P, 0, none⟩) (n' + 1) cP, .slice (some ⟨Q, 0, none⟩) (n' + 1) cQ] w fun e w' => RowOut w w' e P n' i a b := by
  have hl' := hA'.len
  have hPw := hP.lt
  have hQw := hQ.lt
  have hmk := run_make_row' (P := Try.prog) 65 4 (.bool false) 1 Try.underlying65 infoBool rfl .i64 .i64 n' (by omega) (by omega)
  have h0 : RowIn w (w.alloc (.cells (madeCells #[.bool false] n') 4)) P Q n' i n' a b g := by
    refine ⟨(hP.alloc _).congr fun t ht => ?_, hQ.alloc _, (World.rowIs_made w (.bool false) n' 4).congr fun t ht => ?_, .alloc w _⟩
    · split
      · obtain rfl : t = n' := by omega
        rw [hg, lcsAt_end_right (by omega)]; rfl
      · rfl
    · simp [show ¬ n' ≤ t by omega]
  have h0' := Lib.hid h0
  have hPQ' := Lib.hid hPQ
  clear h0 hP hQ hg hPQ
  go_enter Try.func32, Try.ntmps32
  go_wp2
  go_loopw [10, 42, 58] (fun sj _ _ wr => ∃ J : Nat, J ≤ n' ∧ sj = .int .i64 ((J : Int) - 1) ∧ RowIn w wr P Q n' i J a b g) (fun sj _ _ _ => (intOf sj + 1).toNat)
  case atStart => exact ⟨n', Nat.le_refl _, rfl, h0'.out⟩
  case round =>
    obtain ⟨J, hJ, rfl, hR⟩ := hrel
    obtain ⟨wo, rfl⟩ : ∃ wo : World, wo = wr := ⟨_, rfl⟩
    clear h0' hmk
    rcases J with _ | q
    · go_wp2
      go_ret
      exact ⟨rfl, hR.row.congr fun t _ => by simp, hR.skips.congr fun t _ => by simp, hR.but⟩
    · have hq : q < n' := by omega
      have hiq : (((q + 1 : Nat) : Int) - 1) = (q : Int) := by omega
      rw [hiq]
      clear hiq
      have hBu := hR.but
      obtain ⟨bb, ob, y, rfl, hbb, hy, hyb⟩ := hA'.at_ (k := q) hq
      have cy0 : wo.cell? ⟨bb, ob + q, none⟩ = some (.int .i64 y) := (World.cell?_of_block (w := w) (hBu.block bb (by omega) (by omega))).trans hyb
      have c1 := hR.next.cell (i := q) (by omega)
      have c3 := hR.next.cell (i := q + 1) (by omega)
      have c2 := hR.row.cell (i := q + 1) (by omega)
      rw [if_pos (Nat.le_refl _)] at c2
      have f0 := hR.row.frozen q
      have f1 := hR.skips.frozen q
      obtain ⟨u0, cu0⟩ : ∃ u, wo.cell? ⟨P, q, none⟩ = some u := ⟨_, hR.row.cell (by omega)⟩
      obtain ⟨u1, cu1⟩ : ∃ u, wo.cell? ⟨w.heap.size, q, none⟩ = some u := ⟨_, hR.skips.cell hq⟩
      have l1 := lcsAt_le_left a b (i + 1) q
      have l2 := lcsAt_le_left a b i (q + 1)
      have l3 := lcsAt_le_left a b (i + 1) (q + 1)
      have hst := fun s v hs hv => hR.step (s := s) (v := v) hPw hQw hPQ'.out hs hv
      have hsk : skipAt a b i q = decide (lcsAt a b i (q + 1) ≤ lcsAt a b (i + 1) q) := rfl
      have hsame := fun h : x = y => lcsAt_same hx (h ▸ hy)
      have hother := lcsAt_other hx hy
      obtain ⟨v1, hv1⟩ : ∃ v, v = lcsAt a b (i + 1) q := ⟨_, rfl⟩
      obtain ⟨v2, hv2⟩ : ∃ v, v = lcsAt a b i (q + 1) := ⟨_, rfl⟩
      obtain ⟨v3, hv3⟩ : ∃ v, v = lcsAt a b (i + 1) (q + 1) := ⟨_, rfl⟩
      rw [← hv1] at c1 l1 hother hsk
      rw [← hv2] at c2 l2 hother hsk
      rw [← hv3] at c3 l3 hsame
      have hbne : bb ≠ P ∧ bb ≠ w.heap.size ∧ Q ≠ w.heap.size ∧ P ≠ w.heap.size := ⟨by omega, by omega, by omega, by omega⟩
      obtain ⟨hne1, hne2, hne3, hne4⟩ := hbne
      have hne5 := hPQ'.out
      have hne5' := hne5.symm
      have hst' := Lib.hid hst
      have hsk' := Lib.hid hsk
      have hsame' := Lib.hid hsame
      have hother' := Lib.hid hother
      have hBu' := Lib.hid hBu
      clear hv1 hv2 hv3 hyb hR hst hsk hsame hother hBu
      have i1 : (0 : Int) ≤ (q : Int) := by omega
      have i2 : (q : Int) < (n' : Int) := by omega
      by_cases hxy : x = y
      · have hb : (x == y) = true := by simpa using hxy
        have hL := Lib.hid (hsame'.out hxy)
        clear hxy
        by_cases hv : v2 ≤ v1
        · have hvi : (v2 : Int) ≤ (v1 : Int) := by omega
          go_wp2
          go_region
          go_wp2
          go_roundw
          case rel => exact ⟨q, by omega, by go_num, (by have := (hst'.out true (v3 + 1) (by rw [hsk'.out]; simp [hv]) (by rw [hL.out])).drew; push_cast at this; exact this)⟩
          case measure => simp [intOf]
        · have hvi : ¬ (v2 : Int) ≤ (v1 : Int) := by omega
          go_wp2
          go_region
          go_wp2
          go_roundw
          case rel => exact ⟨q, by omega, by go_num, (by have := (hst'.out false (v3 + 1) (by rw [hsk'.out]; simp [hv]) (by rw [hL.out])).drew; push_cast at this; exact this)⟩
          case measure => simp [intOf]
      · have hb : (x == y) = false := by simpa using hxy
        have hL := Lib.hid (hother'.out hxy)
        clear hxy
        by_cases hv : v2 ≤ v1
        · have hvi : (v2 : Int) ≤ (v1 : Int) := by omega
          go_wp2
          go_region
          go_wp2
          go_roundw
          case rel => exact ⟨q, by omega, by go_num, (hst'.out true v1 (by rw [hsk'.out]; simp [hv]) (by rw [hL.out]; omega)).drew⟩
          case measure => simp [intOf]
        · have hvi : ¬ (v2 : Int) ≤ (v1 : Int) := by omega
          go_wp2
          go_region
          go_wp2
          go_roundw
          case rel => exact ⟨q, by omega, by go_num, (hst'.out false v2 (by rw [hsk'.out]; simp [hv]) (by rw [hL.out]; omega)).drew⟩
          case measure => simp [intOf]
end Go.Proofs.Ytgofdcancfjghaa

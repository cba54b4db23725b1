/- Proved here, out of the contracts of package edit: the walk of EditSwaps. -/
import Derived.Test.YtjbgiaekckdoaaaEditLawB
import Derived.Deep.OwnRows
namespace Go.Proofs.Ytjbgiaekckdoaaa
open Go.RowKit
set_option linter.unusedVariables false

theorem nums_of_row {w : World} {g n : Nat} {xs : List Int} (hn : xs.length = n) (h : w.rowIs g 3 n (fun t => .int .i64 (xs[t]?.getD (-1)))) : Nums w w.heap.size (some ⟨g, 0, none⟩) n xs :=
  reads_of_row h _ (by simpa using hn) fun i u hu => by
    rw [List.getElem?_map] at hu
    cases hx : xs[i]? with
    | none => rw [hx] at hu; cases hu
    | some x => rw [hx] at hu; simpa using hu

/-- The match the other way, as far as place i. -/
structure BackIn (w wr : World) (nn : Nat) (l : List Int) (i : Nat) (b : List Int) : Prop where
  len : b.length = nn
  row : wr.rowIs w.heap.size 3 nn (fun t => .int .i64 (b[t]?.getD (-1)))
  vals : ∀ (j : Nat) (v : Int), b[j]? = some v → v = -1 ∨ ∃ i : Nat, v = i
  told : ∀ (i' j : Nat), j < nn → (b[j]? = some (i' : Int) ↔ i' < i ∧ l[i']? = some (j : Int))
  below : Below w.heap.size w wr
theorem BackIn.start {w wr : World} {nn : Nat} {l : List Int} (h : wr.rowIs w.heap.size 3 nn (fun t => .int .i64 (if t < nn then -1 else 0))) (hb : Below w.heap.size w wr) : BackIn w wr nn l 0 (List.replicate nn (-1)) := by
  refine ⟨by simp, h.congr fun t ht => ?_, fun j v hv => ?_, fun i' j hj => ?_, hb⟩
  · rw [if_pos ht, List.getElem?_replicate, if_pos ht]; rfl
  · rw [List.getElem?_replicate] at hv
    split at hv
    · injection hv with hv; exact .inl hv.symm
    · cases hv
  · rw [List.getElem?_replicate, if_pos hj]
    simp
theorem BackIn.miss {w wr : World} {nn : Nat} {l b : List Int} {i : Nat} {v : Int} (h : BackIn w wr nn l i b) (hv : l[i]? = some v) (hn : ¬ 0 ≤ v) : BackIn w wr nn l (i + 1) b := by
  refine ⟨h.len, h.row, h.vals, fun i' j hj => ?_, h.below⟩
  rw [h.told i' j hj]
  constructor
  · rintro ⟨h1, h2⟩
    exact ⟨by omega, h2⟩
  · rintro ⟨h1, h2⟩
    refine ⟨?_, h2⟩
    rcases Nat.lt_or_ge i' i with h3 | h3
    · exact h3
    · obtain rfl : i' = i := by omega
      rw [hv] at h2
      injection h2 with h2
      omega
theorem BackIn.hit {w wr : World} {nn : Nat} {l b : List Int} {i t : Nat} {n : Int} (h : BackIn w wr nn l i b) (hm : mayL n l 0 = true) (hv : l[i]? = some (t : Int)) (ht : t < nn) : BackIn w (wr.setCell ⟨w.heap.size, t, none⟩ (.int .i64 i)) nn l (i + 1) (b.set t (i : Int)) := by
  have hp := mayL_pair hm
  rw [List.pairwise_iff_getElem] at hp
  have hl := h.len
  refine ⟨by simp [hl], (h.row.set t _).congr fun s hs => ?_, fun j v hj => ?_, fun i' j hj => ?_, h.below.setCell (Nat.le_refl _) _⟩
  · rw [List.getElem?_set]
    by_cases e : s = t
    · subst e
      rw [if_pos rfl, if_pos rfl, if_pos (by omega)]; rfl
    · rw [if_neg e, if_neg (fun h => e h.symm)]
  · rw [List.getElem?_set] at hj
    split at hj
    · split at hj
      · injection hj with hj; exact .inr ⟨i, hj.symm⟩
      · cases hj
    · exact h.vals j v hj
  · rw [List.getElem?_set]
    by_cases e : t = j
    · subst e
      rw [if_pos rfl, if_pos (by omega)]
      constructor
      · intro h1
        injection h1 with h1
        obtain rfl : i = i' := by omega
        exact ⟨by omega, hv⟩
      · rintro ⟨h1, h2⟩
        rcases Nat.lt_or_ge i' i with h3 | h3
        · exfalso
          obtain ⟨b1, v1⟩ := List.getElem?_eq_some_iff.1 h2
          obtain ⟨b2, v2⟩ := List.getElem?_eq_some_iff.1 hv
          have := hp i' i b1 b2 h3 (by omega) (by omega)
          omega
        · obtain rfl : i' = i := by omega
          rfl
    · rw [if_neg e, h.told i' j hj]
      constructor
      · rintro ⟨h1, h2⟩
        exact ⟨by omega, h2⟩
      · rintro ⟨h1, h2⟩
        refine ⟨?_, h2⟩
        rcases Nat.lt_or_ge i' i with h3 | h3
        · exact h3
        · obtain rfl : i' = i := by omega
          rw [hv] at h2
          injection h2 with h2
          omega
theorem BackIn.done {w wr : World} {nn : Nat} {l b : List Int} {n : Nat} (h : BackIn w wr nn l n b) (hl : l.length = n) (hm : may l nn = true) : may b n = true ∧ chs b n = (chs l nn).map swapC := by
  have := back_chs hm (by rw [h.len]) (fun i j hj => by
    rw [h.told i j (by rw [← h.len]; exact hj)]
    constructor
    · exact fun h => h.2
    · intro h2
      exact ⟨by have := (List.getElem?_eq_some_iff.1 h2).1; omega, h2⟩) h.vals
  rw [hl] at this
  exact this

section
variable (H : EditOk)
include H

set_option maxRecDepth 100000 in
set_option maxHeartbeats 4000000 in
theorem EditSwaps_walk (A : Option Addr) (n c : Nat) (l : List Int) (N : Int) (w : World) (hA : ArgInts w A n c l) (hN : inR N) :
    Calls Try.prog 7 #[.slice A n c, .int .i64 N] w fun e w' => e = .returned (.bool true) ∧ Below w.heap.size w w' := by
  obtain ⟨hnc, hcm, hR, hA⟩ := hA
  have hal := hA.len
  obtain ⟨mb, hmb⟩ : ∃ mb, may l N = mb := ⟨_, rfl⟩
  have hMay := Lib.hid (may_of hnc hcm hN hA hmb)
  by_cases g1 : 60 < n
  · clear hcm hA hmb
    go_enter Try.func7, Try.ntmps7
    go_wp2_with fail
    refine (awake_any H _).mono ?_
    rintro e w1 ⟨rfl, hB1⟩
    go_wp2
    go_ret
    exact ⟨rfl, hB1⟩
  have g1' : decide ((60 : Int) < (n : Int)) = false := by simp; omega
  by_cases g2 : 60 < N
  · clear hcm hA hmb
    go_enter Try.func7, Try.ntmps7
    go_wp2_with fail
    refine (awake_any H _).mono ?_
    rintro e w1 ⟨rfl, hB1⟩
    go_wp2
    go_ret
    exact ⟨rfl, hB1⟩
  have g2' : decide (60 < N) = false := by simp; omega
  cases mb
  · clear hcm hA hmb
    go_enter Try.func7, Try.ntmps7
    go_wp2_with fail
    refine (awake_any H _).mono ?_
    rintro e w1 ⟨rfl, hB1⟩
    go_wp2_with (go_at_call 16; refine (hMay.out _ hB1).mono ?_; rintro e w' ⟨rfl, rfl⟩)
    go_ret
    exact ⟨rfl, hB1⟩
  obtain ⟨e1, e2, -, -⟩ := back_err hmb (by omega) (by omega)
  obtain ⟨hN0, hml⟩ := may_parts hmb
  obtain ⟨nn, rfl⟩ : ∃ nn : Nat, N = nn := ⟨N.toNat, by omega⟩
  have hcl := chs_len l nn
  have h1 := Lib.hid (fun (w' : World) (hb : Below w.heap.size w w') => e1 ▸ e2 ▸ H.changes_ok A n c l nn w' hnc hcm hN hR (hA.up hb))
  have hAh := Lib.hid hA
  have hmm := Lib.hid (mayL_mem hml)
  have hmlh := Lib.hid hml
  have hmbh := Lib.hid hmb
  have hHh := Lib.hid H
  have hmk := run_make_row' (P := Try.prog) 22 3 (.int .i64 0) 8 Try.underlying22 infoInt rfl .i64 .i64 nn (by omega) (by omega)
  clear hcm hmb hml e1 e2 hN hR hN0
  go_enter Try.func7, Try.ntmps7
  go_wp2_with fail
  refine (awake_any H _).mono ?_
  rintro e w1 ⟨rfl, hB1⟩
  have h0 : (w1.alloc (.cells (madeCells #[.int .i64 0] nn) 3)).rowIs w1.heap.size 3 nn (fun t => .int .i64 (if t < 0 then -1 else 0)) := (World.rowIs_made w1 (.int .i64 0) nn 3).congr fun t _ => by simp
  have hb0 : Below w1.heap.size w1 (w1.alloc (.cells (madeCells #[.int .i64 0] nn) 3)) := (Below.refl _ _).alloc (Nat.le_refl _) _
  have h0' := Lib.hid (And.intro h0 hb0)
  have hB1h := Lib.hid hB1
  clear h0 hb0 hA hB1
  go_wp2_with (go_at_call 16; refine (hMay.out _ hB1h.out).mono ?_; rintro e w' ⟨rfl, rfl⟩)
  go_loopw [7] (fun sk wr => ∃ k : Nat, k ≤ nn ∧ sk = .int .i64 k ∧ Hid (wr.rowIs w1.heap.size 3 nn (fun t => .int .i64 (if t < k then -1 else 0)) ∧ Below w1.heap.size w1 wr)) (fun sk _ => nn - (intOf sk).toNat)
  case atStart => exact ⟨0, Nat.zero_le _, rfl, h0'⟩
  case round =>
    obtain ⟨k, hk, rfl, hR⟩ := hrel
    obtain ⟨wo, rfl⟩ : ∃ wo : World, wo = wr := ⟨_, rfl⟩
    clear h0' hmk
    by_cases hlt : k < nn
    · have hki : ((k : Int) < (nn : Int)) := by omega
      have hk0 : (0 : Int) ≤ (k : Int) := by omega
      have f0 := hR.out.1.frozen k
      obtain ⟨u0, cu0⟩ : ∃ u, wo.cell? ⟨w1.heap.size, k, none⟩ = some u := ⟨_, hR.out.1.cell hlt⟩
      have hst : Hid ((wo.setCell ⟨w1.heap.size, k, none⟩ (.int .i64 (-1))).rowIs w1.heap.size 3 nn (fun t => .int .i64 (if t < k + 1 then -1 else 0)) ∧ Below w1.heap.size w1 (wo.setCell ⟨w1.heap.size, k, none⟩ (.int .i64 (-1)))) := Lib.hid ⟨(hR.out.1.set k _).congr fun t _ => by
        by_cases e : t = k
        · subst e; simp
        · rw [if_neg e]
          by_cases h1 : t < k
          · rw [if_pos h1, if_pos (by omega)]
          · rw [if_neg h1, if_neg (by omega)], hR.out.2.setCell (Nat.le_refl _) _⟩
      go_wp2
      go_roundw
      case rel => exact ⟨k + 1, by omega, by go_num, hst⟩
      case measure => simp [intOf] <;> omega
    · obtain rfl : k = nn := by omega
      have hI := Lib.hid (BackIn.start (l := l) hR.out.1 hR.out.2)
      clear hR
      go_wp2
      go_loopw [8] (fun si wr => ∃ (i : Nat) (b : List Int), i ≤ n ∧ si = .int .i64 i ∧ Hid (BackIn w1 wr k l i b)) (fun si _ => n - (intOf si).toNat)
      case atStart => exact ⟨0, _, Nat.zero_le _, rfl, hI⟩
      case round =>
        obtain ⟨i, b, hi, rfl, hI2⟩ := hrel
        obtain ⟨wp, rfl⟩ : ∃ wp : World, wp = wr := ⟨_, rfl⟩
        clear hI
        have hBe := hB1h.out.trans (hI2.out.below.mono hB1h.out.size)
        by_cases hin : i < n
        · obtain ⟨g, o, v, rfl, hg, hv, hc0⟩ := hAh.out.at_ (k := i) hin
          have hc := (hBe.cell (p := ⟨g, o + i, none⟩) (by show g < _; exact hg)).trans hc0
          have hii : (i : Int) < (n : Int) := by omega
          by_cases hv0 : 0 ≤ v
          · have hvn := (hmm.out v (List.mem_of_getElem? hv) (by omega)).2
            obtain ⟨t, rfl⟩ : ∃ t : Nat, v = t := ⟨v.toNat, by omega⟩
            have f0 := hI2.out.row.frozen t
            obtain ⟨u0, cu0⟩ : ∃ u, wp.cell? ⟨w1.heap.size, t, none⟩ = some u := ⟨_, hI2.out.row.cell (by omega)⟩
            have hst := Lib.hid (hI2.out.hit hmlh.out hv (by omega))
            clear hc0 hBe
            go_wp2
            go_roundw
            case rel => exact ⟨i + 1, _, by omega, by go_num, hst⟩
            case measure => simp [intOf] <;> omega
          · have hst := Lib.hid (hI2.out.miss hv hv0)
            clear hc0 hBe
            go_wp2
            go_roundw
            case rel => exact ⟨i + 1, b, by omega, by go_num, hst⟩
            case measure => simp [intOf] <;> omega
        · obtain rfl : i = n := by omega
          obtain ⟨hmb2, hcs2⟩ := hI2.out.done hal hmbh.out
          have hbl := hI2.out.len
          obtain ⟨e3, e4, -, -⟩ := back_err hmb2 (by omega) (by omega)
          have hbN : Nums wp wp.heap.size (some ⟨w1.heap.size, 0, none⟩) k b := nums_of_row hbl hI2.out.row
          have hbR : NumsR b := fun v hv => by
            obtain ⟨j, hj⟩ := List.mem_iff_getElem?.1 hv
            rcases hI2.out.vals j v hj with e | ⟨i', e⟩
            · unfold inR; omega
            · have := (mayL_mem (may_parts hmb2).2 v hv (by omega))
              unfold inR; omega
          rw [hcs2] at e4
          have h2 := Lib.hid (fun (w' : World) (hb : Below wp.heap.size wp w') => e3 ▸ e4 ▸ hHh.out.changes_ok (some ⟨w1.heap.size, 0, none⟩) k k b i w' (Nat.le_refl _) (by unfold maxLen; omega) ⟨by omega, by omega⟩ hbR (hbN.up hb))
          have hss := swap_swap (chs l k)
          obtain ⟨xs, hxs⟩ : ∃ xs, xs = chs l k := ⟨_, rfl⟩
          rw [← hxs] at h1 h2 hss hcl
          obtain ⟨ys, hys⟩ : ∃ ys, ys = xs.map swapC := ⟨_, rfl⟩
          have hyl : ys.length = xs.length := by rw [hys, List.length_map]
          have h3 := Lib.hid (fun (A1 : Option Addr) (n1 c1 : Nat) (w' : World) (q0 : n1 = xs.length) (q1 : n1 ≤ c1) (q2 : c1 ≤ maxLen) (q3 : Chs w' w'.heap.size A1 n1 xs) => hys ▸ hHh.out.swap_ok A1 n1 c1 xs w' q1 q2 (by omega) q3)
          rw [← hys] at hss h2
          have h4 := Lib.hid (fun (A1 : Option Addr) (n1 c1 : Nat) (w' : World) (q0 : n1 = ys.length) (q1 : n1 ≤ c1) (q2 : c1 ≤ maxLen) (q3 : Chs w' w'.heap.size A1 n1 ys) => hss ▸ hHh.out.swap_ok A1 n1 c1 ys w' q1 q2 (by omega) q3)
          have h5 := Lib.hid (fun (zs : List Ch) (hz : zs.length ≤ 100) (A1 A2 : Option Addr) (n1 n2 c1 c2 : Nat) (w' : World) (q1 : n1 = zs.length) (q2 : n2 = zs.length) (k1 : Chs w' w'.heap.size A1 n1 zs) (k2 : Chs w' w'.heap.size A2 n2 zs) => by
            have h0 := cSame_any A1 A2 n1 n2 c1 c2 w'.heap.size w'.heap.size zs zs w' (by unfold maxLen; omega) (by unfold maxLen; omega) k1 k2
            rw [decide_eq_true rfl] at h0
            exact h0)
          have hxl : Hid (xs.length ≤ 100) := Lib.hid (by omega)
          have hylh : Hid (ys.length ≤ 100) := Lib.hid (by omega)
          have h1' := Lib.hid (h1.out wp hBe)
          have hBeh := Lib.hid hBe
          have hbz : wp.heap.size ≤ wp.heap.size := Nat.le_refl _
          clear hmb2 hcs2 hbl e3 e4 hbN hbR hss hxs hys hyl hcl hBe hal
          have tok1 := trivial
          have tok2 := trivial
          have tok3 := trivial
          have tok4 := trivial
          have tok5 := trivial
          have tok6 := trivial
          go_wp2_with (first
            | (go_at_call 10; have _t := tok1; refine h1'.out.mono ?_; rintro e w2 ⟨A1, n1, c1, rfl, hn1, q1, q2, k1, hb2⟩; clear tok1; have hn1h := Lib.hid hn1; clear hn1; have h2' := Lib.hid (h2.out w2 hb2); have hb2h := Lib.hid hb2; clear hb2)
            | (go_at_call 10; have _t := tok2; refine h2'.out.mono ?_; rintro e w3 ⟨A2, n2, c2, rfl, hn2, q3, q4, k2, hb3⟩; clear tok2; have hn2h := Lib.hid hn2; clear hn2; have k1u := k1.up hb3; have h3' := Lib.hid (h3.out A1 n1 c1 w3 hn1h.out q1 q2 k1u); have hb3h := Lib.hid (hb2h.out.trans (hb3.mono hb2h.out.size)); clear hb3)
            | (go_at_call 17; have _t := tok3; refine h3'.out.mono ?_; rintro e w4 ⟨A3, n3, c3, rfl, hn3, q5, q6, k3, hb4⟩; clear tok3; have hn3h := Lib.hid hn3; clear hn3; have k2u := k2.up hb4; have k1v := k1u.up hb4; have h5' := Lib.hid (h5.out ys hylh.out A3 A2 n3 n2 c3 c2 w4 hn3h.out hn2h.out k3 k2u); have hb4h := Lib.hid (hb3h.out.trans (hb4.mono hb3h.out.size)); clear hb4)
            | (go_at_call 12; have _t := tok4; refine h5'.out.mono ?_; rintro e w5 ⟨rfl, z1, hz1⟩; clear tok4; have hb5 : Below w4.heap.size w4 w5 := (by rw [hz1]; exact drewN_below w4 z1); have k1x := k1v.up hb5; have h6' := Lib.hid (h3.out A1 n1 c1 w5 hn1h.out q1 q2 k1x); have hb5h := Lib.hid (hb4h.out.trans (hb5.mono hb4h.out.size)); clear hb5 hz1)
            | (go_at_call 17; have _t := tok5; refine h6'.out.mono ?_; rintro e w6 ⟨A4, n4, c4, rfl, hn4, q7, q8, k4, hb6⟩; clear tok5; have k1y := k1x.up hb6; have h7' := Lib.hid (h4.out A4 n4 c4 w6 hn4 q7 q8 k4); clear hn4; have hb6h := Lib.hid (hb5h.out.trans (hb6.mono hb5h.out.size)); clear hb6)
            | (go_at_call 17; have _t := tok6; refine h7'.out.mono ?_; rintro e w7 ⟨A5, n5, c5, rfl, hn5, q9, q10, k5, hb7⟩; clear tok6; have k1z := k1y.up hb7; have h8' := Lib.hid (h5.out xs hxl.out A5 A1 n5 n1 c5 c1 w7 hn5 hn1h.out k5 k1z); clear hn5; have hb7h := Lib.hid (hb6h.out.trans (hb7.mono hb6h.out.size)); clear hb7)
            | (go_at_call 12; refine h8'.out.mono ?_; rintro e w8 ⟨rfl, z2, rfl⟩))
          go_ret
          exact ⟨rfl, below_drewN (hBeh.out.trans (hb7h.out.mono hBeh.out.size)) z2⟩
end
end Go.Proofs.Ytjbgiaekckdoaaa

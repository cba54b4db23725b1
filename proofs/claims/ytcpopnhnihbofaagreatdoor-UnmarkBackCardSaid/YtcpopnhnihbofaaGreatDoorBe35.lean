/- Proved here: texts joined: MkAsk, MkLs, EqT, ConSame. -/
import Derived.Test.YtcpopnhnihbofaaGreatDoorBe02
import Derived.Test.YtcpopnhnihbofaaGreatDoorBe07
import Derived.Test.YtcpopnhnihbofaaGreatDoorBe13
import Derived.Test.YtcpopnhnihbofaaGreatDoorBe16
import Derived.Test.YtcpopnhnihbofaaGreatDoorBe17
import Derived.Test.YtcpopnhnihbofaaGreatDoorBe20
import Derived.Test.YtcpopnhnihbofaaGreatDoorBe34
import Derived.RangeFuncBox
/- Proved here: contracts of the landed mark's mayBeAsked, lacksSides, and of slices.ContainsFunc over pieces. -/
namespace Go.Proofs.YtcpopnhnihbofaaGreatDoor
open Go.RowKit
set_option linter.unusedVariables false
set_option maxRecDepth 100000

set_option maxHeartbeats 1000000 in
theorem index3_any (g : Nat) (v : Int) (w : World) (hg : w.heap[g]? = some (.cells #[.int .i64 1, .int .i64 2, .int .i64 3] 3 (0, 0))) :
    Calls Tryz.prog 67 #[.slice (some ⟨g, 0, none⟩) 3 3, .int .i64 v] w fun e w' => (∃ z : Int, e = .returned (.int .i64 z) ∧ decide (0 ≤ z) = (decide (1 ≤ v) && decide (v ≤ 3))) ∧ w' = w := by
  have c0 : w.cell? ⟨g, 0, none⟩ = some (.int .i64 1) := by rw [cells_of hg]; rfl
  have c1 : w.cell? ⟨g, 1, none⟩ = some (.int .i64 2) := by rw [cells_of hg]; rfl
  have c2 : w.cell? ⟨g, 2, none⟩ = some (.int .i64 3) := by rw [cells_of hg]; rfl
  have hgl := (Array.getElem?_eq_some_iff.1 hg).1
  clear hg
  go_enter Tryz.func67, Tryz.ntmps67
  go_wp2
  go_loop [5, 8] (fun _ i => ∃ k : Nat, k ≤ 3 ∧ i = .int .i64 k ∧ Hid (∀ j : Nat, j < k → v ≠ (j : Int) + 1)) (fun _ i => 3 - (intOf i).toNat)
  case atStart => exact ⟨0, Nat.zero_le _, rfl, Lib.hid (fun j h => absurd h (by omega))⟩
  case round =>
    obtain ⟨k, hk, rfl, hno⟩ := hrel
    by_cases hlt : k < 3
    · have i1 : (0 : Int) ≤ (k : Int) := by omega
      have i2 : (k : Int) < 3 := by omega
      have hc : w.cell? ⟨g, k, none⟩ = some (.int .i64 ((k : Int) + 1)) := by
        rcases (by omega : k = 0 ∨ k = 1 ∨ k = 2) with rfl | rfl | rfl
        · exact c0
        · exact c1
        · exact c2
      by_cases hv : v = (k : Int) + 1
      · have hb : (v == (k : Int) + 1) = true := by rw [beq_iff_eq]; exact hv
        have hyes : Hid ((decide (1 ≤ v) && decide (v ≤ 3)) = true) := Lib.hid (by simp; omega)
        clear hv c0 c1 c2
        go_wp2
        go_ret
        exact ⟨⟨_, rfl, by rw [hyes.out]; simp⟩, rfl⟩
      · have hb : (v == (k : Int) + 1) = false := by rw [beq_eq_false_iff_ne]; exact hv
        have hnx : Hid (∀ j : Nat, j < k + 1 → v ≠ (j : Int) + 1) := Lib.hid (fun j hj => by
          rcases Nat.lt_or_ge j k with h | h
          · exact hno.out j h
          · obtain rfl : j = k := by omega
            exact hv)
        clear hv c0 c1 c2
        go_wp2
        go_round
        case rel => exact ⟨k + 1, by omega, by go_num, hnx⟩
        case measure => simp [intOf]; omega
    · obtain rfl : k = 3 := by omega
      have hno2 : Hid ((decide (1 ≤ v) && decide (v ≤ 3)) = false) := Lib.hid (by
        have h0 := hno.out 0 (by omega)
        have h1 := hno.out 1 (by omega)
        have h2 := hno.out 2 (by omega)
        rw [Bool.and_eq_false_iff, decide_eq_false_iff_not, decide_eq_false_iff_not]
        omega)
      go_wp2
      go_ret
      exact ⟨⟨_, rfl, by rw [hno2.out]; rfl⟩, rfl⟩

set_option maxHeartbeats 1000000 in
theorem asked_any (style long : Int) (w : World) :
    Calls Tryz.prog 20 #[.int .i64 style, .int .i64 long] w fun e w' => e = .returned (.bool (decide (1 ≤ style) && decide (style ≤ 3) && decide (1 ≤ long) && decide (long ≤ 4096))) ∧ Below w.heap.size w w' := by
  have hb := Lib.hid (below_alloc (Below.refl w.heap.size w) (.cells #[.int .i64 1, .int .i64 2, .int .i64 3] 3))
  have hI := Lib.hid (index3_any w.heap.size style (w.alloc (.cells #[.int .i64 1, .int .i64 2, .int .i64 3] 3)) (one_a w _))
  have hC : Hid (Calls Tryz.prog 41 #[.slice (some ⟨w.heap.size, 0, none⟩) 3 3, .int .i64 style] (w.alloc (.cells #[.int .i64 1, .int .i64 2, .int .i64 3] 3)) fun e w' => e = .returned (.bool (decide (1 ≤ style) && decide (style ≤ 3))) ∧ w' = w.alloc (.cells #[.int .i64 1, .int .i64 2, .int .i64 3] 3)) := Lib.hid (by
    obtain ⟨r, hr⟩ : ∃ r, (decide (1 ≤ style) && decide (style ≤ 3)) = r := ⟨_, rfl⟩
    rw [hr] at hI ⊢
    clear hr
    go_enter Tryz.func41, Tryz.ntmps41
    go_wp2_with (go_at_call 67; refine hI.out.mono ?_; rintro e w1 ⟨⟨z, rfl, hz⟩, rfl⟩; have hzh := Lib.hid hz; clear hz)
    go_ret
    exact ⟨ret_bool hzh.out, rfl⟩)
  obtain ⟨r, hr⟩ : ∃ r, (decide (1 ≤ style) && decide (style ≤ 3)) = r := ⟨_, rfl⟩
  rw [hr] at hC ⊢
  clear hr hI
  by_cases h1 : 1 ≤ long
  · by_cases h2 : long ≤ 4096
    · have e1 : decide (1 ≤ long) = true := decide_eq_true h1
      have e2 : decide (long ≤ 4096) = true := decide_eq_true h2
      rw [e1, e2]
      cases r
      all_goals
        go_enter Tryz.func20, Tryz.ntmps20
        go_wp2_with (go_at_call 41; refine hC.out.mono ?_; rintro e w1 ⟨rfl, rfl⟩)
        go_ret
        exact ⟨rfl, hb.out⟩
    · have e1 : decide (1 ≤ long) = true := decide_eq_true h1
      have e2 : decide (long ≤ 4096) = false := decide_eq_false h2
      rw [e1, e2]
      cases r
      all_goals
        go_enter Tryz.func20, Tryz.ntmps20
        go_wp2_with (go_at_call 41; refine hC.out.mono ?_; rintro e w1 ⟨rfl, rfl⟩)
        go_ret
        exact ⟨rfl, hb.out⟩
  · have e1 : decide (1 ≤ long) = false := decide_eq_false h1
    rw [e1]
    cases r
    all_goals
      go_enter Tryz.func20, Tryz.ntmps20
      go_wp2_with (go_at_call 41; refine hC.out.mono ?_; rintro e w1 ⟨rfl, rfl⟩)
      go_ret
      exact ⟨rfl, hb.out⟩

set_option maxHeartbeats 1000000 in
theorem lacks_any (v : PcV) (p : Pc) (w : World) (hP : PcR w w.heap.size v p) :
    Calls Tryz.prog 22 #[.agg #[.bool p.1, .slice v.1.1 v.1.2.1 v.1.2.2, .slice v.2.1.1 v.2.1.2.1 v.2.1.2.2, .slice v.2.2.1 v.2.2.2.1 v.2.2.2.2]] w fun e w' => e = .returned (.bool (badP p)) ∧ Below w.heap.size w w' := by
  obtain ⟨⟨A1, n1, c1⟩, ⟨A2, n2, c2⟩, ⟨A3, n, c⟩⟩ := v
  obtain ⟨cf, t, bs, ss⟩ := p
  obtain ⟨-, -, hnc, hcm, rows, hA⟩ := hP
  dsimp only at hnc hcm hA ⊢
  have hl := hA.len
  have hbad := bad_is (cf, t, bs, ss) hl
  obtain ⟨bd, hbd⟩ : ∃ bd, badP (cf, t, bs, ss) = bd := ⟨_, rfl⟩
  rw [hbd] at hbad ⊢
  dsimp only at hbad
  have hnsm : n ≤ 9223372036854775807 := by have := Nat.le_trans hnc hcm; unfold maxLen at this; omega
  have hb := Lib.hid (below_alloc (Below.refl w.heap.size w) (.cells #[.bool cf, .slice A1 n1 c1, .slice A2 n2 c2, .slice A3 n c] 40))
  clear hA hl hbd hnc hcm
  cases cf
  · have hb0 : bd = false := hbad
    subst hb0
    clear hbad
    go_enter Tryz.func22, Tryz.ntmps22
    go_wp2
    go_ret
    exact ⟨rfl, hb.out⟩
  · by_cases hz : n = 0
    · subst hz
      have hb1 : bd = true := hbad
      subst hb1
      clear hbad
      go_enter Tryz.func22, Tryz.ntmps22
      go_wp2
      go_ret
      exact ⟨rfl, hb.out⟩
    · have hnz : ((n : Int) == 0) = false := by rw [beq_eq_false_iff_ne]; omega
      by_cases hg : 16 < n
      · have hb1 : bd = true := by rw [hbad, hnz, decide_eq_true hg]; rfl
        have hgi : (16 : Int) < (n : Int) := by omega
        subst hb1
        clear hbad
        go_enter Tryz.func22, Tryz.ntmps22
        go_wp2
        go_ret
        exact ⟨rfl, hb.out⟩
      · have hb1 : bd = false := by rw [hbad, hnz, decide_eq_false hg]; rfl
        have hgi : ¬ (16 : Int) < (n : Int) := by omega
        subst hb1
        clear hbad
        go_enter Tryz.func22, Tryz.ntmps22
        go_wp2
        go_ret
        exact ⟨rfl, hb.out⟩

set_option maxHeartbeats 2000000 in
theorem indexBad_any (A : Option Addr) (n c : Nat) (vs : List PcV) (ps : List Pc) (w : World) (hn : n ≤ maxLen) (hA : Pcs w w.heap.size A n vs ps) :
    Calls Tryz.prog 42 #[.slice A n c, .func (.func 22) #[] #[]] w fun e w' => (∃ z : Int, e = .returned (.int .i64 z) ∧ decide (0 ≤ z) = ps.any badP) ∧ Below w.heap.size w w' := by
  have hl := hA.len
  have hAh := Lib.hid hA
  have hlh := Lib.hid hl
  unfold maxLen at hn
  clear hA hl
  go_enter Tryz.func42, Tryz.ntmps42
  go_wp2
  go_loopw [5, 8] (fun _ i wr => ∃ k : Nat, k ≤ n ∧ i = .int .i64 k ∧ Hid ((ps.take k).any badP = false) ∧ Hid (Below w.heap.size w wr)) (fun _ i _ => n - (intOf i).toNat)
  case atStart => exact ⟨0, Nat.zero_le _, rfl, Lib.hid (by simp), Lib.hid (Below.refl _ _)⟩
  case round =>
    obtain ⟨k, hk, rfl, hno, hB⟩ := hrel
    obtain ⟨wo, rfl⟩ : ∃ wo : World, wo = wr := ⟨_, rfl⟩
    by_cases hlt : k < n
    · obtain ⟨b, o, cf, At, nt, ct, Ab, nb, cb, As, ns, cs, t, bs, ss, rfl, hb, hv, hp, k1, k2, k3, k4, j1, j2, j3⟩ := (hAh.out.up hB.out).at_ (k := k) hlt
      have hi1 : (0 : Int) ≤ (k : Int) := by omega
      have hi2 : (k : Int) < (n : Int) := by omega
      have hC := lacks_any ((At, nt, ct), (Ab, nb, cb), (As, ns, cs)) (cf, t, bs, ss) wo ⟨j1, j2, j3⟩
      obtain ⟨r, hr⟩ : ∃ r, badP (cf, t, bs, ss) = r := ⟨_, rfl⟩
      rw [hr] at hC
      have hCh := Lib.hid hC
      have hrh := Lib.hid hr
      have hph := Lib.hid hp
      have hbw : b < wo.heap.size := hb
      clear j1 j2 j3 hv hp hC hr
      cases r
      · have hno3 := Lib.hid (show (ps.take (k + 1)).any badP = false by rw [take_at hph.out, List.any_append, hno.out]; simp [hrh.out])
        go_wp2_with (go_at_call 22; refine hCh.out.mono ?_; rintro e w1 ⟨rfl, hb1⟩; have hB1 := Lib.hid (hB.out.trans (hb1.mono hB.out.size)); clear hb1)
        go_roundw
        case rel => exact ⟨k + 1, by omega, by go_num, hno3, hB1⟩
        case measure => simp [intOf]; omega
      · have hyes := Lib.hid (show ps.any badP = true from List.any_eq_true.2 ⟨_, List.mem_of_getElem? hph.out, hrh.out⟩)
        go_wp2_with (go_at_call 22; refine hCh.out.mono ?_; rintro e w1 ⟨rfl, hb1⟩; have hB1 := Lib.hid (hB.out.trans (hb1.mono hB.out.size)); clear hb1)
        go_ret
        exact ⟨⟨_, rfl, by rw [hyes.out]; simp⟩, hB1.out⟩
    · obtain rfl : k = n := by omega
      have hno2 : Hid (ps.any badP = false) := Lib.hid (by have := hno.out; rwa [List.take_of_length_le (by rw [hlh.out]; exact Nat.le_refl _)] at this)
      go_wp2
      go_ret
      exact ⟨⟨_, rfl, by rw [hno2.out]; rfl⟩, hB.out⟩

set_option maxHeartbeats 800000 in
theorem anyBad_any (A : Option Addr) (n c : Nat) (vs : List PcV) (ps : List Pc) (w : World) (hn : n ≤ maxLen) (hA : Pcs w w.heap.size A n vs ps) :
    Calls Tryz.prog 21 #[.slice A n c, .func (.func 22) #[] #[]] w fun e w' => e = .returned (.bool (ps.any badP)) ∧ Below w.heap.size w w' := by
  have hI := Lib.hid (indexBad_any A n c vs ps w hn hA)
  obtain ⟨r, hr⟩ : ∃ r, ps.any badP = r := ⟨_, rfl⟩
  rw [hr] at hI ⊢
  clear hA hr hn
  go_enter Tryz.func21, Tryz.ntmps21
  go_wp2_with (go_at_call 42; refine hI.out.mono ?_; rintro e w1 ⟨⟨z, rfl, hz⟩, hb1⟩; have hzh := Lib.hid hz; have hB1 := Lib.hid hb1; clear hz hb1)
  go_ret
  exact ⟨ret_bool hzh.out, hB1.out⟩
end Go.Proofs.YtcpopnhnihbofaaGreatDoor
/- Proved here: contracts of the landed mark's lists, allLists. -/
namespace Go.Proofs.YtcpopnhnihbofaaGreatDoor
open Go.RowKit
set_option linter.unusedVariables false
set_option maxRecDepth 100000

/-- All that a piece has: its lists' slices, by a slice of them that a call has made. -/
def ListsOut (w w' : World) (e : Ending) (rs : List Slc) : Prop := ∃ A c, e = .returned (.slice A rs.length c) ∧ rs.length ≤ c ∧ c ≤ maxLen ∧ Reads w' w'.heap.size A rs.length (rs.map slcV) ∧ Below w.heap.size w w'
theorem ListsOut.rows {w' : World} {A : Option Addr} {rs : List Slc} {xs : List Txs} {B : Nat} (hr : Reads w' B A rs.length (rs.map slcV)) (hl : rs.length = xs.length) (h : ∀ (k : Nat) (r : Slc) (d : Txs), rs[k]? = some r → xs[k]? = some d → TxR w' B r d) : RowsT w' B A rs.length rs xs := ⟨hr, hl, h⟩

set_option maxHeartbeats 2000000 in
theorem lists_any (cf : Bool) (At Ab As : Option Addr) (nt ct nb cb ns cs B : Nat) (rr : List Slc) (ss : List Txs) (w : World) (hB : B ≤ w.heap.size) (hn : rr.length ≤ 1000000) (hA : RowsT w B As ns rr ss) :
    Calls Tryz.prog 48 #[.agg #[.bool cf, .slice At nt ct, .slice Ab nb cb, .slice As ns cs]] w fun e w' => ListsOut w w' e ((At, nt, ct) :: (Ab, nb, cb) :: rr) := by
  obtain ⟨i0, hi, hz⟩ := Option.map_eq_some_iff.1 infoTxs
  simp only [Prod.mk.injEq] at hz
  obtain ⟨hz1, hz2, hz3⟩ := hz
  have hrl := hA.rlen
  obtain ⟨W0, hW0⟩ : ∃ W0, W0 = w.alloc (.cells #[.bool cf, .slice At nt ct, .slice Ab nb cb, .slice As ns cs] 40) := ⟨_, rfl⟩
  have k0 : W0.heap[w.heap.size]? = some (.cells #[.bool cf, .slice At nt ct, .slice Ab nb cb, .slice As ns cs] 40 (0, 0)) := by rw [hW0]; exact one_a w _
  have hb0 : Below w.heap.size w W0 := by rw [hW0]; exact below_alloc (Below.refl _ _) _
  have x1 : W0.cell? ⟨w.heap.size, 1, none⟩ = some (.slice At nt ct) := by rw [cells_of k0]; rfl
  have x2 : W0.cell? ⟨w.heap.size, 2, none⟩ = some (.slice Ab nb cb) := by rw [cells_of k0]; rfl
  have hlt0 : w.heap.size < W0.heap.size := (Array.getElem?_eq_some_iff.1 k0).1
  obtain ⟨W1, hW1⟩ : ∃ W1, W1 = W0.alloc (.cells #[.slice At nt ct, .slice Ab nb cb] 25) := ⟨_, rfl⟩
  have hown : W1.ownsRow W0.heap.size 25 1 (.slice (some ⟨W0.heap.size, 0, none⟩) 2 2) 2 [.slice At nt ct, .slice Ab nb cb] := by rw [hW1]; exact World.ownsRow_lit W0 #[.slice At nt ct, .slice Ab nb cb] 2 (Nat.le_refl _) (by decide) rfl
  have hb1 : Below w.heap.size w W1 := by rw [hW1]; exact below_alloc hb0 _
  have hs1 : W1.heap.size = W0.heap.size + 1 := by rw [hW1]; simp
  have x3 : (W0.alloc (.cells #[.slice At nt ct, .slice Ab nb cb] 25)).cell? ⟨w.heap.size, 3, none⟩ = some (.slice As ns cs) := by
    have : W1.heap[w.heap.size]? = _ := (by rw [hW1, push_at, if_neg (by omega)] : W1.heap[w.heap.size]? = W0.heap[w.heap.size]?).trans k0
    rw [← hW1, cells_of this]; rfl
  have hR := Lib.hid ((hA.more hB).up hb1).1
  have hmax : Hid (2 + ns ≤ maxLen ∧ (2 + ns) * 24 ≤ 140737488355328) := Lib.hid (by unfold maxLen; omega)
  have hW0h := Lib.hid hW0
  have hW1h := Lib.hid hW1
  have hownh := Lib.hid hown
  have hb1h := Lib.hid hb1
  have hrlh := Lib.hid hrl
  have hsz : W0.heap.size ≤ W1.heap.size := by omega
  have hszw : Hid (w.heap.size ≤ W0.heap.size) := Lib.hid hb0.size
  clear hA hb0 hb1 hs1 hW0 hW1 hown k0 hlt0 hrl
  go_enter Tryz.func48, Tryz.ntmps48
  go_upto_region 1 with fail
  rw [← hW0h.out]
  go_wp2_with (at_builtin; rw [← hW1h.out]; refine wpList_append_reads _ rfl (.tmp 7) (.tmp 9) 38 rfl W0.heap.size 25 i0 (.slice none 0 0) 24 Tryz.underlying38 hi hz1 hz2 hz3 rfl (.slice (some ⟨W0.heap.size, 0, none⟩) 2 2) 2 _ (by simp [Act.eval]) hownh.out _ As ns cs _ (by simp [Act.eval]) hR.out (slcV_one _) hmax.out.1 hmax.out.2 hsz ?_; intro v2 w2 hown2 hg2; have hfin := Lib.hid (And.intro hown2 (hb1h.out.grown hg2 hb1h.out.size (fun g e => Nat.le_trans hszw.out (hownh.out.lt g e).1))); clear hown2 hg2)
  obtain ⟨A5, c5, hv, l1, l2, hR5⟩ := own_slice hfin.out.1
  subst hv
  have hf := Lib.hid (And.intro l1 (And.intro l2 hR5))
  clear l1 l2 hR5
  go_ret
  have e2 : ((At, nt, ct) :: (Ab, nb, cb) :: rr).length = 2 + ns := by rw [List.length_cons, List.length_cons, hrlh.out]; omega
  refine ⟨A5, c5, by rw [e2]; rfl, by rw [e2]; exact hf.out.1, hf.out.2.1, ?_, hfin.out.2⟩
  rw [e2]
  exact hf.out.2.2

theorem lists_step {ps : List Pc} {i : Nat} {p : Pc} (h : ps[i]? = some p) : listsP (ps.take (i + 1)) = listsP (ps.take i) ++ (p.2.1 :: p.2.2.1 :: p.2.2.2) := by
  rw [lists_take h]
  simp
theorem rows_cons {w : World} {B : Nat} {r1 r2 : Slc} {rr : List Slc} {t b : Txs} {ss : List Txs} (h1 : TxR w B r1 t) (h2 : TxR w B r2 b) (h3 : ∀ (k : Nat) (r : Slc) (d : Txs), rr[k]? = some r → ss[k]? = some d → TxR w B r d) : ∀ (k : Nat) (r : Slc) (d : Txs), (r1 :: r2 :: rr)[k]? = some r → (t :: b :: ss)[k]? = some d → TxR w B r d
  | 0, r, d, e1, e2 => by simp at e1 e2; subst e1; subst e2; exact h1
  | 1, r, d, e1, e2 => by simp at e1 e2; subst e1; subst e2; exact h2
  | k + 2, r, d, e1, e2 => h3 k r d (by simpa using e1) (by simpa using e2)
theorem ZRow.app {w wr w2 : World} {lo Bz m : Nat} {v v' : Value} {rs rr : List Slc} {xs ds : List Txs} (h : ZRow w lo Bz wr v rs xs) (hm : rr.length = m) (hl : rr.length = ds.length) (hown : w2.ownsRow Bz 25 1 v' (rs.length + m) (rs.map slcV ++ rr.map slcV)) (hT : ∀ (k : Nat) (r : Slc) (d : Txs), rr[k]? = some r → ds[k]? = some d → TxR w lo r d) : ZRow w lo Bz w2 v' (rs ++ rr) (xs ++ ds) := by
  refine ⟨by rw [List.length_append, List.map_append, hm]; exact hown, by rw [List.length_append, List.length_append, h.2.1, hl], fun i r' d' a b => ?_⟩
  rcases Nat.lt_or_ge i rs.length with hi | hi
  · rw [List.getElem?_append_left hi] at a
    rw [List.getElem?_append_left (by rw [← h.2.1]; exact hi)] at b
    exact h.2.2 i r' d' a b
  · rw [List.getElem?_append_right hi] at a
    rw [List.getElem?_append_right (by rw [← h.2.1]; exact hi), ← h.2.1] at b
    exact hT _ r' d' a b

set_option maxHeartbeats 4000000 in
theorem allLists_any (A : Option Addr) (n c : Nat) (vs : List PcV) (ps : List Pc) (w : World) (hn : n ≤ maxLen) (hcnt : (listsP ps).length ≤ 1000000) (hA : Pcs w w.heap.size A n vs ps) :
    Calls Tryz.prog 26 #[.slice A n c] w fun e w' => RowsOut w w' e (listsP ps) := by
  have hl := hA.len
  obtain ⟨i0, hi, hz⟩ := Option.map_eq_some_iff.1 infoTxs
  simp only [Prod.mk.injEq] at hz
  obtain ⟨hz1, hz2, hz3⟩ := hz
  have hAh := Lib.hid hA
  have hlh := Lib.hid hl
  have hcnth := Lib.hid hcnt
  unfold maxLen at hn
  clear hA hl hcnt
  go_enter Tryz.func26, Tryz.ntmps26
  go_wp2
  go_loopw [3, 5, 8] (fun s3 _ s8 wr => ∃ (i : Nat) (v : Value) (rs : List Slc), i ≤ n ∧ s8 = .int .i64 i ∧ v = s3 ∧ Hid (ZRow w w.heap.size w.heap.size wr v rs (listsP (ps.take i))) ∧ Hid (Below w.heap.size w wr)) (fun _ _ s8 _ => n - (intOf s8).toNat)
  case atStart => exact ⟨0, _, [], Nat.zero_le _, rfl, rfl, Lib.hid (ZRow.start _ _ _ _), Lib.hid (Below.refl _ _)⟩
  case round =>
    obtain ⟨i, v, rs, hi2, rfl, rfl, hZ, hB⟩ := hrel
    obtain ⟨wo, rfl⟩ : ∃ wo : World, wo = wr := ⟨_, rfl⟩
    by_cases hlt : i < n
    · obtain ⟨b, o, cf, At, nt, ct, Ab, nb, cb, As, ns, cs, t, bs, ss, rfl, hb, hv, hp, k1, k2, k3, k4, j1, j2, ⟨j3, j4, rr, j5⟩⟩ := hAh.out.at_ (k := i) hlt
      have i1 : (0 : Int) ≤ (i : Int) := by omega
      have i2 : (i : Int) < (n : Int) := by omega
      have hst := Lib.hid (lists_step hp)
      have hle1 := lists_le ps (i + 1)
      rw [hst.out] at hle1
      simp only [List.length_append, List.length_cons] at hle1
      have hrl := hZ.out.2.1
      have hsl := j5.2.1
      have hrn := j5.rlen
      have hcn := hcnth.out
      obtain ⟨m, hm⟩ : ∃ m, ((At, nt, ct) :: (Ab, nb, cb) :: rr).length = m := ⟨_, rfl⟩
      have hm2 : m = rr.length + 2 := by rw [← hm]; rfl
      have hmax : Hid (rs.length + m ≤ maxLen ∧ (rs.length + m) * 24 ≤ 140737488355328) := Lib.hid (by unfold maxLen; omega)
      have hrr : rr.length ≤ 1000000 := by omega
      have hown := hZ.out.1
      have hsz := hB.out.size
      have y0 := (hB.out.cell (p := ⟨b, o + i * 4, none⟩) hb).trans k1
      have y1 := (hB.out.cell (p := ⟨b, o + i * 4 + 1, none⟩) hb).trans k2
      have y2 := (hB.out.cell (p := ⟨b, o + i * 4 + 2, none⟩) hb).trans k3
      have y3 := (hB.out.cell (p := ⟨b, o + i * 4 + 3, none⟩) hb).trans k4
      have hL : Hid (∀ W, Below w.heap.size w W → Calls Tryz.prog 48 #[.agg #[.bool cf, .slice At nt ct, .slice Ab nb cb, .slice As ns cs]] W fun e w' => ListsOut W w' e ((At, nt, ct) :: (Ab, nb, cb) :: rr)) := Lib.hid (fun W hW => lists_any cf At Ab As nt ct nb cb ns cs w.heap.size rr ss W hW.size hrr (j5.below hW))
      have hT := Lib.hid (rows_cons j1 j2 j5.2.2)
      have hlen : Hid (((At, nt, ct) :: (Ab, nb, cb) :: rr).length = m ∧ ((At, nt, ct) :: (Ab, nb, cb) :: rr).length = (t :: bs :: ss).length) := Lib.hid ⟨hm, by simp [hsl]⟩
      obtain ⟨RS, hRS⟩ : ∃ RS, (At, nt, ct) :: (Ab, nb, cb) :: rr = RS := ⟨_, rfl⟩
      rw [hRS] at hL hT hlen
      have hbo : b < wo.heap.size := by omega
      clear hv hp k1 k2 k3 k4 j1 j2 j5 hle1 hrl hsl hm hm2 hcn hRS hrn hrr
      go_wp2_with (first
        | (go_at_call 48; refine (hL.out _ (below_alloc hB.out _)).mono ?_; rintro e w1 ⟨A1, c1, rfl, q1, q2, q3, q4⟩; rw [hlen.out.1] at q1 q3 ⊢; have hB1 := Lib.hid ((below_alloc hB.out _).trans (q4.mono (below_alloc hB.out _).size)); have hown1 := (ownsRow_kept (hown.alloc _) fun k e => q4.block k ((hown.alloc _).lt k e).2); have hq3 := Lib.hid q3; have hsz1 := hB1.out.size; clear q1 q2 q3 q4)
        | (at_builtin; refine wpList_append_reads _ rfl (.tmp 12) (.tmp 14) 38 rfl w.heap.size 25 i0 (.slice none 0 0) 24 Tryz.underlying38 hi hz1 hz2 hz3 rfl v rs.length _ rfl hown1 _ A1 m c1 _ rfl hq3.out (slcV_one _) hmax.out.1 hmax.out.2 hsz1 ?_; intro v3 w3 hown3 hg3; have hB3 := Lib.hid (hB1.out.grown hg3 hB1.out.size (fun g e => (hown1.lt g e).1)); have hZ3 := Lib.hid (hZ.out.app (v' := v3) (w2 := w3) (m := m) hlen.out.1 hlen.out.2 hown3 hT.out); clear hg3))
      clear hown1 hown3
      go_roundw
      case rel => exact ⟨i + 1, v3, _, by omega, by go_num, rfl, Lib.hid (by rw [hst.out]; exact hZ3.out), hB3⟩
      case measure => simp [intOf]; omega
    · obtain rfl : i = n := by omega
      have hZf : ZRow w w.heap.size w.heap.size wo v rs (listsP ps) := by have := hZ.out; rw [List.take_of_length_le (by rw [hlh.out]; exact Nat.le_refl _)] at this; exact this
      obtain ⟨A5, c5, hv, l1, l2, hR5⟩ := hZf.rows (Nat.le_refl _) hB.out
      subst hv
      have hfin := Lib.hid (And.intro l1 (And.intro l2 hR5))
      clear hZf l1 l2 hR5
      go_wp2
      go_ret
      exact ⟨A5, _, c5, rs, rfl, hfin.out.1, hfin.out.2.1, hfin.out.2.2, hB.out⟩
end Go.Proofs.YtcpopnhnihbofaaGreatDoor
/- Proved here: the contract of slices.Equal over texts. -/
namespace Go.Proofs.YtcpopnhnihbofaaGreatDoor
open Go.RowKit
set_option linter.unusedVariables false

set_option maxRecDepth 100000 in
set_option maxHeartbeats 400000 in
theorem equal_any (A A' : Option Addr) (n n' c c' B B' : Nat) (ss ss' : Txs) (w : World) (hn : n ≤ maxLen) (hn' : n' ≤ maxLen) (hA : Strs w B A n ss) (hA' : Strs w B' A' n' ss') :
    Calls Tryz.prog 92 #[.slice A n c, .slice A' n' c'] w fun e w' => e = .returned (.bool (decide (ss = ss'))) ∧ ∃ k, w' = w.drewN k := by
  unfold maxLen at hn hn'
  have hl := hA.len
  have hl' := hA'.len
  by_cases hnn : n = n'
  · subst hnn
    go_enter Tryz.func92, Tryz.ntmps92
    go_wp2
    go_loopw [5, 13] (fun _ i wr => ∃ k : Nat, k ≤ n ∧ i = .int .i64 k ∧ Hid (ss.take k = ss'.take k) ∧ ∃ q, wr = w.drewN q) (fun _ i _ => n - (intOf i).toNat)
    case atStart => exact ⟨0, Nat.zero_le _, rfl, Lib.hid rfl, 0, rfl⟩
    case round =>
      obtain ⟨k, hk, rfl, hq, q, rfl⟩ := hrel
      by_cases hlt : k < n
      · obtain ⟨b, o, t, rfl, hb, ht, hc0⟩ := hA.at_ (k := k) hlt
        obtain ⟨b', o', t', rfl, hb', ht', hc0'⟩ := hA'.at_ (k := k) hlt
        have hi1 : (0 : Int) ≤ (k : Int) := by omega
        have hi2 : (k : Int) < (n : Int) := by omega
        go_wp2
        go_quiet (fail)
        go_wp2
        · have h : (!(str t).toList == (str t').toList) = true := by assumption
          go_ret
          exact ⟨ret_bool (same_no ht ht' h), q + nq, World.drewN_drewN _ _ _⟩
        · have h : (!(str t).toList == (str t').toList) = false := by assumption
          go_roundw
          case rel => exact ⟨k + 1, by omega, by go_num, Lib.hid (same_yes hq.out ht ht' h), q + nq, rfl⟩
          case measure => simp [intOf]; omega
      · go_wp2
        go_ret
        exact ⟨ret_bool (by rw [eq_comm, decide_eq_true_iff]; have := hq.out; rwa [List.take_of_length_le (by omega), List.take_of_length_le (by omega)] at this), q, rfl⟩
  · have hne : (((n : Int) != (n' : Int))) = true := by simp; omega
    go_enter Tryz.func92, Tryz.ntmps92
    go_wp2
    go_ret
    exact ⟨ret_bool (by rw [eq_comm, decide_eq_false_iff_not]; rintro rfl; omega), 0, rfl⟩
end Go.Proofs.YtcpopnhnihbofaaGreatDoor
/- What the statements ask of pick.Same. -/
namespace Go.Proofs.YtcpopnhnihbofaaGreatDoor
open Go.RowKit
set_option linter.unusedVariables false

/-- The contract of pick.Same. -/
def PickSameOk : Prop := ∀ (A A' : Option Addr) (n n' c c' : Nat) (vs vs' : List PcV) (xs ys : List Pc) (w : World), n ≤ c → c ≤ maxLen → n ≤ 10000 → n' ≤ c' → c' ≤ maxLen → n' ≤ 10000 → Pcs w w.heap.size A n vs xs → Pcs w w.heap.size A' n' vs' ys →
    Calls Tryz.prog 43 #[.slice A n c, .slice A' n' c'] w fun e w' => e = .returned (.bool (decide (xs = ys))) ∧ Below w.heap.size w w'
end Go.Proofs.YtcpopnhnihbofaaGreatDoor

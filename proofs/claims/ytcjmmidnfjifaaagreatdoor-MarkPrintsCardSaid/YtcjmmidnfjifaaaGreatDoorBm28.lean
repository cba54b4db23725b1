/- Proved here: texts joined: MkOk, ChPure, PickCh, MkLawA. -/
import Derived.Test.YtcjmmidnfjifaaaGreatDoorBm02
import Derived.Test.YtcjmmidnfjifaaaGreatDoorBm04
import Derived.Test.YtcjmmidnfjifaaaGreatDoorBm12
import Derived.Test.YtcjmmidnfjifaaaGreatDoorBm27
import Derived.Deep.DeepCutAuto
import Derived.Outline
/- Proved here: what the statements of layer 12 ask of packages mark and size, together; the statements' own example comes to true. -/
namespace Go.Proofs.YtcjmmidnfjifaaaGreatDoor
open Go.RowKit
set_option linter.unusedVariables false
set_option maxRecDepth 100000

def mT : Tx := [116, 10]
def mz : Tx := [122, 10]
def ma : Tx := [97, 10]
def mb : Tx := [98]
def mP : List Pc := [tPc [mT], cPc [mz] [[ma], [mb]]]
theorem mP_one : wrongM mP 1 2 = 0 ∧ printM mP 1 2 = [[116, 10], [60, 60, 32, 49, 10], [97, 10], [61, 61, 32, 50, 10], [98, 10], [62, 62, 33, 10]] := by decide
theorem mP_two : wrongM mP 2 2 = 0 ∧ (printM mP 2 2).length = 8 ∧ (printM mP 2 2)[3]? = some [124, 124, 32, 98, 97, 115, 101, 10] := by decide
theorem mP_four : wrongM mP 4 2 = 1 := by decide
theorem mP_small : smallW mP := few_W (by decide)
theorem six_m (w : World) (o1 o2 o3 o4 o5 o6 : Obj) : (∀ W, W = ((((((w.alloc o1).alloc o2).alloc o3).alloc o4).alloc o5).alloc o6) → W.heap[w.heap.size]? = some o1 ∧ W.heap[w.heap.size + 1]? = some o2 ∧ W.heap[w.heap.size + 1 + 1]? = some o3 ∧ W.heap[w.heap.size + 1 + 1 + 1]? = some o4 ∧ W.heap[w.heap.size + 1 + 1 + 1 + 1]? = some o5 ∧ W.heap[w.heap.size + 1 + 1 + 1 + 1 + 1]? = some o6 ∧ Below w.heap.size w W) := by
  rintro W rfl
  refine ⟨?_, ?_, ?_, ?_, ?_, ?_, below_alloc (below_alloc (below_alloc (below_alloc (below_alloc (below_alloc (Below.refl _ _) _) _) _) _) _) _⟩ <;>
    (simp only [push_at, push_size]; repeat (first | rw [if_pos trivial] | rw [if_pos (by omega)] | rw [if_neg (by omega)]))
theorem mP_at {w W : World} (h : W = ((((((w.alloc (.cells #[.string ⟨#[116, 10]⟩] 9)).alloc (.cells #[.string ⟨#[122, 10]⟩] 9)).alloc (.cells #[.string ⟨#[97, 10]⟩] 9)).alloc (.cells #[.string ⟨#[98]⟩] 9)).alloc (.cells #[.slice (some ⟨w.heap.size + 1 + 1, 0, none⟩) 1 1, .slice (some ⟨w.heap.size + 1 + 1 + 1, 0, none⟩) 1 1] 25)).alloc (.cells #[.bool false, .slice (some ⟨w.heap.size, 0, none⟩) 1 1, .slice none 0 0, .slice none 0 0, .bool true, .slice none 0 0, .slice (some ⟨w.heap.size + 1, 0, none⟩) 1 1, .slice (some ⟨w.heap.size + 1 + 1 + 1 + 1, 0, none⟩) 2 2] 36))) :
    (∃ vs, Pcs W W.heap.size (some ⟨w.heap.size + 1 + 1 + 1 + 1 + 1, 0, none⟩) 2 vs mP) ∧ Below w.heap.size w W := by
  obtain ⟨a0, a1, a2, a3, a4, a5, hB⟩ := six_m w _ _ _ _ _ _ W h
  clear h
  have t0 : TxR W W.heap.size (some ⟨w.heap.size, 0, none⟩, 1, 1) [mT] := txr_of a0 rfl rfl (by decide)
  have t1 : TxR W W.heap.size (some ⟨w.heap.size + 1, 0, none⟩, 1, 1) [mz] := txr_of a1 rfl rfl (by decide)
  have hs : RowsT W W.heap.size (some ⟨w.heap.size + 1 + 1 + 1 + 1, 0, none⟩) 2 [(some ⟨w.heap.size + 1 + 1, 0, none⟩, 1, 1), (some ⟨w.heap.size + 1 + 1 + 1, 0, none⟩, 1, 1)] [[ma], [mb]] := rowsT_of a4 rfl rfl rfl fun k r ss a b => by
    match k, a, b with
    | 0, a, b => simp at a b; subst a; subst b; exact txr_of a2 rfl rfl (by decide)
    | 1, a, b => simp at a b; subst a; subst b; exact txr_of a3 rfl rfl (by decide)
    | k + 2, a, b => simp at a
  refine ⟨⟨_, pcs_of (qs := [(((some ⟨w.heap.size, 0, none⟩, 1, 1), (none, 0, 0), (none, 0, 0)), tPc [mT]), (((none, 0, 0), (some ⟨w.heap.size + 1, 0, none⟩, 1, 1), (some ⟨w.heap.size + 1 + 1 + 1 + 1, 0, none⟩, 2, 2)), cPc [mz] [[ma], [mb]])]) (t := 36) a5 rfl rfl fun q hq => ?_⟩, hB⟩
  rcases List.mem_cons.1 hq with rfl | hq
  · exact PcR.text t0
  · rw [List.mem_singleton.1 hq]
    exact PcR.conf t1 ⟨by show 2 ≤ 2; decide, by show 2 ≤ maxLen; decide, _, hs⟩

section
variable (H : MarkPrintOk)
include H

set_option maxHeartbeats 8000000 in
theorem mkAwake_any (w : World) : Calls Tryz.prog 8 #[] w fun e w' => e = .returned (.bool true) ∧ Below w.heap.size w w' := by
  obtain ⟨W0, hW0⟩ : ∃ W0, W0 = ((((((w.alloc (.cells #[.string ⟨#[116, 10]⟩] 9)).alloc (.cells #[.string ⟨#[122, 10]⟩] 9)).alloc (.cells #[.string ⟨#[97, 10]⟩] 9)).alloc (.cells #[.string ⟨#[98]⟩] 9)).alloc (.cells #[.slice (some ⟨w.heap.size + 1 + 1, 0, none⟩) 1 1, .slice (some ⟨w.heap.size + 1 + 1 + 1, 0, none⟩) 1 1] 25)).alloc (.cells #[.bool false, .slice (some ⟨w.heap.size, 0, none⟩) 1 1, .slice none 0 0, .slice none 0 0, .bool true, .slice none 0 0, .slice (some ⟨w.heap.size + 1, 0, none⟩) 1 1, .slice (some ⟨w.heap.size + 1 + 1 + 1 + 1, 0, none⟩) 2 2] 36)) := ⟨_, rfl⟩
  obtain ⟨⟨vs, hP⟩, hB0⟩ := mP_at hW0
  have hC : Hid (∀ (st : Int) (xs : Txs) (no : Int), inR64 st → wrongM mP st 2 = no → printM mP st 2 = xs → ∀ W, Below W0.heap.size W0 W → Calls Tryz.prog 10 #[.slice (some ⟨w.heap.size + 1 + 1 + 1 + 1 + 1, 0, none⟩) 2 2, .int .i64 st, .int .i64 2] W fun e w' => PrintA W w' e xs no) := Lib.hid (fun st xs no h1 h2 h3 W hW => by rw [← h2, ← h3]; exact H _ 2 2 vs mP st 2 W (Nat.le_refl _) (by decide) h1 (by unfold inR64; decide) mP_small (hP.up hW))
  obtain ⟨a2, ha2⟩ : ∃ a, printM mP 2 2 = a := ⟨_, rfl⟩
  obtain ⟨a4, ha4⟩ : ∃ a, printM mP 4 2 = a := ⟨_, rfl⟩
  have h2 := mP_two
  rw [ha2] at h2
  have h2h := Lib.hid h2.2
  have hC1 := Lib.hid (hC.out 1 _ 0 (by unfold inR64; decide) mP_one.1 mP_one.2)
  have hC2 := Lib.hid (hC.out 2 _ 0 (by unfold inR64; decide) mP_two.1 ha2)
  have hC4 := Lib.hid (hC.out 4 _ 1 (by unfold inR64; decide) mP_four ha4)
  have hW0h := Lib.hid hW0
  have hB0h := Lib.hid hB0
  clear hC hP hB0 hW0 h2 ha2 ha4
  go_enter Tryz.func8, Tryz.ntmps8
  go_upto_region 2 with fail
  rw [← hW0h.out]
  have tok1 := trivial
  go_upto_region 5 with (first
    | (go_at_call 10; have _t := tok1; refine (hC1.out _ (Below.refl _ _)).mono ?_; rintro e w1 ⟨A1, n1, c1, rfl, q1, q2⟩; have hT1 := Lib.hid q1; have hD1 := Lib.hid q2; have tok2 := trivial; clear tok1 q1 q2)
    | (go_at_call 10; have _t := tok2; refine (hC2.out _ hD1.out).mono ?_; rintro e w2 ⟨A2, n2, c2, rfl, q1, q2⟩; have hT2 := Lib.hid q1; have hD2 := Lib.hid (hD1.out.trans (q2.mono hD1.out.size)); have hU2 := Lib.hid (hT1.out.up q2); have tok3 := trivial; clear tok2 q1 q2)
    | (go_at_call 10; have _t := tok3; refine (hC4.out _ hD2.out).mono ?_; rintro e w3 ⟨A3, n3, c3, rfl, q1, q2⟩; have hD3 := Lib.hid (hD2.out.trans (q2.mono hD2.out.size)); have hU3 := Lib.hid (hU2.out.up q2); have hV3 := Lib.hid (hT2.out.up q2); clear tok3 q1 q2))
  have h1 := hU3.out.2.2
  have h2 := hV3.out.2.2
  dsimp only at h1 h2
  have e1 : n1 = 6 := by have := h1.len; simpa using this.symm
  have e2 : n2 = 8 := by rw [← h2.len]; exact h2h.out.1
  subst e1
  subst e2
  obtain ⟨b, o, s1, rfl, -, k1, y1⟩ := h1.at_ (k := 1) (by omega)
  obtain ⟨b', o', s3, he, -, k3, y3⟩ := h1.at_ (k := 3) (by omega)
  cases he
  obtain ⟨b', o', s4, he, -, k4, y4⟩ := h1.at_ (k := 4) (by omega)
  cases he
  obtain ⟨b', o', s5, he, -, k5, y5⟩ := h1.at_ (k := 5) (by omega)
  cases he
  obtain ⟨d, u, s8, rfl, -, k8, y8⟩ := h2.at_ (k := 3) (by omega)
  rw [h2h.out.2] at k8
  simp at k1 k3 k4 k5 k8
  subst k1
  subst k3
  subst k4
  subst k5
  subst k8
  have z1 : w3.cell? ⟨b, o + 1, none⟩ = some (.string ⟨#[60, 60, 32, 49, 10]⟩) := y1
  have z3 : w3.cell? ⟨b, o + 3, none⟩ = some (.string ⟨#[61, 61, 32, 50, 10]⟩) := y3
  have z4 : w3.cell? ⟨b, o + 4, none⟩ = some (.string ⟨#[98, 10]⟩) := y4
  have z5 : w3.cell? ⟨b, o + 5, none⟩ = some (.string ⟨#[62, 62, 33, 10]⟩) := y5
  have z8 : w3.cell? ⟨d, u + 3, none⟩ = some (.string ⟨#[124, 124, 32, 98, 97, 115, 101, 10]⟩) := y8
  clear y1 y3 y4 y5 y8 h1 h2
  go_wp2
  go_ret
  exact ⟨rfl, hB0h.out.trans (hD3.out.mono hB0h.out.size)⟩
end
end Go.Proofs.YtcjmmidnfjifaaaGreatDoor
/- Proved here, without conditions: plain facts on what is chosen, piece by piece. -/
namespace Go.Proofs.YtcjmmidnfjifaaaGreatDoor
set_option linter.unusedVariables false

theorem choose_snoc {ps : List Pc} {i : Nat} {p : Pc} (n : Int) (h : ps[i]? = some p) : choose (ps.take (i + 1)) n = choose (ps.take i) n ++ chosen n p := by
  rw [take_at h]
  unfold choose
  rw [List.flatMap_append]
  simp
theorem choose_pre (ps : List Pc) (n : Int) (i : Nat) : (choose (ps.take i) n).length ≤ (choose ps n).length := by
  conv => rhs; rw [← List.take_append_drop i ps]
  unfold choose
  rw [List.flatMap_append, List.length_append]
  omega
/-- What is chosen among the sides, as far as place k. -/
def chosenTo (n : Int) (ss : List Txs) (k : Nat) : Txs := if 1 ≤ n ∧ (n - 1).toNat < k then (ss[(n - 1).toNat]?).getD [] else []
theorem chosenTo_step {n : Int} {ss : List Txs} {k : Nat} {x : Txs} (h : ss[k]? = some x) : chosenTo n ss (k + 1) = if (k : Int) = n - 1 then chosenTo n ss k ++ x else chosenTo n ss k := by
  unfold chosenTo
  by_cases e : (k : Int) = n - 1
  · have e1 : (n - 1).toNat = k := by omega
    rw [if_pos e, if_pos (by omega), if_neg (by omega), e1, h]
    rfl
  · rw [if_neg e]
    by_cases h2 : 1 ≤ n ∧ (n - 1).toNat < k
    · rw [if_pos (by omega), if_pos h2]
    · rw [if_neg (by omega), if_neg h2]
theorem chosenTo_end (n : Int) (t bs : Txs) (ss : List Txs) : chosenTo n ss ss.length = chosen n (true, t, bs, ss) := by
  unfold chosenTo chosen
  simp only [if_true]
  by_cases h : 1 ≤ n
  · by_cases h2 : (n - 1).toNat < ss.length
    · rw [if_pos ⟨h, h2⟩, if_pos h]
    · rw [if_neg (by omega), if_pos h, List.getElem?_eq_none (by omega)]
      rfl
  · rw [if_neg (by omega), if_neg h]
theorem chosenTo_len (n : Int) (t bs : Txs) (ss : List Txs) (k : Nat) : (chosenTo n ss k).length ≤ (chosen n (true, t, bs, ss)).length := by
  unfold chosenTo chosen
  simp only [if_true]
  by_cases h : 1 ≤ n
  · rw [if_pos h]
    split
    · exact Nat.le_refl _
    · simp
  · rw [if_neg (by omega)]; simp
end Go.Proofs.YtcjmmidnfjifaaaGreatDoor
/- Proved here: the contract of the document's own answer of layer 7: Choose. -/
namespace Go.Proofs.YtcjmmidnfjifaaaGreatDoor
open Go.RowKit
set_option linter.unusedVariables false

set_option maxRecDepth 100000 in
set_option maxHeartbeats 4000000 in
theorem rChoose_any (A : Option Addr) (n c : Nat) (vs : List PcV) (ps : List Pc) (z : Int) (w : World) (hn : n ≤ maxLen) (hz : inR64 z) (hsum : (choose ps z).length ≤ 1000000000) (hA : Pcs w w.heap.size A n vs ps) :
    Calls Tryz.prog 21 #[.slice A n c, .int .i64 z] w fun e w' => TxsOut w w' e (choose ps z) := by
  have hl := hA.len
  obtain ⟨i0, hi, hzz⟩ := Option.map_eq_some_iff.1 infoStr
  simp only [Prod.mk.injEq] at hzz
  obtain ⟨hz0, hz1, hz2⟩ := hzz
  have hAh := Lib.hid hA
  have hsumh := Lib.hid hsum
  have hzh := Lib.hid hz
  have hst : Hid (TxO w w (.slice none 0 0) (choose (ps.take 0) z)) := Lib.hid ⟨World.ownsRow_nil _ _ _ _, Below.refl _ _⟩
  unfold maxLen at hn
  clear hA hsum hz
  go_enter Tryz.func21, Tryz.ntmps21
  go_wp2
  go_loopw [5, 6, 7] (fun s5 s6 _ wr => ∃ (i : Nat) (v : Value), i ≤ n ∧ v = s5 ∧ s6 = .int .i64 i ∧ Hid (TxO w wr v (choose (ps.take i) z))) (fun _ s6 _ _ => n - (intOf s6).toNat)
  case atStart => exact ⟨0, _, Nat.zero_le _, rfl, rfl, hst⟩
  case round =>
    obtain ⟨i, v, hin, rfl, rfl, hT⟩ := hrel
    obtain ⟨wo, rfl⟩ : ∃ wo : World, wo = wr := ⟨_, rfl⟩
    clear hst
    by_cases hlt : i < n
    · obtain ⟨b, o, cf, At, nt, ct, Ab, nb, cb, As, ns, cs, t, bs, ss, rfl, hb, hv, hp, k1, k2, k3, k4, ⟨j1, j2, j3⟩, -, ⟨j4, j5, rr, j6⟩⟩ := (hAh.out.below hT.out.below).at_ (k := i) hlt
      have i1 : (0 : Int) ≤ (i : Int) := by omega
      have i2 : (i : Int) < (n : Int) := by omega
      have hsn := Lib.hid (choose_snoc z hp)
      have hpre1 := choose_pre ps z (i + 1)
      rw [choose_snoc z hp, List.length_append] at hpre1
      have hown := hT.out.own
      have hbe := hT.out.below
      obtain ⟨m, hm⟩ : ∃ m, (choose (ps.take i) z).length = m := ⟨_, rfl⟩
      dsimp only at j1 j2 j3 j4 j5 j6
      cases cf
      · have hlt2 := j3.len
        have hch : chosen z (false, t, bs, ss) = t := rfl
        rw [hch] at hpre1
        have hsn2 : Hid (choose (ps.take (i + 1)) z = choose (ps.take i) z ++ t) := hsn
        have hle : Hid ((choose (ps.take i) z).length + nt ≤ maxLen ∧ ((choose (ps.take i) z).length + nt) * 16 ≤ 140737488355328) := Lib.hid (by have := hsumh.out; unfold maxLen; omega)
        have hlth := Lib.hid hlt2
        clear hp hv hpre1 hch hsn hm
        go_wp2_with (at_builtin; refine wpList_append_reads _ rfl _ _ 25 rfl w.heap.size 9 i0 (.string ByteArray.empty) 16 Tryz.underlying25 hi hz0 hz1 hz2 rfl v (choose (ps.take i) z).length _ rfl hown w.heap.size At nt ct _ rfl j3 (strs_one _) hle.out.1 hle.out.2 hbe.size ?_; intro v' w2 hown2 hg2; have hfin := Lib.hid (hT.out.put hlth.out hown2 hg2); have hBw2 := hfin.out.below; have k1' : w2.cell? ⟨b, o + i * 4, none⟩ = some (.bool false) := (hBw2.cell (p := ⟨b, o + i * 4, none⟩) hb).trans ((hbe.cell (p := ⟨b, o + i * 4, none⟩) hb).symm.trans k1))
        go_loopw [5, 7] (fun s5 s7 wr => s5 = v' ∧ s7 = .int .i64 0 ∧ wr = w2) (fun _ _ _ => 0)
        case atStart => exact ⟨rfl, rfl, rfl⟩
        case round =>
          obtain ⟨rfl, rfl, rfl⟩ := hrel
          go_wp2
          go_roundw
          case rel => exact ⟨i + 1, _, by omega, rfl, by go_num, Lib.hid (by rw [hsn2.out]; exact hfin.out)⟩
          case measure => simp [intOf]; omega
      · have hpre : Hid (∀ k, (chosenTo z ss k).length ≤ (chosen z (true, t, bs, ss)).length) := Lib.hid (fun k => chosenTo_len z t bs ss k)
        have hssl := j6.len
        have hend : Hid (chosenTo z ss ns = chosen z (true, t, bs, ss)) := Lib.hid (by rw [← hssl]; exact chosenTo_end z t bs ss)
        have hpre1h := Lib.hid hpre1
        have h00 : Hid (TxO w wo v (choose (ps.take i) z ++ chosenTo z ss 0)) := Lib.hid (by
          have : chosenTo z ss 0 = [] := by unfold chosenTo; rw [if_neg (by omega)]
          rw [this, List.append_nil]; exact hT.out)
        have hRr : Hid (∀ W, Below w.heap.size w W → RowsT W w.heap.size As ns rr ss ∧ W.cell? ⟨b, o + i * 4, none⟩ = some (.bool true) ∧ W.cell? ⟨b, o + i * 4 + 3, none⟩ = some (.slice As ns cs)) := Lib.hid (fun W hW => by
          have key : ∀ q : Addr, q.block < w.heap.size → W.cell? q = wo.cell? q := fun q hq => (hW.cell hq).trans (hbe.cell hq).symm
          exact ⟨j6.keep key, (key ⟨b, o + i * 4, none⟩ hb).trans k1, (key ⟨b, o + i * 4 + 3, none⟩ hb).trans k4⟩)
        have hnb : ns ≤ 9223372036854775807 := by unfold maxLen at j5; omega
        clear hp hv hpre1 hm hown hbe j6 k2 k3 k4 hT
        go_wp2
        go_loopw [5, 7] (fun s5 s7 wr => ∃ (k : Nat) (v : Value), k ≤ ns ∧ v = s5 ∧ s7 = .int .i64 k ∧ Hid (TxO w wr v (choose (ps.take i) z ++ chosenTo z ss k))) (fun _ s7 _ => ns - (intOf s7).toNat)
        case atStart => exact ⟨0, _, Nat.zero_le _, rfl, rfl, h00⟩
        case round =>
          obtain ⟨k, v, hk, rfl, rfl, hT⟩ := hrel
          obtain ⟨wp, rfl⟩ : ∃ wp : World, wp = wr := ⟨_, rfl⟩
          clear h00
          obtain ⟨hRk, c1, c2⟩ := hRr.out wp hT.out.below
          by_cases hlt3 : k < ns
          · obtain ⟨b2, o2, A2, n2, c2', x, rfl, hb2, hx, -, hc2, hnc, hcm, hst2⟩ := hRk.at_ (k := k) hlt3
            have hstp := Lib.hid (chosenTo_step (n := z) hx)
            have hwr := wrap_pred (n := z) hzh.out hlt3 hnb
            have i3 : (0 : Int) ≤ (k : Int) := by omega
            have i4 : (k : Int) < (ns : Int) := by omega
            have hxl := Lib.hid hst2.len
            clear hx hRk
            by_cases hkz : (k : Int) = z - 1
            · have hd : ((k : Int) == wrap64 (z - 1)) = true := by rw [← IntWalk.i64_left, hwr]; simpa using hkz
              have hstq : Hid (chosenTo z ss (k + 1) = chosenTo z ss k ++ x) := Lib.hid (by rw [hstp.out, if_pos hkz])
              have hown := hT.out.own
              have hbz := hT.out.below.size
              have hle : Hid ((choose (ps.take i) z ++ chosenTo z ss k).length + n2 ≤ maxLen ∧ ((choose (ps.take i) z ++ chosenTo z ss k).length + n2) * 16 ≤ 140737488355328) := Lib.hid (by
                have h1 := hpre1h.out
                have h2 := hpre.out (k + 1)
                rw [hstq.out, List.length_append] at h2
                have h3 := hsumh.out
                have h4 := hxl.out
                rw [List.length_append]
                unfold maxLen
                omega)
              clear hwr hkz
              go_wp2_with (at_builtin; refine wpList_append_reads _ rfl _ _ 25 rfl w.heap.size 9 i0 (.string ByteArray.empty) 16 Tryz.underlying25 hi hz0 hz1 hz2 rfl v (choose (ps.take i) z ++ chosenTo z ss k).length _ rfl hown w.heap.size A2 n2 c2' _ rfl hst2 (strs_one _) hle.out.1 hle.out.2 hbz ?_; intro v' w2 hown2 hg2; have hfin := Lib.hid (hT.out.put hxl.out hown2 hg2))
              go_roundw
              case rel => exact ⟨k + 1, v', by omega, rfl, by go_num, Lib.hid (by rw [hstq.out, ← List.append_assoc]; exact hfin.out)⟩
              case measure => simp [intOf]; omega
            · have hd : ((k : Int) == wrap64 (z - 1)) = false := by rw [← IntWalk.i64_left, hwr]; simpa using hkz
              have hstq : Hid (chosenTo z ss (k + 1) = chosenTo z ss k) := Lib.hid (by rw [hstp.out, if_neg hkz])
              clear hwr hkz
              go_wp2
              go_roundw
              case rel => exact ⟨k + 1, v, by omega, rfl, by go_num, Lib.hid (by rw [hstq.out]; exact hT.out)⟩
              case measure => simp [intOf]; omega
          · obtain rfl : k = ns := by omega
            go_wp2
            go_roundw
            case rel => exact ⟨i + 1, v, by omega, rfl, by go_num, Lib.hid (by rw [hsn.out, ← hend.out]; exact hT.out)⟩
            case measure => simp [intOf]; omega
    · obtain rfl : i = n := by omega
      go_wp2
      go_ret
      have ht : ps.take i = ps := List.take_of_length_le (by omega)
      have := hT.out.out
      rw [ht] at this
      exact this
end Go.Proofs.YtcjmmidnfjifaaaGreatDoor
/- Proved here: what the statement MarkPrints says, by the contract of package mark. -/
namespace Go.Proofs.YtcjmmidnfjifaaaGreatDoor
open Go.RowKit
set_option linter.unusedVariables false
set_option maxRecDepth 100000

section
variable (H : MarkPrintOk)
include H

set_option maxHeartbeats 4000000 in
theorem MarkPrints_walk (A : Option Addr) (n c : Nat) (vs : List PcV) (ps : List Pc) (style long : Int) (w : World) (h0 : ArgPcs w A n c vs ps) (hst : inR64 style) (hlg : inR64 long) :
    Calls Tryz.prog 3 #[.slice A n c, .int .i64 style, .int .i64 long] w fun e w' => e = .returned (.bool true) ∧ Below w.heap.size w w' := by
  obtain ⟨hnc, hcm, hA⟩ := h0
  have haw := Lib.hid (mkAwake_any H w)
  obtain ⟨fm, hfm⟩ : ∃ fm, fewP ps = fm := ⟨_, rfl⟩
  have hF := Lib.hid (fun (W : World) (hb : Below w.heap.size w W) => pFew_any A n c W.heap.size vs ps W (Nat.le_trans hnc hcm) (hA.up hb))
  rw [hfm] at hF
  cases fm
  · clear hA hfm hst hlg
    go_enter Tryz.func3, Tryz.ntmps3
    go_wp2_with (first
      | (go_at_call 8; refine haw.out.mono ?_; rintro e w1 ⟨rfl, hb1⟩; have hB1 := Lib.hid hb1; clear hb1)
      | (go_at_call 9; refine (hF.out _ hB1.out).mono ?_; rintro e w2 ⟨rfl, q2, rfl⟩))
    go_ret
    exact ⟨rfl, below_drewN hB1.out q2⟩
  have hsm := few_W hfm
  have hM := Lib.hid (fun (W : World) (hb : Below w.heap.size w W) => H A n c vs ps style long W hnc hcm hst hlg hsm (hA.up hb))
  have hR := Lib.hid (fun (W : World) (hb : Below w.heap.size w W) => (rPrint_any A n c vs ps style long W hnc hcm hst hlg hsm (hA.up hb)).mono fun e w' h => h.out)
  obtain ⟨xs, hxs⟩ : ∃ xs, printM ps style long = xs := ⟨_, rfl⟩
  obtain ⟨no, hno⟩ : ∃ no, wrongM ps style long = no := ⟨_, rfl⟩
  rw [hxs, hno] at hM hR
  have hSa := Lib.hid (fun (A1 A2 : Option Addr) (n1 c1 n2 c2 : Nat) (W : World) (h1 : TxR W W.heap.size (A1, n1, c1) xs) (h2 : TxR W W.heap.size (A2, n2, c2) xs) => Same_any A1 A2 n1 n2 c1 c2 W.heap.size W.heap.size xs xs W (Nat.le_trans h1.1 h1.2.1) (Nat.le_trans h2.1 h2.2.1) h1.2.2 h2.2.2)
  rw [decide_eq_true (rfl : xs = xs)] at hSa
  clear hA hfm hsm hxs hno hst hlg
  by_cases h40 : 40 < long ∧ long ≤ 4096
  · obtain ⟨g1, g2⟩ := h40
    go_enter Tryz.func3, Tryz.ntmps3
    go_wp2_with (first
      | (go_at_call 8; refine haw.out.mono ?_; rintro e w1 ⟨rfl, hb1⟩; have hB1 := Lib.hid hb1; clear hb1)
      | (go_at_call 9; refine (hF.out _ hB1.out).mono ?_; rintro e w2 ⟨rfl, q2, rfl⟩))
    go_ret
    exact ⟨rfl, below_drewN hB1.out q2⟩
  rcases (by omega : 40 < long ∨ long ≤ 40) with g1 | g1
  case' inl =>
    have g2 : ¬ long ≤ 4096 := fun h => h40 ⟨g1, h⟩
  case' inr =>
    have g2 : ¬ 40 < long := by omega
  all_goals
    clear h40
    go_enter Tryz.func3, Tryz.ntmps3
    go_wp2_with (first
      | (go_at_call 8; refine haw.out.mono ?_; rintro e w1 ⟨rfl, hb1⟩; have hB1 := Lib.hid hb1; clear hb1)
      | (go_at_call 9; refine (hF.out _ hB1.out).mono ?_; rintro e w2 ⟨rfl, q2, hw2⟩; have hB2 : Hid (Below w.heap.size w w2) := Lib.hid (by rw [hw2]; exact below_drewN hB1.out q2); clear hw2)
      | (go_at_call 10; refine (hM.out _ hB2.out).mono ?_; rintro e w3 ⟨A1, n1, c1, rfl, q1, q2⟩; have hT1 := Lib.hid q1; have hB3 := Lib.hid (hB2.out.trans (q2.mono hB2.out.size)); clear q1 q2)
      | (go_at_call 11; refine (hR.out _ hB3.out).mono ?_; rintro e w4 ⟨A2, n2, c2, rfl, q1, q2⟩; have hT2 := Lib.hid q1; have hT3 := Lib.hid (hT1.out.up q2); have hB4 := Lib.hid (hB3.out.trans (q2.mono hB3.out.size)); clear q1 q2)
      | (go_at_call 12; refine (hSa.out A1 A2 n1 c1 n2 c2 _ hT3.out hT2.out).mono ?_; rintro e w5 ⟨rfl, q5, rfl⟩))
    go_ret
    exact ⟨rfl, below_drewN hB4.out q5⟩
end
end Go.Proofs.YtcjmmidnfjifaaaGreatDoor

/- Proved here: texts joined: MkLawC, MkBare, MkLawD. -/
import Derived.Test.YtcjmmidnfjifaaaGreatDoorBm16
import Derived.Test.YtcjmmidnfjifaaaGreatDoorBm19
import Derived.Test.YtcjmmidnfjifaaaGreatDoorBm26
import Derived.Test.YtcjmmidnfjifaaaGreatDoorBm27
import Derived.Test.YtcjmmidnfjifaaaGreatDoorBm28
import Derived.Test.YtcjmmidnfjifaaaGreatDoorBm41
import Derived.Test.YtcjmmidnfjifaaaGreatDoorBm44
import Derived.Test.YtcjmmidnfjifaaaGreatDoorBm45
/- Proved here: what the statement MarkSize says, by the contracts of packages mark and size. -/
namespace Go.Proofs.YtcjmmidnfjifaaaGreatDoor
open Go.RowKit
set_option linter.unusedVariables false
set_option maxRecDepth 100000

section
variable (H : MarkPrintOk) (HA : SizeAutoOk)
include H HA

set_option maxHeartbeats 4000000 in
theorem MarkSize_walk (A : Option Addr) (n c : Nat) (vs : List PcV) (ps : List Pc) (style : Int) (w : World) (h0 : ArgPcs w A n c vs ps) (hst : inR64 style) :
    Calls Tryz.prog 5 #[.slice A n c, .int .i64 style] w fun e w' => e = .returned (.bool true) ∧ Below w.heap.size w w' := by
  obtain ⟨hnc, hcm, hA⟩ := h0
  have haw := Lib.hid (mkAwake_any H w)
  obtain ⟨fm, hfm⟩ : ∃ fm, mayM ps style 40 = fm := ⟨_, rfl⟩
  have hF := Lib.hid (fun (W : World) (hb : Below w.heap.size w W) => rMkMay_any A n c vs ps style 40 W hnc hcm hst (by unfold inR64; decide) (hA.up hb))
  rw [hfm] at hF
  cases fm
  · clear hA hfm hst
    go_enter Tryz.func5, Tryz.ntmps5
    go_wp2_with (first
      | (go_at_call 8; refine haw.out.mono ?_; rintro e w1 ⟨rfl, hb1⟩; have hB1 := Lib.hid hb1; clear hb1)
      | (go_at_call 13; refine (hF.out _ hB1.out).mono ?_; rintro e w2 ⟨rfl, q2⟩; have hB2 := Lib.hid (hB1.out.trans (q2.mono hB1.out.size)); clear q2))
    go_ret
    exact ⟨rfl, hB2.out⟩
  obtain ⟨hfew, h40, hno⟩ := mayM_parts hfm
  have hsm := few_W hfew
  obtain ⟨hr1, hr2⟩ := auto_right hno
  have hle := less_wrong hno
  have hge := auto_ge (files := listsP ps)
  have hLi : Hid (∀ W, Below w.heap.size w W → Calls Tryz.prog 17 #[.slice A n c] W fun e w' => RowsOut W w' e (listsP ps)) := Lib.hid (fun W hW => rLists_any A n c vs ps W (Nat.le_trans hnc hcm) (by have := lists_count hsm.1.1.2; have := hsm.1.1.1; omega) (hA.up hW))
  have hAu : Hid (∀ (A' : Option Addr) (n' c' : Nat) (rr : List Slc) (W : World), n' ≤ c' → c' ≤ maxLen → RowsT W W.heap.size A' n' rr (listsP ps) → Calls Tryz.prog 18 #[.slice A' n' c'] W fun e w' => e = .returned (.int .i64 (autoN (listsP ps))) ∧ Below W.heap.size W w') := Lib.hid (fun A' n' c' rr W h1 h2 h3 => HA A' n' c' rr (listsP ps) W h1 h2 (smallK_F hsm.1) h3)
  obtain ⟨N, hN⟩ : ∃ N, autoN (listsP ps) = N := ⟨_, rfl⟩
  rw [hN] at hAu hr1 hr2 hle hge
  have hM1 := Lib.hid (fun (W : World) (hb : Below w.heap.size w W) => H A n c vs ps style (N : Int) W hnc hcm hst (by unfold inR64; omega) hsm (hA.up hb))
  have hM2 := Lib.hid (fun (W : World) (hb : Below w.heap.size w W) => H A n c vs ps style ((N : Int) - 1) W hnc hcm hst (by unfold inR64; omega) hsm (hA.up hb))
  rw [hr1] at hM1
  obtain ⟨f, hf⟩ : ∃ f, wrongM ps style ((N : Int) - 1) = f := ⟨_, rfl⟩
  rw [hf] at hM2 hle
  obtain ⟨x1, hx1⟩ : ∃ x, printM ps style (N : Int) = x := ⟨_, rfl⟩
  obtain ⟨x2, hx2⟩ : ∃ x, printM ps style ((N : Int) - 1) = x := ⟨_, rfl⟩
  rw [hx1] at hM1
  rw [hx2] at hM2
  obtain ⟨M, hMN⟩ : ∃ M, IntKind.i64.wrap ((N : Int) - 1) = M := ⟨_, rfl⟩
  have hMe : (N : Int) - 1 = M := by rw [← hMN, IntWalk.i64_in _ (by omega)]
  rw [hMe] at hM2
  have tok1 := trivial
  clear hA hfm hsm hno hst hr1 hN hf hx1 hx2 hMe hfew h40
  by_cases h7 : N = 7
  case' pos =>
    have h7i : ((N : Int) == 7) = true := by rw [h7]; rfl
    clear hle
  case' neg =>
    have h7i : ((N : Int) == 7) = false := by rw [beq_eq_false_iff_ne]; omega
    have hf6 := hle h7
    subst hf6
    clear hle
  all_goals
    clear h7 hge hr2
    go_enter Tryz.func5, Tryz.ntmps5
    go_wp2_with (first
      | (go_at_call 8; refine haw.out.mono ?_; rintro e w1 ⟨rfl, hb1⟩; have hB1 := Lib.hid hb1; clear hb1)
      | (go_at_call 13; refine (hF.out _ hB1.out).mono ?_; rintro e w2 ⟨rfl, q2⟩; have hB2 := Lib.hid (hB1.out.trans (q2.mono hB1.out.size)); clear q2)
      | (go_at_call 17; refine (hLi.out _ hB2.out).mono ?_; rintro e w3 ⟨A3, n3, c3, rr3, rfl, h1, h2, h3, h4⟩; have hR := Lib.hid (And.intro h1 (And.intro h2 h3)); have hB3 := Lib.hid (hB2.out.trans (h4.mono hB2.out.size)); clear h1 h2 h3 h4)
      | (go_at_call 18; refine (hAu.out A3 n3 c3 rr3 _ hR.out.1 hR.out.2.1 hR.out.2.2).mono ?_; rintro e w4 ⟨rfl, q4⟩; have hB4 := Lib.hid (hB3.out.trans (q4.mono hB3.out.size)); clear q4)
      | (go_at_call 10; have _t := tok1; refine (hM1.out _ hB4.out).mono ?_; rintro e w5 ⟨A5, n5, c5, rfl, q1, q2⟩; have hB5 := Lib.hid (hB4.out.trans (q2.mono hB4.out.size)); clear q1 q2 tok1)
      | (go_at_call 10; refine (hM2.out _ hB5.out).mono ?_; rintro e w6 ⟨A6, n6, c6, rfl, q1, q2⟩; have hB6 := Lib.hid (hB5.out.trans (q2.mono hB5.out.size)); clear q1 q2))
    go_ret
    exact ⟨rfl, hB6.out⟩
end
end Go.Proofs.YtcjmmidnfjifaaaGreatDoor
/- Proved here: the contract of the document's own answer of layer 12: Bare. -/
namespace Go.Proofs.YtcjmmidnfjifaaaGreatDoor
open Go.RowKit
set_option linter.unusedVariables false
set_option maxRecDepth 100000

theorem map_take {α β : Type} {f : α → β} {ps : List α} {i : Nat} {p : α} (h : ps[i]? = some p) : (ps.take (i + 1)).map f = (ps.take i).map f ++ [f p] := by
  rw [take_at h, List.map_append]
  rfl

set_option maxHeartbeats 8000000 in
theorem rBare_any (A : Option Addr) (n c : Nat) (vs : List PcV) (ps : List Pc) (w : World) (hn : n ≤ 100000) (hA : Pcs w w.heap.size A n vs ps) :
    Calls Tryz.prog 19 #[.slice A n c] w fun e w' => PcsOut w w' e (ps.map bareP) := by
  have hl := hA.len
  obtain ⟨j0, hj, hyy⟩ := Option.map_eq_some_iff.1 infoPc
  simp only [Prod.mk.injEq] at hyy
  obtain ⟨hy0, hy1, hy2⟩ := hyy
  have hAh := Lib.hid hA
  have hlh := Lib.hid hl
  have hst := Lib.hid (PcsO.start w)
  clear hA hl
  go_enter Tryz.func19, Tryz.ntmps19
  go_wp2
  go_loopw [3, 4] (fun s3 s4 wr => ∃ (i : Nat) (v : Value) (qs : List (PcV × Pc)), i ≤ n ∧ v = s3 ∧ s4 = .int .i64 i ∧ qs.length = i ∧ Hid (PcsO w wr v qs) ∧ Hid ((qs.map fun q => q.2) = (ps.take i).map bareP)) (fun _ s4 _ => n - (intOf s4).toNat)
  case atStart => exact ⟨0, _, [], Nat.zero_le _, rfl, rfl, rfl, hst, Lib.hid rfl⟩
  case round =>
    obtain ⟨i, v, qs, hin, rfl, rfl, hql, hP, hN⟩ := hrel
    obtain ⟨wo, rfl⟩ : ∃ wo : World, wo = wr := ⟨_, rfl⟩
    clear hst
    by_cases hlt : i < n
    · obtain ⟨b, o, cf, At, nt, ct, Ab, nb, cb, As, ns, cs, t, bs, ss, rfl, hb, hv, hp, k1, k2, k3, k4, j1, j2, j3⟩ := (hAh.out.below hP.out.below).at_ (k := i) hlt
      have i1 : (0 : Int) ≤ (i : Int) := by omega
      have i2 : (i : Int) < (n : Int) := by omega
      have hown := hP.out.own
      have hsz := hP.out.below.size
      have hmax : Hid (qs.length + 1 ≤ maxLen ∧ (qs.length + 1) * 80 ≤ 140737488355328) := Lib.hid ⟨by unfold maxLen; omega, by omega⟩
      have hN2 : Hid ((qs.map fun q => q.2) ++ [bareP (cf, t, bs, ss)] = (ps.take (i + 1)).map bareP) := Lib.hid (by rw [map_take hp, hN.out])
      have hRp : Hid (PcR wo w.heap.size ((At, nt, ct), (none, 0, 0), (As, ns, cs)) (bareP (cf, t, bs, ss))) := Lib.hid ⟨j1, TxR.nil _ _, j3⟩
      have hfin : Hid (∀ (v' : Value) (w1 w2 : World), Below wo.heap.size wo w1 → w2.ownsRow w.heap.size 36 4 v' (qs.length + 1) (pcCs qs ++ pcC cf ((At, nt, ct), (none, 0, 0), (As, ns, cs))) → (w1.alloc (.cells #[.bool cf, .slice At nt ct, .slice none 0 0, .slice As ns cs] 36)).grownBy w2 v.ownBlock → (v'.ownBlock = v.ownBlock ∨ v'.ownBlock = some (w1.alloc (.cells #[.bool cf, .slice At nt ct, .slice none 0 0, .slice As ns cs] 36)).heap.size) → PcsO w w2 v' (qs ++ [(((At, nt, ct), (none, 0, 0), (As, ns, cs)), bareP (cf, t, bs, ss))])) :=
        Lib.hid (fun v' w1 w2 hb1 h1 h2 h3 => (hP.out.up hb1).put (r := ((At, nt, ct), (none, 0, 0), (As, ns, cs))) (p := bareP (cf, t, bs, ss)) (fun w3 h => (hRp.out.keep (w' := w1) fun q hq => (hb1.cell (p := q) (by omega))).old (hP.out.up hb1) h) h1 h2 h3)
      have hal : Hid (∀ q : Addr, q.block < wo.heap.size → (wo.alloc (.cells #[.bool cf, .slice At nt ct, .slice none 0 0, .slice As ns cs] 36)).drew.cell? q = wo.cell? q) := Lib.hid (fun q hq => World.cell?_alloc_lt _ _ q hq)
      have hgr : Hid (∀ w2 : World, (wo.alloc (.cells #[.bool cf, .slice At nt ct, .slice none 0 0, .slice As ns cs] 36)).drew.grownBy w2 v.ownBlock → ∀ q : Addr, q.block < w.heap.size → w2.cell? q = wo.cell? q) := Lib.hid (fun w2 hg q hq => by
        refine (World.cell?_of_block (w := (wo.alloc (.cells #[.bool cf, .slice At nt ct, .slice none 0 0, .slice As ns cs] 36)).drew) (hg.block q.block (by show q.block < (wo.alloc _).heap.size; simp; omega) (fun e => ?_))).trans (hal.out q (by omega))
        have := (hown.lt q.block e.symm).1
        omega)
      clear hp hv j1 j2 j3 hN
      go_wp2
      go_region_held3 (fun wx : World => wx.cell? ⟨b, o + i * 4, none⟩ = some (.bool cf) ∧ wx.cell? ⟨b, o + i * 4 + 1, none⟩ = some (.slice At nt ct) ∧ wx.cell? ⟨b, o + i * 4 + 3, none⟩ = some (.slice As ns cs))
        (first
          | exact ⟨k1, k2, k4⟩
          | exact ⟨(hal.out ⟨b, o + i * 4, none⟩ (by show b < _; omega)).trans k1, (hal.out ⟨b, o + i * 4 + 1, none⟩ (by show b < _; omega)).trans k2, (hal.out ⟨b, o + i * 4 + 3, none⟩ (by show b < _; omega)).trans k4⟩
          | exact ⟨(hgr.out _ hg8 ⟨b, o + i * 4, none⟩ (by show b < _; omega)).trans k1, (hgr.out _ hg8 ⟨b, o + i * 4 + 1, none⟩ (by show b < _; omega)).trans k2, (hgr.out _ hg8 ⟨b, o + i * 4 + 3, none⟩ (by show b < _; omega)).trans k4⟩)
        ((refine appendO_step rfl (.tmp 11) (.tmp 28) 22 rfl w.heap.size 36 j0 (.agg #[.bool false, .slice none 0 0, .slice none 0 0, .slice none 0 0]) 4 80 Tryz.underlying22 hj hy0 hy1 hy2 rfl (by decide) v qs.length _ (by simp [Act.eval]) (hown.alloc _) ⟨wo.heap.size, 0, none⟩ 1 1 (pcC cf ((At, nt, ct), (none, 0, 0), (As, ns, cs))) (by simp [Act.eval]) rfl (cell_new_pc _ _ _ _) (pcC_one _ _) hmax.out.1 hmax.out.2 (by simp; omega) ?_; intro v' w8 hown8 hg8 hloc8))
      go_wp2_with fail
      go_roundw
      case rel => exact ⟨i + 1, v', _, by omega, rfl, by go_num, by simp; omega, Lib.hid (hfin.out v' wo.drew w8 ⟨rfl, rfl, rfl, Nat.le_refl _, fun _ _ => rfl⟩ hown8 hg8 hloc8), Lib.hid (by simpa using hN2.out)⟩
      case measure => simp [intOf]; omega
    · obtain rfl : i = n := by omega
      have hN3 : (qs.map fun q => q.2) = ps.map bareP := by have := hN.out; rwa [List.take_of_length_le (by rw [hlh.out]; exact Nat.le_refl _)] at this
      obtain ⟨A2, c2, hv2, q1, q2, hPs⟩ := hP.out.reads
      rw [hN3] at hPs
      have hPh := Lib.hid hPs
      have hb9 := Lib.hid hP.out.below
      obtain ⟨N, hNN⟩ : ∃ N, qs.length = N := ⟨_, rfl⟩
      rw [hNN] at hv2 q1 hPh
      subst hv2
      clear hPs hN3 hql hNN
      go_wp2
      go_ret
      exact ⟨A2, N, c2, _, rfl, q1, q2, hPh.out, hb9.out⟩
end Go.Proofs.YtcjmmidnfjifaaaGreatDoor
/- Proved here: what the statement MarkStyles says, by the contract of package mark. -/
namespace Go.Proofs.YtcjmmidnfjifaaaGreatDoor
open Go.RowKit
set_option linter.unusedVariables false
set_option maxRecDepth 100000

section
variable (H : MarkPrintOk)
include H

set_option maxHeartbeats 8000000 in
theorem MarkStyles_walk (A : Option Addr) (n c : Nat) (vs : List PcV) (ps : List Pc) (long : Int) (w : World) (h0 : ArgPcs w A n c vs ps) (hlg : inR64 long) :
    Calls Tryz.prog 6 #[.slice A n c, .int .i64 long] w fun e w' => e = .returned (.bool true) ∧ Below w.heap.size w w' := by
  obtain ⟨hnc, hcm, hA⟩ := h0
  have haw := Lib.hid (mkAwake_any H w)
  obtain ⟨fm, hfm⟩ : ∃ fm, mayM ps 1 long = fm := ⟨_, rfl⟩
  have hF := Lib.hid (fun (W : World) (hb : Below w.heap.size w W) => rMkMay_any A n c vs ps 1 long W hnc hcm (by unfold inR64; decide) hlg (hA.up hb))
  rw [hfm] at hF
  cases fm
  · clear hA hfm hlg
    go_enter Tryz.func6, Tryz.ntmps6
    go_wp2_with (first
      | (go_at_call 8; refine haw.out.mono ?_; rintro e w1 ⟨rfl, hb1⟩; have hB1 := Lib.hid hb1; clear hb1)
      | (go_at_call 13; refine (hF.out _ hB1.out).mono ?_; rintro e w2 ⟨rfl, q2⟩; have hB2 := Lib.hid (hB1.out.trans (q2.mono hB1.out.size)); clear q2))
    go_ret
    exact ⟨rfl, hB2.out⟩
  obtain ⟨hfew, h40, hno⟩ := mayM_parts hfm
  have hsm := few_W hfew
  have hsb := few_W (few_bare hfew)
  have hn12 : n ≤ 12 := by have := (fewP_parts hfew).1; have := hA.len; omega
  have hM := Lib.hid (fun (st : Int) (xs : Txs) (no : Int) (hst : inR64 st) (h1 : printM ps st long = xs) (h2 : wrongM ps st long = no) (W : World) (hb : Below w.heap.size w W) => (show Calls Tryz.prog 10 #[.slice A n c, .int .i64 st, .int .i64 long] W fun e w' => PrintA W w' e xs no from by rw [← h1, ← h2]; exact H A n c vs ps st long W hnc hcm hst hlg hsm (hA.up hb)))
  have hz1 : printM ps 1 long = linesM 1 long.toNat ps := by unfold printM; rw [if_pos hno, if_neg (by decide)]
  have hz2 : printM ps 2 long = linesM 2 long.toNat ps := by unfold printM; rw [if_pos (wrong_two hno), if_neg (by decide)]
  have hzb : printM (ps.map bareP) 1 long = linesM 1 long.toNat ps := by unfold printM; rw [if_pos (bare_right hno), if_neg (by decide), bare_lines]
  have hN := Lib.hid (fun (A' : Option Addr) (n' c' : Nat) (vs' : List PcV) (W : World) (h1 : n' ≤ c') (h2 : c' ≤ maxLen) (h3 : Pcs W W.heap.size A' n' vs' (ps.map bareP)) => (show Calls Tryz.prog 10 #[.slice A' n' c', .int .i64 1, .int .i64 long] W fun e w' => PrintA W w' e (linesM 1 long.toNat ps) 0 from by rw [← hzb, ← bare_right hno]; exact H A' n' c' vs' (ps.map bareP) 1 long W h1 h2 (by unfold inR64; decide) hlg hsb h3))
  have hBa := Lib.hid (fun (W : World) (hb : Below w.heap.size w W) => rBare_any A n c vs ps W (by omega) (hA.up hb))
  have hCl := Lib.hid (fun (W : World) (hb : Below w.heap.size w W) => rClean_any A n c W.heap.size vs ps W (Nat.le_trans hnc hcm) (hA.up hb))
  have hCh := Lib.hid (fun (W : World) (hb : Below w.heap.size w W) => rChoose_any A n c vs ps 0 W (Nat.le_trans hnc hcm) (by unfold inR64; decide) (by have := choose_few 0 (fewP_parts hfew).2; have := (fewP_parts hfew).1; omega) (hA.up hb))
  have hM1 := Lib.hid (hM.out 1 _ 0 (by unfold inR64; decide) hz1 hno)
  have hM2 := Lib.hid (hM.out 2 _ 0 (by unfold inR64; decide) hz2 (wrong_two hno))
  have tok1 := trivial
  by_cases hc : cleanB ps = true
  · obtain ⟨k1, k2⟩ := wrong_clean hc hno
    have hz3 : printM ps 3 long = linesM 3 long.toNat ps := by unfold printM; rw [if_pos k1, if_pos rfl, k2]
    have hM3 := Lib.hid (hM.out 3 _ 0 (by unfold inR64; decide) hz3 k1)
    rw [lines_clean hc] at hM1 hM2 hM3 hN
    rw [hc] at hCl
    obtain ⟨xs, hxs⟩ : ∃ xs, choose ps 0 = xs := ⟨_, rfl⟩
    rw [hxs] at hM1 hM2 hM3 hN hCh
    have hSa := Lib.hid (sameF xs)
    clear hA hfm hsm hsb hxs hno hlg hz1 hz2 hz3 hzb hc k1 k2 hM hfew h40
    go_enter Tryz.func6, Tryz.ntmps6
    go_wp2_with (first
      | (go_at_call 8; refine haw.out.mono ?_; rintro e w1 ⟨rfl, hb1⟩; have hB1 := Lib.hid hb1; clear hb1)
      | (go_at_call 13; refine (hF.out _ hB1.out).mono ?_; rintro e w2 ⟨rfl, q2⟩; have hB2 := Lib.hid (hB1.out.trans (q2.mono hB1.out.size)); clear q2)
      | (go_at_call 10; have _t := tok1; refine (hM1.out _ hB2.out).mono ?_; rintro e w3 ⟨A1, n1, c1, rfl, q1, q2⟩; have hT1 := Lib.hid q1; have hB3 := Lib.hid (hB2.out.trans (q2.mono hB2.out.size)); have tok2 := trivial; clear q1 q2 tok1)
      | (go_at_call 10; have _t := tok2; refine (hM2.out _ hB3.out).mono ?_; rintro e w4 ⟨A2, n2, c2, rfl, q1, q2⟩; have hT2 := Lib.hid q1; have hT1b := Lib.hid (hT1.out.up q2); have hB4 := Lib.hid (hB3.out.trans (q2.mono hB3.out.size)); have tok3 := trivial; clear q1 q2 tok2 hT1)
      | (go_at_call 10; have _t := tok3; refine (hM3.out _ hB4.out).mono ?_; rintro e w5 ⟨A3, n3, c3, rfl, q1, q2⟩; have hT3 := Lib.hid q1; have hT1c := Lib.hid (hT1b.out.up q2); have hT2b := Lib.hid (hT2.out.up q2); have hB5 := Lib.hid (hB4.out.trans (q2.mono hB4.out.size)); clear q1 q2 tok3 hT1b hT2)
      | (go_at_call 19; refine (hBa.out _ hB5.out).mono ?_; rintro e w6 ⟨A6, n6, c6, vs6, rfl, q1, q2, q3, q4⟩; have hZ6 := Lib.hid (And.intro q1 (And.intro q2 q3)); have hT1d := Lib.hid (hT1c.out.up q4); have hT2c := Lib.hid (hT2b.out.up q4); have hT3b := Lib.hid (hT3.out.up q4); have hB6 := Lib.hid (hB5.out.trans (q4.mono hB5.out.size)); have tok4 := trivial; clear q1 q2 q3 q4 hT1c hT2b hT3)
      | (go_at_call 10; have _t := tok4; refine (hN.out A6 n6 c6 vs6 _ hZ6.out.1 hZ6.out.2.1 hZ6.out.2.2).mono ?_; rintro e w7 ⟨A7, n7, c7, rfl, q1, q2⟩; have hT1e := Lib.hid (hT1d.out.up q2); have hT2d := Lib.hid (hT2c.out.up q2); have hT3c := Lib.hid (hT3b.out.up q2); have hB7 := Lib.hid (hB6.out.trans (q2.mono hB6.out.size)); have tok5 := trivial; clear q1 q2 tok4 hT1d hT2c hT3b)
      | (go_at_call 20; refine (hCl.out _ hB7.out).mono ?_; rintro e w8 ⟨rfl, hww⟩; have hws := hww.symm; clear hww; subst hws)
      | (go_at_call 12; have _t := tok5; refine (hSa.out A1 A2 n1 c1 n2 c2 _ hT1e.out hT2d.out).mono ?_; rintro e w9 ⟨rfl, q9, hw9⟩; have hd9 : Below w7.heap.size w7 w9 := (by rw [hw9]; exact below_drewN (Below.refl _ _) q9); have hT1f := Lib.hid (hT1e.out.up hd9); have hT3d := Lib.hid (hT3c.out.up hd9); have hB9 := Lib.hid (hB7.out.trans (hd9.mono hB7.out.size)); have tok6 := trivial; clear tok5 hd9 hw9 hT1e hT3c)
      | (go_at_call 12; have _t := tok6; refine (hSa.out A1 A3 n1 c1 n3 c3 _ hT1f.out hT3d.out).mono ?_; rintro e w10 ⟨rfl, q10, hw10⟩; have hd10 : Below w9.heap.size w9 w10 := (by rw [hw10]; exact below_drewN (Below.refl _ _) q10); have hT1g := Lib.hid (hT1f.out.up hd10); have hB10 := Lib.hid (hB9.out.trans (hd10.mono hB9.out.size)); have tok7 := trivial; clear tok6 hd10 hw10 hT1f)
      | (go_at_call 21; refine (hCh.out _ hB10.out).mono ?_; rintro e w11 ⟨A11, n11, c11, rfl, q1, q2⟩; have hT11 := Lib.hid q1; have hT1h := Lib.hid (hT1g.out.up q2); have hB11 := Lib.hid (hB10.out.trans (q2.mono hB10.out.size)); clear q1 q2 hT1g)
      | (go_at_call 12; have _t := tok7; refine (hSa.out A1 A11 n1 c1 n11 c11 _ hT1h.out hT11.out).mono ?_; rintro e w12 ⟨rfl, q12, rfl⟩))
    go_ret
    exact ⟨rfl, below_drewN hB11.out q12⟩
  · have hcf : cleanB ps = false := by simpa using hc
    rw [hcf] at hCl
    have hlt := (lines_more (lg := long.toNat) (fun p hp h => ((wrongM_none.1 hno).2.1 p hp h).1)).2 hcf
    obtain ⟨x3, hx3⟩ : ∃ x, printM ps 3 long = x := ⟨_, rfl⟩
    obtain ⟨e3, he3⟩ : ∃ x, wrongM ps 3 long = x := ⟨_, rfl⟩
    have hM3 := Lib.hid (hM.out 3 _ _ (by unfold inR64; decide) hx3 he3)
    obtain ⟨xs, hxs⟩ : ∃ xs, linesM 1 long.toNat ps = xs := ⟨_, rfl⟩
    obtain ⟨ys, hys⟩ : ∃ xs, linesM 2 long.toNat ps = xs := ⟨_, rfl⟩
    rw [hxs] at hM1 hN
    rw [hys] at hM2
    rw [hxs, hys] at hlt
    have hlth := Lib.hid hlt
    have hSa := Lib.hid (sameF xs)
    clear hA hfm hsm hsb hxs hno hlg hz1 hz2 hzb hc hcf hM hfew h40 hys hlt hx3 he3
    go_enter Tryz.func6, Tryz.ntmps6
    go_wp2_with (first
      | (go_at_call 8; refine haw.out.mono ?_; rintro e w1 ⟨rfl, hb1⟩; have hB1 := Lib.hid hb1; clear hb1)
      | (go_at_call 13; refine (hF.out _ hB1.out).mono ?_; rintro e w2 ⟨rfl, q2⟩; have hB2 := Lib.hid (hB1.out.trans (q2.mono hB1.out.size)); clear q2)
      | (go_at_call 10; have _t := tok1; refine (hM1.out _ hB2.out).mono ?_; rintro e w3 ⟨A1, n1, c1, rfl, q1, q2⟩; have hT1 := Lib.hid q1; have hB3 := Lib.hid (hB2.out.trans (q2.mono hB2.out.size)); have tok2 := trivial; clear q1 q2 tok1)
      | (go_at_call 10; have _t := tok2; refine (hM2.out _ hB3.out).mono ?_; rintro e w4 ⟨A2, n2, c2, rfl, q1, q2⟩; have hl12 : (n1 : Int) < (n2 : Int) := (by have := q1.2.2.len; have := hT1.out.2.2.len; have := hlth.out; dsimp only at *; omega); have hT1b := Lib.hid (hT1.out.up q2); have hB4 := Lib.hid (hB3.out.trans (q2.mono hB3.out.size)); have tok3 := trivial; clear q1 q2 tok2 hT1)
      | (go_at_call 10; have _t := tok3; refine (hM3.out _ hB4.out).mono ?_; rintro e w5 ⟨A3, n3, c3, rfl, q1, q2⟩; have hT1c := Lib.hid (hT1b.out.up q2); have hB5 := Lib.hid (hB4.out.trans (q2.mono hB4.out.size)); clear q1 q2 tok3 hT1b)
      | (go_at_call 19; refine (hBa.out _ hB5.out).mono ?_; rintro e w6 ⟨A6, n6, c6, vs6, rfl, q1, q2, q3, q4⟩; have hZ6 := Lib.hid (And.intro q1 (And.intro q2 q3)); have hT1d := Lib.hid (hT1c.out.up q4); have hB6 := Lib.hid (hB5.out.trans (q4.mono hB5.out.size)); have tok4 := trivial; clear q1 q2 q3 q4 hT1c)
      | (go_at_call 10; have _t := tok4; refine (hN.out A6 n6 c6 vs6 _ hZ6.out.1 hZ6.out.2.1 hZ6.out.2.2).mono ?_; rintro e w7 ⟨A7, n7, c7, rfl, q1, q2⟩; have hT7 := Lib.hid q1; have hT1e := Lib.hid (hT1d.out.up q2); have hB7 := Lib.hid (hB6.out.trans (q2.mono hB6.out.size)); clear q1 q2 tok4 hT1d)
      | (go_at_call 20; refine (hCl.out _ hB7.out).mono ?_; rintro e w8 ⟨rfl, hww⟩; have hws := hww.symm; clear hww; subst hws)
      | (go_at_call 12; refine (hSa.out A7 A1 n7 c7 n1 c1 _ hT7.out hT1e.out).mono ?_; rintro e w9 ⟨rfl, q9, rfl⟩))
    go_ret
    exact ⟨rfl, below_drewN hB7.out q9⟩
end
end Go.Proofs.YtcjmmidnfjifaaaGreatDoor

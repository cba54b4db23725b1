/- Proved here: texts joined: MkBare, UnLawB, UmPl. -/
import Derived.Test.YtcpopnhnihbofaaGreatDoorBe09
import Derived.Test.YtcpopnhnihbofaaGreatDoorBe12
import Derived.Test.YtcpopnhnihbofaaGreatDoorBe15
import Derived.Test.YtcpopnhnihbofaaGreatDoorBe17
import Derived.Test.YtcpopnhnihbofaaGreatDoorBe19
import Derived.Test.YtcpopnhnihbofaaGreatDoorBe20
import Derived.Test.YtcpopnhnihbofaaGreatDoorBe21
/- Proved here: the contract of the document's own answer of layer 12: Bare. -/
namespace Go.Proofs.YtcpopnhnihbofaaGreatDoor
open Go.RowKit
set_option linter.unusedVariables false
set_option maxRecDepth 100000

theorem map_take {α β : Type} {f : α → β} {ps : List α} {i : Nat} {p : α} (h : ps[i]? = some p) : (ps.take (i + 1)).map f = (ps.take i).map f ++ [f p] := by
  rw [take_at h, List.map_append]
  rfl

set_option maxHeartbeats 8000000 in
theorem rBare_any (A : Option Addr) (n c : Nat) (vs : List PcV) (ps : List Pc) (w : World) (hn : n ≤ 100000) (hA : Pcs w w.heap.size A n vs ps) :
    Calls Tryz.prog 10 #[.slice A n c] w fun e w' => PcsOut w w' e (ps.map bareP) := by
  have hl := hA.len
  obtain ⟨j0, hj, hyy⟩ := Option.map_eq_some_iff.1 infoPc
  simp only [Prod.mk.injEq] at hyy
  obtain ⟨hy0, hy1, hy2⟩ := hyy
  have hAh := Lib.hid hA
  have hlh := Lib.hid hl
  have hst := Lib.hid (PcsO.start w)
  clear hA hl
  go_enter Tryz.func10, Tryz.ntmps10
  go_wp2
  go_loopw [3, 4] (fun s3 s4 wr => ∃ (i : Nat) (v : Value) (qs : List (PcV × Pc)), i ≤ n ∧ v = s3 ∧ s4 = .int .i64 i ∧ qs.length = i ∧ Hid (PcsO w wr v qs) ∧ Hid ((qs.map fun q => q.2) = (ps.take i).map bareP)) (fun _ s4 _ => n - (intOf s4).toNat)
  case atStart => exact ⟨0, _, [], Nat.zero_le _, rfl, rfl, rfl, hst, Lib.hid rfl⟩
  case round =>
    obtain ⟨i, v, qs, hin, rfl, rfl, hql, hP, hN⟩ := hrel
    obtain ⟨wo, rfl⟩ : ∃ wo : World, wo = wr := ⟨_, rfl⟩
    clear hst
    by_cases hlt : i < n
    · obtain ⟨b, o, cf, At, nt, ct, Ab, nb, cb, As, ns, cs, t, bs, ss, rfl, hb, hv, hp, k1, k2, k3, k4, j1, j2, j3⟩ := (hAh.out.below hP.out.below).at_ (k := i) hlt
      have i1 : (0 : Int) ≤ (i : Int) := by omega
      have i2 : (i : Int) < (n : Int) := by omega
      have hown := hP.out.own
      have hsz := hP.out.below.size
      have hmax : Hid (qs.length + 1 ≤ maxLen ∧ (qs.length + 1) * 80 ≤ 140737488355328) := Lib.hid ⟨by unfold maxLen; omega, by omega⟩
      have hN2 : Hid ((qs.map fun q => q.2) ++ [bareP (cf, t, bs, ss)] = (ps.take (i + 1)).map bareP) := Lib.hid (by rw [map_take hp, hN.out])
      have hRp : Hid (PcR wo w.heap.size ((At, nt, ct), (none, 0, 0), (As, ns, cs)) (bareP (cf, t, bs, ss))) := Lib.hid ⟨j1, TxR.nil _ _, j3⟩
      have hfin : Hid (∀ (v' : Value) (w1 w2 : World), Below wo.heap.size wo w1 → w2.ownsRow w.heap.size 40 4 v' (qs.length + 1) (pcCs qs ++ pcC cf ((At, nt, ct), (none, 0, 0), (As, ns, cs))) → (w1.alloc (.cells #[.bool cf, .slice At nt ct, .slice none 0 0, .slice As ns cs] 40)).grownBy w2 v.ownBlock → (v'.ownBlock = v.ownBlock ∨ v'.ownBlock = some (w1.alloc (.cells #[.bool cf, .slice At nt ct, .slice none 0 0, .slice As ns cs] 40)).heap.size) → PcsO w w2 v' (qs ++ [(((At, nt, ct), (none, 0, 0), (As, ns, cs)), bareP (cf, t, bs, ss))])) :=
        Lib.hid (fun v' w1 w2 hb1 h1 h2 h3 => (hP.out.up hb1).put (r := ((At, nt, ct), (none, 0, 0), (As, ns, cs))) (p := bareP (cf, t, bs, ss)) (fun w3 h => (hRp.out.keep (w' := w1) fun q hq => (hb1.cell (p := q) (by omega))).old (hP.out.up hb1) h) h1 h2 h3)
      have hal : Hid (∀ q : Addr, q.block < wo.heap.size → (wo.alloc (.cells #[.bool cf, .slice At nt ct, .slice none 0 0, .slice As ns cs] 40)).drew.cell? q = wo.cell? q) := Lib.hid (fun q hq => World.cell?_alloc_lt _ _ q hq)
      have hgr : Hid (∀ w2 : World, (wo.alloc (.cells #[.bool cf, .slice At nt ct, .slice none 0 0, .slice As ns cs] 40)).drew.grownBy w2 v.ownBlock → ∀ q : Addr, q.block < w.heap.size → w2.cell? q = wo.cell? q) := Lib.hid (fun w2 hg q hq => by
        refine (World.cell?_of_block (w := (wo.alloc (.cells #[.bool cf, .slice At nt ct, .slice none 0 0, .slice As ns cs] 40)).drew) (hg.block q.block (by show q.block < (wo.alloc _).heap.size; simp; omega) (fun e => ?_))).trans (hal.out q (by omega))
        have := (hown.lt q.block e.symm).1
        omega)
      clear hp hv j1 j2 j3 hN
      go_wp2
      go_region_held3 (fun wx : World => wx.cell? ⟨b, o + i * 4, none⟩ = some (.bool cf) ∧ wx.cell? ⟨b, o + i * 4 + 1, none⟩ = some (.slice At nt ct) ∧ wx.cell? ⟨b, o + i * 4 + 3, none⟩ = some (.slice As ns cs))
        (first
          | exact ⟨k1, k2, k4⟩
          | exact ⟨(hal.out ⟨b, o + i * 4, none⟩ (by show b < _; omega)).trans k1, (hal.out ⟨b, o + i * 4 + 1, none⟩ (by show b < _; omega)).trans k2, (hal.out ⟨b, o + i * 4 + 3, none⟩ (by show b < _; omega)).trans k4⟩
          | exact ⟨(hgr.out _ hg8 ⟨b, o + i * 4, none⟩ (by show b < _; omega)).trans k1, (hgr.out _ hg8 ⟨b, o + i * 4 + 1, none⟩ (by show b < _; omega)).trans k2, (hgr.out _ hg8 ⟨b, o + i * 4 + 3, none⟩ (by show b < _; omega)).trans k4⟩)
        ((refine appendO_step rfl (.tmp 11) (.tmp 28) 22 rfl w.heap.size 40 j0 (.agg #[.bool false, .slice none 0 0, .slice none 0 0, .slice none 0 0]) 4 80 Tryz.underlying22 hj hy0 hy1 hy2 rfl (by decide) v qs.length _ (by simp [Act.eval]) (hown.alloc _) ⟨wo.heap.size, 0, none⟩ 1 1 (pcC cf ((At, nt, ct), (none, 0, 0), (As, ns, cs))) (by simp [Act.eval]) rfl (cell_new_pc _ _ _ _) (pcC_one _ _) hmax.out.1 hmax.out.2 (by simp; omega) ?_; intro v' w8 hown8 hg8 hloc8))
      go_wp2_with fail
      go_roundw
      case rel => exact ⟨i + 1, v', _, by omega, rfl, by go_num, by simp; omega, Lib.hid (hfin.out v' wo.drew w8 ⟨rfl, rfl, rfl, Nat.le_refl _, fun _ _ => rfl⟩ hown8 hg8 hloc8), Lib.hid (by simpa using hN2.out)⟩
      case measure => simp [intOf]; omega
    · obtain rfl : i = n := by omega
      have hN3 : (qs.map fun q => q.2) = ps.map bareP := by have := hN.out; rwa [List.take_of_length_le (by rw [hlh.out]; exact Nat.le_refl _)] at this
      obtain ⟨A2, c2, hv2, q1, q2, hPs⟩ := hP.out.reads
      rw [hN3] at hPs
      have hPh := Lib.hid hPs
      have hb9 := Lib.hid hP.out.below
      obtain ⟨N, hNN⟩ : ∃ N, qs.length = N := ⟨_, rfl⟩
      rw [hNN] at hv2 q1 hPh
      subst hv2
      clear hPs hN3 hql hNN
      go_wp2
      go_ret
      exact ⟨A2, N, c2, _, rfl, q1, q2, hPh.out, hb9.out⟩
end Go.Proofs.YtcpopnhnihbofaaGreatDoor
/- Proved here: what the statement UnmarkBack says, by the contracts of packages mark and unmark. -/
namespace Go.Proofs.YtcpopnhnihbofaaGreatDoor
open Go.RowKit
set_option linter.unusedVariables false
set_option maxRecDepth 100000

theorem style_any (A : Option Addr) (n c : Nat) (vs : List PcV) (ks : List Pc) (how : Int) (w : World) (hn : n ≤ maxLen) (hA : Pcs w w.heap.size A n vs ks) :
    Calls Tryz.prog 13 #[.slice A n c, .int .i64 how] w fun e w' => e = .returned (.int .i64 (if how = 1 ∨ cleanB ks = true then 1 else 2)) ∧ w' = w := by
  have hC := Lib.hid (rClean_any A n c w.heap.size vs ks w hn hA)
  obtain ⟨cl, hcl⟩ : ∃ cl, cleanB ks = cl := ⟨_, rfl⟩
  rw [hcl] at hC ⊢
  clear hA hcl
  by_cases h1 : how = 1
  · have hb : (how == 1) = true := by rw [beq_iff_eq]; exact h1
    rw [if_pos (.inl h1)]
    clear h1
    go_enter Tryz.func13, Tryz.ntmps13
    go_wp2
    go_ret
    exact ⟨rfl, rfl⟩
  · have hb : (how == 1) = false := by rw [beq_eq_false_iff_ne]; exact h1
    cases cl
    · rw [if_neg (by rintro (h | h) <;> simp_all)]
      clear h1
      go_enter Tryz.func13, Tryz.ntmps13
      go_wp2_with (go_at_call 35; refine hC.out.mono ?_; rintro e w1 ⟨rfl, rfl⟩)
      go_ret
      exact ⟨rfl, rfl⟩
    · rw [if_pos (.inr rfl)]
      clear h1
      go_enter Tryz.func13, Tryz.ntmps13
      go_wp2_with (go_at_call 35; refine hC.out.mono ?_; rintro e w1 ⟨rfl, rfl⟩)
      go_ret
      exact ⟨rfl, rfl⟩

section
variable (H : UnmParseOk) (H2 : MarkPrintOk)
include H H2

set_option maxHeartbeats 8000000 in
theorem UnmarkBack_walk (A : Option Addr) (n c : Nat) (vs : List PcV) (ps : List Pc) (how long : Int) (w : World) (h0 : ArgPcs w A n c vs ps) (hst : inR64 how) (hlg : inR64 long) :
    Calls Tryz.prog 3 #[.slice A n c, .int .i64 how, .int .i64 long] w fun e w' => e = .returned (.bool true) ∧ Below w.heap.size w w' := by
  obtain ⟨hnc, hcm, hA⟩ := h0
  have haw := Lib.hid (unAwake_any H w)
  obtain ⟨fm, hfm⟩ : ∃ fm, mayM ps how long = fm := ⟨_, rfl⟩
  have hF := Lib.hid (fun (W : World) (hb : Below w.heap.size w W) => rMkMay_any A n c vs ps how long W hnc hcm hst hlg (hA.up hb))
  rw [hfm] at hF
  cases fm
  · clear hA hfm hlg hst
    go_enter Tryz.func3, Tryz.ntmps3
    go_wp2_with (first
      | (go_at_call 6; refine haw.out.mono ?_; rintro e w1 ⟨rfl, hb1⟩; have hB1 := Lib.hid hb1; clear hb1)
      | (go_at_call 7; refine (hF.out _ hB1.out).mono ?_; rintro e w2 ⟨rfl, q2⟩; have hB2 := Lib.hid (hB1.out.trans (q2.mono hB1.out.size)); clear q2))
    go_ret
    exact ⟨rfl, hB2.out⟩
  obtain ⟨hfew, h40, hno⟩ := mayM_parts hfm
  have hsm := few_W hfew
  obtain ⟨g1, -, -, -, -⟩ := wrongM_none.1 hno
  obtain ⟨lg, rfl⟩ : ∃ lg : Nat, long = (lg : Int) := ⟨long.toNat, by omega⟩
  obtain ⟨ks, sty, hks, hsty, hpr, hpa, hsl⟩ := print_read hfew (by omega) hno
  have hl := hA.len
  have hn12 : n ≤ 12 := by rw [← hl]; exact (fewP_parts hfew).1
  obtain ⟨xs, hxs⟩ : ∃ xs, linesM sty lg ks = xs := ⟨_, rfl⟩
  rw [hxs] at hpr hpa hsl
  have hM : Hid (∀ W, Below w.heap.size w W → Calls Tryz.prog 8 #[.slice A n c, .int .i64 how, .int .i64 (lg : Int)] W fun e w' => PrintA W w' e xs 0) := Lib.hid (fun W hb => by
    have h := H2 A n c vs ps how (lg : Int) W hnc hcm hst hlg hsm (hA.up hb)
    rwa [hpr, hno] at h)
  obtain ⟨want, hwant⟩ : ∃ want, ks.map (styP sty) = want := ⟨_, rfl⟩
  obtain ⟨st, hstt⟩ : ∃ st : Int, (if cleanB ks = true then 1 else sty) = st := ⟨_, rfl⟩
  rw [hwant, hstt] at hpa
  have hP : Hid (∀ (A2 : Option Addr) (n2 c2 : Nat) (W : World), TxR W W.heap.size (A2, n2, c2) xs → Calls Tryz.prog 9 #[.slice A2 n2 c2, .int .i64 (lg : Int)] W fun e w' => ParseA W w' e (want, st, 0, 0)) := Lib.hid (fun A2 n2 c2 W hT => by
    rw [← hpa]
    exact H A2 n2 c2 xs (lg : Int) W hlg hsl hT)
  have hSa := Lib.hid (fun (A1 A2 : Option Addr) (n1 c1 n2 c2 : Nat) (vs vs' : List PcV) (W : World) (k1 : n1 ≤ maxLen) (k2 : n2 ≤ maxLen) (h1 : Pcs W W.heap.size A1 n1 vs want) (h2 : Pcs W W.heap.size A2 n2 vs' want) => pSame_any A1 A2 n1 n2 c1 c2 W.heap.size W.heap.size vs vs' want want W k1 k2 h1 h2)
  rw [decide_eq_true (rfl : want = want)] at hSa
  have hSt : Hid (∀ (A2 : Option Addr) (n2 c2 : Nat) (vs2 : List PcV) (W : World), n2 ≤ maxLen → Pcs W W.heap.size A2 n2 vs2 want → Calls Tryz.prog 13 #[.slice A2 n2 c2, .int .i64 how] W fun e w' => e = .returned (.int .i64 st) ∧ w' = W) := Lib.hid (fun A2 n2 c2 vs2 W h1 h2 => by
    have h := style_any A2 n2 c2 vs2 want how W h1 h2
    have e : (if how = 1 ∨ cleanB want = true then (1 : Int) else 2) = st := by
      rw [← hstt, ← hwant, hsty]
      by_cases h1 : how = 1
      · rw [if_pos (.inl h1), if_pos h1]; split <;> rfl
      · rw [if_neg h1, styP_two]
        by_cases h2 : cleanB ks = true
        · rw [if_pos (.inr h2), if_pos h2]
        · rw [if_neg (by rintro (h | h) <;> contradiction), if_neg h2]
    rwa [e] at h)
  have e1 : (st == st) = true := by simp
  have hnm : n ≤ maxLen := Nat.le_trans hnc hcm
  rcases (by omega : how = 1 ∨ how = 2 ∨ how = 3) with rfl | rfl | rfl
  · have hwe : want = ps.map bareP := by rw [← hwant, hsty, hks]; rfl
    have hBa : Hid (∀ W, Below w.heap.size w W → Calls Tryz.prog 10 #[.slice A n c] W fun e w' => PcsOut W w' e want) := Lib.hid (fun W hW => by rw [hwe]; exact rBare_any A n c vs ps W (by omega) (hA.up hW))
    clear hA hfm hno hfew hsm hks hsty hpr hpa hsl hxs hwant hstt hl hst hlg g1 h40 hwe
    go_enter Tryz.func3, Tryz.ntmps3
    go_wp2_with (first
      | (go_at_call 6; refine haw.out.mono ?_; rintro e w1 ⟨rfl, hb1⟩; have hB1 := Lib.hid hb1; clear hb1)
      | (go_at_call 7; refine (hF.out _ hB1.out).mono ?_; rintro e w2 ⟨rfl, q2⟩; have hB2 := Lib.hid (hB1.out.trans (q2.mono hB1.out.size)); clear q2)
      | (go_at_call 8; refine (hM.out _ hB2.out).mono ?_; rintro e w3 ⟨A3, n3, c3, rfl, q1, q2⟩; have hT3 := Lib.hid q1; have hB3 := Lib.hid (hB2.out.trans (q2.mono hB2.out.size)); clear q1 q2)
      | (go_at_call 9; refine (hP.out _ _ _ _ hT3.out).mono ?_; rintro e w4 ⟨A4, n4, c4, vs4, rfl, q1, q2, q3, q4⟩; have hP4 := Lib.hid (And.intro (Nat.le_trans q1 q2) q3); have hB4 := Lib.hid (hB3.out.trans (q4.mono hB3.out.size)); clear q1 q2 q3 q4)
      | (go_at_call 10; refine (hBa.out _ hB4.out).mono ?_; rintro e w5 ⟨A5, n5, c5, vs5, rfl, q1, q2, q3, q4⟩; have hP5 := Lib.hid (And.intro (Nat.le_trans q1 q2) q3); have hP4b := Lib.hid (hP4.out.2.up q4); have hB5 := Lib.hid (hB4.out.trans (q4.mono hB4.out.size)); clear q1 q2 q3 q4)
      | (go_at_call 12; refine (hSa.out A4 A5 n4 c4 n5 c5 vs4 vs5 _ hP4.out.1 hP5.out.1 hP4b.out hP5.out.2).mono ?_; rintro e w6 ⟨rfl, q6, hw6⟩; have hB6 : Hid (Below w.heap.size w w6) := Lib.hid (by rw [hw6]; exact below_drewN hB5.out q6); have hP6 : Hid (Pcs w6 w6.heap.size A5 n5 vs5 want) := Lib.hid (by rw [hw6]; exact hP5.out.2.drewN q6); clear hw6)
      | (go_at_call 13; refine (hSt.out A5 n5 c5 vs5 _ hP5.out.1 hP6.out).mono ?_; rintro e w7 ⟨rfl, hww⟩; have hws := hww.symm; clear hww; subst hws))
    go_ret
    exact ⟨rfl, hB6.out⟩
  · have hwe : want = ps := by rw [← hwant, hsty, hks]; exact styP_two ps
    have hAw : Hid (∀ W, Below w.heap.size w W → Pcs W W.heap.size A n vs want) := Lib.hid (fun W hW => by rw [hwe]; exact hA.up hW)
    clear hA hfm hno hfew hsm hks hsty hpr hpa hsl hxs hwant hstt hl hst hlg g1 h40 hwe
    go_enter Tryz.func3, Tryz.ntmps3
    go_wp2_with (first
      | (go_at_call 6; refine haw.out.mono ?_; rintro e w1 ⟨rfl, hb1⟩; have hB1 := Lib.hid hb1; clear hb1)
      | (go_at_call 7; refine (hF.out _ hB1.out).mono ?_; rintro e w2 ⟨rfl, q2⟩; have hB2 := Lib.hid (hB1.out.trans (q2.mono hB1.out.size)); clear q2)
      | (go_at_call 8; refine (hM.out _ hB2.out).mono ?_; rintro e w3 ⟨A3, n3, c3, rfl, q1, q2⟩; have hT3 := Lib.hid q1; have hB3 := Lib.hid (hB2.out.trans (q2.mono hB2.out.size)); clear q1 q2)
      | (go_at_call 9; refine (hP.out _ _ _ _ hT3.out).mono ?_; rintro e w4 ⟨A4, n4, c4, vs4, rfl, q1, q2, q3, q4⟩; have hP4 := Lib.hid (And.intro (Nat.le_trans q1 q2) q3); have hB4 := Lib.hid (hB3.out.trans (q4.mono hB3.out.size)); clear q1 q2 q3 q4)
      | (go_at_call 12; refine (hSa.out A4 A n4 c4 n c vs4 vs _ hP4.out.1 hnm hP4.out.2 (hAw.out _ hB4.out)).mono ?_; rintro e w6 ⟨rfl, q6, hw6⟩; have hB6 : Hid (Below w.heap.size w w6) := Lib.hid (by rw [hw6]; exact below_drewN hB4.out q6); clear hw6)
      | (go_at_call 13; refine (hSt.out A n c vs _ hnm (hAw.out _ hB6.out)).mono ?_; rintro e w7 ⟨rfl, hww⟩; have hws := hww.symm; clear hww; subst hws))
    go_ret
    exact ⟨rfl, hB6.out⟩
  · have hwe : want = zealD ps := by rw [← hwant, hsty, hks]; exact styP_two _
    have hZe : Hid (∀ W, Below w.heap.size w W → Calls Tryz.prog 11 #[.slice A n c] W fun e w' => PcsOut W w' e want) := Lib.hid (fun W hW => by rw [hwe]; exact (rZeal_any W.heap.size A n c vs ps W (Nat.le_refl _) hsm.1.1 (hA.up hW)).mono fun e w' h => h.out)
    clear hA hfm hno hfew hsm hks hsty hpr hpa hsl hxs hwant hstt hl hst hlg g1 h40 hwe
    go_enter Tryz.func3, Tryz.ntmps3
    go_wp2_with (first
      | (go_at_call 6; refine haw.out.mono ?_; rintro e w1 ⟨rfl, hb1⟩; have hB1 := Lib.hid hb1; clear hb1)
      | (go_at_call 7; refine (hF.out _ hB1.out).mono ?_; rintro e w2 ⟨rfl, q2⟩; have hB2 := Lib.hid (hB1.out.trans (q2.mono hB1.out.size)); clear q2)
      | (go_at_call 8; refine (hM.out _ hB2.out).mono ?_; rintro e w3 ⟨A3, n3, c3, rfl, q1, q2⟩; have hT3 := Lib.hid q1; have hB3 := Lib.hid (hB2.out.trans (q2.mono hB2.out.size)); clear q1 q2)
      | (go_at_call 9; refine (hP.out _ _ _ _ hT3.out).mono ?_; rintro e w4 ⟨A4, n4, c4, vs4, rfl, q1, q2, q3, q4⟩; have hP4 := Lib.hid (And.intro (Nat.le_trans q1 q2) q3); have hB4 := Lib.hid (hB3.out.trans (q4.mono hB3.out.size)); clear q1 q2 q3 q4)
      | (go_at_call 11; refine (hZe.out _ hB4.out).mono ?_; rintro e w5 ⟨A5, n5, c5, vs5, rfl, q1, q2, q3, q4⟩; have hP5 := Lib.hid (And.intro (Nat.le_trans q1 q2) q3); have hP4b := Lib.hid (hP4.out.2.up q4); have hB5 := Lib.hid (hB4.out.trans (q4.mono hB4.out.size)); clear q1 q2 q3 q4)
      | (go_at_call 12; refine (hSa.out A4 A5 n4 c4 n5 c5 vs4 vs5 _ hP4.out.1 hP5.out.1 hP4b.out hP5.out.2).mono ?_; rintro e w6 ⟨rfl, q6, hw6⟩; have hB6 : Hid (Below w.heap.size w w6) := Lib.hid (by rw [hw6]; exact below_drewN hB5.out q6); have hP6 : Hid (Pcs w6 w6.heap.size A5 n5 vs5 want) := Lib.hid (by rw [hw6]; exact hP5.out.2.drewN q6); clear hw6)
      | (go_at_call 13; refine (hSt.out A5 n5 c5 vs5 _ hP5.out.1 hP6.out).mono ?_; rintro e w7 ⟨rfl, hww⟩; have hws := hww.symm; clear hww; subst hws))
    go_ret
    exact ⟨rfl, hB6.out⟩
end
end Go.Proofs.YtcpopnhnihbofaaGreatDoor
/- Proved here, without a word of the program: marks read as the landed code reads them: the sign, what stands behind the signs, with or without an exclamation mark ahead. -/
namespace Go.Proofs.YtcpopnhnihbofaaGreatDoor
set_option linter.unusedVariables false

/-- Is it the mark of a sign, with such a text behind its signs? -/
def isC (t told : Tx) (sign : UInt8) (behind : Tx) : Bool := decide (t.head? = some sign) && decide (told = behind ++ [10])
/-- What a mark does in a conflict, once the part that was begun last is opened, or needn't be. -/
def markC (is : UInt8 → Tx → Bool) (s : MSt) (isB : Bool) (b : Txs) (ds : List Txs) : Option MSt :=
  if (firstM isB ds && decide (s.style ≠ 1) && is 124 [32, 98, 97, 115, 101]) = true then some ⟨s.out, [], 2, some (true, (putM isB b ds s.cur).1, (putM isB b ds s.cur).2)⟩
  else if (firstM isB ds && decide (s.style = 2)) = true then none
  else if (decide (nM isB ds < 16) && is 61 (32 :: numT (nM isB ds + 1))) = true then some ⟨s.out, [], stM isB ds s.style, some (false, (putM isB b ds s.cur).1, (putM isB b ds s.cur).2)⟩
  else if is 62 [] = true then some ⟨s.out ++ [cPc (putM isB b ds s.cur).1 (putM isB b ds s.cur).2], [], stM isB ds s.style, none⟩
  else none
/-- What the next text does. -/
def readC (long : Nat) (s : MSt) (t : Tx) : Option MSt :=
  if runN t < long then some ⟨s.out, s.cur ++ [t], s.style, s.conf⟩ else
  match s.conf with
  | none => if isC t (t.drop long) 60 [32, 49] = true then some ⟨flushM s.out s.cur, [], s.style, some (false, [], [])⟩ else none
  | some (isB, b, ds) => if (t.drop long).head? = some 33 then (openT true s.cur).bind fun q => markC (isC t (t.drop long).tail) ⟨s.out, q, s.style, s.conf⟩ isB b ds else markC (isC t (t.drop long)) s isB b ds
/-- Is a text a line, or an open one where it may be? -/
def lineC (t : Tx) (mb : Bool) : Bool := mayB [t] && (mb || !openB [t])

section
variable {long : Nat} {s : MSt} {t : Tx} {sign : UInt8} {label : Tx} {isB : Bool} {b : Txs} {ds : List Txs}
theorem run_repl (h1 : 1 ≤ long) (hr : long ≤ runN t) : ∃ c, t = List.replicate long c ++ t.drop long := by
  cases t with
  | nil => simp [runN] at hr; omega
  | cons c r =>
    refine ⟨c, ?_⟩
    rw [run_cons] at hr
    split at hr
    · obtain ⟨m, rfl⟩ : ∃ m, long = m + 1 := ⟨long - 1, by omega⟩
      have hm : m ≤ (r.takeWhile fun x => x == c).length := by omega
      have ht : r.take m = List.replicate m c := by
        have h2 : r.take m = (r.takeWhile fun x => x == c).take m := by
          conv => lhs; rw [← List.takeWhile_append_dropWhile (p := fun x => x == c) (l := r)]
          rw [List.take_append_of_le_length hm]
        rw [h2]
        refine List.eq_replicate_iff.2 ⟨by rw [List.length_take]; omega, fun x hx => ?_⟩
        have := List.all_eq_true.1 (List.all_takeWhile (p := fun x => x == c) (l := r)) x (List.mem_of_mem_take hx)
        simpa using this
      rw [List.replicate_succ, List.cons_append, List.drop_succ_cons, ← ht, List.take_append_drop]
    · omega
theorem markX_drop (h1 : 1 ≤ long) (ex : Bool) : (markX sign long ex label).head? = some sign ∧ (markX sign long ex label).drop long = (if ex = true then [33] else []) ++ label ++ [10] := by
  refine ⟨markX_head h1, ?_⟩
  unfold markX
  rw [List.append_assoc, List.append_assoc, List.drop_left' (by simp), List.append_assoc]
/-- A mark, by what stands behind its signs. -/
theorem eq_markX (h1 : 1 ≤ long) (hr : long ≤ runN t) (ex : Bool) : t = markX sign long ex label ↔ t.head? = some sign ∧ t.drop long = (if ex = true then [33] else []) ++ label ++ [10] := by
  constructor
  · intro h
    rw [h]
    exact markX_drop h1 ex
  · rintro ⟨h2, h3⟩
    obtain ⟨c, hc⟩ := run_repl h1 hr
    obtain ⟨m, rfl⟩ : ∃ m, long = m + 1 := ⟨long - 1, by omega⟩
    have : c = sign := by
      rw [hc, List.replicate_succ] at h2
      simpa using h2
    rw [hc, h3, this]
    unfold markX
    simp
theorem fit_code (h1 : 1 ≤ long) (hr : long ≤ runN t) (hl : label.head? ≠ some 33) : fitM long t sign label =
    if (t.drop long).head? = some 33 then (if isC t (t.drop long).tail sign label = true then some true else none) else (if isC t (t.drop long) sign label = true then some false else none) := by
  unfold fitM isC
  have hnf : ∀ u : Tx, u = label ++ [10] → u.head? ≠ some 33 := by
    rintro u rfl
    cases label with
    | nil => simp
    | cons x l => simpa using hl
  by_cases h33 : (t.drop long).head? = some 33
  · rw [if_pos h33, if_neg (fun h => hnf _ ((eq_markX h1 hr false).1 h).2 h33)]
    obtain ⟨r, hd⟩ : ∃ r, t.drop long = 33 :: r := by
      cases hq : t.drop long with
      | nil => rw [hq] at h33; cases h33
      | cons x r => rw [hq] at h33; injection h33 with h; exact ⟨r, by rw [h]⟩
    by_cases he : t = markX sign long true label
    · have := (eq_markX h1 hr true).1 he
      rw [hd] at this ⊢
      rw [if_pos he, if_pos]
      simp only [this.1, List.tail_cons, decide_true, Bool.true_and]
      exact decide_eq_true (by simpa using this.2)
    · rw [if_neg he, if_neg]
      intro h
      rw [Bool.and_eq_true, decide_eq_true_eq, decide_eq_true_eq, hd] at h
      exact he ((eq_markX h1 hr true).2 ⟨h.1, by rw [hd]; simpa using h.2⟩)
  · rw [if_neg h33]
    by_cases he : t = markX sign long false label
    · have := (eq_markX h1 hr false).1 he
      rw [if_pos he, if_pos]
      rw [Bool.and_eq_true, decide_eq_true_eq, decide_eq_true_eq]
      exact ⟨this.1, by simpa using this.2⟩
    · rw [if_neg he, if_neg, if_neg]
      · intro h
        rw [Bool.and_eq_true, decide_eq_true_eq, decide_eq_true_eq] at h
        exact he ((eq_markX h1 hr false).2 ⟨h.1, by simpa using h.2⟩)
      · intro h
        have := ((eq_markX h1 hr true).1 h).2
        rw [this] at h33
        simp at h33
theorem is_other {told : Tx} {sg : UInt8} {bh : Tx} (h : isC t told sign label = true) (hne : sign ≠ sg) : isC t told sg bh = false := by
  unfold isC at h ⊢
  rw [Bool.and_eq_true, decide_eq_true_eq] at h
  rw [h.1, decide_eq_false (by simpa using hne), Bool.false_and]
theorem markStep_eq : markStep long s isB b ds t = (match fitM long t 124 [32, 98, 97, 115, 101] with
    | some ex => if firstM isB ds = true ∧ s.style ≠ 1 then (openT ex s.cur).map fun q => ⟨s.out, [], 2, some (true, (putM isB b ds q).1, (putM isB b ds q).2)⟩ else none
    | none => if firstM isB ds = true ∧ s.style = 2 then none else
      match (if nM isB ds < 16 then fitM long t 61 (32 :: numT (nM isB ds + 1)) else none) with
      | some ex => (openT ex s.cur).map fun q => ⟨s.out, [], stM isB ds s.style, some (false, (putM isB b ds q).1, (putM isB b ds q).2)⟩
      | none => match fitM long t 62 [] with
        | some ex => (openT ex s.cur).map fun q => ⟨s.out ++ [cPc (putM isB b ds q).1 (putM isB b ds q).2], [], stM isB ds s.style, none⟩
        | none => none) := rfl
/-- A mark in a conflict, as the landed code reads it. -/
theorem mark_read (h1 : 1 ≤ long) (hr : long ≤ runN t) : markStep long s isB b ds t =
    if (t.drop long).head? = some 33 then (openT true s.cur).bind fun q => markC (isC t (t.drop long).tail) ⟨s.out, q, s.style, s.conf⟩ isB b ds else markC (isC t (t.drop long)) s isB b ds := by
  have key : ∀ (told : Tx) (ex : Bool) (o : Txs → Option MSt), (∀ sg lb, lb.head? ≠ some 33 → fitM long t sg lb = if isC t told sg lb = true then some ex else none) → (∀ q, o q = markC (isC t told) ⟨s.out, q, s.style, s.conf⟩ isB b ds) → markStep long s isB b ds t = (openT ex s.cur).bind o := by
    intro told ex o hf ho
    obtain rfl : o = fun q => markC (isC t told) ⟨s.out, q, s.style, s.conf⟩ isB b ds := funext ho
    rw [markStep_eq, hf 124 [32, 98, 97, 115, 101] (by decide), hf 62 [] (by decide), hf 61 (32 :: numT (nM isB ds + 1)) (by simp)]
    unfold markC
    by_cases hb : isC t told 124 [32, 98, 97, 115, 101] = true
    · have n1 : isC t told 61 (32 :: numT (nM isB ds + 1)) = false := is_other hb (by decide)
      have n2 : isC t told 62 [] = false := is_other hb (by decide)
      rw [hb, n1, n2]
      cases hfi : firstM isB ds <;> by_cases hs1 : s.style = 1 <;> (simp only [reduceIte]; generalize openT ex s.cur = o; cases o <;> simp [hs1])
    · have hb' : isC t told 124 [32, 98, 97, 115, 101] = false := by simpa using hb
      rw [hb']
      by_cases hn : isC t told 61 (32 :: numT (nM isB ds + 1)) = true
      · have n2 : isC t told 62 [] = false := is_other hn (by decide)
        rw [hn, n2]
        by_cases h16 : nM isB ds < 16 <;> cases hfi : firstM isB ds <;> by_cases hs2 : s.style = 2 <;> (simp only [reduceIte, Bool.false_eq_true, h16]; generalize openT ex s.cur = o; cases o <;> simp [hs2])
      · have hn' : isC t told 61 (32 :: numT (nM isB ds + 1)) = false := by simpa using hn
        rw [hn']
        by_cases hz : isC t told 62 [] = true
        · rw [hz]
          by_cases h16 : nM isB ds < 16 <;> cases hfi : firstM isB ds <;> by_cases hs2 : s.style = 2 <;> (simp only [reduceIte, Bool.false_eq_true, h16]; generalize openT ex s.cur = o; cases o <;> simp [hs2])
        · have hz' : isC t told 62 [] = false := by simpa using hz
          rw [hz']
          by_cases h16 : nM isB ds < 16 <;> cases hfi : firstM isB ds <;> by_cases hs2 : s.style = 2 <;> (simp only [reduceIte, Bool.false_eq_true, h16]; generalize openT ex s.cur = o; cases o <;> simp [hs2])
  by_cases h33 : (t.drop long).head? = some 33
  · rw [if_pos h33]
    exact key _ true _ (fun sg lb hl => by rw [fit_code h1 hr hl, if_pos h33]) fun q => rfl
  · rw [if_neg h33]
    rw [key _ false (fun q => markC (isC t (t.drop long)) ⟨s.out, q, s.style, s.conf⟩ isB b ds) (fun sg lb hl => by rw [fit_code h1 hr hl, if_neg h33]) fun q => rfl]
    rfl
theorem lineC_eq (mb : Bool) : lineC t mb = (lnB t || (mb && mayB [t])) := by
  unfold lineC lnB
  rw [open_one]
  cases mayB [t] <;> cases mb <;> simp
/-- THE NEXT TEXT, as the landed code reads it. -/
theorem step_code {last mb : Bool} (h1 : 1 ≤ long) (hm : mb = (last && s.conf.isNone)) (hn : ∀ isB b ds, s.conf = some (isB, b, ds) → nM isB ds ≤ 16) : stepM long s t last = if lineC t mb = true then readC long s t else none := by
  obtain ⟨out, cur, style, conf⟩ := s
  unfold stepM readC
  cases conf with
  | none =>
    dsimp only
    have hm2 : mb = last := by rw [hm]; simp
    subst hm2
    by_cases hr : long ≤ runN t
    · rw [if_pos hr, if_neg (show ¬ runN t < long by omega)]
      by_cases ht : t = markX 60 long false [32, 49]
      · have h2 := (eq_markX h1 hr false).1 ht
        have hl : lineC t mb = true := by
          rw [lineC_eq, ht, lnB_markX (by decide) (by decide)]
          rfl
        rw [if_pos ht, if_pos hl, if_pos]
        unfold isC
        rw [Bool.and_eq_true, decide_eq_true_eq, decide_eq_true_eq]
        exact ⟨h2.1, by simpa using h2.2⟩
      · rw [if_neg ht]
        split
        · rw [if_neg]
          intro h
          unfold isC at h
          rw [Bool.and_eq_true, decide_eq_true_eq, decide_eq_true_eq] at h
          exact ht ((eq_markX h1 hr false).2 ⟨h.1, by simpa using h.2⟩)
        · rfl
    · rw [if_neg hr, if_pos (show runN t < long by omega), lineC_eq]
  | some x =>
    obtain ⟨isB, b, ds⟩ := x
    have hm2 : mb = false := by rw [hm]; simp
    subst hm2
    have hl : lineC t false = lnB t := by rw [lineC_eq]; simp
    rw [hl]
    dsimp only
    by_cases hr : long ≤ runN t
    · rw [if_pos hr, if_neg (show ¬ runN t < long by omega)]
      cases hln : lnB t with
      | true => exact mark_read h1 hr
      | false => exact mark_free h1 hln (hn _ _ _ rfl)
    · rw [if_neg hr, if_pos (show runN t < long by omega)]
end
end Go.Proofs.YtcpopnhnihbofaaGreatDoor

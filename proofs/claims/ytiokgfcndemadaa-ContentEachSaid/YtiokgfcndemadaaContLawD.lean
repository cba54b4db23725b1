/- Proved here, out of the contracts of package content: the walk of ContentEach. -/
import Derived.Test.YtiokgfcndemadaaContLawA
import Derived.Laws.OwnMore
namespace Go.Proofs.Ytiokgfcndemadaa
open Go.RowKit
set_option linter.unusedVariables false

/-- Rows of the call's own, and others behind them. -/
theorem rows_joined {base : Nat} {wr w2 : World} {v v' : Value} {rows rs : List Slc} {sss pss : List Txs} {A : Option Addr} {m : Nat} (h : RowsO base wr v rows sss) (hT : RowsT wr wr.heap.size A m rs pss)
    (hfar : ∀ r ∈ rs, 0 < r.2.1 → ∀ q o, r.1 = some ⟨q, o, none⟩ → v.ownBlock ≠ some q) (hown : w2.ownsRow base 27 1 v' (rows.length + m) (rows.map slcV ++ rs.map slcV)) (hg : wr.grownBy w2 v.ownBlock) :
    ∃ A' c', v' = .slice A' (rows.length + m) c' ∧ rows.length + m ≤ c' ∧ c' ≤ maxLen ∧ RowsT w2 w2.heap.size A' (rows.length + m) (rows ++ rs) (sss ++ pss) := by
  obtain ⟨A', c', e, h1, h2, h3⟩ := own_slice hown
  have keep : ∀ (r : Slc) (ss : Txs), TxR wr wr.heap.size r ss → (0 < r.2.1 → ∀ q o, r.1 = some ⟨q, o, none⟩ → v.ownBlock ≠ some q) → TxR w2 w2.heap.size r ss := fun r ss h3 h4 => by
    refine ⟨h3.1, h3.2.1, h3.2.2.1, fun hn => ?_⟩
    obtain ⟨b, o', ha, hb, hc⟩ := h3.2.2.2 hn
    exact ⟨b, o', ha, by have := hg.size; omega, fun j u hu => (World.cell?_of_block (w := wr) (hg.block b hb (fun e => h4 hn b o' ha e.symm))).trans (hc j u hu)⟩
  have hl := h.len
  have hl2 := hT.2.1
  refine ⟨A', c', e, h1, h2, by rw [List.map_append]; exact h3, by rw [List.length_append, List.length_append]; omega, fun k r ss a b => ?_⟩
  rcases Nat.lt_or_ge k rows.length with hk | hk
  · rw [List.getElem?_append_left hk] at a
    rw [List.getElem?_append_left (by omega)] at b
    obtain ⟨e1, e2⟩ := h.row k r ss a b
    exact keep r ss e1 e2
  · rw [List.getElem?_append_right hk] at a
    rw [List.getElem?_append_right (by omega), ← hl] at b
    exact keep r ss (hT.2.2 _ r ss a b) (hfar r (List.mem_of_getElem? a))
/-- Texts don't lie where slices of texts lie. -/
theorem txr_far {w : World} {B g : Nat} {r : Slc} {ss : Txs} {C : Array Value} {t : TypeId} {s : Slc} (h : TxR w B r ss) (hn : 0 < r.2.1) (hg : w.heap[g]? = some (.cells C t (0, 0))) (hC : C = #[slcV s]) {q o : Nat} (e : r.1 = some ⟨q, o, none⟩) : q ≠ g := by
  rintro rfl
  obtain ⟨b, o', u, e', hb, hu, hc⟩ := h.2.2.at_ (k := 0) hn
  rw [e] at e'
  injection e' with e'
  injection e' with e1 e2
  subst e1
  subst e2
  rw [cells_of hg, hC] at hc
  have : o + 0 = 0 := by
    have := (Array.getElem?_eq_some_iff.1 hc).1
    simpa using this
  rw [this] at hc
  simp [slcV] at hc

section
variable (H : ContOk)
include H

set_option maxRecDepth 100000 in
set_option maxHeartbeats 4000000 in
theorem ContentEach_walk (A0 : Option Addr) (n0 c0 : Nat) (base : Txs) (A : Option Addr) (n c : Nat) (rows : List Slc) (parts : List Txs) (w : World) (h0 : TxR w w.heap.size (A0, n0, c0) base) (h1 : ArgTs w A n c rows parts) :
    Calls Try.prog 5 #[.slice A0 n0 c0, .slice A n c] w fun e w' => e = .returned (.bool true) ∧ Below w.heap.size w w' := by
  have hn0 : n0 ≤ maxLen := Nat.le_trans h0.1 h0.2.1
  have hn : n ≤ maxLen := Nat.le_trans h1.1 h1.2.1
  have hpl := h1.2.2.len
  have haw := Lib.hid (awake_any H w)
  obtain ⟨fb, hfb⟩ : ∃ fb, fewT base parts = fb := ⟨_, rfl⟩
  have hF := Lib.hid (fun (W : World) (hb : Below w.heap.size w W) => rFew_any A0 n0 c0 w.heap.size base A n c w.heap.size rows parts W hn0 hn (Strs.below h0.2.2 hb) (h1.2.2.below hb))
  rw [hfb] at hF
  cases fb
  · clear h0 h1 hfb
    go_enter Try.func5, Try.ntmps5
    go_wp2_with (first
      | (go_at_call 8; refine haw.out.mono ?_; rintro e w1 ⟨rfl, hb1⟩)
      | (go_at_call 9; refine (hF.out _ hb1).mono ?_; rintro e w2 ⟨rfl, rfl⟩))
    go_ret
    exact ⟨rfl, hb1⟩
  obtain ⟨f1, f2, f3⟩ := fewT_parts hfb
  have hn6 : n ≤ 6 := by omega
  have hD := Lib.hid (fun (W : World) (hb : Below w.heap.size w W) => H.dif_ok A0 n0 c0 base A n c rows parts W h1.1 h1.2.1 (by omega) (h0.up hb) (h1.2.2.up hb))
  have hR := Lib.hid (fun (W : World) (hb : Below w.heap.size w W) => (h1.2.2.below hb))
  have hT0 := Lib.hid (fun (W : World) (hb : Below w.heap.size w W) => h0.up hb)
  obtain ⟨i0, hi, hz⟩ := Option.map_eq_some_iff.1 infoTxs
  simp only [Prod.mk.injEq] at hz
  obtain ⟨hz0, hz1, hz2⟩ := hz
  obtain ⟨d, hd⟩ : ∃ d, (diffs base parts).length = d := ⟨_, rfl⟩
  have hd6 : d ≤ 6 := by have := diffs_len base parts; omega
  have hdh := Lib.hid hd
  have hplh := Lib.hid hpl
  clear h0 h1 hfb f1 f2 f3 hpl hd
  go_enter Try.func5, Try.ntmps5
  go_upto_region 4 with (first
    | (go_at_call 8; refine haw.out.mono ?_; rintro e w1 ⟨rfl, hb1⟩)
    | (go_at_call 9; refine (hF.out _ hb1).mono ?_; rintro e w2 ⟨rfl, rfl⟩))
  obtain ⟨wa, rfl⟩ : ∃ wa : World, wa = w2 := ⟨_, rfl⟩
  have hBX : Below w.heap.size w (wa.alloc (.cells #[.slice A0 n0 c0] 27)) := hb1.alloc hb1.size _
  have hX : (wa.alloc (.cells #[.slice A0 n0 c0] 27)).heap[wa.heap.size]? = some (.cells #[.slice A0 n0 c0] 27 (0, 0)) := Go.Deep.blk_alloc_new wa _
  have hXo : (wa.alloc (.cells #[.slice A0 n0 c0] 27)).ownsRow w.heap.size 27 1 (.slice (some ⟨wa.heap.size, 0, none⟩) 1 1) 1 [.slice A0 n0 c0] := World.ownsRow_lit wa #[.slice A0 n0 c0] 1 hb1.size (by decide) rfl
  have hXl : wa.heap.size < (wa.alloc (.cells #[.slice A0 n0 c0] 27)).heap.size := by simp
  have hXh := Lib.hid (And.intro hBX (And.intro hX (And.intro hXo hXl)))
  have hle : Hid (1 + d ≤ maxLen ∧ (1 + d) * 24 ≤ 140737488355328) := Lib.hid (by unfold maxLen; omega)
  clear hBX hX hXo hXl
  go_cut [6, 19, 20, 21, 22, 23, 24] (fun s6 _ _ _ _ _ _ wx => ∃ A' c' rs, s6 = .slice A' (1 + d) c' ∧ Hid (RowsT wx wx.heap.size A' (1 + d) rs (base :: diffs base parts)) ∧ Hid (Below w.heap.size w wx) ∧ Hid (1 + d ≤ c' ∧ c' ≤ maxLen))
  case first =>
    go_wp2_with (first
      | (go_at_call 14; refine (hD.out _ hXh.out.1).mono ?_; rintro e w3 ⟨A1, n1, c1, rd, rfl, a1, a2, a3, hb3⟩; have hn1 : n1 = d := (by have := a3.len; have := hdh.out; omega); subst hn1; have hX3 := ownsRow_kept hXh.out.2.2.1 (w' := w3) (fun k hk => hb3.block k (by cases hk; exact hXh.out.2.2.2)); have hXc := (hb3.block wa.heap.size hXh.out.2.2.2).trans hXh.out.2.1; have hB3 := hXh.out.1.trans (hb3.mono hXh.out.1.size); have hO : Hid (RowsO w.heap.size w3 (.slice (some ⟨wa.heap.size, 0, none⟩) 1 1) [(A0, n0, c0)] [base]) := Lib.hid ⟨hX3, rfl, fun k r ss e1 e2 => (by cases k with | zero => (simp at e1 e2; subst e1; subst e2; exact ⟨hT0.out _ hB3, fun hn q o e => (by intro hh; exact txr_far (s := (A0, n0, c0)) (hT0.out _ hB3) hn hXc rfl e (by injection hh with hh; exact hh.symm))⟩) | succ k => simp at e1)⟩; have ha3 := Lib.hid a3; have hRd := a3.1; have hXch := Lib.hid hXc; clear a3 hXc)
      | (at_builtin; refine wpList_append_reads _ rfl _ _ 28 rfl w.heap.size 27 i0 (.slice none 0 0) 24 Try.underlying28 hi hz0 hz1 hz2 rfl (.slice (some ⟨wa.heap.size, 0, none⟩) 1 1) 1 _ rfl hX3 w3.heap.size A1 n1 c1 _ rfl hRd (slcV_one _) hle.out.1 hle.out.2 hB3.size ?_; intro v2 w4 hown4 hg4; obtain ⟨A4, c4, rfl, e1, e2, hRT⟩ := rows_joined hO.out ha3.out (fun r hr hn q o e => (by intro hh; obtain ⟨k, hk⟩ := List.mem_iff_getElem?.1 hr; have hkl := (List.getElem?_eq_some_iff.1 hk).1; exact txr_far (s := (A0, n0, c0)) (ha3.out.2.2 k r _ hk (List.getElem?_eq_getElem (by have := ha3.out.2.1; omega))) hn hXch.out rfl e (by injection hh with hh; exact hh.symm))) hown4 hg4; have hB4 := Lib.hid (hB3.grown hg4 hB3.size (fun k e => (by cases e; exact hb1.size))); have hRTh := Lib.hid hRT; have hbd := Lib.hid (And.intro e1 e2); clear hRT e1 e2))
    go_meet
    case rel => exact ⟨A4, c4, _, rfl, hRTh, hB4, hbd⟩
  case rest =>
    obtain ⟨A', c', rs, rfl, hL, hBe, hbd⟩ := hcut
    obtain ⟨wo, rfl⟩ : ∃ wo : World, wo = wc := ⟨_, rfl⟩
    obtain ⟨l, hlv⟩ : ∃ l, base :: diffs base parts = l := ⟨_, rfl⟩
    rw [hlv] at hL
    have hll : Hid (l.length = 1 + d) := Lib.hid (by rw [← hlv, List.length_cons, hdh.out]; omega)
    have hlm : Hid (∀ (k : Nat) (q : Txs), 1 ≤ k → l[k]? = some q → q ∈ parts) := Lib.hid (fun k q hk hq => by
      rw [← hlv] at hq
      obtain ⟨j, rfl⟩ : ∃ j, k = j + 1 := ⟨k - 1, by omega⟩
      rw [List.getElem?_cons_succ] at hq
      exact (mem_diffs.1 (List.mem_of_getElem? hq)).1)
    have hlo : Hid (∀ p ∈ parts, l.count p = 1) := Lib.hid (fun p hp => by rw [← hlv]; exact once hp)
    have hSm : Hid (∀ (q : Nat) (A1 : Option Addr) (n1 c1 : Nat) (p : Txs) (A2 : Option Addr) (n2 c2 : Nat) (y : Txs), n1 ≤ c1 → c1 ≤ maxLen → n2 ≤ c2 → c2 ≤ maxLen → Strs wo w.heap.size A1 n1 p → Strs wo wo.heap.size A2 n2 y → Calls Try.prog 12 #[.slice A1 n1 c1, .slice A2 n2 c2] (wo.drewN q) fun e w' => e = .returned (.bool (decide (p = y))) ∧ ∃ k, w' = (wo.drewN q).drewN k) :=
      Lib.hid (fun q A1 n1 c1 p A2 n2 c2 y e1 e2 e3 e4 hp hy => Same_any A1 A2 n1 n2 c1 c2 _ _ p y _ (by omega) (by omega) (hp.drewN q) (hy.drewN q))
    have hRo := Lib.hid (hR.out wo hBe.out)
    have hb2 := hbd.out.2
    unfold maxLen at hb2
    clear hXh hle hD hF haw hT0 hlv hR
    go_wp2
    go_loopw [7, 8, 9] (fun s7 s8 _ wr => ∃ (k q : Nat), 1 ≤ k ∧ k ≤ 1 + d ∧ s8 = .int .i64 k ∧ s7 = .int .i64 k ∧ Hid (wr = wo.drewN q)) (fun _ s8 _ _ => 1 + d - (intOf s8).toNat)
    case atStart => exact ⟨1, 0, Nat.le_refl _, by omega, rfl, rfl, Lib.hid rfl⟩
    case round =>
      obtain ⟨k, q, hk1, hkd, rfl, rfl, hwr⟩ := hrel
      obtain ⟨wp, rfl⟩ : ∃ wp : World, wp = wr := ⟨_, rfl⟩
      by_cases hlt : k < 1 + d
      · obtain ⟨bl, ol, A2, n2, c2, y, rfl, hbl, hy, -, hcl, hnc2, hcm2, hst2⟩ := hL.out.at_ (k := k) hlt
        have hcl' : wp.cell? ⟨bl, ol + k, none⟩ = some (.slice A2 n2 c2) := by rw [hwr.out]; exact hcl
        have hyh := Lib.hid hy
        have hst2h := Lib.hid hst2
        have hk0 : (0 : Int) ≤ (k : Int) := by omega
        have hk3 : (k : Int) < 1 + (d : Int) := by omega
        have hk4 : (k : Int) < ((1 + d : Nat) : Int) := by omega
        have hclh := Lib.hid hcl
        clear hcl hy hst2
        go_wp2
        go_loopw [7, 9] (fun s7 s9 wr => ∃ (i q2 : Nat), i ≤ n ∧ s9 = .int .i64 i ∧ s7 = .int .i64 k ∧ Hid (∀ (a : Nat) (x : Txs), a < i → parts[a]? = some x → x ≠ y) ∧ Hid (wr = wo.drewN q2)) (fun _ s9 _ => n - (intOf s9).toNat)
        case atStart => exact ⟨0, q, Nat.zero_le _, rfl, rfl, Lib.hid (fun a x ha => absurd ha (by omega)), hwr⟩
        case round =>
          obtain ⟨i, q2, hin, rfl, rfl, hne, hwr2⟩ := hrel
          obtain ⟨wp, rfl⟩ : ∃ wp : World, wp = wr := ⟨_, rfl⟩
          have hcl' : wp.cell? ⟨bl, ol + k, none⟩ = some (.slice A2 n2 c2) := by
            rw [hwr2.out]; exact hclh.out
          by_cases hlt2 : i < n
          · obtain ⟨b, o, A1, n1, c1, p, rfl, hb, hp, -, hc, hnc, hcm, hst⟩ := hRo.out.at_ (k := i) hlt2
            have hc' : wp.cell? ⟨b, o + i, none⟩ = some (.slice A1 n1 c1) := by rw [hwr2.out]; exact hc
            obtain ⟨x, hx⟩ : ∃ x, decide (p = y) = x := ⟨_, rfl⟩
            have hS : Hid (∀ j, Calls Try.prog 12 #[.slice A1 n1 c1, .slice A2 n2 c2] (wp.drewN j) fun e w' => e = .returned (.bool x) ∧ ∃ k, w' = (wp.drewN j).drewN k) := Lib.hid (fun j => by
              rw [← hx, hwr2.out, World.drewN_drewN]
              exact hSm.out _ A1 n1 c1 p A2 n2 c2 y hnc hcm hnc2 hcm2 hst hst2h.out)
            have hxh : Hid (x = true ↔ p = y) := Lib.hid (by rw [← hx]; simp)
            have hi1 : (0 : Int) ≤ (i : Int) := by omega
            have hi2 : (i : Int) < (n : Int) := by omega
            have hph := Lib.hid hp
            clear hst hc hx hp
            go_wp2
            go_quiet ((go_at_call 12; exact Calls.quiet_of (hS.out _)))
            obtain ⟨z1, rfl⟩ : ∃ z1, z1 = nq := ⟨_, rfl⟩
            cases x
            · have hxn : Hid (p ≠ y) := Lib.hid (fun e => by have := hxh.out.2 e; cases this)
              clear hxh
              go_wp2
              go_roundw
              case rel =>
                refine ⟨i + 1, q2 + z1, by omega, by go_num, rfl, Lib.hid (fun a x ha hx => ?_), Lib.hid (by rw [hwr2.out, World.drewN_drewN])⟩
                rcases Nat.lt_or_ge a i with h | h
                · exact hne.out a x h hx
                · obtain rfl : a = i := by omega
                  rw [hph.out] at hx
                  injection hx with hx
                  rw [← hx]; exact hxn.out
              case measure => simp [intOf]; omega
            · clear hxh
              go_wp2
              go_roundw
              case rel => exact ⟨k + 1, q2 + z1, by omega, by omega, by go_num, by go_num, Lib.hid (by rw [hwr2.out, World.drewN_drewN])⟩
              case measure => simp [intOf]; omega
          · exfalso
            obtain ⟨a, ha⟩ := List.mem_iff_getElem?.1 (hlm.out k y hk1 hyh.out)
            exact hne.out a y (by have := (List.getElem?_eq_some_iff.1 ha).1; have := hplh.out; omega) ha rfl
      · obtain rfl : k = 1 + d := by omega
        go_wp2
        go_loopw [10, 11, 12] (fun s10 _ _ wr => ∃ (i q2 : Nat), i ≤ n ∧ s10 = .int .i64 i ∧ Hid (wr = wo.drewN q2)) (fun s10 _ _ _ => n - (intOf s10).toNat)
        case atStart => exact ⟨0, q, Nat.zero_le _, rfl, hwr⟩
        case round =>
          obtain ⟨i, q2, hin, rfl, hwr2⟩ := hrel
          obtain ⟨wp, rfl⟩ : ∃ wp : World, wp = wr := ⟨_, rfl⟩
          by_cases hlt2 : i < n
          · obtain ⟨b, o, A1, n1, c1, p, rfl, hb, hp, -, hc, hnc, hcm, hst⟩ := hRo.out.at_ (k := i) hlt2
            have hch := Lib.hid hc
            have hone := Lib.hid (hlo.out p (List.mem_of_getElem? hp))
            have hsth := Lib.hid hst
            have hi1 : (0 : Int) ≤ (i : Int) := by omega
            have hi2 : (i : Int) < (n : Int) := by omega
            clear hc hp hst
            go_wp2
            go_loopw [11, 12] (fun s11 s12 wr => ∃ (k q3 : Nat), k ≤ 1 + d ∧ s12 = .int .i64 k ∧ s11 = .int .i64 ((l.take k).count p : Nat) ∧ Hid (wr = wo.drewN q3)) (fun _ s12 _ => 1 + d - (intOf s12).toNat)
            case atStart => exact ⟨0, q2, Nat.zero_le _, rfl, by simp, hwr2⟩
            case round =>
              obtain ⟨k, q3, hkd, rfl, rfl, hwr3⟩ := hrel
              obtain ⟨wp, rfl⟩ : ∃ wp : World, wp = wr := ⟨_, rfl⟩
              obtain ⟨cn, hcn⟩ : ∃ cn, (l.take k).count p = cn := ⟨_, rfl⟩
              have hcnle : cn ≤ 7 := by
                have h1 := List.count_le_length (a := p) (l := l.take k)
                have h2 := List.length_take_le k l
                omega
              by_cases hlt3 : k < 1 + d
              · obtain ⟨bl, ol, A2, n2, c2, y, rfl, hbl, hy, -, hcl, hnc2, hcm2, hst2⟩ := hL.out.at_ (k := k) hlt3
                have hcl' : wp.cell? ⟨bl, ol + k, none⟩ = some (.slice A2 n2 c2) := by rw [hwr3.out]; exact hcl
                have hc' : wp.cell? ⟨b, o + i, none⟩ = some (.slice A1 n1 c1) := by rw [hwr3.out]; exact hch.out
                obtain ⟨x, hx⟩ : ∃ x, decide (p = y) = x := ⟨_, rfl⟩
                have hS : Hid (∀ j, Calls Try.prog 12 #[.slice A1 n1 c1, .slice A2 n2 c2] (wp.drewN j) fun e w' => e = .returned (.bool x) ∧ ∃ k, w' = (wp.drewN j).drewN k) := Lib.hid (fun j => by
                  rw [← hx, hwr3.out, World.drewN_drewN]
                  exact hSm.out _ A1 n1 c1 p A2 n2 c2 y hnc hcm hnc2 hcm2 hsth.out hst2)
                have hk1 : (0 : Int) ≤ (k : Int) := by omega
                have hk2 : (k : Int) < ((1 + d : Nat) : Int) := by omega
                have hk3 : (k : Int) < 1 + (d : Int) := by omega
                have hstep : Hid ((l.take (k + 1)).count p = cn + if x = true then 1 else 0) := Lib.hid (by
                  rw [take_at hy, List.count_append, hcn, ← hx]
                  by_cases e : p = y
                  · subst e; simp
                  · have : List.count p [y] = 0 := List.count_eq_zero.2 (by simpa using e)
                    rw [this]; simp [e])
                rw [hcn]
                clear hst2 hcl hx hy hcn
                go_wp2
                go_quiet ((go_at_call 12; exact Calls.quiet_of (hS.out _)))
                obtain ⟨z1, rfl⟩ : ∃ z1, z1 = nq := ⟨_, rfl⟩
                cases x
                · have hst3 : Hid ((l.take (k + 1)).count p = cn) := Lib.hid (by rw [hstep.out]; simp)
                  clear hstep
                  go_wp2
                  go_roundw
                  case rel => exact ⟨k + 1, q3 + z1, by omega, by go_num, by rw [hst3.out], Lib.hid (by rw [hwr3.out, World.drewN_drewN])⟩
                  case measure => simp [intOf]; omega
                · have hst3 : Hid ((l.take (k + 1)).count p = cn + 1) := Lib.hid (by rw [hstep.out]; simp)
                  clear hstep
                  go_wp2
                  go_roundw
                  case rel => exact ⟨k + 1, q3 + z1, by omega, by go_num, by rw [hst3.out]; go_num, Lib.hid (by rw [hwr3.out, World.drewN_drewN])⟩
                  case measure => simp [intOf]; omega
              · obtain rfl : k = 1 + d := by omega
                have hc1 : cn = 1 := by
                  rw [← hcn, List.take_of_length_le (by rw [hll.out]; exact Nat.le_refl _)]
                  exact hone.out
                subst hc1
                rw [hcn]
                clear hcn
                go_wp2
                go_roundw
                case rel => exact ⟨i + 1, q3, by omega, by go_num, hwr3⟩
                case measure => simp [intOf]; omega
          · obtain rfl : i = n := by omega
            go_wp2
            go_ret
            exact ⟨rfl, by rw [hwr2.out]; exact below_drewN hBe.out q2⟩
end
end Go.Proofs.Ytiokgfcndemadaa

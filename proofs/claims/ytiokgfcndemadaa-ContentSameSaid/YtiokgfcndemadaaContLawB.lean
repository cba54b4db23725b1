/- Proved here, out of the contracts of package content: the walk of ContentSame. -/
import Derived.Test.YtiokgfcndemadaaContLawA
namespace Go.Proofs.Ytiokgfcndemadaa
open Go.RowKit
set_option linter.unusedVariables false

/-- Are the parts, as far as place i, the base's; is each pair of them one of which is the base's, or the same? -/
def allTo (base : Txs) (ps : List Txs) (i : Nat) : Prop := ∀ (a : Nat) (x : Txs), a < i → ps[a]? = some x → x = base
def pairTo (base : Txs) (ps : List Txs) (p : Txs) (k : Nat) : Prop := ∀ (b : Nat) (y : Txs), b < k → ps[b]? = some y → pairOk base p y
def pairsTo (base : Txs) (ps : List Txs) (i : Nat) : Prop := ∀ (a : Nat) (x : Txs), a < i → ps[a]? = some x → pairTo base ps x a
section
variable {base p y : Txs} {ps : List Txs} {i k : Nat}
theorem allTo_step (h : ps[i]? = some p) : allTo base ps (i + 1) ↔ allTo base ps i ∧ p = base := by
  constructor
  · exact fun H => ⟨fun a x ha hx => H a x (by omega) hx, H i p (by omega) h⟩
  · rintro ⟨H, hp⟩ a x ha hx
    rcases Nat.lt_or_ge a i with hlt | hge
    · exact H a x hlt hx
    · obtain rfl : a = i := by omega
      rw [h] at hx
      injection hx with hx
      rw [← hx]; exact hp
theorem pairTo_step (h : ps[k]? = some y) : pairTo base ps p (k + 1) ↔ pairTo base ps p k ∧ pairOk base p y := by
  constructor
  · exact fun H => ⟨fun a x ha hx => H a x (by omega) hx, H k y (by omega) h⟩
  · rintro ⟨H, hp⟩ a x ha hx
    rcases Nat.lt_or_ge a k with hlt | hge
    · exact H a x hlt hx
    · obtain rfl : a = k := by omega
      rw [h] at hx
      injection hx with hx
      rw [← hx]; exact hp
theorem pairsTo_step (h : ps[i]? = some p) : pairsTo base ps (i + 1) ↔ pairsTo base ps i ∧ pairTo base ps p i := by
  constructor
  · exact fun H => ⟨fun a x ha hx => H a x (by omega) hx, H i p (by omega) h⟩
  · rintro ⟨H, hp⟩ a x ha hx
    rcases Nat.lt_or_ge a i with hlt | hge
    · exact H a x hlt hx
    · obtain rfl : a = i := by omega
      rw [h] at hx
      injection hx with hx
      rw [← hx]; exact hp
theorem allTo_end (h : ps.length = i) : allTo base ps i ↔ kindN base ps = 0 := by
  have : kindN base ps = 0 ↔ (diffs base ps).length = 0 := by unfold kindN; omega
  rw [this, diffs_zero]
  constructor
  · intro H x hx
    obtain ⟨a, ha⟩ := List.mem_iff_getElem?.1 hx
    exact H a x (by have := (List.getElem?_eq_some_iff.1 ha).1; omega) ha
  · exact fun H a x _ hx => H x (List.mem_of_getElem? hx)
theorem pairsTo_end (h : ps.length = i) : pairsTo base ps i ↔ kindN base ps ≤ 1 := by
  have : kindN base ps ≤ 1 ↔ (diffs base ps).length ≤ 1 := by unfold kindN; omega
  rw [this, diffs_one, ← pairs_at]
  constructor
  · exact fun H a k x y hk hx hy => H a x (by have := (List.getElem?_eq_some_iff.1 hx).1; omega) hx k y hk hy
  · exact fun H a x _ hx b y hb hy => H a b x y hb hx hy
end

section
variable (H : ContOk)
include H

set_option maxRecDepth 100000 in
set_option maxHeartbeats 4000000 in
theorem ContentSame_walk (A0 : Option Addr) (n0 c0 : Nat) (base : Txs) (A : Option Addr) (n c : Nat) (rows : List Slc) (parts : List Txs) (w : World) (h0 : TxR w w.heap.size (A0, n0, c0) base) (h1 : ArgTs w A n c rows parts) :
    Calls Try.prog 7 #[.slice A0 n0 c0, .slice A n c] w fun e w' => e = .returned (.bool true) ∧ Below w.heap.size w w' := by
  have hn0 : n0 ≤ maxLen := Nat.le_trans h0.1 h0.2.1
  have hn : n ≤ maxLen := Nat.le_trans h1.1 h1.2.1
  have hpl := h1.2.2.len
  have haw := Lib.hid (awake_any H w)
  obtain ⟨fb, hfb⟩ : ∃ fb, fewT base parts = fb := ⟨_, rfl⟩
  have hF := Lib.hid (fun (W : World) (hb : Below w.heap.size w W) => rFew_any A0 n0 c0 w.heap.size base A n c w.heap.size rows parts W hn0 hn (Strs.below h0.2.2 hb) (h1.2.2.below hb))
  rw [hfb] at hF
  cases fb
  · clear h0 h1 hfb
    go_enter Try.func7, Try.ntmps7
    go_wp2_with (first
      | (go_at_call 8; refine haw.out.mono ?_; rintro e w1 ⟨rfl, hb1⟩)
      | (go_at_call 9; refine (hF.out _ hb1).mono ?_; rintro e w2 ⟨rfl, rfl⟩))
    go_ret
    exact ⟨rfl, hb1⟩
  · obtain ⟨f1, f2, f3⟩ := fewT_parts hfb
    have hn6 : n ≤ 6 := by omega
    have hK := Lib.hid (fun (W : World) (hb : Below w.heap.size w W) => H.kind_ok A0 n0 c0 base A n c rows parts W h1.1 h1.2.1 (by omega) (h0.up hb) (h1.2.2.up hb))
    have hR := Lib.hid (fun (W : World) (hb : Below w.heap.size w W) => (h1.2.2.below hb))
    have hSb : Hid (∀ (W : World), Below w.heap.size w W → ∀ (A1 : Option Addr) (n1 c1 : Nat) (p : Txs), n1 ≤ c1 → c1 ≤ maxLen → Strs W w.heap.size A1 n1 p → Calls Try.prog 12 #[.slice A1 n1 c1, .slice A0 n0 c0] W fun e w' => e = .returned (.bool (decide (p = base))) ∧ ∃ k, w' = W.drewN k) := Lib.hid (fun W hb A1 n1 c1 p e1 e2 hp => Same_any A1 A0 n1 n0 c1 c0 _ _ p base W (by omega) hn0 hp (Strs.below h0.2.2 hb))
    obtain ⟨K, hKv⟩ : ∃ K, kindN base parts = K := ⟨_, rfl⟩
    rw [hKv] at hK
    have hKr : K ≤ 2 := by rw [← hKv]; unfold kindN; omega
    have hKh := Lib.hid hKv
    have hplh := Lib.hid hpl
    clear h0 h1 hfb f1 f2 f3 hKv hpl
    go_enter Try.func7, Try.ntmps7
    go_wp2_with (first
      | (go_at_call 8; refine haw.out.mono ?_; rintro e w1 ⟨rfl, hb1⟩)
      | (go_at_call 9; refine (hF.out _ hb1).mono ?_; rintro e w2 ⟨rfl, rfl⟩))
    go_loopw [6, 7, 8, 9] (fun s6 s7 s8 _ wr => ∃ (i : Nat) (av ov : Bool), i ≤ n ∧ s8 = .int .i64 i ∧ s6 = .bool av ∧ s7 = .bool ov ∧ Hid (av = true ↔ allTo base parts i) ∧ Hid (ov = true ↔ pairsTo base parts i) ∧ Hid (Below w.heap.size w wr)) (fun _ _ s8 _ _ => n - (intOf s8).toNat)
    case atStart => exact ⟨0, true, true, Nat.zero_le _, rfl, rfl, rfl, Lib.hid ⟨fun _ a x ha => absurd ha (by omega), fun _ => rfl⟩, Lib.hid ⟨fun _ a x ha => absurd ha (by omega), fun _ => rfl⟩, Lib.hid hb1⟩
    case round =>
      obtain ⟨i, av, ov, hin, rfl, rfl, rfl, hav, hov, hBe⟩ := hrel
      obtain ⟨wo, rfl⟩ : ∃ wo : World, wo = wr := ⟨_, rfl⟩
      clear hb1
      by_cases hlt : i < n
      · obtain ⟨b, o, A1, n1, c1, p, rfl, hb, hp, -, hc, hnc, hcm, hst⟩ := (hR.out wo hBe.out).at_ (k := i) hlt
        have hall := Lib.hid (allTo_step (base := base) hp)
        have hprs := Lib.hid (pairsTo_step (base := base) hp)
        have hi3 : (0 : Int) ≤ (i : Int) := by omega
        have hi4 : (i : Int) < (n : Int) := by omega
        obtain ⟨x1, hx1⟩ : ∃ x1, decide (p = base) = x1 := ⟨_, rfl⟩
        have hS1 : Hid (∀ (W : World), (∃ q, W = wo.drewN q) → Calls Try.prog 12 #[.slice A1 n1 c1, .slice A0 n0 c0] W fun e w' => e = .returned (.bool x1) ∧ ∃ k, w' = W.drewN k) := Lib.hid (fun W hW => by
          obtain ⟨q, rfl⟩ := hW
          rw [← hx1]
          exact hSb.out _ (below_drewN hBe.out q) A1 n1 c1 p hnc hcm (hst.drewN q))
        have hx1h : Hid (x1 = true ↔ p = base) := Lib.hid (by rw [← hx1]; simp)
        have hstp : Hid (∀ q, Strs (wo.drewN q) w.heap.size A1 n1 p) := Lib.hid (fun q => hst.drewN q)
        clear hp hx1 hst
        go_upto_region 9 with fail
        go_cut [6, 23, 24, 25, 26, 27, 28, 29, 30, 31] (fun s6 _ _ _ _ _ _ _ _ _ wx => ∃ av', s6 = .bool av' ∧ Hid (av' = true ↔ allTo base parts (i + 1)) ∧ Hid (∃ q, wx = wo.drewN q))
        case first =>
          cases av
          · go_wp2
            go_meet
            case rel => exact ⟨false, rfl, Lib.hid ⟨fun h => (by cases h), fun h => hav.out.2 (hall.out.1 h).1⟩, Lib.hid ⟨0, rfl⟩⟩
          · have hat := Lib.hid (hav.out.1 rfl)
            clear hav
            go_wp2_with (go_at_call 12; refine (hS1.out _ ⟨0, rfl⟩).mono ?_; rintro e w1 ⟨rfl, q, rfl⟩)
            go_meet
            case rel => exact ⟨x1, rfl, Lib.hid ⟨fun h => hall.out.2 ⟨hat.out, hx1h.out.1 h⟩, fun h => hx1h.out.2 (hall.out.1 h).2⟩, Lib.hid ⟨q, rfl⟩⟩
        case rest =>
          obtain ⟨av', rfl, hav', hwq⟩ := hcut
          obtain ⟨wp, rfl⟩ : ∃ wp : World, wp = wc := ⟨_, rfl⟩
          have hBp : Hid (Below w.heap.size w wp) := Lib.hid (by obtain ⟨q, rfl⟩ := hwq.out; exact below_drewN hBe.out q)
          go_wp2
          go_loopw [7, 9] (fun s7 s9 wr => ∃ (k : Nat) (ov' : Bool), k ≤ i ∧ s9 = .int .i64 k ∧ s7 = .bool ov' ∧ Hid (ov' = true ↔ pairsTo base parts i ∧ pairTo base parts p k) ∧ Hid (∃ q, wr = wo.drewN q)) (fun _ s9 _ => i - (intOf s9).toNat)
          case atStart => exact ⟨0, ov, Nat.zero_le _, rfl, rfl, Lib.hid ⟨fun h => ⟨hov.out.1 h, fun a x ha => absurd ha (by omega)⟩, fun h => hov.out.2 h.1⟩, hwq⟩
          case round =>
            obtain ⟨k, ov', hki, rfl, rfl, hov', hq⟩ := hrel
            obtain ⟨wp, rfl⟩ : ∃ wp : World, wp = wr := ⟨_, rfl⟩
            have hcp : wp.cell? ⟨b, o + i, none⟩ = some (.slice A1 n1 c1) := by obtain ⟨q, rfl⟩ := hq.out; exact hc
            have hBq : Hid (Below w.heap.size w wp) := Lib.hid (by obtain ⟨q, rfl⟩ := hq.out; exact below_drewN hBe.out q)
            clear hc hBp hwq
            by_cases hlt2 : k < i
            · obtain ⟨b', o', A2, n2, c2, y, he, hb', hy, -, hc', hnc', hcm', hst'⟩ := (hR.out wp hBq.out).at_ (k := k) (by omega)
              injection he with he
              injection he with he1 he2
              subst he1
              subst he2
              have hi1 : (0 : Int) ≤ (k : Int) := by omega
              have hi2 : (k : Int) < (n : Int) := by omega
              have hpr := Lib.hid (pairTo_step (base := base) (p := p) hy)
              obtain ⟨x2, hx2⟩ : ∃ x2, decide (y = base) = x2 := ⟨_, rfl⟩
              obtain ⟨x3, hx3⟩ : ∃ x3, decide (p = y) = x3 := ⟨_, rfl⟩
              have hSa := Lib.hid (fun j => hS1.out (wp.drewN j) (by obtain ⟨q, rfl⟩ := hq.out; exact ⟨q + j, World.drewN_drewN _ _ _⟩))
              have hSbb : Hid (∀ j, Calls Try.prog 12 #[.slice A2 n2 c2, .slice A0 n0 c0] (wp.drewN j) fun e w' => e = .returned (.bool x2) ∧ ∃ q, w' = (wp.drewN j).drewN q) := Lib.hid (fun j => by rw [← hx2]; exact hSb.out _ (below_drewN hBq.out j) A2 n2 c2 y hnc' hcm' (hst'.drewN j))
              have hSc : Hid (∀ j, Calls Try.prog 12 #[.slice A1 n1 c1, .slice A2 n2 c2] (wp.drewN j) fun e w' => e = .returned (.bool x3) ∧ ∃ q, w' = (wp.drewN j).drewN q) := Lib.hid (fun j => by
                rw [← hx3]
                have hstq : Strs (wp.drewN j) w.heap.size A1 n1 p := by obtain ⟨q, rfl⟩ := hq.out; rw [World.drewN_drewN]; exact hstp.out _
                exact Same_any A1 A2 n1 n2 c1 c2 _ _ p y _ (by omega) (by omega) hstq (hst'.drewN j))
              have hx2h : Hid (x2 = true ↔ y = base) := Lib.hid (by rw [← hx2]; simp)
              have hx3h : Hid (x3 = true ↔ p = y) := Lib.hid (by rw [← hx3]; simp)
              have hfin : Hid (∀ r : Bool, (r = true ↔ ov' = true ∧ (x1 = true ∨ x2 = true ∨ x3 = true)) → (r = true ↔ pairsTo base parts i ∧ pairTo base parts p (k + 1))) := Lib.hid (fun r hr => by
                rw [hr, hov'.out, hpr.out, hx1h.out, hx2h.out, hx3h.out, and_assoc]
                rfl)
              have hdr : Hid (∀ j, ∃ q, wp.drewN j = wo.drewN q) := Lib.hid (fun j => by obtain ⟨q, rfl⟩ := hq.out; exact ⟨_, World.drewN_drewN _ _ _⟩)
              clear hst' hy hx2 hx3
              cases ov'
              · have hf := Lib.hid (hfin.out false (by simp))
                clear hfin
                go_wp2
                go_quiet (fail)
                obtain ⟨z1, rfl⟩ : ∃ z1, z1 = nq := ⟨_, rfl⟩
                go_wp2
                go_roundw
                case rel => exact ⟨k + 1, false, by omega, by go_num, rfl, hf, Lib.hid (hdr.out z1)⟩
                case measure => simp [intOf]; omega
              · cases x1
                · cases x2
                  · have hf := Lib.hid (hfin.out x3 (by simp))
                    clear hfin
                    go_wp2
                    go_quiet ((go_at_call 12; first | with_reducible exact Calls.quiet_of (hSa.out _) | with_reducible exact Calls.quiet_of (hSbb.out _) | with_reducible exact Calls.quiet_of (hSc.out _)))
                    obtain ⟨z1, rfl⟩ : ∃ z1, z1 = nq := ⟨_, rfl⟩
                    go_wp2
                    go_roundw
                    case rel => exact ⟨k + 1, x3, by omega, by go_num, rfl, hf, Lib.hid (hdr.out z1)⟩
                    case measure => simp [intOf]; omega
                  · have hf := Lib.hid (hfin.out true (by simp))
                    clear hfin
                    go_wp2
                    go_quiet ((go_at_call 12; first | with_reducible exact Calls.quiet_of (hSa.out _) | with_reducible exact Calls.quiet_of (hSbb.out _) | with_reducible exact Calls.quiet_of (hSc.out _)))
                    obtain ⟨z1, rfl⟩ : ∃ z1, z1 = nq := ⟨_, rfl⟩
                    go_wp2
                    go_roundw
                    case rel => exact ⟨k + 1, true, by omega, by go_num, rfl, Lib.hid ⟨fun _ => hf.out.1 trivial, fun _ => rfl⟩, Lib.hid (hdr.out z1)⟩
                    case measure => simp [intOf]; omega
                · have hf := Lib.hid (hfin.out true (by simp))
                  clear hfin
                  go_wp2
                  go_quiet ((go_at_call 12; first | with_reducible exact Calls.quiet_of (hSa.out _) | with_reducible exact Calls.quiet_of (hSbb.out _) | with_reducible exact Calls.quiet_of (hSc.out _)))
                  obtain ⟨z1, rfl⟩ : ∃ z1, z1 = nq := ⟨_, rfl⟩
                  go_wp2
                  go_roundw
                  case rel => exact ⟨k + 1, true, by omega, by go_num, rfl, Lib.hid ⟨fun _ => hf.out.1 trivial, fun _ => rfl⟩, Lib.hid (hdr.out z1)⟩
                  case measure => simp [intOf]; omega
            · obtain rfl : k = i := by omega
              have hov2 : Hid (ov' = true ↔ pairsTo base parts (k + 1)) := Lib.hid (by rw [hov'.out, hprs.out])
              clear hov'
              go_wp2
              go_roundw
              case rel => exact ⟨k + 1, av', ov', by omega, by go_num, rfl, rfl, hav', hov2, hBq⟩
              case measure => simp [intOf]; omega
      · obtain rfl : i = n := by omega
        have ha : av = true ↔ K = 0 := by rw [hav.out, allTo_end hplh.out, hKh.out]
        have ho : ov = true ↔ K ≤ 1 := by rw [hov.out, pairsTo_end hplh.out, hKh.out]
        have hK' := hK.out wo hBe.out
        obtain rfl | rfl | rfl : K = 0 ∨ K = 1 ∨ K = 2 := by omega
        · obtain rfl : av = true := ha.2 rfl
          obtain rfl : ov = true := ho.2 (by omega)
          have hKc := Lib.hid hK'
          clear ha ho hK' hav hov
          go_wp2_with (go_at_call 16; refine hKc.out.mono ?_; rintro e w6 ⟨rfl, hb6⟩)
          go_ret
          exact ⟨rfl, hBe.out.trans (hb6.mono hBe.out.size)⟩
        · obtain rfl : av = false := by
            cases av with
            | false => rfl
            | true => have := ha.1 rfl; omega
          obtain rfl : ov = true := ho.2 (by omega)
          have hKc := Lib.hid hK'
          clear ha ho hK' hav hov
          go_wp2_with (go_at_call 16; refine hKc.out.mono ?_; rintro e w6 ⟨rfl, hb6⟩)
          go_ret
          exact ⟨rfl, hBe.out.trans (hb6.mono hBe.out.size)⟩
        · obtain rfl : av = false := by
            cases av with
            | false => rfl
            | true => have := ha.1 rfl; omega
          obtain rfl : ov = false := by
            cases ov with
            | false => rfl
            | true => have := ho.1 rfl; omega
          have hKc := Lib.hid hK'
          clear ha ho hK' hav hov
          go_wp2_with (go_at_call 16; refine hKc.out.mono ?_; rintro e w6 ⟨rfl, hb6⟩)
          go_ret
          exact ⟨rfl, hBe.out.trans (hb6.mono hBe.out.size)⟩
end
end Go.Proofs.Ytiokgfcndemadaa

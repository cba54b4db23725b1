/- Proved here: the contracts of the landed dots.Block, Strip, Unblock: what the statements ask of package dots. -/
import Derived.Test.YtoamkfegjhailaaConDots
import Derived.Test.YtoamkfegjhailaaDtOth
import Derived.Test.YtoamkfegjhailaaDtRef2
import Derived.Test.YtoamkfegjhailaaClonT
import Derived.Test.YtoamkfegjhailaaStepOwn
import Derived.Deep.DeepCutAuto
namespace Go.Proofs.Ytoamkfegjhailaa
open Go.RowKit
set_option linter.unusedVariables false
set_option maxRecDepth 100000

/-- What otherwise tells, of a box that the caller has just made. -/
theorem OthOut.fin {w w1 : World} {e : Ending} {ys : Txs} {b : Bool} {v : Value} (h : OthOut (w.alloc (.cells #[v] 4)) w1 e w.heap.size ys b) :
    ∃ G n, e = .returned (.slice (some ⟨G, 0, none⟩) n n) ∧ ys.length = n ∧ w.heap.size < G ∧ TxO w w1 (.slice (some ⟨G, 0, none⟩) n n) ys ∧ Boxed w1 w.heap.size 4 (.bool b) := by
  obtain ⟨G, n, rfl, hl, hG, hown, hbx, hbt⟩ := h
  have hs : (w.alloc (.cells #[v] 4)).heap.size = w.heap.size + 1 := push_size _ _
  rw [hs] at hG hown
  refine ⟨G, n, rfl, hl, by omega, ⟨by rw [hl]; exact own_lower hown (by omega), ?_⟩, hbx⟩
  have h1 : Below w.heap.size (w.alloc (.cells #[v] 4)) w1 := hbt.below (by rw [hs]; omega) (fun k hk => by omega)
  exact (below_alloc (Below.refl _ _) _).trans h1
theorem TxO.toB {w w2 : World} {v : Value} {xs : Txs} {b : Bool} (h : TxO w w2 v xs) : TxsB w w2 (.returned (.tuple #[v, .bool b])) (xs, b) := by
  obtain ⟨A, n, c, e, h1, h2⟩ := h.out
  injection e with e
  subst e
  exact ⟨A, n, c, rfl, h1, h2⟩

set_option maxHeartbeats 2000000 in
theorem block_anyL : DotBlockOk := by
  intro A n c l w hsm hA
  obtain ⟨i0, hi, hzz⟩ := Option.map_eq_some_iff.1 infoStr
  simp only [Prod.mk.injEq] at hzz
  obtain ⟨hz0, hz1, hz2⟩ := hzz
  obtain ⟨W0, hW0⟩ : ∃ W0, W0 = w.alloc (.cells #[.bool false] 4) := ⟨_, rfl⟩
  have hB0 : Below w.heap.size w W0 := by rw [hW0]; exact below_alloc (Below.refl _ _) _
  have hbox : Boxed W0 w.heap.size 4 (.bool false) := by rw [hW0]; exact Boxed.new _ _ _
  have hO := oth_any 19 w.heap.size dotT pointB A n c w.heap.size l W0 hsm (hA.2.2.below hB0) (Nat.le_refl _) hbox (enters_of Try.func19 (by kernel_rfl) rfl) (blockF_any _)
  have hlen : l.length ≤ 100000 := hsm.1
  have hOh : Hid (Calls Try.prog 18 #[.slice A n c, .func (.func 19) #[] #[.pointer (some ⟨w.heap.size, 0, none⟩)]] W0 fun e w1 => ∃ G m, e = .returned (.slice (some ⟨G, 0, none⟩) m m) ∧ (l.map dotT).length = m ∧ w.heap.size < G ∧ TxO w w1 (.slice (some ⟨G, 0, none⟩) m m) (l.map dotT) ∧ Boxed w1 w.heap.size 4 (.bool (dottedB l))) := Lib.hid (hO.mono fun e w1 h => by rw [hW0] at h; exact OthOut.fin h)
  have hbl : Hid (l.map dotT ++ [endD] = blockD l) := Lib.hid rfl
  have hml : (l.map dotT).length ≤ 100000 := by rw [List.length_map]; exact hlen
  obtain ⟨xs, hxs⟩ : ∃ xs, l.map dotT = xs := ⟨_, rfl⟩
  obtain ⟨b, hb⟩ : ∃ b, dottedB l = b := ⟨_, rfl⟩
  obtain ⟨R, hR⟩ : ∃ R, blockD l = R := ⟨_, rfl⟩
  rw [hxs] at hOh hbl hml
  rw [hb] at hOh ⊢
  rw [hR] at hbl ⊢
  have hW0h := Lib.hid hW0
  have hmlh := Lib.hid hml
  clear hO hA hsm hW0 hB0 hbox hxs hb hR hlen hml
  go_enter Try.func10, Try.ntmps10
  go_upto_region 2 with fail
  rw [← hW0h.out]
  go_upto_region 3 with (go_at_call 18; refine hOh.out.mono ?_; rintro e w1 ⟨G, m, rfl, hl, hG, hT, hbx⟩; have hlh := Lib.hid hl; have hTh := Lib.hid hT; have hbxh := Lib.hid hbx; have hGh := Lib.hid hG; clear hl hT hbx hG)
  have x0 := hbxh.out.cell
  have x1 : (w1.alloc (.cells #[.string ⟨#[46, 10]⟩] 9)).cell? ⟨w.heap.size, 0, none⟩ = some (.bool b) := (hbxh.out.alloc _).cell
  have hTd : TxO w w1.drew (.slice (some ⟨G, 0, none⟩) m m) xs := hTh.out.call (below_drew (Below.refl _ _))
  have hown : (w1.drew.alloc (.cells #[.string ⟨#[46, 10]⟩] 9)).ownsRow w.heap.size 9 1 (.slice (some ⟨G, 0, none⟩) m m) m (xs.map fun s => .string (str s)) := by
    have := hTd.own.alloc (.cells #[.string ⟨#[46, 10]⟩] 9)
    rw [hlh.out] at this
    exact this
  have hcell : Hid (∀ (W : World) (S : ByteArray) j x, ([.string S] : List Value)[j]? = some x → (W.alloc (.cells #[.string S] 9)).cell? ((⟨W.heap.size, 0, none⟩ : Addr).add j) = some x) := Lib.hid (fun W S j x hx => by
    rw [show (⟨W.heap.size, 0, none⟩ : Addr).add j = ⟨W.heap.size, j, none⟩ from by unfold Addr.add; split <;> simp_all, cells_of (one_a W _)]
    simpa using hx)
  have hmax : Hid (m + 1 ≤ maxLen ∧ (m + 1) * 16 ≤ 140737488355328) := Lib.hid (by have := hmlh.out; have := hlh.out; exact ⟨by unfold maxLen; omega, by omega⟩)
  have hbase : w.heap.size ≤ (w1.drew.alloc (.cells #[.string ⟨#[46, 10]⟩] 9)).heap.size := by have := hTd.below.size; simp at this ⊢; omega
  have hfin : Hid (∀ (v' : Value) (w2 : World), w2.ownsRow w.heap.size 9 1 v' (m + 1) ((xs.map fun s => .string (str s)) ++ [.string ⟨#[46, 10]⟩]) → (w1.drew.alloc (.cells #[.string ⟨#[46, 10]⟩] 9)).grownBy w2 (some G) →
      w2.cell? ⟨w.heap.size, 0, none⟩ = some (.bool b) ∧ TxO w w2 v' R) := Lib.hid (fun v' w2 h1 h2 => by
    refine ⟨?_, ?_⟩
    · have hb2 : Boxed (w1.drew.alloc (.cells #[.string ⟨#[46, 10]⟩] 9)) w.heap.size 4 (.bool b) := Boxed.alloc (W := w1.drew) hbxh.out _
      exact (hb2.kept h2 (by have := hGh.out; intro e; injection e with e; omega)).cell
    · rw [← hbl.out]
      exact hTd.push (s := endD) (by rw [hlh.out]; exact h1) h2)
  have hbase2 := hbase
  clear hTd
  go_region_law (refine step_append_own rfl (.tmp 9) (.tmp 10) 22 rfl w.heap.size 9 i0 (.string ByteArray.empty) 1 16 Try.underlying22 hi hz0 hz1 hz2 rfl (by decide) (.slice (some ⟨G, 0, none⟩) m m) m _ (by simp [Act.eval]) hown ⟨w1.heap.size, 0, none⟩ 1 1 [.string ⟨#[46, 10]⟩] (by simp [Act.eval]) rfl (hcell.out w1.drew _) (by simp; rfl) hmax.out.1 hmax.out.2 hbase ?_; intro v' w2 hown2 hg2 hloc2; obtain ⟨x2, hT2⟩ := hfin.out v' w2 hown2 hg2; have hT2h := Lib.hid hT2; clear hown2 hg2 hloc2 hT2)
  all_goals
    go_wp2
    go_ret2
    exact hT2h.out.toB

set_option maxHeartbeats 2000000 in
theorem strip_anyL : DotStripOk := by
  intro A n c l w hsm hA
  obtain ⟨W0, hW0⟩ : ∃ W0, W0 = w.alloc (.cells #[.bool false] 4) := ⟨_, rfl⟩
  have hB0 : Below w.heap.size w W0 := by rw [hW0]; exact below_alloc (Below.refl _ _) _
  have hbox : Boxed W0 w.heap.size 4 (.bool false) := by rw [hW0]; exact Boxed.new _ _ _
  have hO := oth_any 21 w.heap.size bareT pointB A n c w.heap.size l W0 hsm (hA.2.2.below hB0) (Nat.le_refl _) hbox (enters_of Try.func21 (by kernel_rfl) rfl) (stripF_any _)
  have hOh : Hid (Calls Try.prog 18 #[.slice A n c, .func (.func 21) #[] #[.pointer (some ⟨w.heap.size, 0, none⟩)]] W0 fun e w1 => ∃ G m, e = .returned (.slice (some ⟨G, 0, none⟩) m m) ∧ (l.map bareT).length = m ∧ w.heap.size < G ∧ TxO w w1 (.slice (some ⟨G, 0, none⟩) m m) (l.map bareT) ∧ Boxed w1 w.heap.size 4 (.bool (dottedB l))) := Lib.hid (hO.mono fun e w1 h => by rw [hW0] at h; exact OthOut.fin h)
  have hW0h := Lib.hid hW0
  clear hO hA hsm hW0 hB0 hbox
  go_enter Try.func11, Try.ntmps11
  go_upto_region 2 with fail
  rw [← hW0h.out]
  go_upto_region 3 with (go_at_call 18; refine hOh.out.mono ?_; rintro e w1 ⟨G, m, rfl, hl, hG, hT, hbx⟩; have hTh := Lib.hid hT; have hbxh := Lib.hid hbx; clear hl hT hbx hG)
  have x0 := hbxh.out.cell
  go_region
  all_goals
    go_wp2
    go_ret2
    exact (hTh.out.call (below_drew (Below.refl _ _))).toB

set_option maxHeartbeats 2000000 in
theorem unblock_anyL : DotUnblockOk := by
  intro A n c l w hsm hA
  have hl := hA.2.2.len
  dsimp only at hl
  have hn : n ≤ 100000 := by rw [← hl]; exact hsm.1
  have hAh := Lib.hid hA
  have hlh := Lib.hid hl
  have hb0 := Lib.hid (Below.refl w.heap.size w)
  obtain ⟨RR, hRR⟩ : ∃ RR, unblockD [] 0 l = RR := ⟨_, rfl⟩
  rw [hRR]
  have hRh : Hid (RR = unblockD (l.take 0) 0 (l.drop 0)) := Lib.hid hRR.symm
  clear hA hl hsm hRR
  go_enter Try.func16, Try.ntmps16
  go_wp2
  go_loop [4, 7] (fun _ i => ∃ k : Nat, k ≤ n ∧ i = .int .i64 k ∧ Hid (RR = unblockD (l.take k) k (l.drop k))) (fun _ i => n - (intOf i).toNat)
  case atStart => exact ⟨0, Nat.zero_le _, rfl, hRh⟩
  case round =>
    obtain ⟨k, hk, rfl, hm⟩ := hrel
    clear hRh
    by_cases hlt : k < n
    · obtain ⟨b, o, t, rfl, hb, ht, hc⟩ := Strs.at_ hAh.out.2.2 (k := k) hlt
      have hst := unblock_step l k t ht
      obtain ⟨S, hS⟩ : ∃ S, str t = S := ⟨_, rfl⟩
      rw [hS] at hc
      have he : (S.toList == [46, 10]) = decide (t = endD) := by
        rw [← hS, Lib.toList_data, str_data, Bool.eq_iff_iff, beq_iff_eq, decide_eq_true_eq]
        rfl
      by_cases hte : t = endD
      · have he2 : (S.toList == [46, 10]) = true := by rw [he, decide_eq_true hte]
        rw [if_pos hte] at hst
        have hRR : Hid (RR = (l.take k, k + 1)) := Lib.hid (by rw [hm.out, hst])
        obtain ⟨A', m', q', hsl, hT', hm'⟩ := slice_to (k := k) hAh.out (by omega)
        have hC := Lib.hid (cloneT_any A' m' q' w.heap.size (l.take k) w (by omega) (Nat.le_refl _) hT'.2.2)
        have hTh := Lib.hid hT'
        have hmh := Lib.hid hm'
        clear he hte hst hm ht hT' hS hm'
        go_wp2_with (go_at_call 24; refine hC.out.mono ?_; rintro e w1 ⟨v, rfl, hv⟩; have hvh := Lib.hid hv; clear hv)
        go_ret2
        rw [hRR.out]
        obtain ⟨A2, n2, c2, e2, h2, h3⟩ := hvh.out.out
        injection e2 with e2
        subst e2
        exact ⟨A2, n2, c2, by simp, h2, h3⟩
      · have he2 : (S.toList == [46, 10]) = false := by rw [he, decide_eq_false hte]
        rw [if_neg hte] at hst
        have hm2 : Hid (RR = unblockD (l.take (k + 1)) (k + 1) (l.drop (k + 1))) := Lib.hid (by rw [hm.out, hst])
        clear he hte hst hm ht hS
        go_wp2
        go_round
        case rel => exact ⟨k + 1, by omega, by go_num, hm2⟩
        case measure => simp [intOf]; omega
    · obtain rfl : k = n := by omega
      have hRR : Hid (RR = ([], 0)) := Lib.hid (by
        rw [hm.out, List.drop_of_length_le (by rw [hlh.out]; exact Nat.le_refl _)]
        cases l.take k <;> rfl)
      clear hm
      go_wp2
      go_ret2
      rw [hRR.out]
      exact ⟨none, 0, 0, rfl, TxR.nil _ _, hb0.out⟩

theorem dt_ok : DotsOk := ⟨block_anyL, unblock_anyL, strip_anyL⟩
end Go.Proofs.Ytoamkfegjhailaa

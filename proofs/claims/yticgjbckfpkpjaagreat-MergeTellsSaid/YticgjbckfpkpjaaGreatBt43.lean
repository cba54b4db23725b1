/- Proved here: texts joined: PkChoose, Mg. -/
import Derived.Test.YticgjbckfpkpjaaGreatBt08
import Derived.Test.YticgjbckfpkpjaaGreatBt09
import Derived.Test.YticgjbckfpkpjaaGreatBt27
import Derived.Test.YticgjbckfpkpjaaGreatBt42
/- Proved here: the contract of the landed pick.Choose. -/
namespace Go.Proofs.YticgjbckfpkpjaaGreat
open Go.RowKit
set_option linter.unusedVariables false

theorem chosen_yes {z : Int} {k : Nat} (hz : z = (k : Int) + 1) (t bs : Txs) {ss : List Txs} {x : Txs} (h : ss[k]? = some x) : chosen z (true, t, bs, ss) = x := by
  subst hz
  unfold chosen
  simp only [if_true]
  rw [if_pos (by omega), show ((k : Int) + 1 - 1).toNat = k by omega, h]
  rfl
theorem chosen_none {z : Int} (t bs : Txs) {ss : List Txs} (h : ¬ (1 ≤ z ∧ z ≤ ss.length)) : chosen z (true, t, bs, ss) = [] := by
  unfold chosen
  simp only [if_true]
  split
  · rw [List.getElem?_eq_none (by omega)]
    rfl
  · rfl

set_option maxRecDepth 100000 in
set_option maxHeartbeats 4000000 in
theorem choose_ok : PickChooseOk := by
  intro A n c vs ps z w hnc hcm hn hz hsum hA
  have hl := hA.len
  obtain ⟨i0, hi, hzz⟩ := Option.map_eq_some_iff.1 infoStr
  simp only [Prod.mk.injEq] at hzz
  obtain ⟨hz0, hz1, hz2⟩ := hzz
  have hAh := Lib.hid hA
  have hsumh := Lib.hid hsum
  have hst : Hid (TxO w w (.slice none 0 0) (choose (ps.take 0) z)) := Lib.hid ⟨World.ownsRow_nil _ _ _ _, Below.refl _ _⟩
  clear hA hsum hz
  go_enter Tryz.func24, Tryz.ntmps24
  go_wp2
  go_loopw [5, 7, 8, 9, 12] (fun s5 _ _ _ s12 wr => ∃ (i : Nat) (v : Value), i ≤ n ∧ v = s5 ∧ s12 = .int .i64 i ∧ Hid (TxO w wr v (choose (ps.take i) z))) (fun _ _ _ _ s12 _ => n - (intOf s12).toNat)
  case atStart => exact ⟨0, _, Nat.zero_le _, rfl, rfl, hst⟩
  case round =>
    obtain ⟨i, v, hin, rfl, rfl, hT⟩ := hrel
    obtain ⟨wo, rfl⟩ : ∃ wo : World, wo = wr := ⟨_, rfl⟩
    clear hst
    by_cases hlt : i < n
    · obtain ⟨b, o, cf, At, nt, ct, Ab, nb, cb, As, ns, cs, t, bs, ss, rfl, hb, hv, hp, k1, k2, k3, k4, ⟨j1, j2, j3⟩, -, ⟨j4, j5, rr, j6⟩⟩ := (hAh.out.below hT.out.below).at_ (k := i) hlt
      have i1 : (0 : Int) ≤ (i : Int) := by omega
      have i2 : (i : Int) < (n : Int) := by omega
      have hsn := Lib.hid (choose_snoc z hp)
      have hpre1 := choose_pre ps z (i + 1)
      rw [choose_snoc z hp, List.length_append] at hpre1
      have hbe := hT.out.below
      have hsz := hbe.size
      have hb2 : b < wo.heap.size := by omega
      dsimp only at j1 j2 j3 j4 j5 j6
      have hown : Hid (∀ o : Obj, (wo.alloc o).ownsRow w.heap.size 9 1 v (choose (ps.take i) z).length ((choose (ps.take i) z).map fun s => .string (str s)) ∧ w.heap.size ≤ (wo.alloc o).heap.size) := Lib.hid (fun o => ⟨hT.out.own.alloc o, by simp; omega⟩)
      have hput : Hid (∀ (o : Obj) (ys : Txs) (m : Nat) (v' : Value) (w2 : World), ys.length = m → w2.ownsRow w.heap.size 9 1 v' ((choose (ps.take i) z).length + m) (((choose (ps.take i) z).map fun s => .string (str s)) ++ ys.map fun s => .string (str s)) → (wo.alloc o).grownBy w2 v.ownBlock → TxO w w2 v' (choose (ps.take i) z ++ ys)) :=
        Lib.hid (fun o ys m v' w2 h1 h2 h3 => (show TxO w (wo.alloc o) v (choose (ps.take i) z) from ⟨hT.out.own.alloc o, hbe.alloc hsz o⟩).put h1 h2 h3)
      cases cf
      · have hlt2 := j3.len
        have hch : chosen z (false, t, bs, ss) = t := rfl
        rw [hch] at hpre1
        have hsn2 : Hid (choose (ps.take (i + 1)) z = choose (ps.take i) z ++ t) := hsn
        have hle : Hid ((choose (ps.take i) z).length + nt ≤ maxLen ∧ ((choose (ps.take i) z).length + nt) * 16 ≤ 140737488355328) := Lib.hid (by have := hsumh.out; unfold maxLen; omega)
        have hlth := Lib.hid hlt2
        have hrd : Hid (∀ o : Obj, Strs (wo.alloc o) w.heap.size At nt t) := Lib.hid (fun o => Reads.keep j3 fun p hp => World.cell?_alloc_lt _ _ p (by omega))
        clear hp hv hpre1 hch hsn j3 j6 hbe
        go_wp2_with (at_builtin; refine wpList_append_reads _ rfl _ _ 22 rfl w.heap.size 9 i0 (.string ByteArray.empty) 16 Tryz.underlying22 hi hz0 hz1 hz2 rfl v (choose (ps.take i) z).length _ rfl (hown.out _).1 w.heap.size At nt ct _ rfl (hrd.out _) (strs_one _) hle.out.1 hle.out.2 (hown.out _).2 ?_; intro v' w2 hown2 hg2; have hfin := Lib.hid (hput.out _ _ _ _ _ hlth.out hown2 hg2))
        go_roundw
        case rel => exact ⟨i + 1, _, by omega, rfl, by go_num, Lib.hid (by rw [hsn2.out]; exact hfin.out)⟩
        case measure => simp [intOf]; omega
      · have hssl := j6.len
        have hRr : Hid (∀ o : Obj, RowsT (wo.alloc o) w.heap.size As ns rr ss) := Lib.hid (fun o => j6.keep fun p hp => World.cell?_alloc_lt _ _ p (by omega))
        have hnb : ns ≤ maxLen := by omega
        by_cases hzk : 1 ≤ z ∧ z ≤ ns
        · obtain ⟨k, hk⟩ : ∃ k : Nat, z = (k : Int) + 1 := ⟨(z - 1).toNat, by omega⟩
          have hkn : k < ns := by omega
          have hSd : Hid (∀ o : Obj, Calls Tryz.prog 47 #[.slice As ns cs, .int .i64 z] (wo.alloc o) fun e w' => (∃ A1 n1 c1 x, e = .returned (.tuple #[.slice A1 n1 c1, .bool true]) ∧ chosen z (true, t, bs, ss) = x ∧ TxR (wo.alloc o) w.heap.size (A1, n1, c1) x) ∧ w' = wo.alloc o) := Lib.hid (fun o => by
            rw [hk]
            refine (sideOf_yes As ns cs k rr ss w.heap.size _ hnb hkn (hRr.out o)).mono ?_
            rintro e w' ⟨⟨A1, n1, c1, x, h1, h2, h3⟩, h4⟩
            exact ⟨⟨A1, n1, c1, x, h1, chosen_yes rfl t bs h2, h3⟩, h4⟩)
          have hpre1h := Lib.hid hpre1
          clear hp hv hpre1 j6 hzk hk hkn hssl hbe
          go_wp2_with (first
            | (go_at_call 47; refine (hSd.out _).mono ?_; rintro e w1 ⟨⟨A1, n1, c1, x, rfl, hx, hTx⟩, rfl⟩; have hxh := Lib.hid hx; have hTxh := Lib.hid hTx; have hle : Hid ((choose (ps.take i) z).length + n1 ≤ maxLen ∧ ((choose (ps.take i) z).length + n1) * 16 ≤ 140737488355328) := Lib.hid (by have h1 := hsumh.out; have h2 := hpre1h.out; have h3 := hTx.2.2.len; rw [hx] at h2; unfold maxLen; dsimp only at h3; omega); clear hx hTx)
            | (at_builtin; refine wpList_append_reads _ rfl _ _ 22 rfl w.heap.size 9 i0 (.string ByteArray.empty) 16 Tryz.underlying22 hi hz0 hz1 hz2 rfl v (choose (ps.take i) z).length _ rfl (hown.out _).1 w.heap.size A1 n1 c1 _ rfl hTxh.out.2.2 (strs_one _) hle.out.1 hle.out.2 (hown.out _).2 ?_; intro v' w2 hown2 hg2; have hfin := Lib.hid (hput.out _ _ _ _ _ hTxh.out.2.2.len hown2 hg2)))
          go_roundw
          case rel => exact ⟨i + 1, _, by omega, rfl, by go_num, Lib.hid (by rw [hsn.out, hxh.out]; exact hfin.out)⟩
          case measure => simp [intOf]; omega
        · have hno : Hid (chosen z (true, t, bs, ss) = []) := Lib.hid (chosen_none t bs (by rw [hssl]; exact hzk))
          have hSd : Hid (∀ o : Obj, Calls Tryz.prog 47 #[.slice As ns cs, .int .i64 z] (wo.alloc o) fun e w' => e = .returned (.tuple #[.slice none 0 0, .bool false]) ∧ w' = wo.alloc o) := Lib.hid (fun o => sideOf_no As ns cs z _ hnb hzk)
          have hfin : Hid (∀ o : Obj, TxO w (wo.alloc o) v (choose (ps.take i) z)) := Lib.hid (fun o => ⟨hT.out.own.alloc o, hbe.alloc hsz o⟩)
          clear hp hv hpre1 j6 hzk hssl hbe
          go_wp2_with (go_at_call 47; refine (hSd.out _).mono ?_; rintro e w1 ⟨rfl, rfl⟩)
          go_roundw
          case rel => exact ⟨i + 1, v, by omega, rfl, by go_num, Lib.hid (by rw [hsn.out, hno.out, List.append_nil]; exact hfin.out _)⟩
          case measure => simp [intOf]; omega
    · obtain rfl : i = n := by omega
      go_wp2
      go_ret
      have ht : ps.take i = ps := List.take_of_length_le (by omega)
      have := hT.out.out
      rw [ht] at this
      exact this
end Go.Proofs.YticgjbckfpkpjaaGreat
/- Proved here: the landed packages keep what the statements of layer 8 ask of them. -/
namespace Go.Proofs.YticgjbckfpkpjaaGreat
open Go.RowKit

theorem mg_ok : MergeOk := ⟨merge_any, choose_ok, clean_ok⟩
end Go.Proofs.YticgjbckfpkpjaaGreat

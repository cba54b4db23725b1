/- Proved here: texts joined: PkChoose, PkClean. -/
import Derived.Test.YtidfhgocnglnjaaBz11
import Derived.Test.YtidfhgocnglnjaaBz15
import Derived.Test.YtidfhgocnglnjaaBz18
import Derived.Test.YtidfhgocnglnjaaBz28
import Derived.RangeFuncBox
/- Proved here: the contract of the landed pick.Choose. -/
namespace Go.Proofs.Ytidfhgocnglnjaa
open Go.RowKit
set_option linter.unusedVariables false

theorem chosen_yes {z : Int} {k : Nat} (hz : z = (k : Int) + 1) (t bs : Txs) {ss : List Txs} {x : Txs} (h : ss[k]? = some x) : chosen z (true, t, bs, ss) = x := by
  subst hz
  unfold chosen
  simp only [if_true]
  rw [if_pos (by omega), show ((k : Int) + 1 - 1).toNat = k by omega, h]
  rfl
theorem chosen_none {z : Int} (t bs : Txs) {ss : List Txs} (h : ¬ (1 ≤ z ∧ z ≤ ss.length)) : chosen z (true, t, bs, ss) = [] := by
  unfold chosen
  simp only [if_true]
  split
  · rw [List.getElem?_eq_none (by omega)]
    rfl
  · rfl

set_option maxRecDepth 100000 in
set_option maxHeartbeats 4000000 in
theorem choose_ok : PickChooseOk := by
  intro A n c vs ps z w hnc hcm hn hz hsum hA
  have hl := hA.len
  obtain ⟨i0, hi, hzz⟩ := Option.map_eq_some_iff.1 infoStr
  simp only [Prod.mk.injEq] at hzz
  obtain ⟨hz0, hz1, hz2⟩ := hzz
  have hAh := Lib.hid hA
  have hsumh := Lib.hid hsum
  have hst : Hid (TxO w w (.slice none 0 0) (choose (ps.take 0) z)) := Lib.hid ⟨World.ownsRow_nil _ _ _ _, Below.refl _ _⟩
  clear hA hsum hz
  go_enter Try.func16, Try.ntmps16
  go_wp2
  go_loopw [5, 7, 8, 9, 12] (fun s5 _ _ _ s12 wr => ∃ (i : Nat) (v : Value), i ≤ n ∧ v = s5 ∧ s12 = .int .i64 i ∧ Hid (TxO w wr v (choose (ps.take i) z))) (fun _ _ _ _ s12 _ => n - (intOf s12).toNat)
  case atStart => exact ⟨0, _, Nat.zero_le _, rfl, rfl, hst⟩
  case round =>
    obtain ⟨i, v, hin, rfl, rfl, hT⟩ := hrel
    obtain ⟨wo, rfl⟩ : ∃ wo : World, wo = wr := ⟨_, rfl⟩
    clear hst
    by_cases hlt : i < n
    · obtain ⟨b, o, cf, At, nt, ct, Ab, nb, cb, As, ns, cs, t, bs, ss, rfl, hb, hv, hp, k1, k2, k3, k4, ⟨j1, j2, j3⟩, -, ⟨j4, j5, rr, j6⟩⟩ := (hAh.out.below hT.out.below).at_ (k := i) hlt
      have i1 : (0 : Int) ≤ (i : Int) := by omega
      have i2 : (i : Int) < (n : Int) := by omega
      have hsn := Lib.hid (choose_snoc z hp)
      have hpre1 := choose_pre ps z (i + 1)
      rw [choose_snoc z hp, List.length_append] at hpre1
      have hbe := hT.out.below
      have hsz := hbe.size
      have hb2 : b < wo.heap.size := by omega
      dsimp only at j1 j2 j3 j4 j5 j6
      have hown : Hid (∀ o : Obj, (wo.alloc o).ownsRow w.heap.size 9 1 v (choose (ps.take i) z).length ((choose (ps.take i) z).map fun s => .string (str s)) ∧ w.heap.size ≤ (wo.alloc o).heap.size) := Lib.hid (fun o => ⟨hT.out.own.alloc o, by simp; omega⟩)
      have hput : Hid (∀ (o : Obj) (ys : Txs) (m : Nat) (v' : Value) (w2 : World), ys.length = m → w2.ownsRow w.heap.size 9 1 v' ((choose (ps.take i) z).length + m) (((choose (ps.take i) z).map fun s => .string (str s)) ++ ys.map fun s => .string (str s)) → (wo.alloc o).grownBy w2 v.ownBlock → TxO w w2 v' (choose (ps.take i) z ++ ys)) :=
        Lib.hid (fun o ys m v' w2 h1 h2 h3 => (show TxO w (wo.alloc o) v (choose (ps.take i) z) from ⟨hT.out.own.alloc o, hbe.alloc hsz o⟩).put h1 h2 h3)
      cases cf
      · have hlt2 := j3.len
        have hch : chosen z (false, t, bs, ss) = t := rfl
        rw [hch] at hpre1
        have hsn2 : Hid (choose (ps.take (i + 1)) z = choose (ps.take i) z ++ t) := hsn
        have hle : Hid ((choose (ps.take i) z).length + nt ≤ maxLen ∧ ((choose (ps.take i) z).length + nt) * 16 ≤ 140737488355328) := Lib.hid (by have := hsumh.out; unfold maxLen; omega)
        have hlth := Lib.hid hlt2
        have hrd : Hid (∀ o : Obj, Strs (wo.alloc o) w.heap.size At nt t) := Lib.hid (fun o => Reads.keep j3 fun p hp => World.cell?_alloc_lt _ _ p (by omega))
        clear hp hv hpre1 hch hsn j3 j6 hbe
        go_wp2_with (at_builtin; refine wpList_append_reads _ rfl _ _ 22 rfl w.heap.size 9 i0 (.string ByteArray.empty) 16 Try.underlying22 hi hz0 hz1 hz2 rfl v (choose (ps.take i) z).length _ rfl (hown.out _).1 w.heap.size At nt ct _ rfl (hrd.out _) (strs_one _) hle.out.1 hle.out.2 (hown.out _).2 ?_; intro v' w2 hown2 hg2; have hfin := Lib.hid (hput.out _ _ _ _ _ hlth.out hown2 hg2))
        go_roundw
        case rel => exact ⟨i + 1, _, by omega, rfl, by go_num, Lib.hid (by rw [hsn2.out]; exact hfin.out)⟩
        case measure => simp [intOf]; omega
      · have hssl := j6.len
        have hRr : Hid (∀ o : Obj, RowsT (wo.alloc o) w.heap.size As ns rr ss) := Lib.hid (fun o => j6.keep fun p hp => World.cell?_alloc_lt _ _ p (by omega))
        have hnb : ns ≤ maxLen := by omega
        by_cases hzk : 1 ≤ z ∧ z ≤ ns
        · obtain ⟨k, hk⟩ : ∃ k : Nat, z = (k : Int) + 1 := ⟨(z - 1).toNat, by omega⟩
          have hkn : k < ns := by omega
          have hSd : Hid (∀ o : Obj, Calls Try.prog 30 #[.slice As ns cs, .int .i64 z] (wo.alloc o) fun e w' => (∃ A1 n1 c1 x, e = .returned (.tuple #[.slice A1 n1 c1, .bool true]) ∧ chosen z (true, t, bs, ss) = x ∧ TxR (wo.alloc o) w.heap.size (A1, n1, c1) x) ∧ w' = wo.alloc o) := Lib.hid (fun o => by
            rw [hk]
            refine (sideOf_yes As ns cs k rr ss w.heap.size _ hnb hkn (hRr.out o)).mono ?_
            rintro e w' ⟨⟨A1, n1, c1, x, h1, h2, h3⟩, h4⟩
            exact ⟨⟨A1, n1, c1, x, h1, chosen_yes rfl t bs h2, h3⟩, h4⟩)
          have hpre1h := Lib.hid hpre1
          clear hp hv hpre1 j6 hzk hk hkn hssl hbe
          go_wp2_with (first
            | (go_at_call 30; refine (hSd.out _).mono ?_; rintro e w1 ⟨⟨A1, n1, c1, x, rfl, hx, hTx⟩, rfl⟩; have hxh := Lib.hid hx; have hTxh := Lib.hid hTx; have hle : Hid ((choose (ps.take i) z).length + n1 ≤ maxLen ∧ ((choose (ps.take i) z).length + n1) * 16 ≤ 140737488355328) := Lib.hid (by have h1 := hsumh.out; have h2 := hpre1h.out; have h3 := hTx.2.2.len; rw [hx] at h2; unfold maxLen; dsimp only at h3; omega); clear hx hTx)
            | (at_builtin; refine wpList_append_reads _ rfl _ _ 22 rfl w.heap.size 9 i0 (.string ByteArray.empty) 16 Try.underlying22 hi hz0 hz1 hz2 rfl v (choose (ps.take i) z).length _ rfl (hown.out _).1 w.heap.size A1 n1 c1 _ rfl hTxh.out.2.2 (strs_one _) hle.out.1 hle.out.2 (hown.out _).2 ?_; intro v' w2 hown2 hg2; have hfin := Lib.hid (hput.out _ _ _ _ _ hTxh.out.2.2.len hown2 hg2)))
          go_roundw
          case rel => exact ⟨i + 1, _, by omega, rfl, by go_num, Lib.hid (by rw [hsn.out, hxh.out]; exact hfin.out)⟩
          case measure => simp [intOf]; omega
        · have hno : Hid (chosen z (true, t, bs, ss) = []) := Lib.hid (chosen_none t bs (by rw [hssl]; exact hzk))
          have hSd : Hid (∀ o : Obj, Calls Try.prog 30 #[.slice As ns cs, .int .i64 z] (wo.alloc o) fun e w' => e = .returned (.tuple #[.slice none 0 0, .bool false]) ∧ w' = wo.alloc o) := Lib.hid (fun o => sideOf_no As ns cs z _ hnb hzk)
          have hfin : Hid (∀ o : Obj, TxO w (wo.alloc o) v (choose (ps.take i) z)) := Lib.hid (fun o => ⟨hT.out.own.alloc o, hbe.alloc hsz o⟩)
          clear hp hv hpre1 j6 hzk hssl hbe
          go_wp2_with (go_at_call 30; refine (hSd.out _).mono ?_; rintro e w1 ⟨rfl, rfl⟩)
          go_roundw
          case rel => exact ⟨i + 1, v, by omega, rfl, by go_num, Lib.hid (by rw [hsn.out, hno.out, List.append_nil]; exact hfin.out _)⟩
          case measure => simp [intOf]; omega
    · obtain rfl : i = n := by omega
      go_wp2
      go_ret
      have ht : ps.take i = ps := List.take_of_length_le (by omega)
      have := hT.out.out
      rw [ht] at this
      exact this
end Go.Proofs.Ytidfhgocnglnjaa
/- Proved here: the contract of the landed pick.Clean. -/
namespace Go.Proofs.Ytidfhgocnglnjaa
open Go.RowKit
set_option linter.unusedVariables false

set_option maxHeartbeats 400000 in
theorem isConf_any (A1 A2 A3 : Option Addr) (n1 c1 n2 c2 n3 c3 : Nat) (cf : Bool) (w : World) :
    Calls Try.prog 37 #[.agg #[.bool cf, .slice A1 n1 c1, .slice A2 n2 c2, .slice A3 n3 c3]] w fun e w' => e = .returned (.bool cf) ∧ Below w.heap.size w w' := by
  go_enter Try.func37, Try.ntmps37
  go_wp2
  go_ret
  exact ⟨rfl, (Below.refl _ _).alloc (Nat.le_refl _) _⟩

theorem clean_upto {ps : List Pc} {k : Nat} {p : Pc} (h : ps[k]? = some p) : cleanB (ps.take (k + 1)) = (cleanB (ps.take k) && !p.1) := by
  rw [take_at h]
  unfold cleanB
  simp
theorem clean_conf {ps : List Pc} {k : Nat} {p : Pc} (h : ps[k]? = some p) (hp : p.1 = true) : cleanB ps = false := by
  unfold cleanB
  rw [List.all_eq_false]
  exact ⟨p, List.mem_of_getElem? h, by simp [hp]⟩

set_option maxRecDepth 100000 in
set_option maxHeartbeats 1000000 in
theorem indexConf_any (A : Option Addr) (n c : Nat) (vs : List PcV) (ps : List Pc) (w : World) (hn : n ≤ maxLen) (hA : Pcs w w.heap.size A n vs ps) :
    Calls Try.prog 46 #[.slice A n c, .func (.func 37) #[] #[]] w fun e w' => (∃ z : Int, e = .returned (.int .i64 z) ∧ decide (0 ≤ z) = !cleanB ps) ∧ Below w.heap.size w w' := by
  have hl := hA.len
  have hAh := Lib.hid hA
  have hlh := Lib.hid hl
  unfold maxLen at hn
  clear hA hl
  go_enter Try.func46, Try.ntmps46
  go_wp2
  go_loopw [5, 8] (fun _ i wr => ∃ k : Nat, k ≤ n ∧ i = .int .i64 k ∧ Hid (cleanB (ps.take k) = true) ∧ Hid (Below w.heap.size w wr)) (fun _ i _ => n - (intOf i).toNat)
  case atStart => exact ⟨0, Nat.zero_le _, rfl, Lib.hid rfl, Lib.hid (Below.refl _ _)⟩
  case round =>
    obtain ⟨k, hk, rfl, hq, hw⟩ := hrel
    obtain ⟨wo, rfl⟩ : ∃ wo : World, wo = wr := ⟨_, rfl⟩
    by_cases hlt : k < n
    · obtain ⟨b, o, cf, At, nt, ct, Ab, nb, cb, As, ns, cs, t, bs, ss, rfl, hb, hv, hp, k1, k2, k3, k4, j⟩ := (hAh.out.below hw.out).at_ (k := k) hlt
      have i1 : (0 : Int) ≤ (k : Int) := by omega
      have i2 : (k : Int) < (n : Int) := by omega
      have hsz := hw.out.size
      have hC := Lib.hid ((isConf_any At Ab As nt ct nb cb ns cs cf wo).mono fun e w' h => (⟨h.1, hw.out.trans (h.2.mono hsz)⟩ : _ ∧ Below w.heap.size w w'))
      have hph := Lib.hid hp
      clear hp hv j
      cases cf
      · go_wp2_with (go_at_call 37; refine hC.out.mono ?_; rintro e w1 ⟨rfl, hb1⟩; have hb1h := Lib.hid hb1; clear hb1)
        go_roundw
        case rel => exact ⟨k + 1, by omega, by go_num, Lib.hid (by rw [clean_upto hph.out, hq.out]; rfl), hb1h⟩
        case measure => simp [intOf]; omega
      · have hno := Lib.hid (clean_conf hph.out rfl)
        go_wp2_with (go_at_call 37; refine hC.out.mono ?_; rintro e w1 ⟨rfl, hb1⟩; have hb1h := Lib.hid hb1; clear hb1)
        go_ret
        exact ⟨⟨_, rfl, by rw [hno.out]; simp⟩, hb1h.out⟩
    · obtain rfl : k = n := by omega
      have hyes : Hid (cleanB ps = true) := Lib.hid (by have := hq.out; rwa [List.take_of_length_le (by rw [hlh.out]; exact Nat.le_refl _)] at this)
      go_wp2
      go_ret
      exact ⟨⟨_, rfl, by rw [hyes.out]; rfl⟩, hw.out⟩

set_option maxHeartbeats 800000 in
theorem containsConf_any (A : Option Addr) (n c : Nat) (vs : List PcV) (ps : List Pc) (w : World) (hn : n ≤ maxLen) (hA : Pcs w w.heap.size A n vs ps) :
    Calls Try.prog 36 #[.slice A n c, .func (.func 37) #[] #[]] w fun e w' => e = .returned (.bool (!cleanB ps)) ∧ Below w.heap.size w w' := by
  have hI := Lib.hid (indexConf_any A n c vs ps w hn hA)
  obtain ⟨r, hr⟩ : ∃ r, (!cleanB ps) = r := ⟨_, rfl⟩
  rw [hr] at hI ⊢
  clear hA hr hn
  go_enter Try.func36, Try.ntmps36
  go_wp2_with (go_at_call 46; refine hI.out.mono ?_; rintro e w1 ⟨⟨z, rfl, hz⟩, hb1⟩; have hb1h := Lib.hid hb1; have hzh := Lib.hid hz; clear hb1 hz)
  go_ret
  exact ⟨ret_bool hzh.out, hb1h.out⟩

set_option maxHeartbeats 800000 in
theorem clean_ok : PickCleanOk := by
  intro A n c vs ps w h1 h2 h3 h4
  have hC := Lib.hid (containsConf_any A n c vs ps w (Nat.le_trans h1 h2) h4)
  obtain ⟨r, hr⟩ : ∃ r, cleanB ps = r := ⟨_, rfl⟩
  rw [hr] at hC ⊢
  clear h1 h2 h3 h4 hr
  go_enter Try.func21, Try.ntmps21
  go_wp2_with (go_at_call 36; refine hC.out.mono ?_; rintro e w1 ⟨rfl, hb1⟩; have hb1h := Lib.hid hb1; clear hb1)
  go_ret
  exact ⟨ret_bool (by simp), hb1h.out⟩
end Go.Proofs.Ytidfhgocnglnjaa

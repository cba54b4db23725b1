/- Proved here: texts joined: ChPure, PickCh. -/
import Derived.Test.YtidfhgocnglnjaaBz02
import Derived.Test.YtidfhgocnglnjaaBz06
import Derived.Test.YtidfhgocnglnjaaBz11
import Derived.Deep.DeepCutAuto
import Derived.Outline
/- Proved here, without conditions: plain facts on what is chosen, piece by piece. -/
namespace Go.Proofs.Ytidfhgocnglnjaa
set_option linter.unusedVariables false

theorem choose_snoc {ps : List Pc} {i : Nat} {p : Pc} (n : Int) (h : ps[i]? = some p) : choose (ps.take (i + 1)) n = choose (ps.take i) n ++ chosen n p := by
  rw [take_at h]
  unfold choose
  rw [List.flatMap_append]
  simp
theorem choose_pre (ps : List Pc) (n : Int) (i : Nat) : (choose (ps.take i) n).length ≤ (choose ps n).length := by
  conv => rhs; rw [← List.take_append_drop i ps]
  unfold choose
  rw [List.flatMap_append, List.length_append]
  omega
/-- What is chosen among the sides, as far as place k. -/
def chosenTo (n : Int) (ss : List Txs) (k : Nat) : Txs := if 1 ≤ n ∧ (n - 1).toNat < k then (ss[(n - 1).toNat]?).getD [] else []
theorem chosenTo_step {n : Int} {ss : List Txs} {k : Nat} {x : Txs} (h : ss[k]? = some x) : chosenTo n ss (k + 1) = if (k : Int) = n - 1 then chosenTo n ss k ++ x else chosenTo n ss k := by
  unfold chosenTo
  by_cases e : (k : Int) = n - 1
  · have e1 : (n - 1).toNat = k := by omega
    rw [if_pos e, if_pos (by omega), if_neg (by omega), e1, h]
    rfl
  · rw [if_neg e]
    by_cases h2 : 1 ≤ n ∧ (n - 1).toNat < k
    · rw [if_pos (by omega), if_pos h2]
    · rw [if_neg (by omega), if_neg h2]
theorem chosenTo_end (n : Int) (t bs : Txs) (ss : List Txs) : chosenTo n ss ss.length = chosen n (true, t, bs, ss) := by
  unfold chosenTo chosen
  simp only [if_true]
  by_cases h : 1 ≤ n
  · by_cases h2 : (n - 1).toNat < ss.length
    · rw [if_pos ⟨h, h2⟩, if_pos h]
    · rw [if_neg (by omega), if_pos h, List.getElem?_eq_none (by omega)]
      rfl
  · rw [if_neg (by omega), if_neg h]
theorem chosenTo_len (n : Int) (t bs : Txs) (ss : List Txs) (k : Nat) : (chosenTo n ss k).length ≤ (chosen n (true, t, bs, ss)).length := by
  unfold chosenTo chosen
  simp only [if_true]
  by_cases h : 1 ≤ n
  · rw [if_pos h]
    split
    · exact Nat.le_refl _
    · simp
  · rw [if_neg (by omega)]; simp
end Go.Proofs.Ytidfhgocnglnjaa
/- Proved here: the contract of the document's own answer of layer 7: Choose. -/
namespace Go.Proofs.Ytidfhgocnglnjaa
open Go.RowKit
set_option linter.unusedVariables false

set_option maxRecDepth 100000 in
set_option maxHeartbeats 4000000 in
theorem rChoose_any (A : Option Addr) (n c : Nat) (vs : List PcV) (ps : List Pc) (z : Int) (w : World) (hn : n ≤ maxLen) (hz : inR64 z) (hsum : (choose ps z).length ≤ 1000000000) (hA : Pcs w w.heap.size A n vs ps) :
    Calls Try.prog 17 #[.slice A n c, .int .i64 z] w fun e w' => TxsOut w w' e (choose ps z) := by
  have hl := hA.len
  obtain ⟨i0, hi, hzz⟩ := Option.map_eq_some_iff.1 infoStr
  simp only [Prod.mk.injEq] at hzz
  obtain ⟨hz0, hz1, hz2⟩ := hzz
  have hAh := Lib.hid hA
  have hsumh := Lib.hid hsum
  have hzh := Lib.hid hz
  have hst : Hid (TxO w w (.slice none 0 0) (choose (ps.take 0) z)) := Lib.hid ⟨World.ownsRow_nil _ _ _ _, Below.refl _ _⟩
  unfold maxLen at hn
  clear hA hsum hz
  go_enter Try.func17, Try.ntmps17
  go_wp2
  go_loopw [5, 6, 7] (fun s5 s6 _ wr => ∃ (i : Nat) (v : Value), i ≤ n ∧ v = s5 ∧ s6 = .int .i64 i ∧ Hid (TxO w wr v (choose (ps.take i) z))) (fun _ s6 _ _ => n - (intOf s6).toNat)
  case atStart => exact ⟨0, _, Nat.zero_le _, rfl, rfl, hst⟩
  case round =>
    obtain ⟨i, v, hin, rfl, rfl, hT⟩ := hrel
    obtain ⟨wo, rfl⟩ : ∃ wo : World, wo = wr := ⟨_, rfl⟩
    clear hst
    by_cases hlt : i < n
    · obtain ⟨b, o, cf, At, nt, ct, Ab, nb, cb, As, ns, cs, t, bs, ss, rfl, hb, hv, hp, k1, k2, k3, k4, ⟨j1, j2, j3⟩, -, ⟨j4, j5, rr, j6⟩⟩ := (hAh.out.below hT.out.below).at_ (k := i) hlt
      have i1 : (0 : Int) ≤ (i : Int) := by omega
      have i2 : (i : Int) < (n : Int) := by omega
      have hsn := Lib.hid (choose_snoc z hp)
      have hpre1 := choose_pre ps z (i + 1)
      rw [choose_snoc z hp, List.length_append] at hpre1
      have hown := hT.out.own
      have hbe := hT.out.below
      obtain ⟨m, hm⟩ : ∃ m, (choose (ps.take i) z).length = m := ⟨_, rfl⟩
      dsimp only at j1 j2 j3 j4 j5 j6
      cases cf
      · have hlt2 := j3.len
        have hch : chosen z (false, t, bs, ss) = t := rfl
        rw [hch] at hpre1
        have hsn2 : Hid (choose (ps.take (i + 1)) z = choose (ps.take i) z ++ t) := hsn
        have hle : Hid ((choose (ps.take i) z).length + nt ≤ maxLen ∧ ((choose (ps.take i) z).length + nt) * 16 ≤ 140737488355328) := Lib.hid (by have := hsumh.out; unfold maxLen; omega)
        have hlth := Lib.hid hlt2
        clear hp hv hpre1 hch hsn hm
        go_wp2_with (at_builtin; refine wpList_append_reads _ rfl _ _ 22 rfl w.heap.size 9 i0 (.string ByteArray.empty) 16 Try.underlying22 hi hz0 hz1 hz2 rfl v (choose (ps.take i) z).length _ rfl hown w.heap.size At nt ct _ rfl j3 (strs_one _) hle.out.1 hle.out.2 hbe.size ?_; intro v' w2 hown2 hg2; have hfin := Lib.hid (hT.out.put hlth.out hown2 hg2); have hBw2 := hfin.out.below; have k1' : w2.cell? ⟨b, o + i * 4, none⟩ = some (.bool false) := (hBw2.cell (p := ⟨b, o + i * 4, none⟩) hb).trans ((hbe.cell (p := ⟨b, o + i * 4, none⟩) hb).symm.trans k1))
        go_loopw [5, 7] (fun s5 s7 wr => s5 = v' ∧ s7 = .int .i64 0 ∧ wr = w2) (fun _ _ _ => 0)
        case atStart => exact ⟨rfl, rfl, rfl⟩
        case round =>
          obtain ⟨rfl, rfl, rfl⟩ := hrel
          go_wp2
          go_roundw
          case rel => exact ⟨i + 1, _, by omega, rfl, by go_num, Lib.hid (by rw [hsn2.out]; exact hfin.out)⟩
          case measure => simp [intOf]; omega
      · have hpre : Hid (∀ k, (chosenTo z ss k).length ≤ (chosen z (true, t, bs, ss)).length) := Lib.hid (fun k => chosenTo_len z t bs ss k)
        have hssl := j6.len
        have hend : Hid (chosenTo z ss ns = chosen z (true, t, bs, ss)) := Lib.hid (by rw [← hssl]; exact chosenTo_end z t bs ss)
        have hpre1h := Lib.hid hpre1
        have h00 : Hid (TxO w wo v (choose (ps.take i) z ++ chosenTo z ss 0)) := Lib.hid (by
          have : chosenTo z ss 0 = [] := by unfold chosenTo; rw [if_neg (by omega)]
          rw [this, List.append_nil]; exact hT.out)
        have hRr : Hid (∀ W, Below w.heap.size w W → RowsT W w.heap.size As ns rr ss ∧ W.cell? ⟨b, o + i * 4, none⟩ = some (.bool true) ∧ W.cell? ⟨b, o + i * 4 + 3, none⟩ = some (.slice As ns cs)) := Lib.hid (fun W hW => by
          have key : ∀ q : Addr, q.block < w.heap.size → W.cell? q = wo.cell? q := fun q hq => (hW.cell hq).trans (hbe.cell hq).symm
          exact ⟨j6.keep key, (key ⟨b, o + i * 4, none⟩ hb).trans k1, (key ⟨b, o + i * 4 + 3, none⟩ hb).trans k4⟩)
        have hnb : ns ≤ 9223372036854775807 := by unfold maxLen at j5; omega
        clear hp hv hpre1 hm hown hbe j6 k2 k3 k4 hT
        go_wp2
        go_loopw [5, 7] (fun s5 s7 wr => ∃ (k : Nat) (v : Value), k ≤ ns ∧ v = s5 ∧ s7 = .int .i64 k ∧ Hid (TxO w wr v (choose (ps.take i) z ++ chosenTo z ss k))) (fun _ s7 _ => ns - (intOf s7).toNat)
        case atStart => exact ⟨0, _, Nat.zero_le _, rfl, rfl, h00⟩
        case round =>
          obtain ⟨k, v, hk, rfl, rfl, hT⟩ := hrel
          obtain ⟨wp, rfl⟩ : ∃ wp : World, wp = wr := ⟨_, rfl⟩
          clear h00
          obtain ⟨hRk, c1, c2⟩ := hRr.out wp hT.out.below
          by_cases hlt3 : k < ns
          · obtain ⟨b2, o2, A2, n2, c2', x, rfl, hb2, hx, -, hc2, hnc, hcm, hst2⟩ := hRk.at_ (k := k) hlt3
            have hstp := Lib.hid (chosenTo_step (n := z) hx)
            have hwr := wrap_pred (n := z) hzh.out hlt3 hnb
            have i3 : (0 : Int) ≤ (k : Int) := by omega
            have i4 : (k : Int) < (ns : Int) := by omega
            have hxl := Lib.hid hst2.len
            clear hx hRk
            by_cases hkz : (k : Int) = z - 1
            · have hd : ((k : Int) == wrap64 (z - 1)) = true := by rw [← IntWalk.i64_left, hwr]; simpa using hkz
              have hstq : Hid (chosenTo z ss (k + 1) = chosenTo z ss k ++ x) := Lib.hid (by rw [hstp.out, if_pos hkz])
              have hown := hT.out.own
              have hbz := hT.out.below.size
              have hle : Hid ((choose (ps.take i) z ++ chosenTo z ss k).length + n2 ≤ maxLen ∧ ((choose (ps.take i) z ++ chosenTo z ss k).length + n2) * 16 ≤ 140737488355328) := Lib.hid (by
                have h1 := hpre1h.out
                have h2 := hpre.out (k + 1)
                rw [hstq.out, List.length_append] at h2
                have h3 := hsumh.out
                have h4 := hxl.out
                rw [List.length_append]
                unfold maxLen
                omega)
              clear hwr hkz
              go_wp2_with (at_builtin; refine wpList_append_reads _ rfl _ _ 22 rfl w.heap.size 9 i0 (.string ByteArray.empty) 16 Try.underlying22 hi hz0 hz1 hz2 rfl v (choose (ps.take i) z ++ chosenTo z ss k).length _ rfl hown w.heap.size A2 n2 c2' _ rfl hst2 (strs_one _) hle.out.1 hle.out.2 hbz ?_; intro v' w2 hown2 hg2; have hfin := Lib.hid (hT.out.put hxl.out hown2 hg2))
              go_roundw
              case rel => exact ⟨k + 1, v', by omega, rfl, by go_num, Lib.hid (by rw [hstq.out, ← List.append_assoc]; exact hfin.out)⟩
              case measure => simp [intOf]; omega
            · have hd : ((k : Int) == wrap64 (z - 1)) = false := by rw [← IntWalk.i64_left, hwr]; simpa using hkz
              have hstq : Hid (chosenTo z ss (k + 1) = chosenTo z ss k) := Lib.hid (by rw [hstp.out, if_neg hkz])
              clear hwr hkz
              go_wp2
              go_roundw
              case rel => exact ⟨k + 1, v, by omega, rfl, by go_num, Lib.hid (by rw [hstq.out]; exact hT.out)⟩
              case measure => simp [intOf]; omega
          · obtain rfl : k = ns := by omega
            go_wp2
            go_roundw
            case rel => exact ⟨i + 1, v, by omega, rfl, by go_num, Lib.hid (by rw [hsn.out, ← hend.out]; exact hT.out)⟩
            case measure => simp [intOf]; omega
    · obtain rfl : i = n := by omega
      go_wp2
      go_ret
      have ht : ps.take i = ps := List.take_of_length_le (by omega)
      have := hT.out.out
      rw [ht] at this
      exact this
end Go.Proofs.Ytidfhgocnglnjaa

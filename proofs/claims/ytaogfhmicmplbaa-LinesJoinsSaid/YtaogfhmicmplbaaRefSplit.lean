/- Proved here: the document's own Split and Join of layer 1, for at most 10^12 bytes. -/
import Derived.Test.YtaogfhmicmplbaaRef
import Derived.Maps.AppendAt
import Derived.RangeFuncBox
namespace Go.Proofs.Ytaogfhmicmplbaa
open Go.RowKit
set_option linter.unusedVariables false

theorem infoStr' : (Try.prog.info? 9).map (fun i => (i.zero, i.size, i.bytes)) = some (some (.string ByteArray.empty), 1, 16) := by kernel_rfl

theorem cut_line {bs : List UInt8} {a k : Nat} (hak : a ≤ k) (hk : k < bs.length) (hno : ∀ c ∈ (bs.drop a).take (k - a), c ≠ 10) (h : ((bs[k].toNat : Int) == 10) = true) : splitL (bs.drop a) = (bs.drop a).take (k + 1 - a) :: splitL (bs.drop (k + 1)) := by
  rw [is10, beq_iff_eq] at h
  have e : (bs.drop a).take (k + 1 - a) = (bs.drop a).take (k - a) ++ [10] := by
    rw [show k + 1 - a = (k - a) + 1 from by omega, List.take_succ_eq_append_getElem (by simp; omega)]
    rw [List.getElem_drop]
    congr 2
    rw [← h]; congr 1; omega
  have e2 : bs.drop a = (bs.drop a).take (k - a) ++ 10 :: bs.drop (k + 1) := by
    conv => lhs; rw [← List.take_append_drop (k + 1 - a) (bs.drop a)]
    rw [e, List.drop_drop, show a + (k + 1 - a) = k + 1 from by omega]
    simp
  rw [e]
  conv => lhs; rw [e2]
  exact splitL_seg hno _
theorem no_line {bs : List UInt8} {a k : Nat} (hak : a ≤ k) (hk : k < bs.length) (hno : ∀ c ∈ (bs.drop a).take (k - a), c ≠ 10) (h : ((bs[k].toNat : Int) == 10) = false) : ∀ c ∈ (bs.drop a).take (k + 1 - a), c ≠ 10 := by
  rw [is10, beq_eq_false_iff_ne] at h
  intro c hc
  rw [show k + 1 - a = (k - a) + 1 from by omega, List.take_succ_eq_append_getElem (by simp; omega)] at hc
  rcases List.mem_append.1 hc with hc | hc
  · exact hno c hc
  · rw [List.getElem_drop] at hc
    have : c = bs[k] := by
      have := List.mem_singleton.1 hc
      rw [this]; congr 1; omega
    rw [this]; exact h

set_option maxHeartbeats 1000000 in
theorem rSplit_any (A : Option Addr) (n c : Nat) (bs : List UInt8) (w : World) (hlen : n ≤ 1000000000000) (hnc : n ≤ c) (hA : Byts w w.heap.size A n bs) :
    Calls Try.prog 11 #[.slice A n c] w fun e w' => ∃ v, e = .returned v ∧ w'.ownsRow w.heap.size 9 1 v (splitL bs).length ((splitL bs).map fun s => Value.string (str s)) ∧ Below w.heap.size w w' := by
  obtain ⟨i0, hi, hz0, hz1, hz2⟩ := info_parts infoStr'
  have hl := hA.len
  go_enter Try.func11, Try.ntmps11
  go_wp2
  go_loopw [3, 4, 5] (fun v at' i wr => ∃ k a : Nat, ∃ done : List (List UInt8), a ≤ k ∧ k ≤ n ∧ done.length ≤ k ∧ at' = .int .i64 a ∧ i = .int .i64 k ∧ Hid (splitL bs = done ++ splitL (bs.drop a)) ∧ (∀ c ∈ (bs.drop a).take (k - a), c ≠ 10) ∧
    wr.ownsRow w.heap.size 9 1 v done.length (done.map fun s => Value.string (str s)) ∧ Below w.heap.size w wr) (fun _ _ i _ => n - (intOf i).toNat)
  case atStart => exact ⟨0, 0, [], Nat.le_refl _, Nat.zero_le _, Nat.le_refl _, rfl, rfl, Lib.hid rfl, by simp, World.ownsRow_nil _ _ _ _, Below.refl _ _⟩
  case round =>
    obtain ⟨k, a, done, hak, hk, hdk, rfl, rfl, hs, hno, hown, hB⟩ := hrel
    have hno' := Lib.hid hno
    clear hno
    by_cases hlt : k < n
    · obtain ⟨b, o, rfl, hb, hc⟩ : ∃ b o, A = some ⟨b, o, none⟩ ∧ b < w.heap.size ∧ wr.cell? ⟨b, o + k, none⟩ = some (.int .u8 ((bs.getD k 0).toNat : Int)) := by
        obtain ⟨b, o, u, e, hb, hu, hc⟩ := Reads.at_ (hA.below hB) (k := k) hlt
        refine ⟨b, o, e, hb, ?_⟩
        rw [hc]
        rw [List.getElem?_map] at hu
        cases h : bs[k]? with
        | none => rw [h] at hu; cases hu
        | some t => rw [h] at hu; simp at hu; simp [h, ← hu]
      have hcv := conv_bytes (P := Try.prog) ((hA.below hB).cut (a := a) (m := k + 1 - a) (by omega)) (c - a) Try.underlying22 Try.underlying5 Try.underlying9
      obtain ⟨seg, hseg⟩ : ∃ seg, seg = (bs.drop a).take (k + 1 - a) := ⟨_, rfl⟩
      rw [← hseg] at hcv
      have hseg' := Lib.hid hseg
      clear hseg
      have hk' : k < bs.length := by omega
      have hmax : done.length + 1 ≤ maxLen := by unfold maxLen; omega
      go_wp2_with (at_builtin; refine wpList_append_own _ rfl _ _ 24 rfl w.heap.size 9 i0 (.string ByteArray.empty) 1 16 Try.underlying24 hi hz0 hz1 hz2 rfl (by decide) _ _ _ rfl (hown.alloc _) ⟨wr.heap.size, 0, none⟩ 1 1 [.string (str seg)] rfl rfl (cell_one_new _ _ _) (by simp [Value.oneCell']) hmax (by omega) (by have := hB.size; simp; omega) ?_; intro v' w1 hown' hgrow _)
      · have h : ((bs[k].toNat : Int) == 10) = true := by assumption
        go_roundw
        case rel =>
          refine ⟨k + 1, k + 1, done ++ [seg], Nat.le_refl _, by omega, by simp; omega, by go_num, by go_num, Lib.hid ?_, by simp, ?_, ?_⟩
          · rw [hs.out, hseg'.out, List.append_assoc, cut_line hak hk' hno'.out h]; rfl
          · simpa using hown'
          · exact hB.trans (((Below.refl _ _).alloc hB.size _).grown hgrow (by have := hB.size; simp; omega) (fun g e => (hown.lt g e).1))
        case measure => simp [intOf]; omega
      · have h : ((bs[k].toNat : Int) == 10) = false := by assumption
        go_roundw
        case rel => exact ⟨k + 1, a, done, by omega, by omega, by omega, rfl, by go_num, hs, no_line hak hk' hno'.out h, hown, hB⟩
        case measure => simp [intOf]; omega
    · obtain rfl : k = n := by omega
      by_cases hal : a < k
      · obtain ⟨b, o, rfl⟩ : ∃ b o, A = some ⟨b, o, none⟩ := by
          obtain ⟨b, o, u, e, _⟩ := Reads.at_ (hA.below hB) (k := a) hal
          exact ⟨b, o, e⟩
        have hcv := conv_bytes (P := Try.prog) ((hA.below hB).cut (a := a) (m := k - a) (by omega)) (c - a) Try.underlying22 Try.underlying5 Try.underlying9
        obtain ⟨seg, hseg⟩ : ∃ seg, seg = (bs.drop a).take (k - a) := ⟨_, rfl⟩
        rw [← hseg] at hcv hno'
        have hseg' := Lib.hid hseg
        clear hseg
        have hmax : done.length + 1 ≤ maxLen := by unfold maxLen; omega
        go_wp2_with (at_builtin; refine wpList_append_own _ rfl _ _ 24 rfl w.heap.size 9 i0 (.string ByteArray.empty) 1 16 Try.underlying24 hi hz0 hz1 hz2 rfl (by decide) _ _ _ rfl (hown.alloc _) ⟨wr.heap.size, 0, none⟩ 1 1 [.string (str seg)] rfl rfl (cell_one_new _ _ _) (by simp [Value.oneCell']) hmax (by omega) (by have := hB.size; simp; omega) ?_; intro v' w1 hown' hgrow _)
        go_ret
        have hsp : splitL bs = done ++ [seg] := by
          have e : bs.drop a = seg := by rw [hseg'.out, List.take_of_length_le (by simp; omega)]
          rw [hs.out, e, splitL_one hno'.out (by intro h0; have := congrArg List.length e; rw [h0] at this; simp at this; omega)]
        refine ⟨_, rfl, ?_, ?_⟩
        · rw [hsp]; simpa using hown'
        · exact hB.trans (((Below.refl _ _).alloc hB.size _).grown hgrow (by have := hB.size; simp; omega) (fun g e => (hown.lt g e).1))
      · go_wp2
        go_ret
        have hsp : splitL bs = done := by rw [hs.out, List.drop_of_length_le (by omega)]; simp [splitL]
        exact ⟨_, rfl, by rw [hsp]; exact hown, hB⟩
theorem str_append (a b : List UInt8) : str a ++ str b = str (a ++ b) := by
  simp [str, ByteArray.ext_iff]

set_option maxHeartbeats 400000 in
theorem rJoin_any (A : Option Addr) (n c B : Nat) (ss : List (List UInt8)) (w : World) (hn : n ≤ maxLen) (hT : ss.flatten.length ≤ 1000000000000) (hA : Strs w B A n ss) :
    Calls Try.prog 17 #[.slice A n c] w fun e w' => e = .returned (.string (str ss.flatten)) ∧ w = w' := by
  unfold maxLen at hn
  have hl := hA.len
  go_enter Try.func17, Try.ntmps17
  go_wp2
  go_loop [3, 4] (fun v i => ∃ k : Nat, ∃ acc : ByteArray, k ≤ n ∧ i = .int .i64 k ∧ v = .string acc ∧ Hid (acc = str (ss.take k).flatten)) (fun _ i => n - (intOf i).toNat)
  case atStart => exact ⟨0, _, Nat.zero_le _, rfl, rfl, Lib.hid rfl⟩
  case round =>
    obtain ⟨k, acc, hk, rfl, rfl, hacc⟩ := hrel
    by_cases hlt : k < n
    · obtain ⟨b, o, t, rfl, _, ht, hc⟩ := hA.at_ (k := k) hlt
      have hft := Lib.hid (flat_take ht)
      have hsz : acc.size + (str t).size ≤ 1000000000000 := by
        have := flat_len ss (k + 1)
        rw [flat_take ht, List.length_append] at this
        rw [hacc.out, str_size, str_size]; omega
      go_wp2
      go_round
      case rel => exact ⟨k + 1, acc ++ str t, by omega, by go_num, rfl, Lib.hid (by rw [hft.out, hacc.out, str_append])⟩
      case measure => simp [intOf]; omega
    · go_wp2
      go_ret
      obtain rfl : k = n := by omega
      exact ⟨ret_string (by rw [hacc.out, List.take_of_length_le (by omega)]), rfl⟩
end Go.Proofs.Ytaogfhmicmplbaa

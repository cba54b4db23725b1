/- Proved here: lines.Join makes of any lists of strings, of at most 10^12 bytes together, the slice of all their bytes, in new memory. -/
import Derived.Lib.AppendStr
import Derived.Test.YtaogfhmicmplbaaLines
namespace Go.Proofs.Ytaogfhmicmplbaa
open Go.RowKit
set_option linter.unusedVariables false

theorem infoByte : (Try.prog.info? 5).map (fun i => (i.zero, i.size, i.bytes)) = some (some (.int .u8 0), 1, 1) := by kernel_rfl

theorem bcs_append (a b : List UInt8) : bcs (a ++ b) = bcs a ++ bcs b := by simp [bcs]
theorem strCells_str (l : List UInt8) : Lib.strCells (str l) = bcs l := by unfold Lib.strCells bcs; rw [str_data]

set_option maxHeartbeats 400000 in
theorem Join_any (A : Option Addr) (m c : Nat) (rows : List (Option Addr × Nat × Nat)) (sss : List (List (List UInt8))) (w : World) (hm : m ≤ maxLen) (hrn : ∀ ss ∈ sss, ss.length ≤ maxLen)
    (hT : (joinL sss).length ≤ 1000000000000) (hA : Rows2 w w.heap.size A m rows sss) :
    Calls Try.prog 15 #[.slice A m c] w fun e w' => ∃ v, e = .returned v ∧ w'.ownsRow w.heap.size 5 1 v (joinL sss).length (bcs (joinL sss)) ∧ Below w.heap.size w w' := by
  unfold maxLen at hm
  obtain ⟨i0, hi, hz0, hz1, hz2⟩ := info_parts infoByte
  have hl : sss.length = m := by rw [← hA.2.1]; simpa using hA.1.1
  go_enter Try.func15, Try.ntmps15
  go_wp2
  go_loopw [3, 10] (fun v i wr => ∃ k : Nat, k ≤ m ∧ i = .int .i64 k ∧ wr.ownsRow w.heap.size 5 1 v (joinL (sss.take k)).length (bcs (joinL (sss.take k))) ∧ Below w.heap.size w wr) (fun _ i _ => m - (intOf i).toNat)
  case atStart => exact ⟨0, Nat.zero_le _, rfl, World.ownsRow_nil _ _ _ _, Below.refl _ _⟩
  case round =>
    obtain ⟨k, hk, rfl, hown, hB⟩ := hrel
    by_cases hlt : k < m
    · obtain ⟨b, o, A', n', c', ss, rfl, hb, hss, hc0, hst⟩ := hA.at_ (k := k) hlt
      have hc := (hB.cell (p := ⟨b, o + k, none⟩) hb).trans hc0
      clear hc0
      have hln := hst.len
      have hn' : n' ≤ maxLen := by rw [← hln]; exact hrn ss (List.mem_of_getElem? hss)
      unfold maxLen at hn'
      obtain ⟨wo, rfl⟩ : ∃ wo : World, wo = wr := ⟨_, rfl⟩
      go_wp2
      go_loopw [3, 16] (fun v i wr => ∃ j : Nat, j ≤ n' ∧ i = .int .i64 j ∧ wr.ownsRow w.heap.size 5 1 v ((joinL (sss.take k)).length + (ss.take j).flatten.length) (bcs (joinL (sss.take k)) ++ bcs (ss.take j).flatten) ∧ Below w.heap.size w wr) (fun _ i _ => n' - (intOf i).toNat)
      case atStart => exact ⟨0, Nat.zero_le _, rfl, by simpa [bcs] using hown, hB⟩
      case round =>
        obtain ⟨j, hj, rfl, hown, hB⟩ := hrel
        by_cases hlt' : j < n'
        · obtain ⟨b', o', t, rfl, hb', ht, hc'0⟩ := hst.at_ (k := j) hlt'
          have hc' := (hB.cell (p := ⟨b', o' + j, none⟩) hb').trans hc'0
          clear hc'0 hc
          have hroom := join_room hss ht
          have e1 : Hid ((joinL (sss.take k)).length + (ss.take j).flatten.length + (str t).size ≤ maxLen) := Lib.hid (by rw [str_size]; unfold maxLen; omega)
          have e2 : Hid ((joinL (sss.take k)).length + (ss.take j).flatten.length + (str t).size ≤ 140737488355328) := Lib.hid (by rw [str_size]; omega)
          clear hroom
          have hts0 := Lib.hid (str_size t)
          go_wp2_with (at_builtin; refine Lib.wpList_append_own_string _ rfl _ _ 22 9 rfl w.heap.size 5 i0 Try.underlying22 Try.underlying9 hi hz0 hz1 hz2 _ _ _ rfl hown (str t) rfl e1.out e2.out hB.size ?_; intro v' w1 hown' hgrow _)
          rw [strCells_str, hts0.out] at hown'
          have hst' := flat_take ht
          go_roundw
          case rel => exact ⟨j + 1, by omega, by go_num, by rw [hst', List.length_append, ← Nat.add_assoc, bcs_append, ← List.append_assoc]; exact hown', hB.grown hgrow hB.size (fun g e => (hown.lt g e).1)⟩
          case measure => simp [intOf]; omega
        · go_wp2
          go_roundw
          case rel =>
            obtain rfl : j = n' := by omega
            refine ⟨k + 1, by omega, by go_num, ?_, hB⟩
            rw [List.take_of_length_le (l := ss) (by omega)] at hown
            rw [join_take hss, List.length_append, bcs_append]
            exact hown
          case measure => simp [intOf]; omega
    · go_wp2
      go_ret
      obtain rfl : k = m := by omega
      rw [List.take_of_length_le (by omega)] at hown
      exact ⟨_, rfl, hown, hB⟩

end Go.Proofs.Ytaogfhmicmplbaa

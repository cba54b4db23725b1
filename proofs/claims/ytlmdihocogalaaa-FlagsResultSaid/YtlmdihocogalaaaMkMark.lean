/- Proved here: the contract of the document's own answer of layer 12: Mark. -/
import Derived.Test.YtlmdihocogalaaaMkPlA
import Derived.Test.YtlmdihocogalaaaOpen
import Derived.Test.YtlmdihocogalaaaTxO
import Derived.Test.YtlmdihocogalaaaSlcT
import Derived.RangeFuncBox
namespace Go.Proofs.Ytlmdihocogalaaa
open Go.RowKit
set_option linter.unusedVariables false
set_option maxRecDepth 100000

set_option maxHeartbeats 1000000 in
theorem rMark_any (sg : UInt8) (long : Nat) (A : Option Addr) (n c B : Nat) (ss : Txs) (label : Tx) (w : World) (hlong : long ≤ 4096) (hn : n ≤ maxLen) (hs : ∀ s ∈ ss, s.length ≤ maxLen) (hlab : label.length ≤ 1000) (hA : Strs w B A n ss) :
    Calls Try.prog 25 #[.string (str [sg]), .int .i64 (long : Int), .slice A n c, .string (str label)] w fun e w' => e = .returned (.string (str (markT sg long ss label))) ∧ w' = w := by
  have hO := rOpen_any A n c B ss w hn hs hA
  obtain ⟨o, ho⟩ : ∃ o, openB ss = o := ⟨_, rfl⟩
  rw [ho] at hO
  have hOh := Lib.hid hO
  have hm : Hid (markT sg long ss label = List.replicate long sg ++ (if o = true then [33] else []) ++ label ++ [10]) := Lib.hid (by unfold markT; rw [ho])
  obtain ⟨C, hC⟩ : ∃ C, str [sg] = C := ⟨_, rfl⟩
  obtain ⟨L, hL⟩ : ∃ L, str label = L := ⟨_, rfl⟩
  have hCs : C.size = 1 := by rw [← hC]; rfl
  have hLs : L.size ≤ 1000 := by rw [← hL, str_size]; exact hlab
  rw [hC, hL]
  have hCh := Lib.hid hC
  have hLh := Lib.hid hL
  clear hA hO hs hn hC hL ho hlab
  go_enter Try.func25, Try.ntmps25
  go_wp2
  go_loop [9, 10] (fun s9 s10 => ∃ (i : Nat) (S : ByteArray), i ≤ long ∧ s10 = .int .i64 i ∧ s9 = .string S ∧ S.size = i ∧ Hid (S = str (List.replicate i sg))) (fun _ s10 => long - (intOf s10).toNat)
  case atStart => exact ⟨0, ByteArray.empty, Nat.zero_le _, rfl, rfl, rfl, Lib.hid rfl⟩
  case round =>
    obtain ⟨i, S, hi, rfl, rfl, hSz, hS⟩ := hrel
    by_cases hlt : i < long
    · have i2 : (i : Int) < (long : Int) := by omega
      have hsum : ¬ 9223372036854775807 < S.size + C.size := by omega
      have hnx : Hid (S ++ C = str (List.replicate (i + 1) sg)) := Lib.hid (by rw [hS.out, ← hCh.out, rep_app])
      have hsz : (S ++ C).size = i + 1 := by rw [hnx.out, str_size, List.length_replicate]
      go_wp2
      go_round
      case rel => exact ⟨i + 1, S ++ C, by omega, by go_num, rfl, hsz, hnx⟩
      case measure => simp [intOf]; omega
    · obtain rfl : i = long := by omega
      have h1 : ¬ 9223372036854775807 < S.size + 1 := by omega
      have h2 : ¬ 9223372036854775807 < S.size + 1 + L.size := by omega
      have h3 : ¬ 9223372036854775807 < S.size + L.size := by omega
      have h4 : ¬ 9223372036854775807 < S.size + L.size + 1 := by omega
      have h5 : ¬ 9223372036854775807 < S.size + 1 + L.size + 1 := by omega
      cases o
      · go_wp2_with (go_at_call 30; refine hOh.out.mono ?_; rintro e w1 ⟨rfl, rfl⟩)
        go_ret
        refine ⟨?_, rfl⟩
        show Ending.returned (.string (S ++ L ++ str [10])) = _
        rw [hm.out, hS.out, ← hLh.out, strs_app, strs_app]
        simp
      · go_wp2_with (go_at_call 30; refine hOh.out.mono ?_; rintro e w1 ⟨rfl, rfl⟩)
        go_ret
        refine ⟨?_, rfl⟩
        show Ending.returned (.string (S ++ str [33] ++ L ++ str [10])) = _
        rw [hm.out, hS.out, ← hLh.out, strs_app, strs_app, strs_app]
        simp
end Go.Proofs.Ytlmdihocogalaaa

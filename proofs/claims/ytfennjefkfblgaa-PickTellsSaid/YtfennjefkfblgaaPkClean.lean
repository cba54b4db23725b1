/- Proved here: the contract of the landed pick.Clean. -/
import Derived.Test.YtfennjefkfblgaaPcOut
import Derived.Test.YtfennjefkfblgaaConClean
import Derived.RangeFuncBox
namespace Go.Proofs.Ytfennjefkfblgaa
open Go.RowKit
set_option linter.unusedVariables false

set_option maxHeartbeats 400000 in
theorem isConf_any (A1 A2 A3 : Option Addr) (n1 c1 n2 c2 n3 c3 : Nat) (cf : Bool) (w : World) :
    Calls Try.prog 35 #[.agg #[.bool cf, .slice A1 n1 c1, .slice A2 n2 c2, .slice A3 n3 c3]] w fun e w' => e = .returned (.bool cf) ∧ Below w.heap.size w w' := by
  go_enter Try.func35, Try.ntmps35
  go_wp2
  go_ret
  exact ⟨rfl, (Below.refl _ _).alloc (Nat.le_refl _) _⟩

theorem clean_upto {ps : List Pc} {k : Nat} {p : Pc} (h : ps[k]? = some p) : cleanB (ps.take (k + 1)) = (cleanB (ps.take k) && !p.1) := by
  rw [take_at h]
  unfold cleanB
  simp
theorem clean_conf {ps : List Pc} {k : Nat} {p : Pc} (h : ps[k]? = some p) (hp : p.1 = true) : cleanB ps = false := by
  unfold cleanB
  rw [List.all_eq_false]
  exact ⟨p, List.mem_of_getElem? h, by simp [hp]⟩

set_option maxRecDepth 100000 in
set_option maxHeartbeats 1000000 in
theorem indexConf_any (A : Option Addr) (n c : Nat) (vs : List PcV) (ps : List Pc) (w : World) (hn : n ≤ maxLen) (hA : Pcs w w.heap.size A n vs ps) :
    Calls Try.prog 48 #[.slice A n c, .func (.func 35) #[] #[]] w fun e w' => (∃ z : Int, e = .returned (.int .i64 z) ∧ decide (0 ≤ z) = !cleanB ps) ∧ Below w.heap.size w w' := by
  have hl := hA.len
  have hAh := Lib.hid hA
  have hlh := Lib.hid hl
  unfold maxLen at hn
  clear hA hl
  go_enter Try.func48, Try.ntmps48
  go_wp2
  go_loopw [5, 8] (fun _ i wr => ∃ k : Nat, k ≤ n ∧ i = .int .i64 k ∧ Hid (cleanB (ps.take k) = true) ∧ Hid (Below w.heap.size w wr)) (fun _ i _ => n - (intOf i).toNat)
  case atStart => exact ⟨0, Nat.zero_le _, rfl, Lib.hid rfl, Lib.hid (Below.refl _ _)⟩
  case round =>
    obtain ⟨k, hk, rfl, hq, hw⟩ := hrel
    obtain ⟨wo, rfl⟩ : ∃ wo : World, wo = wr := ⟨_, rfl⟩
    by_cases hlt : k < n
    · obtain ⟨b, o, cf, At, nt, ct, Ab, nb, cb, As, ns, cs, t, bs, ss, rfl, hb, hv, hp, k1, k2, k3, k4, j⟩ := (hAh.out.below hw.out).at_ (k := k) hlt
      have i1 : (0 : Int) ≤ (k : Int) := by omega
      have i2 : (k : Int) < (n : Int) := by omega
      have hsz := hw.out.size
      have hC := Lib.hid ((isConf_any At Ab As nt ct nb cb ns cs cf wo).mono fun e w' h => (⟨h.1, hw.out.trans (h.2.mono hsz)⟩ : _ ∧ Below w.heap.size w w'))
      have hph := Lib.hid hp
      clear hp hv j
      cases cf
      · go_wp2_with (go_at_call 35; refine hC.out.mono ?_; rintro e w1 ⟨rfl, hb1⟩; have hb1h := Lib.hid hb1; clear hb1)
        go_roundw
        case rel => exact ⟨k + 1, by omega, by go_num, Lib.hid (by rw [clean_upto hph.out, hq.out]; rfl), hb1h⟩
        case measure => simp [intOf]; omega
      · have hno := Lib.hid (clean_conf hph.out rfl)
        go_wp2_with (go_at_call 35; refine hC.out.mono ?_; rintro e w1 ⟨rfl, hb1⟩; have hb1h := Lib.hid hb1; clear hb1)
        go_ret
        exact ⟨⟨_, rfl, by rw [hno.out]; simp⟩, hb1h.out⟩
    · obtain rfl : k = n := by omega
      have hyes : Hid (cleanB ps = true) := Lib.hid (by have := hq.out; rwa [List.take_of_length_le (by rw [hlh.out]; exact Nat.le_refl _)] at this)
      go_wp2
      go_ret
      exact ⟨⟨_, rfl, by rw [hyes.out]; rfl⟩, hw.out⟩

set_option maxHeartbeats 800000 in
theorem containsConf_any (A : Option Addr) (n c : Nat) (vs : List PcV) (ps : List Pc) (w : World) (hn : n ≤ maxLen) (hA : Pcs w w.heap.size A n vs ps) :
    Calls Try.prog 34 #[.slice A n c, .func (.func 35) #[] #[]] w fun e w' => e = .returned (.bool (!cleanB ps)) ∧ Below w.heap.size w w' := by
  have hI := Lib.hid (indexConf_any A n c vs ps w hn hA)
  obtain ⟨r, hr⟩ : ∃ r, (!cleanB ps) = r := ⟨_, rfl⟩
  rw [hr] at hI ⊢
  clear hA hr hn
  go_enter Try.func34, Try.ntmps34
  go_wp2_with (go_at_call 48; refine hI.out.mono ?_; rintro e w1 ⟨⟨z, rfl, hz⟩, hb1⟩; have hb1h := Lib.hid hb1; have hzh := Lib.hid hz; clear hb1 hz)
  go_ret
  exact ⟨ret_bool hzh.out, hb1h.out⟩

set_option maxHeartbeats 800000 in
theorem clean_ok : PickCleanOk := by
  intro A n c vs ps w h1 h2 h3 h4
  have hC := Lib.hid (containsConf_any A n c vs ps w (Nat.le_trans h1 h2) h4)
  obtain ⟨r, hr⟩ : ∃ r, cleanB ps = r := ⟨_, rfl⟩
  rw [hr] at hC ⊢
  clear h1 h2 h3 h4 hr
  go_enter Try.func14, Try.ntmps14
  go_wp2_with (go_at_call 34; refine hC.out.mono ?_; rintro e w1 ⟨rfl, hb1⟩; have hb1h := Lib.hid hb1; clear hb1)
  go_ret
  exact ⟨ret_bool (by simp), hb1h.out⟩
end Go.Proofs.Ytfennjefkfblgaa

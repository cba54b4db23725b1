/- Proved here: contracts of functions of slices that the landed package content calls: Clip, IndexFunc and ContainsFunc (over a closure that tells whether a list is one list), has. -/
import Derived.Test.YtlmdihocogalaaaEqT
import Derived.Test.YtlmdihocogalaaaContPure
import Derived.RangeFuncBox
namespace Go.Proofs.Ytlmdihocogalaaa
open Go.RowKit
set_option linter.unusedVariables false

set_option maxRecDepth 100000 in
set_option maxHeartbeats 400000 in
theorem clip_any (A : Option Addr) (n c : Nat) (w : World) (hnc : n ≤ c) (hcm : c ≤ maxLen) :
    Calls Try.prog 32 #[.slice A n c] w fun e w' => e = .returned (.slice A n n) ∧ w' = w := by
  have hs : ∀ W : World, (Instr.slice 22 (.slice A n c) none (some (.int .i64 n)) (some (.int .i64 n))).run Try.prog W = .ok (.slice A n n) W := fun W => by
    rw [run_slice_hm (P := Try.prog) W 22 A n c Try.underlying22 .i64 .i64 n n (by omega) (Int.le_refl _) (by omega)]
    go_simp
  have hn1 : (0 : Int) ≤ (n : Int) := by omega
  have hnch := Lib.hid hnc
  clear hnc hcm
  go_enter Try.func32, Try.ntmps32
  go_wp2
  go_ret
  exact ⟨rfl, rfl⟩

/-- What has's closure tells: whether a list is the one that lies in block L. -/
theorem isThis_any (L : Nat) (A A' : Option Addr) (n c n' c' : Nat) (ss p : Txs) (B : Nat) (w : World) (hn : n ≤ maxLen) (hn' : n' ≤ maxLen) (hA : Strs w B A n ss) (hA' : Strs w B A' n' p) (hL : Boxed w L 22 (.slice A' n' c')) :
    Calls Try.prog 35 #[.slice A n c, .pointer (some ⟨L, 0, none⟩)] w fun e w' => e = .returned (.bool (decide (ss = p))) ∧ ∃ k, w' = w.drewN k := by
  have hE := Lib.hid (equal_any A A' n n' c c' B B ss p w hn hn' hA hA')
  obtain ⟨r, hr⟩ : ∃ r, decide (ss = p) = r := ⟨_, rfl⟩
  have d0 := hL.cell
  rw [hr] at hE ⊢
  clear hA hA' hL hr
  go_enter Try.func35, Try.ntmps35
  go_wp2_with (go_at_call 21; refine hE.out.mono ?_; rintro e w1 ⟨rfl, q, rfl⟩)
  go_ret
  exact ⟨rfl, q, rfl⟩

/-- Where a list stands first; -1, if nowhere. -/
def firstAt (lists : List Txs) (p : Txs) : Int := if p ∈ lists then (lists.findIdx (fun l => decide (l = p)) : Nat) else -1
theorem firstAt_yes {lists : List Txs} {p : Txs} {k : Nat} (h : lists[k]? = some p) (hno : p ∉ lists.take k) : firstAt lists p = k := by
  unfold firstAt
  rw [if_pos (List.mem_of_getElem? h)]
  have hk := (List.getElem?_eq_some_iff.1 h).1
  have : lists.findIdx (fun l => decide (l = p)) = k := by
    rw [List.findIdx_eq hk]
    refine ⟨by have := (List.getElem?_eq_some_iff.1 h).2; simpa using this, fun j hj => ?_⟩
    rw [decide_eq_false_iff_not]
    intro e
    exact hno (by rw [← e]; exact List.mem_of_getElem? (i := j) (by rw [List.getElem?_take, if_pos hj]; exact List.getElem?_eq_getElem (by omega)))
  rw [this]
theorem firstAt_no {lists : List Txs} {p : Txs} (h : p ∉ lists) : firstAt lists p = -1 := by
  unfold firstAt
  rw [if_neg h]

set_option maxRecDepth 100000 in
set_option maxHeartbeats 1000000 in
theorem indexOf_any (L : Nat) (A A' : Option Addr) (n c n' c' : Nat) (rows : List Slc) (lists : List Txs) (p : Txs) (w : World) (hn : n ≤ maxLen) (hn' : n' ≤ maxLen) (hA : RowsT w w.heap.size A n rows lists) (hA' : Strs w w.heap.size A' n' p) (hL : Boxed w L 22 (.slice A' n' c')) :
    Calls Try.prog 36 #[.slice A n c, .func (.func 35) #[] #[.pointer (some ⟨L, 0, none⟩)]] w fun e w' => e = .returned (.int .i64 (firstAt lists p)) ∧ ∃ k, w' = w.drewN k := by
  have hl := hA.len
  have hAh := Lib.hid hA
  have hlh := Lib.hid hl
  have hX : Hid (∀ (q : Nat) (A1 : Option Addr) (n1 c1 : Nat) (ss : Txs), n1 ≤ maxLen → Strs w w.heap.size A1 n1 ss → Calls Try.prog 35 #[.slice A1 n1 c1, .pointer (some ⟨L, 0, none⟩)] (w.drewN q) fun e w' => e = .returned (.bool (decide (ss = p))) ∧ ∃ k, w' = (w.drewN q).drewN k) :=
    Lib.hid fun q A1 n1 c1 ss h1 h2 => isThis_any L A1 A' n1 c1 n' c' ss p w.heap.size (w.drewN q) h1 hn' (h2.drewN q) (hA'.drewN q) hL
  unfold maxLen at hn
  clear hA hA' hL hl
  go_enter Try.func36, Try.ntmps36
  go_wp2
  go_loopw [5, 8] (fun _ i wr => ∃ k : Nat, k ≤ n ∧ i = .int .i64 k ∧ Hid (p ∉ lists.take k) ∧ ∃ q, wr = w.drewN q) (fun _ i _ => n - (intOf i).toNat)
  case atStart => exact ⟨0, Nat.zero_le _, rfl, Lib.hid (by simp), 0, rfl⟩
  case round =>
    obtain ⟨k, hk, rfl, hno, q, rfl⟩ := hrel
    by_cases hlt : k < n
    · obtain ⟨b, o, A1, n1, c1, ss, rfl, hb, hss, -, hc, hnc, hcm, hS⟩ := hAh.out.at_ (k := k) hlt
      have hi1 : (0 : Int) ≤ (k : Int) := by omega
      have hi2 : (k : Int) < (n : Int) := by omega
      have hC := Lib.hid (hX.out q A1 n1 c1 ss (by omega) hS)
      have hssh := Lib.hid hss
      have hc' : (w.drewN q).cell? ⟨b, o + k, none⟩ = some (.slice A1 n1 c1) := hc
      clear hS hss
      by_cases hp : ss = p
      · subst hp
        have hr := Lib.hid (firstAt_yes hssh.out hno.out)
        have hC2 := hC
        rw [show decide (ss = ss) = true by simp] at hC2
        clear hC
        go_wp2_with (go_at_call 35; refine hC2.out.mono ?_; rintro e w1 ⟨rfl, q1, rfl⟩)
        go_ret
        exact ⟨ret_int hr.out.symm, q + q1, rfl⟩
      · have hC2 := hC
        rw [show decide (ss = p) = false by simpa using hp] at hC2
        have hno2 : p ∉ lists.take (k + 1) := by
          rw [take_at hssh.out]
          intro h
          rcases List.mem_append.1 h with h | h
          · exact hno.out h
          · exact hp (List.mem_singleton.1 h).symm
        have hno3 := Lib.hid hno2
        clear hC hno2
        go_wp2_with (go_at_call 35; refine hC2.out.mono ?_; rintro e w1 ⟨rfl, q1, rfl⟩)
        go_roundw
        case rel => exact ⟨k + 1, by omega, by go_num, hno3, q + q1, rfl⟩
        case measure => simp [intOf]; omega
    · obtain rfl : k = n := by omega
      have hr : firstAt lists p = -1 := firstAt_no (by have := hno.out; rwa [List.take_of_length_le (by rw [hlh.out]; exact Nat.le_refl _)] at this)
      have hrh := Lib.hid hr
      clear hr
      go_wp2
      go_ret
      exact ⟨ret_int hrh.out.symm, q, rfl⟩

set_option maxRecDepth 100000 in
set_option maxHeartbeats 800000 in
theorem contains_any (L : Nat) (A A' : Option Addr) (n c n' c' : Nat) (rows : List Slc) (lists : List Txs) (p : Txs) (w : World) (hn : n ≤ maxLen) (hn' : n' ≤ maxLen) (hA : RowsT w w.heap.size A n rows lists) (hA' : Strs w w.heap.size A' n' p) (hL : Boxed w L 22 (.slice A' n' c')) :
    Calls Try.prog 34 #[.slice A n c, .func (.func 35) #[] #[.pointer (some ⟨L, 0, none⟩)]] w fun e w' => e = .returned (.bool (decide (p ∈ lists))) ∧ ∃ k, w' = w.drewN k := by
  have hI := Lib.hid (indexOf_any L A A' n c n' c' rows lists p w hn hn' hA hA' hL)
  obtain ⟨z, hz⟩ : ∃ z, firstAt lists p = z := ⟨_, rfl⟩
  have hd : decide (p ∈ lists) = decide (0 ≤ z) := by
    rw [← hz]
    unfold firstAt
    split
    · rename_i h; simp [h]
    · rename_i h; simp [h]
  rw [hz] at hI
  rw [hd]
  clear hz hd hA hA' hL
  obtain ⟨r, hr⟩ : ∃ r, decide (0 ≤ z) = r := ⟨_, rfl⟩
  rw [hr]
  go_enter Try.func34, Try.ntmps34
  go_wp2_with (go_at_call 36; refine hI.out.mono ?_; rintro e w1 ⟨rfl, q, rfl⟩)
  go_ret
  exact ⟨ret_bool (by simp), q, rfl⟩

set_option maxRecDepth 100000 in
set_option maxHeartbeats 800000 in
theorem has_any (A A' : Option Addr) (n c n' c' : Nat) (rows : List Slc) (lists : List Txs) (p : Txs) (w : World) (hn : n ≤ maxLen) (hn' : n' ≤ maxLen) (hA : RowsT w w.heap.size A n rows lists) (hA' : Strs w w.heap.size A' n' p) :
    Calls Try.prog 31 #[.slice A n c, .slice A' n' c'] w fun e w' => e = .returned (.bool (decide (p ∈ lists))) ∧ Below w.heap.size w w' := by
  have hb : Below w.heap.size w (w.alloc (.cells #[.slice A' n' c'] 22)) := (Below.refl _ _).alloc (Nat.le_refl _) _
  have hC := Lib.hid (contains_any w.heap.size A A' n c n' c' rows lists p (w.alloc (.cells #[.slice A' n' c'] 22)) hn hn' (hA.up hb) (hA'.up hb) (Boxed.new _ _ _))
  have hbh := Lib.hid hb
  obtain ⟨r, hr⟩ : ∃ r, decide (p ∈ lists) = r := ⟨_, rfl⟩
  rw [hr] at hC ⊢
  clear hb hA hA' hr
  go_enter Try.func31, Try.ntmps31
  go_wp2_with (go_at_call 34; refine hC.out.mono ?_; rintro e w1 ⟨rfl, q, rfl⟩)
  go_ret
  exact ⟨rfl, below_drewN hbh.out q⟩
end Go.Proofs.Ytlmdihocogalaaa

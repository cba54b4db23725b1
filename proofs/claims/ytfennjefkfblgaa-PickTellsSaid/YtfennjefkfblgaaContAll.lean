/- Proved here: the contract of the document's own answer of layer 6: All. -/
import Derived.Test.YtfennjefkfblgaaContFew
namespace Go.Proofs.Ytfennjefkfblgaa
open Go.RowKit
set_option linter.unusedVariables false

theorem all_no {xs ys : List Txs} {k : Nat} {x y : Txs} (hx : xs[k]? = some x) (hy : ys[k]? = some y) (h : x ≠ y) : false = decide (xs = ys) := by
  rw [eq_comm, decide_eq_false_iff_not]
  rintro rfl
  rw [hx] at hy
  injection hy with hy
  exact h hy
theorem all_yes {xs ys : List Txs} {k : Nat} {x y : Txs} (hq : xs.take k = ys.take k) (hx : xs[k]? = some x) (hy : ys[k]? = some y) (h : x = y) : xs.take (k + 1) = ys.take (k + 1) := by
  rw [take_at hx, take_at hy, hq, h]

set_option maxHeartbeats 800000 in
theorem All_any (A A' : Option Addr) (n n' c c' B B' : Nat) (rows rows' : List Slc) (xs ys : List Txs) (w : World) (hn : n ≤ maxLen) (hn' : n' ≤ maxLen) (hA : RowsT w B A n rows xs) (hA' : RowsT w B' A' n' rows' ys) :
    Calls Try.prog 33 #[.slice A n c, .slice A' n' c'] w fun e w' => e = .returned (.bool (decide (xs = ys))) ∧ ∃ q, w' = w.drewN q := by
  have hl := hA.len
  have hl' := hA'.len
  unfold maxLen at hn hn'
  by_cases hnn : n = n'
  · subst hnn
    go_enter Try.func33, Try.ntmps33
    go_wp2
    go_loopw [5] (fun i wr => ∃ k : Nat, k ≤ n ∧ i = .int .i64 k ∧ Hid (xs.take k = ys.take k) ∧ ∃ q, wr = w.drewN q) (fun i _ => n - (intOf i).toNat)
    case atStart => exact ⟨0, Nat.zero_le _, rfl, Lib.hid rfl, 0, rfl⟩
    case round =>
      obtain ⟨k, hk, rfl, hq, q, rfl⟩ := hrel
      by_cases hlt : k < n
      · obtain ⟨b, o, A1, n1, c1, x, rfl, hb, hx, -, hc0, hnc, hcm, hst⟩ := hA.at_ (k := k) hlt
        obtain ⟨b', o', A2, n2, c2, y, rfl, hb', hy, -, hc0', hnc', hcm', hst'⟩ := hA'.at_ (k := k) hlt
        have hi1 : (0 : Int) ≤ (k : Int) := by omega
        have hi2 : (k : Int) < (n : Int) := by omega
        obtain ⟨bb, hbb⟩ : ∃ bb, decide (x = y) = bb := ⟨_, rfl⟩
        have hS := fun W (h1 : Strs W B A1 n1 x) (h2 : Strs W B' A2 n2 y) => Same_any A1 A2 n1 n2 c1 c2 B B' x y W (by omega) (by omega) h1 h2
        rw [hbb] at hS
        have hS' := Lib.hid (fun j => hS ((w.drewN q).drewN j) ((hst.drewN q).drewN j) ((hst'.drewN q).drewN j))
        have hS'' := Lib.hid (fun j => hS (w.drewN j) (hst.drewN j) (hst'.drewN j))
        have hbbh := Lib.hid hbb
        have hxh := Lib.hid hx
        have hyh := Lib.hid hy
        clear hS hbb hst hst' hx hy
        obtain ⟨wo, hwo⟩ : ∃ wo : World, wo = w.drewN q := ⟨_, rfl⟩
        rw [← hwo] at hS' ⊢
        have e0 : wo.cell? ⟨b, o + k, none⟩ = some (.slice A1 n1 c1) := by rw [hwo]; exact hc0
        have e1 : wo.cell? ⟨b', o' + k, none⟩ = some (.slice A2 n2 c2) := by rw [hwo]; exact hc0'
        have hwoh := Lib.hid hwo
        clear hwo hS'' hc0 hc0'
        go_wp2
        go_quiet ((go_at_call 20; exact Calls.quiet_of (hS'.out _)))
        obtain ⟨z1, rfl⟩ : ∃ z1, z1 = nq := ⟨_, rfl⟩
        cases bb
        · have hne : x ≠ y := by simpa using hbbh.out
          have hneh := Lib.hid hne
          clear hne
          go_wp2
          go_ret
          exact ⟨ret_bool (all_no hxh.out hyh.out hneh.out), q + z1, by rw [hwoh.out, World.drewN_drewN]⟩
        · have he : x = y := by simpa using hbbh.out
          have heh := Lib.hid he
          clear he
          go_wp2
          go_roundw
          case rel => exact ⟨k + 1, by omega, by go_num, Lib.hid (all_yes hq.out hxh.out hyh.out heh.out), q + z1, by rw [hwoh.out, World.drewN_drewN]⟩
          case measure => simp [intOf]; omega
      · go_wp2
        go_ret
        exact ⟨ret_bool (by rw [eq_comm, decide_eq_true_iff]; have := hq.out; rwa [List.take_of_length_le (by omega), List.take_of_length_le (by omega)] at this), q, rfl⟩
  · have hne : (((n : Int) != (n' : Int))) = true := by simp; omega
    go_enter Try.func33, Try.ntmps33
    go_wp2
    go_ret
    exact ⟨ret_bool (by rw [eq_comm, decide_eq_false_iff_not]; rintro rfl; omega), 0, rfl⟩
end Go.Proofs.Ytfennjefkfblgaa

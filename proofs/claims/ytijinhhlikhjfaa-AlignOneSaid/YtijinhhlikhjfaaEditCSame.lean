/- Proved here: the contract of the document's own comparison of changes (layer 4). -/
import Derived.Test.YtijinhhlikhjfaaChs
import Derived.Test.YtijinhhlikhjfaaAppend
import Derived.Test.YtijinhhlikhjfaaChecked
import Derived.WalkLawsBesides
import Derived.BigFrame
import Derived.Deep.QuietTactic
import Derived.BigQuiet
import Derived.Outline
import Derived.Laws.StructEq
namespace Go.Proofs.Ytijinhhlikhjfaa
open Go.RowKit
set_option linter.unusedVariables false

theorem neq_ch (a1 a2 a3 a4 b1 b2 b3 b4 : Int) (w : World) : (binOp .neq 48 (.agg #[.int .i64 a1, .int .i64 a2, .int .i64 a3, .int .i64 a4]) (.agg #[.int .i64 b1, .int .i64 b2, .int .i64 b3, .int .i64 b4])).run Try.prog w = .ok (.bool ((((a1, a2), (a3, a4)) : Ch) != ((b1, b2), (b3, b4)))) w := by
  go_simp
  by_cases h1 : a1 = b1 <;> by_cases h2 : a2 = b2 <;> by_cases h3 : a3 = b3 <;> by_cases h4 : a4 = b4 <;> simp [h1, h2, h3, h4]

theorem csame_no {xs ys : List Ch} {k : Nat} {x y : Ch} (hx : xs[k]? = some x) (hy : ys[k]? = some y) (h : (x != y) = true) : false = decide (xs = ys) := by
  rw [eq_comm, decide_eq_false_iff_not]
  rintro rfl
  rw [hx] at hy
  injection hy with hy
  simp [hy] at h
theorem csame_yes {xs ys : List Ch} {k : Nat} {x y : Ch} (hq : xs.take k = ys.take k) (hx : xs[k]? = some x) (hy : ys[k]? = some y) (h : (x != y) = false) : xs.take (k + 1) = ys.take (k + 1) := by
  have e : x = y := by simpa using h
  rw [take_at hx, take_at hy, hq, e]

set_option maxHeartbeats 800000 in
theorem cSame_any (A A' : Option Addr) (n n' c c' B B' : Nat) (xs ys : List Ch) (w : World) (hn : n ≤ maxLen) (hn' : n' ≤ maxLen) (hA : Chs w B A n xs) (hA' : Chs w B' A' n' ys) :
    Calls Try.prog 17 #[.slice A n c, .slice A' n' c'] w fun e w' => e = .returned (.bool (decide (xs = ys))) ∧ ∃ k, w' = w.drewN k := by
  unfold maxLen at hn hn'
  have hl := hA.len
  have hl' := hA'.len
  by_cases hnn : n = n'
  · subst hnn
    go_enter Try.func17, Try.ntmps17
    go_wp2
    go_loopw [5] (fun i wr => ∃ k : Nat, k ≤ n ∧ i = .int .i64 k ∧ Hid (xs.take k = ys.take k) ∧ ∃ q, wr = w.drewN q) (fun i _ => n - (intOf i).toNat)
    case atStart => exact ⟨0, Nat.zero_le _, rfl, Lib.hid rfl, 0, rfl⟩
    case round =>
      obtain ⟨k, hk, rfl, hq, q, rfl⟩ := hrel
      by_cases hlt : k < n
      · obtain ⟨b, o, ⟨⟨a1, a2⟩, a3, a4⟩, rfl, hb, ht, c1, c2, c3, c4⟩ := hA.at_ (k := k) hlt
        obtain ⟨b', o', ⟨⟨b1, b2⟩, b3, b4⟩, rfl, hb', ht', d1, d2, d3, d4⟩ := hA'.at_ (k := k) hlt
        have hi1 : (0 : Int) ≤ (k : Int) := by omega
        have hi2 : (k : Int) < (n : Int) := by omega
        obtain ⟨bb, hbb⟩ : ∃ bb, (((a1, a2), (a3, a4)) != (((b1, b2), (b3, b4)) : Ch)) = bb := ⟨_, rfl⟩
        have hne : ∀ W : World, (binOp .neq 48 (.agg #[.int .i64 a1, .int .i64 a2, .int .i64 a3, .int .i64 a4]) (.agg #[.int .i64 b1, .int .i64 b2, .int .i64 b3, .int .i64 b4])).run Try.prog W = .ok (.bool bb) W := fun W => by rw [neq_ch, hbb]
        have hbb' := Lib.hid hbb
        clear hbb
        go_wp2
        go_quiet (fail)
        cases bb
        · go_wp2
          go_roundw
          case rel => exact ⟨k + 1, by omega, by go_num, Lib.hid (csame_yes hq.out ht ht' hbb'.out), q + nq, rfl⟩
          case measure => simp [intOf]; omega
        · go_wp2
          go_ret
          exact ⟨ret_bool (csame_no ht ht' hbb'.out), q + nq, World.drewN_drewN _ _ _⟩
      · go_wp2
        go_ret
        exact ⟨ret_bool (by rw [eq_comm, decide_eq_true_iff]; have := hq.out; rwa [List.take_of_length_le (by omega), List.take_of_length_le (by omega)] at this), q, rfl⟩
  · have hne : (((n : Int) != (n' : Int))) = true := by simp; omega
    go_enter Try.func17, Try.ntmps17
    go_wp2
    go_ret
    exact ⟨ret_bool (by rw [eq_comm, decide_eq_false_iff_not]; rintro rfl; omega), 0, rfl⟩
end Go.Proofs.Ytijinhhlikhjfaa

/- Proved here: the contract of the document's own answer of layer 6: Kind. -/
import Derived.Test.YtiokgfcndemadaaContDif
namespace Go.Proofs.Ytiokgfcndemadaa
open Go.RowKit
set_option linter.unusedVariables false

theorem rKind_any (A0 : Option Addr) (n0 c0 : Nat) (base : Txs) (A : Option Addr) (n c : Nat) (rows : List Slc) (parts : List Txs) (w : World) (hn0 : n0 ≤ maxLen) (hn : n ≤ 100000) (hA0 : Strs w w.heap.size A0 n0 base) (hA : RowsT w w.heap.size A n rows parts) :
    Calls Try.prog 17 #[.slice A0 n0 c0, .slice A n c] w fun e w' => e = .returned (.int .i64 (kindN base parts)) ∧ Below w.heap.size w w' := by
  have hD := Lib.hid (rDif_any A0 n0 c0 base A n c rows parts w hn0 hn hA0 hA)
  clear hA0 hA
  obtain ⟨d, hd⟩ : ∃ d, (diffs base parts).length = d := ⟨_, rfl⟩
  have hk : kindN base parts = min d 2 := by unfold kindN; rw [hd]
  have hdh := Lib.hid hd
  rw [hk]
  clear hd hk
  by_cases h2 : d < 2
  · have hm : min d 2 = d := by omega
    rw [hm]
    go_enter Try.func17, Try.ntmps17
    go_wp2_with (go_at_call 15; refine hD.out.mono ?_; rintro e w1 ⟨A1, n1, c1, rs, rfl, h3, h4, h5, h6⟩; have hn1 := h5.len; rw [hdh.out] at hn1; subst hn1)
    all_goals
      go_ret
      exact ⟨ret_int (by omega), h6⟩
  · have hm : min d 2 = 2 := by omega
    rw [hm]
    go_enter Try.func17, Try.ntmps17
    go_wp2_with (go_at_call 15; refine hD.out.mono ?_; rintro e w1 ⟨A1, n1, c1, rs, rfl, h3, h4, h5, h6⟩; have hn1 := h5.len; rw [hdh.out] at hn1; subst hn1)
    all_goals
      go_ret
      exact ⟨ret_int (by omega), h6⟩
end Go.Proofs.Ytiokgfcndemadaa

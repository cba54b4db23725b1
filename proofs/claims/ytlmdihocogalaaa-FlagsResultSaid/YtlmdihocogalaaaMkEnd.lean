/- Proved here: the contract of the document's own answer of layer 12: Ended. -/
import Derived.Test.YtlmdihocogalaaaMkMark
import Derived.Laws.OwnMore
import Derived.RangeFuncBox
namespace Go.Proofs.Ytlmdihocogalaaa
open Go.RowKit
set_option linter.unusedVariables false
set_option maxRecDepth 100000

set_option maxHeartbeats 2000000 in
theorem rEnded_any (A : Option Addr) (n c B : Nat) (ss : Txs) (w : World) (hn : n ≤ 100000) (hs : ∀ s ∈ ss, s.length ≤ 1000000) (hB : B ≤ w.heap.size) (hA : Strs w B A n ss) :
    Calls Try.prog 26 #[.slice A n c] w fun e w' => OwnT w w' e (closed ss) := by
  have hl := hA.len
  obtain ⟨i0, hi, hzz⟩ := Option.map_eq_some_iff.1 infoStr
  simp only [Prod.mk.injEq] at hzz
  obtain ⟨hz0, hz1, hz2⟩ := hzz
  have hw0 := own_empty w w.heap.size 9 (Nat.le_refl _)
  have hB0 := below_alloc (Below.refl w.heap.size w) (.cells #[] 9)
  have hA0 := Lib.hid (Strs.below (hA.more hB) hB0)
  have hm : Hid (0 + n ≤ maxLen ∧ (0 + n) * 16 ≤ 140737488355328) := Lib.hid ⟨by unfold maxLen; omega, by omega⟩
  have hO : Hid (∀ W, Below w.heap.size w W → Calls Try.prog 30 #[.slice A n c] W fun e w' => e = .returned (.bool (openB ss)) ∧ W = w') := Lib.hid (fun W hW => rOpen_any A n c w.heap.size ss W (by unfold maxLen; omega) (fun s h => by have := hs s h; unfold maxLen; omega) (Strs.below (hA.more hB) hW))
  obtain ⟨o, ho⟩ : ∃ o, openB ss = o := ⟨_, rfl⟩
  rw [ho] at hO
  have hoh := Lib.hid ho
  have hlh := Lib.hid hl
  have hsh := Lib.hid hs
  cases o
  · have hcl := Lib.hid (closed_same ho)
    clear hA hl ho hs
    go_enter Try.func26, Try.ntmps26
    go_wp2_with (first
      | (at_builtin; refine wpList_append_reads _ rfl _ _ 22 rfl w.heap.size 9 i0 (.string ByteArray.empty) 16 Try.underlying22 hi hz0 hz1 hz2 rfl _ 0 [] rfl hw0 w.heap.size A n c _ rfl hA0.out (strs_one _) hm.out.1 hm.out.2 hB0.size ?_; intro v1 w1 hown1 hg1; have hB1 : Below w.heap.size w w1 := hB0.grown hg1 hB0.size (fun j e => (hw0.lt j e).1); rw [Nat.zero_add, List.nil_append] at hown1)
      | (go_at_call 30; refine (hO.out _ hB1).mono ?_; rintro e w2 ⟨rfl, rfl⟩))
    go_ret
    exact ⟨_, rfl, by rw [hcl.out, hlh.out]; exact hown1, hB1⟩
  · obtain ⟨m, rfl⟩ : ∃ m, n = m + 1 := by
      cases n with
      | zero =>
        have : ss = [] := List.eq_nil_of_length_eq_zero hl
        subst this
        cases ho
      | succ m => exact ⟨m, rfl⟩
    obtain ⟨t, ht⟩ : ∃ t, ss[m]? = some t := ⟨ss[m]'(by omega), List.getElem?_eq_getElem _⟩
    have hcl := Lib.hid (closed_setO hl ht ho)
    have htl : t.length ≤ 1000000 := hs t (List.mem_of_getElem? ht)
    have hsum : ¬ 9223372036854775807 < (str t).size + 1 := by rw [str_size]; omega
    have hth := Lib.hid ht
    obtain ⟨N, hN⟩ : ∃ N, m + 1 = N := ⟨_, rfl⟩
    rw [hN] at hA0 hm hlh hO ⊢
    have hNi : (N : Int) - 1 = (m : Int) := by omega
    have hNw : IntKind.i64.wrap ((N : Int) - 1) = (m : Int) := by rw [hNi]; exact IntWalk.i64_in _ (by omega)
    have hmw : IntKind.i64.wrap (m : Int) = (m : Int) := IntWalk.i64_in _ (by omega)
    have i1 : (0 : Int) ≤ (m : Int) := by omega
    have i2 : (m : Int) < (N : Int) := by omega
    have hNh := Lib.hid hN
    clear hA hl ho hs ht hN
    go_enter Try.func26, Try.ntmps26
    go_wp2_with (first
      | (at_builtin; refine wpList_append_reads _ rfl _ _ 22 rfl w.heap.size 9 i0 (.string ByteArray.empty) 16 Try.underlying22 hi hz0 hz1 hz2 rfl _ 0 [] rfl hw0 w.heap.size A N c _ rfl hA0.out (strs_one _) hm.out.1 hm.out.2 hB0.size ?_; intro v1 w1 hown1 hg1; have hB1 : Below w.heap.size w w1 := hB0.grown hg1 hB0.size (fun j e => (hw0.lt j e).1); rw [Nat.zero_add, List.nil_append] at hown1; obtain ⟨g, cap, rfl⟩ := (show ∃ g cap, v1 = .slice (some ⟨g, 0, none⟩) N cap from by rw [← hNh.out] at hown1 ⊢; exact ownsRow_succ hown1); have hc1 := hown1.cellAt (j := m) (by omega); have hf1 := hown1.frozenAt m; have hgl := (hown1.lt g rfl); have hcs : w1.cell? ⟨g, m, none⟩ = some (.string (str t)) := (by rw [hc1, List.getElem?_map, hth.out]; rfl); clear hc1)
      | (go_at_call 30; refine (hO.out _ hB1).mono ?_; rintro e w2 ⟨rfl, hw2⟩; subst hw2))
    go_ret
    obtain ⟨s1, s2⟩ := hown1.stored m (.string (str t ++ ⟨#[10]⟩))
    refine ⟨_, rfl, ?_, hB1.grown s2 hB1.size (fun j e => by injection e with e; omega)⟩
    rw [hcl.out, List.length_set, hlh.out, List.map_set, ← str_feed]
    exact s1
end Go.Proofs.Ytlmdihocogalaaa

/- Proved here: what the statement FlagsContent says, by the contracts of packages flags and content. -/
import Derived.Test.YtlmdihocogalaaaFlAwk
namespace Go.Proofs.Ytlmdihocogalaaa
open Go.RowKit
set_option linter.unusedVariables false
set_option maxRecDepth 100000

/-- The contract of content.Kind. -/
def ContKindOk : Prop := ∀ (A0 : Option Addr) (n0 c0 : Nat) (base : Txs) (A : Option Addr) (n c : Nat) (rows : List Slc) (parts : List Txs) (w : World), n ≤ c → c ≤ maxLen → n ≤ 100000 → TxR w w.heap.size (A0, n0, c0) base → RowsT w w.heap.size A n rows parts →
    Calls Try.prog 19 #[.slice A0 n0 c0, .slice A n c] w fun e w' => e = .returned (.int .i64 (kindN base parts)) ∧ Below w.heap.size w w'
theorem content_le {a b c : Txs} : kindN b [a, c] = 0 ∨ kindN b [a, c] = 1 ∨ kindN b [a, c] = 2 := by
  unfold kindN
  repeat' split
  all_goals omega

section
variable (H : FlagsOk) (H2 : ContKindOk)
include H H2

set_option maxHeartbeats 4000000 in
theorem FlagsContent_walk (A0 : Option Addr) (n0 c0 : Nat) (a : Txs) (A1 : Option Addr) (n1 c1 : Nat) (b : Txs) (A2 : Option Addr) (n2 c2 : Nat) (c : Txs) (w : World)
    (h0 : TxR w w.heap.size (A0, n0, c0) a) (h1 : TxR w w.heap.size (A1, n1, c1) b) (h2 : TxR w w.heap.size (A2, n2, c2) c) :
    Calls Try.prog 7 #[.slice A0 n0 c0, .slice A1 n1 c1, .slice A2 n2 c2] w fun e w' => e = .returned (.bool true) ∧ Below w.heap.size w w' := by
  have haw := Lib.hid (flAwake_any H w)
  obtain ⟨fm, hfm⟩ : ∃ fm, (fewB a 16 && fewB b 16 && fewB c 16) = fm := ⟨_, rfl⟩
  have hF := Lib.hid (fun (W : World) (hb : Below w.heap.size w W) => hfm ▸ fl_few A0 n0 c0 a A1 n1 c1 b A2 n2 c2 c W (h0.up hb) (h1.up hb) (h2.up hb))
  cases fm
  · clear h0 h1 h2 hfm
    go_enter Try.func7, Try.ntmps7
    go_wp2_with (first
      | (go_at_call 8; refine haw.out.mono ?_; rintro e w1 ⟨rfl, hb1⟩; have hB1 := Lib.hid hb1; clear hb1)
      | (go_at_call 9; refine (hF.out _ hB1.out).mono ?_; rintro e w2 ⟨rfl, hww⟩; have hws := hww.symm; clear hww; subst hws))
    go_ret
    exact ⟨rfl, hB1.out⟩
  rw [Bool.and_eq_true, Bool.and_eq_true] at hfm
  have x0 := few16_X hfm.1.1
  have x1 := few16_X hfm.1.2
  have x2 := few16_X hfm.2
  have hK1 := Lib.hid (fun (W : World) (hb : Below w.heap.size w W) => H.kind_ok A0 n0 c0 a A1 n1 c1 b A2 n2 c2 c W x0 x1 x2 (h0.up hb) (h1.up hb) (h2.up hb))
  have hC : Hid (∀ (W : World), Below w.heap.size w W → Calls Try.prog 19 #[.slice A1 n1 c1, .slice (some ⟨W.heap.size, 0, none⟩) 2 2] (W.alloc (.cells #[.slice A0 n0 c0, .slice A2 n2 c2] 22)) fun e w' => e = .returned (.int .i64 (kindN b [a, c])) ∧ Below w.heap.size w w') := Lib.hid (fun W hW => by
    have hb := below_alloc hW (.cells #[.slice A0 n0 c0, .slice A2 n2 c2] 22)
    refine (H2 A1 n1 c1 b (some ⟨W.heap.size, 0, none⟩) 2 2 [(A0, n0, c0), (A2, n2, c2)] [a, c] _ (Nat.le_refl _) (by decide) (by decide) (h1.up hb) (rowsT_of (one_a W _) rfl rfl rfl fun k r ss e1 e2 => ?_)).mono fun e w' h => ⟨h.1, hb.trans (h.2.mono hb.size)⟩
    match k, e1, e2 with
    | 0, e1, e2 => simp at e1 e2; subst e1; subst e2; exact h0.up hb
    | 1, e1, e2 => simp at e1 e2; subst e1; subst e2; exact h2.up hb
    | k + 2, e1, e2 => simp at e1)
  have hle := kind_le (mine := a) (older := b) (yours := c)
  have hcl := content_le (a := a) (b := b) (c := c)
  obtain ⟨i4, i0⟩ := kind_content (mine := a) (older := b) (yours := c)
  obtain ⟨K, hKK⟩ : ∃ K, kindF a b c = K := ⟨_, rfl⟩
  obtain ⟨D, hDD⟩ : ∃ D, kindN b [a, c] = D := ⟨_, rfl⟩
  rw [hKK] at hK1 hle i4 i0
  rw [hDD] at hC hcl i4 i0
  clear h0 h1 h2 hfm x0 x1 x2 hKK hDD
  have h5 : (K = 0 ∧ D = 0) ∨ (K = 4 ∧ D = 2) ∨ (K = 1 ∧ D = 1) ∨ (K = 2 ∧ D = 1) ∨ (K = 3 ∧ D = 1) := by omega
  rcases h5 with ⟨rfl, rfl⟩ | ⟨rfl, rfl⟩ | ⟨rfl, rfl⟩ | ⟨rfl, rfl⟩ | ⟨rfl, rfl⟩
  all_goals
    clear hle hcl i4 i0
    go_enter Try.func7, Try.ntmps7
    go_wp2_with (first
      | (go_at_call 8; refine haw.out.mono ?_; rintro e w1 ⟨rfl, hb1⟩; have hB1 := Lib.hid hb1; clear hb1)
      | (go_at_call 9; refine (hF.out _ hB1.out).mono ?_; rintro e w2 ⟨rfl, hww⟩; have hws := hww.symm; clear hww; subst hws)
      | (go_at_call 10; refine (hK1.out _ hB1.out).mono ?_; rintro e w2 ⟨rfl, q2⟩; have hB2 := Lib.hid (hB1.out.trans (q2.mono hB1.out.size)); clear q2)
      | (go_at_call 19; refine (hC.out _ hB2.out).mono ?_; rintro e w3 ⟨rfl, q3⟩; have hB3 := Lib.hid q3; clear q3))
    go_ret
    exact ⟨rfl, hB3.out⟩
end
end Go.Proofs.Ytlmdihocogalaaa

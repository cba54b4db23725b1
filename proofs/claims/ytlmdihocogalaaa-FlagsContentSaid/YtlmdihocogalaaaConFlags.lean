/- What the statements ask of package flags. -/
import Derived.Test.YtlmdihocogalaaaFlagPure
import Derived.Test.YtlmdihocogalaaaTxtRef
import Derived.Test.YtlmdihocogalaaaTxO
namespace Go.Proofs.Ytlmdihocogalaaa
open Go.RowKit
set_option linter.unusedVariables false
set_option maxRecDepth 100000

/-- Texts that aren't too many, nor too long. -/
def smallX (l : Txs) : Prop := l.length ≤ 100000 ∧ ∀ s ∈ l, s.length ≤ 1000000
/-- The contracts of flags.Kind, Known, Does, Result. -/
def FlagKindOk : Prop := ∀ (A0 : Option Addr) (n0 c0 : Nat) (mine : Txs) (A1 : Option Addr) (n1 c1 : Nat) (older : Txs) (A2 : Option Addr) (n2 c2 : Nat) (yours : Txs) (w : World), smallX mine → smallX older → smallX yours →
    TxR w w.heap.size (A0, n0, c0) mine → TxR w w.heap.size (A1, n1, c1) older → TxR w w.heap.size (A2, n2, c2) yours →
    Calls Try.prog 10 #[.slice A0 n0 c0, .slice A1 n1 c1, .slice A2 n2 c2] w fun e w' => e = .returned (.int .i64 (kindF mine older yours : Nat)) ∧ Below w.heap.size w w'
def FlagKnownOk : Prop := ∀ (c : UInt8) (w : World), Calls Try.prog 12 #[.int .u8 (c.toNat : Int)] w fun e w' => e = .returned (.bool (knownB c)) ∧ Below w.heap.size w w'
def FlagDoesOk : Prop := ∀ (c : UInt8) (k : Int) (w : World), inR64 k → Calls Try.prog 14 #[.int .u8 (c.toNat : Int), .int .i64 k] w fun e w' => e = .returned (.int .i64 (doesF c k : Nat)) ∧ Below w.heap.size w w'
def FlagResultOk : Prop := ∀ (c : UInt8) (A0 : Option Addr) (n0 c0 : Nat) (mine : Txs) (A1 : Option Addr) (n1 c1 : Nat) (older : Txs) (A2 : Option Addr) (n2 c2 : Nat) (yours : Txs) (w : World), smallX mine → smallX older → smallX yours →
    TxR w w.heap.size (A0, n0, c0) mine → TxR w w.heap.size (A1, n1, c1) older → TxR w w.heap.size (A2, n2, c2) yours →
    Calls Try.prog 17 #[.int .u8 (c.toNat : Int), .slice A0 n0 c0, .slice A1 n1 c1, .slice A2 n2 c2] w fun e w' => TxsOut w w' e (resultF c mine older yours)
structure FlagsOk : Prop where
  kind_ok : FlagKindOk
  known_ok : FlagKnownOk
  does_ok : FlagDoesOk
  result_ok : FlagResultOk

theorem few16 {l : Txs} (h : fewB l 16 = true) : l.length ≤ 16 ∧ ∀ t ∈ l, t.length ≤ 100 := by
  unfold fewB at h
  rw [Bool.and_eq_true, decide_eq_true_eq] at h
  refine ⟨h.1, fun t ht => ?_⟩
  have h2 := h.2
  rw [List.take_of_length_le (by omega), List.all_eq_true] at h2
  simpa using h2 t ht
theorem few16_X {l : Txs} (h : fewB l 16 = true) : smallX l := by
  obtain ⟨h1, h2⟩ := few16 h
  exact ⟨by omega, fun s hs => by have := h2 s hs; omega⟩
end Go.Proofs.Ytlmdihocogalaaa

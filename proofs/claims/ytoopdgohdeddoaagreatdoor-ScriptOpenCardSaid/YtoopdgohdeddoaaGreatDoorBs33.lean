/- Proved here: texts joined: LcsCon. -/
import Derived.Test.YtoopdgohdeddoaaGreatDoorBs01
import Derived.Test.YtoopdgohdeddoaaGreatDoorBs08
/- What the statements of layer 3 ask of package lcs, one by one: words alone. -/
namespace Go.Proofs.YtoopdgohdeddoaaGreatDoor
open Go.RowKit
set_option linter.unusedVariables false

section
variable (Pr : World → Nat → (Nat → Prop) → List Int → List Int → Prop)
/-- Behind a call that touches blocks of F alone, block T is the pair of a and b. -/
def PrAfter (w w' : World) (T : Nat) (F : Nat → Prop) (a b : List Int) : Prop := ∃ F', Pr w' T F' a b ∧ But F w w' ∧ ∀ k, F' k → F k ∨ w.heap.size ≤ k
/-- What New tells of two lists that may be. -/
def NewOut (w w' : World) (e : Ending) (a b : List Int) : Prop := ∃ T F, e = .returned (.tuple #[.pointer (some ⟨T, 0, none⟩), .int .i64 0]) ∧ Pr w' T F a b ∧ (∀ k, F k → w.heap.size ≤ k) ∧ Below w.heap.size w w'
/-- What Match tells. -/
def MatchOut (w w' : World) (e : Ending) (T : Nat) (F : Nat → Prop) (a b : List Int) : Prop :=
  ∃ A n c F', e = .returned (.slice A n c) ∧ n = a.length ∧ n ≤ c ∧ c ≤ maxLen ∧ Nums w' w'.heap.size A n (mt a b 0) ∧ (∀ q o, A = some ⟨q, o, none⟩ → ¬ F' q) ∧ Pr w' T F' a b ∧ But F w w' ∧ ∀ k, F' k → F k ∨ w.heap.size ≤ k

end
end Go.Proofs.YtoopdgohdeddoaaGreatDoor

/- Proved here, without conditions: plain facts on flags (layer 14): kinds, exchanged; what e does by parts; kinds by contents. -/
import Derived.Test.YtlmdihocogalaaaMarkPure
namespace Go.Proofs.Ytlmdihocogalaaa
set_option linter.unusedVariables false

/-- None 0, Mine 1, Yours 2, Both 3, All 4. -/
def kindF (mine older yours : Txs) : Nat :=
  if mine = older ∧ yours = older then 0 else if yours = older then 1 else if mine = older then 2 else if mine = yours then 3 else 4
def swapK (k : Nat) : Nat := if k = 1 then 2 else if k = 2 then 1 else k
/-- e 101, x 120, 3 51, E 69, X 88, A 65. -/
def knownB (c : UInt8) : Bool := c == 101 || c == 120 || c == 51 || c == 69 || c == 88 || c == 65
/-- Leave 0, Take 1, Bracket 2, Show 3. -/
def doesF (c : UInt8) (k : Int) : Nat :=
  if knownB c = false then 0
  else if k = 2 then (if c = 120 ∨ c = 88 then 0 else 1)
  else if k ≠ 4 then 0
  else if c = 101 ∨ c = 120 then 1 else if c = 69 ∨ c = 88 then 2 else if c = 65 then 3 else 0
def wordM : Tx := [32, 77, 73, 78, 69]
def wordO : Tx := [32, 79, 76, 68, 69, 82]
def wordY : Tx := [32, 89, 79, 85, 82, 83]
def shownF (show_ : Bool) (mine older yours : Txs) : Txs :=
  markT 60 7 [] wordM :: (closed mine ++ ((if show_ = true then markT 124 7 mine wordO :: closed older else []) ++ (markT 61 7 (if show_ = true then older else mine) [] :: (closed yours ++ [markT 62 7 yours wordY]))))
def resultF (c : UInt8) (mine older yours : Txs) : Txs :=
  match doesF c (kindF mine older yours) with
  | 0 => mine
  | 1 => yours
  | 2 => shownF false mine older yours
  | _ => shownF true mine older yours

section
variable {mine older yours : Txs} {c : UInt8} {k : Int}
theorem kind_le : kindF mine older yours ≤ 4 := by
  unfold kindF
  repeat' split
  all_goals omega
/-- EXCHANGED. -/
theorem kind_turn : kindF yours older mine = swapK (kindF mine older yours) := by
  unfold kindF swapK
  by_cases h1 : mine = older <;> by_cases h2 : yours = older <;> by_cases h3 : mine = yours
  all_goals simp [h1, h2, h3, eq_comm]
  all_goals (try (subst h3; simp_all))
  all_goals simp_all [eq_comm]
theorem does_unknown (h : knownB c = false) : doesF c k = 0 := by unfold doesF; rw [if_pos h]
theorem does_le : doesF c k ≤ 3 := by
  unfold doesF
  repeat' split
  all_goals omega
/-- BY PARTS. -/
theorem result_e : resultF 101 mine older yours = if kindF mine older yours = 4 then resultF 120 mine older yours else resultF 51 mine older yours := by
  have hk := kind_le (mine := mine) (older := older) (yours := yours)
  unfold resultF
  generalize kindF mine older yours = k at *
  match k, hk with
  | 0, _ => rfl
  | 1, _ => rfl
  | 2, _ => rfl
  | 3, _ => rfl
  | 4, _ => rfl
theorem result_E : resultF 69 mine older yours = if kindF mine older yours = 4 then resultF 88 mine older yours else resultF 51 mine older yours := by
  have hk := kind_le (mine := mine) (older := older) (yours := yours)
  unfold resultF
  generalize kindF mine older yours = k at *
  match k, hk with
  | 0, _ => rfl
  | 1, _ => rfl
  | 2, _ => rfl
  | 3, _ => rfl
  | 4, _ => rfl
/-- BY CONTENTS. -/
theorem kind_content : (kindF mine older yours = 4 ↔ kindN older [mine, yours] = 2) ∧ (kindF mine older yours = 0 ↔ kindN older [mine, yours] = 0) := by
  unfold kindF kindN
  by_cases h1 : mine = older <;> by_cases h2 : yours = older <;> by_cases h3 : mine = yours
  all_goals simp_all [diffs, diffStep, eq_comm]
end
end Go.Proofs.Ytlmdihocogalaaa

/-
  No cell of these rows narrows 'for every input' (looked for: loops, veiled, ifaces, maps, wideKeys, modest, calm, conditions, laid).
  DERIVED. THE GIVEN ROWS OF THIS SEAT. 5 by the template 'for every input the law returns true; each argument reads behind the call as it read before'; 0 by the template 'total and deterministic' (their statements: YtlmdihocogalaaaTotals.lean).
  GIVEN WITH THE SEED: the statements are not yours to turn. If you find one false, say at which input.
  Laid BY PROGRAM, IN A SANDBOX (cutbox-rows.mjs): the forced cells as the released guide's own fill.sh prints them over the translation 4513203ee9291ad3… (all of the seat's roots in one cut). By AI agents, Wed Nov 11 2026. No macro, syntax, notation, axiom, sorry.
-/
import Derived.Test.YtlmdihocogalaaaChecked
import GoSem.Claim
import GoSem.ClaimJoined
import GoSem.ClaimMapViews
import Derived.JoinedTies
import Derived.KernelRfl
namespace Go.Proofs.Ytlmdihocogalaaa
/- THE CELL 'sum', in the pinned program and in every row, IS THE sha256 OF THE DUMP (.gsa) THAT YtlmdihocogalaaaProg.lean LOADS. Nothing in Lean hashes anything: it is a label: what it is worth is what the hold of that sum in a sandbox is worth. -/
noncomputable def Try.pinned : Pinned := { name := "ytlmdihocogalaaa", sum := "4513203ee9291ad34c37f1a8c41fe4a7f2f41b63fe1e269c9409b9c3ab0b28ff", checked := Try.checked }
namespace Rows
def none {H : Type} : Left H := { results := [], args := [] }

/-- 'sennitlaw14.FlagsKinds': WHATEVER THE INPUT: true; the input reads as it did. -/
def flagsKindsSpec : ChangeSpec := { name := "flagsKinds", fn := fun _ => fun
  | [d1, d2, d3] => { results := [.lit (.bool true)], args := [d1, d2, d3] }
  | _ => none }
def flagsKindsRow : OpenClaim := { program := "ytlmdihocogalaaa", sum := "4513203ee9291ad34c37f1a8c41fe4a7f2f41b63fe1e269c9409b9c3ab0b28ff", func := "sennit/sennitlaw14.FlagsKinds", spec := "flagsKinds", unfollowed := true, recurses := true, apart := false }
def FlagsKindsSaid : Prop := flagsKindsRow.holds Try.pinned (OpenSpec.ofChange flagsKindsSpec)

/-- ITS FALSE NEIGHBOUR: 'it returns false'. Refute it at one input. -/
def flagsKindsWrong : ChangeSpec := { name := "flagsKinds", fn := fun _ => fun
  | [d1, d2, d3] => { results := [.lit (.bool false)], args := [d1, d2, d3] }
  | _ => none }
def FlagsKindsWrongFalsely : Prop := flagsKindsRow.holds Try.pinned (OpenSpec.ofChange flagsKindsWrong)

/-- 'sennitlaw14.FlagsDoes': WHATEVER THE INPUT: true; the input reads as it did. -/
def flagsDoesSpec : ChangeSpec := { name := "flagsDoes", fn := fun _ => fun
  | [d1, d2] => { results := [.lit (.bool true)], args := [d1, d2] }
  | _ => none }
def flagsDoesRow : OpenClaim := { program := "ytlmdihocogalaaa", sum := "4513203ee9291ad34c37f1a8c41fe4a7f2f41b63fe1e269c9409b9c3ab0b28ff", func := "sennit/sennitlaw14.FlagsDoes", spec := "flagsDoes", unfollowed := true, recurses := true, apart := false }
def FlagsDoesSaid : Prop := flagsDoesRow.holds Try.pinned (OpenSpec.ofChange flagsDoesSpec)

/-- ITS FALSE NEIGHBOUR: 'it returns false'. Refute it at one input. -/
def flagsDoesWrong : ChangeSpec := { name := "flagsDoes", fn := fun _ => fun
  | [d1, d2] => { results := [.lit (.bool false)], args := [d1, d2] }
  | _ => none }
def FlagsDoesWrongFalsely : Prop := flagsDoesRow.holds Try.pinned (OpenSpec.ofChange flagsDoesWrong)

/-- 'sennitlaw14.FlagsResult': WHATEVER THE INPUT: true; the input reads as it did. -/
def flagsResultSpec : ChangeSpec := { name := "flagsResult", fn := fun _ => fun
  | [d1, d2] => { results := [.lit (.bool true)], args := [d1, d2] }
  | _ => none }
def flagsResultRow : OpenClaim := { program := "ytlmdihocogalaaa", sum := "4513203ee9291ad34c37f1a8c41fe4a7f2f41b63fe1e269c9409b9c3ab0b28ff", func := "sennit/sennitlaw14.FlagsResult", spec := "flagsResult", unfollowed := true, recurses := true, apart := false }
def FlagsResultSaid : Prop := flagsResultRow.holds Try.pinned (OpenSpec.ofChange flagsResultSpec)

/-- ITS FALSE NEIGHBOUR: 'it returns false'. Refute it at one input. -/
def flagsResultWrong : ChangeSpec := { name := "flagsResult", fn := fun _ => fun
  | [d1, d2] => { results := [.lit (.bool false)], args := [d1, d2] }
  | _ => none }
def FlagsResultWrongFalsely : Prop := flagsResultRow.holds Try.pinned (OpenSpec.ofChange flagsResultWrong)

/-- 'sennitlaw14.FlagsParts': WHATEVER THE INPUT: true; the input reads as it did. -/
def flagsPartsSpec : ChangeSpec := { name := "flagsParts", fn := fun _ => fun
  | [d1, d2, d3] => { results := [.lit (.bool true)], args := [d1, d2, d3] }
  | _ => none }
def flagsPartsRow : OpenClaim := { program := "ytlmdihocogalaaa", sum := "4513203ee9291ad34c37f1a8c41fe4a7f2f41b63fe1e269c9409b9c3ab0b28ff", func := "sennit/sennitlaw14.FlagsParts", spec := "flagsParts", unfollowed := true, recurses := true, apart := false }
def FlagsPartsSaid : Prop := flagsPartsRow.holds Try.pinned (OpenSpec.ofChange flagsPartsSpec)

/-- ITS FALSE NEIGHBOUR: 'it returns false'. Refute it at one input. -/
def flagsPartsWrong : ChangeSpec := { name := "flagsParts", fn := fun _ => fun
  | [d1, d2, d3] => { results := [.lit (.bool false)], args := [d1, d2, d3] }
  | _ => none }
def FlagsPartsWrongFalsely : Prop := flagsPartsRow.holds Try.pinned (OpenSpec.ofChange flagsPartsWrong)

/-- 'sennitlaw14.FlagsContent': WHATEVER THE INPUT: true; the input reads as it did. -/
def flagsContentSpec : ChangeSpec := { name := "flagsContent", fn := fun _ => fun
  | [d1, d2, d3] => { results := [.lit (.bool true)], args := [d1, d2, d3] }
  | _ => none }
def flagsContentRow : OpenClaim := { program := "ytlmdihocogalaaa", sum := "4513203ee9291ad34c37f1a8c41fe4a7f2f41b63fe1e269c9409b9c3ab0b28ff", func := "sennit/sennitlaw14.FlagsContent", spec := "flagsContent", unfollowed := true, recurses := true, apart := false }
def FlagsContentSaid : Prop := flagsContentRow.holds Try.pinned (OpenSpec.ofChange flagsContentSpec)

/-- ITS FALSE NEIGHBOUR: 'it returns false'. Refute it at one input. -/
def flagsContentWrong : ChangeSpec := { name := "flagsContent", fn := fun _ => fun
  | [d1, d2, d3] => { results := [.lit (.bool false)], args := [d1, d2, d3] }
  | _ => none }
def FlagsContentWrongFalsely : Prop := flagsContentRow.holds Try.pinned (OpenSpec.ofChange flagsContentWrong)

/- THE SECOND FORM. 'bulk': how many values and letters a reading holds, each counted each time it is reached (what is shared counts as often as it is met; a slice's spare places count too). A statement '..UptoSaid' is the law's where the arguments, and the package variables that the reading takes, are together of bulk at most 1048576: NARROWER than '..Said'. Prove '..Said' where nothing that the law and all that it calls make is longer than what came in: it says more and counts as full. Else prove '..UptoSaid'. A law counts once. -/
mutual
def uptoBulk {H : Type} : DataW H → Nat
  | .lit (.string bytes) => bytes.length + 1
  | .lit _ => 1
  | .nil => 1
  | .ptr d => uptoBulk d + 1
  | .slice elems spare => uptoBulkAll elems + uptoBulkAll spare + 1
  | .agg parts => uptoBulkAll parts + 1
  | .iface _ d => uptoBulk d + 1
  | .map entries => uptoBulkEntries entries + 1
  | .held _ => 1
def uptoBulkAll {H : Type} : List (DataW H) → Nat
  | [] => 0
  | d :: r => uptoBulk d + uptoBulkAll r
def uptoBulkEntries {H : Type} : List (Lit × DataW H) → Nat
  | [] => 0
  | x :: r => uptoBulkEntry x + uptoBulkEntries r
def uptoBulkEntry {H : Type} : Lit × DataW H → Nat
  | (.string bytes, d) => bytes.length + uptoBulk d + 1
  | (_, d) => uptoBulk d + 1
 end
def uptoSmall : (H : Type) → List (DataW H) → Bool := fun _ ds => decide (uptoBulkAll ds ≤ 1048576)
def OpenSpec.upto (s : _root_.Go.ChangeSpec) : _root_.Go.OpenSpec := { _root_.Go.OpenSpec.ofChange s with cond := some uptoSmall }

/-- 'sennitlaw14.FlagsKinds', WHERE WHAT IT READS IS OF BULK AT MOST 1048576: true; the input reads as it did. -/
def flagsKindsUptoRow : OpenClaim := { program := "ytlmdihocogalaaa", sum := "4513203ee9291ad34c37f1a8c41fe4a7f2f41b63fe1e269c9409b9c3ab0b28ff", func := "sennit/sennitlaw14.FlagsKinds", spec := "flagsKinds", unfollowed := true, recurses := true, apart := false, narrowed := true }
def FlagsKindsUptoSaid : Prop := flagsKindsUptoRow.holds Try.pinned (OpenSpec.upto flagsKindsSpec)

/-- 'sennitlaw14.FlagsDoes', WHERE WHAT IT READS IS OF BULK AT MOST 1048576: true; the input reads as it did. -/
def flagsDoesUptoRow : OpenClaim := { program := "ytlmdihocogalaaa", sum := "4513203ee9291ad34c37f1a8c41fe4a7f2f41b63fe1e269c9409b9c3ab0b28ff", func := "sennit/sennitlaw14.FlagsDoes", spec := "flagsDoes", unfollowed := true, recurses := true, apart := false, narrowed := true }
def FlagsDoesUptoSaid : Prop := flagsDoesUptoRow.holds Try.pinned (OpenSpec.upto flagsDoesSpec)

/-- 'sennitlaw14.FlagsResult', WHERE WHAT IT READS IS OF BULK AT MOST 1048576: true; the input reads as it did. -/
def flagsResultUptoRow : OpenClaim := { program := "ytlmdihocogalaaa", sum := "4513203ee9291ad34c37f1a8c41fe4a7f2f41b63fe1e269c9409b9c3ab0b28ff", func := "sennit/sennitlaw14.FlagsResult", spec := "flagsResult", unfollowed := true, recurses := true, apart := false, narrowed := true }
def FlagsResultUptoSaid : Prop := flagsResultUptoRow.holds Try.pinned (OpenSpec.upto flagsResultSpec)

/-- 'sennitlaw14.FlagsParts', WHERE WHAT IT READS IS OF BULK AT MOST 1048576: true; the input reads as it did. -/
def flagsPartsUptoRow : OpenClaim := { program := "ytlmdihocogalaaa", sum := "4513203ee9291ad34c37f1a8c41fe4a7f2f41b63fe1e269c9409b9c3ab0b28ff", func := "sennit/sennitlaw14.FlagsParts", spec := "flagsParts", unfollowed := true, recurses := true, apart := false, narrowed := true }
def FlagsPartsUptoSaid : Prop := flagsPartsUptoRow.holds Try.pinned (OpenSpec.upto flagsPartsSpec)

/-- 'sennitlaw14.FlagsContent', WHERE WHAT IT READS IS OF BULK AT MOST 1048576: true; the input reads as it did. -/
def flagsContentUptoRow : OpenClaim := { program := "ytlmdihocogalaaa", sum := "4513203ee9291ad34c37f1a8c41fe4a7f2f41b63fe1e269c9409b9c3ab0b28ff", func := "sennit/sennitlaw14.FlagsContent", spec := "flagsContent", unfollowed := true, recurses := true, apart := false, narrowed := true }
def FlagsContentUptoSaid : Prop := flagsContentUptoRow.holds Try.pinned (OpenSpec.upto flagsContentSpec)

end Rows
end Go.Proofs.Ytlmdihocogalaaa

/-
  No cell of these rows narrows 'for every input' (looked for: loops, veiled, ifaces, maps, wideKeys, modest, calm, conditions, laid).
  DERIVED. THE GIVEN ROWS OF THIS SEAT. 6 by the template 'for every input the law returns true; each argument reads behind the call as it read before'; 0 by the template 'total and deterministic' (their statements: YtfennjefkfblgaaTotals.lean).
  GIVEN WITH THE SEED: the statements are not yours to turn. If you find one false, say at which input.
  Laid BY PROGRAM, IN A SANDBOX (cutbox-rows.mjs): the forced cells as the released guide's own fill.sh prints them over the translation 414e15000380c31b… (all of the seat's roots in one cut). By AI agents, Wed Nov 11 2026. No macro, syntax, notation, axiom, sorry.
-/
import Derived.Test.YtfennjefkfblgaaChecked
import GoSem.Claim
import GoSem.ClaimJoined
import GoSem.ClaimMapViews
import Derived.JoinedTies
import Derived.KernelRfl
namespace Go.Proofs.Ytfennjefkfblgaa
/- THE CELL 'sum', in the pinned program and in every row, IS THE sha256 OF THE DUMP (.gsa) THAT YtfennjefkfblgaaProg.lean LOADS. Nothing in Lean hashes anything: it is a label: what it is worth is what the hold of that sum in a sandbox is worth. -/
noncomputable def Try.pinned : Pinned := { name := "ytfennjefkfblgaa", sum := "414e15000380c31b876d0614b26b3493560d9444e7617e75420fef166d24509c", checked := Try.checked }
namespace Rows
def none {H : Type} : Left H := { results := [], args := [] }

/-- 'sennitlaw07.PickTells': WHATEVER THE INPUT: true; the input reads as it did. -/
def pickTellsSpec : ChangeSpec := { name := "pickTells", fn := fun _ => fun
  | [d1, d2, d3] => { results := [.lit (.bool true)], args := [d1, d2, d3] }
  | _ => none }
def pickTellsRow : OpenClaim := { program := "ytfennjefkfblgaa", sum := "414e15000380c31b876d0614b26b3493560d9444e7617e75420fef166d24509c", func := "sennit/sennitlaw07.PickTells", spec := "pickTells", unfollowed := true, recurses := true, apart := false }
def PickTellsSaid : Prop := pickTellsRow.holds Try.pinned (OpenSpec.ofChange pickTellsSpec)

/-- ITS FALSE NEIGHBOUR: 'it returns false'. Refute it at one input. -/
def pickTellsWrong : ChangeSpec := { name := "pickTells", fn := fun _ => fun
  | [d1, d2, d3] => { results := [.lit (.bool false)], args := [d1, d2, d3] }
  | _ => none }
def PickTellsWrongFalsely : Prop := pickTellsRow.holds Try.pinned (OpenSpec.ofChange pickTellsWrong)

/-- 'sennitlaw07.PickNormal': WHATEVER THE INPUT: true; the input reads as it did. -/
def pickNormalSpec : ChangeSpec := { name := "pickNormal", fn := fun _ => fun
  | [d] => { results := [.lit (.bool true)], args := [d] }
  | _ => none }
def pickNormalRow : OpenClaim := { program := "ytfennjefkfblgaa", sum := "414e15000380c31b876d0614b26b3493560d9444e7617e75420fef166d24509c", func := "sennit/sennitlaw07.PickNormal", spec := "pickNormal", unfollowed := true, recurses := true, apart := false }
def PickNormalSaid : Prop := pickNormalRow.holds Try.pinned (OpenSpec.ofChange pickNormalSpec)

/-- ITS FALSE NEIGHBOUR: 'it returns false'. Refute it at one input. -/
def pickNormalWrong : ChangeSpec := { name := "pickNormal", fn := fun _ => fun
  | [d] => { results := [.lit (.bool false)], args := [d] }
  | _ => none }
def PickNormalWrongFalsely : Prop := pickNormalRow.holds Try.pinned (OpenSpec.ofChange pickNormalWrong)

/-- 'sennitlaw07.PickChooses': WHATEVER THE INPUT: true; the input reads as it did. -/
def pickChoosesSpec : ChangeSpec := { name := "pickChooses", fn := fun _ => fun
  | [d1, d2] => { results := [.lit (.bool true)], args := [d1, d2] }
  | _ => none }
def pickChoosesRow : OpenClaim := { program := "ytfennjefkfblgaa", sum := "414e15000380c31b876d0614b26b3493560d9444e7617e75420fef166d24509c", func := "sennit/sennitlaw07.PickChooses", spec := "pickChooses", unfollowed := true, recurses := true, apart := false }
def PickChoosesSaid : Prop := pickChoosesRow.holds Try.pinned (OpenSpec.ofChange pickChoosesSpec)

/-- ITS FALSE NEIGHBOUR: 'it returns false'. Refute it at one input. -/
def pickChoosesWrong : ChangeSpec := { name := "pickChooses", fn := fun _ => fun
  | [d1, d2] => { results := [.lit (.bool false)], args := [d1, d2] }
  | _ => none }
def PickChoosesWrongFalsely : Prop := pickChoosesRow.holds Try.pinned (OpenSpec.ofChange pickChoosesWrong)

/-- 'sennitlaw07.PickFavour': WHATEVER THE INPUT: true; the input reads as it did. -/
def pickFavourSpec : ChangeSpec := { name := "pickFavour", fn := fun _ => fun
  | [d1, d2, d3] => { results := [.lit (.bool true)], args := [d1, d2, d3] }
  | _ => none }
def pickFavourRow : OpenClaim := { program := "ytfennjefkfblgaa", sum := "414e15000380c31b876d0614b26b3493560d9444e7617e75420fef166d24509c", func := "sennit/sennitlaw07.PickFavour", spec := "pickFavour", unfollowed := true, recurses := true, apart := false }
def PickFavourSaid : Prop := pickFavourRow.holds Try.pinned (OpenSpec.ofChange pickFavourSpec)

/-- ITS FALSE NEIGHBOUR: 'it returns false'. Refute it at one input. -/
def pickFavourWrong : ChangeSpec := { name := "pickFavour", fn := fun _ => fun
  | [d1, d2, d3] => { results := [.lit (.bool false)], args := [d1, d2, d3] }
  | _ => none }
def PickFavourWrongFalsely : Prop := pickFavourRow.holds Try.pinned (OpenSpec.ofChange pickFavourWrong)

/-- 'sennitlaw07.PickUnion': WHATEVER THE INPUT: true; the input reads as it did. -/
def pickUnionSpec : ChangeSpec := { name := "pickUnion", fn := fun _ => fun
  | [d1, d2] => { results := [.lit (.bool true)], args := [d1, d2] }
  | _ => none }
def pickUnionRow : OpenClaim := { program := "ytfennjefkfblgaa", sum := "414e15000380c31b876d0614b26b3493560d9444e7617e75420fef166d24509c", func := "sennit/sennitlaw07.PickUnion", spec := "pickUnion", unfollowed := true, recurses := true, apart := false }
def PickUnionSaid : Prop := pickUnionRow.holds Try.pinned (OpenSpec.ofChange pickUnionSpec)

/-- ITS FALSE NEIGHBOUR: 'it returns false'. Refute it at one input. -/
def pickUnionWrong : ChangeSpec := { name := "pickUnion", fn := fun _ => fun
  | [d1, d2] => { results := [.lit (.bool false)], args := [d1, d2] }
  | _ => none }
def PickUnionWrongFalsely : Prop := pickUnionRow.holds Try.pinned (OpenSpec.ofChange pickUnionWrong)

/-- 'sennitlaw07.PickSame': WHATEVER THE INPUT: true; the input reads as it did. -/
def pickSameSpec : ChangeSpec := { name := "pickSame", fn := fun _ => fun
  | [d1, d2] => { results := [.lit (.bool true)], args := [d1, d2] }
  | _ => none }
def pickSameRow : OpenClaim := { program := "ytfennjefkfblgaa", sum := "414e15000380c31b876d0614b26b3493560d9444e7617e75420fef166d24509c", func := "sennit/sennitlaw07.PickSame", spec := "pickSame", unfollowed := true, recurses := true, apart := false }
def PickSameSaid : Prop := pickSameRow.holds Try.pinned (OpenSpec.ofChange pickSameSpec)

/-- ITS FALSE NEIGHBOUR: 'it returns false'. Refute it at one input. -/
def pickSameWrong : ChangeSpec := { name := "pickSame", fn := fun _ => fun
  | [d1, d2] => { results := [.lit (.bool false)], args := [d1, d2] }
  | _ => none }
def PickSameWrongFalsely : Prop := pickSameRow.holds Try.pinned (OpenSpec.ofChange pickSameWrong)

/- THE SECOND FORM. 'bulk': how many values and letters a reading holds, each counted each time it is reached (what is shared counts as often as it is met; a slice's spare places count too). A statement '..UptoSaid' is the law's where the arguments, and the package variables that the reading takes, are together of bulk at most 1048576: NARROWER than '..Said'. Prove '..Said' where nothing that the law and all that it calls make is longer than what came in: it says more and counts as full. Else prove '..UptoSaid'. A law counts once. -/
mutual
def uptoBulk {H : Type} : DataW H → Nat
  | .lit (.string bytes) => bytes.length + 1
  | .lit _ => 1
  | .nil => 1
  | .ptr d => uptoBulk d + 1
  | .slice elems spare => uptoBulkAll elems + uptoBulkAll spare + 1
  | .agg parts => uptoBulkAll parts + 1
  | .iface _ d => uptoBulk d + 1
  | .map entries => uptoBulkEntries entries + 1
  | .held _ => 1
def uptoBulkAll {H : Type} : List (DataW H) → Nat
  | [] => 0
  | d :: r => uptoBulk d + uptoBulkAll r
def uptoBulkEntries {H : Type} : List (Lit × DataW H) → Nat
  | [] => 0
  | x :: r => uptoBulkEntry x + uptoBulkEntries r
def uptoBulkEntry {H : Type} : Lit × DataW H → Nat
  | (.string bytes, d) => bytes.length + uptoBulk d + 1
  | (_, d) => uptoBulk d + 1
 end
def uptoSmall : (H : Type) → List (DataW H) → Bool := fun _ ds => decide (uptoBulkAll ds ≤ 1048576)
def OpenSpec.upto (s : _root_.Go.ChangeSpec) : _root_.Go.OpenSpec := { _root_.Go.OpenSpec.ofChange s with cond := some uptoSmall }

/-- 'sennitlaw07.PickTells', WHERE WHAT IT READS IS OF BULK AT MOST 1048576: true; the input reads as it did. -/
def pickTellsUptoRow : OpenClaim := { program := "ytfennjefkfblgaa", sum := "414e15000380c31b876d0614b26b3493560d9444e7617e75420fef166d24509c", func := "sennit/sennitlaw07.PickTells", spec := "pickTells", unfollowed := true, recurses := true, apart := false, narrowed := true }
def PickTellsUptoSaid : Prop := pickTellsUptoRow.holds Try.pinned (OpenSpec.upto pickTellsSpec)

/-- 'sennitlaw07.PickNormal', WHERE WHAT IT READS IS OF BULK AT MOST 1048576: true; the input reads as it did. -/
def pickNormalUptoRow : OpenClaim := { program := "ytfennjefkfblgaa", sum := "414e15000380c31b876d0614b26b3493560d9444e7617e75420fef166d24509c", func := "sennit/sennitlaw07.PickNormal", spec := "pickNormal", unfollowed := true, recurses := true, apart := false, narrowed := true }
def PickNormalUptoSaid : Prop := pickNormalUptoRow.holds Try.pinned (OpenSpec.upto pickNormalSpec)

/-- 'sennitlaw07.PickChooses', WHERE WHAT IT READS IS OF BULK AT MOST 1048576: true; the input reads as it did. -/
def pickChoosesUptoRow : OpenClaim := { program := "ytfennjefkfblgaa", sum := "414e15000380c31b876d0614b26b3493560d9444e7617e75420fef166d24509c", func := "sennit/sennitlaw07.PickChooses", spec := "pickChooses", unfollowed := true, recurses := true, apart := false, narrowed := true }
def PickChoosesUptoSaid : Prop := pickChoosesUptoRow.holds Try.pinned (OpenSpec.upto pickChoosesSpec)

/-- 'sennitlaw07.PickFavour', WHERE WHAT IT READS IS OF BULK AT MOST 1048576: true; the input reads as it did. -/
def pickFavourUptoRow : OpenClaim := { program := "ytfennjefkfblgaa", sum := "414e15000380c31b876d0614b26b3493560d9444e7617e75420fef166d24509c", func := "sennit/sennitlaw07.PickFavour", spec := "pickFavour", unfollowed := true, recurses := true, apart := false, narrowed := true }
def PickFavourUptoSaid : Prop := pickFavourUptoRow.holds Try.pinned (OpenSpec.upto pickFavourSpec)

/-- 'sennitlaw07.PickUnion', WHERE WHAT IT READS IS OF BULK AT MOST 1048576: true; the input reads as it did. -/
def pickUnionUptoRow : OpenClaim := { program := "ytfennjefkfblgaa", sum := "414e15000380c31b876d0614b26b3493560d9444e7617e75420fef166d24509c", func := "sennit/sennitlaw07.PickUnion", spec := "pickUnion", unfollowed := true, recurses := true, apart := false, narrowed := true }
def PickUnionUptoSaid : Prop := pickUnionUptoRow.holds Try.pinned (OpenSpec.upto pickUnionSpec)

/-- 'sennitlaw07.PickSame', WHERE WHAT IT READS IS OF BULK AT MOST 1048576: true; the input reads as it did. -/
def pickSameUptoRow : OpenClaim := { program := "ytfennjefkfblgaa", sum := "414e15000380c31b876d0614b26b3493560d9444e7617e75420fef166d24509c", func := "sennit/sennitlaw07.PickSame", spec := "pickSame", unfollowed := true, recurses := true, apart := false, narrowed := true }
def PickSameUptoSaid : Prop := pickSameUptoRow.holds Try.pinned (OpenSpec.upto pickSameSpec)

end Rows
end Go.Proofs.Ytfennjefkfblgaa

/-
  No cell of these rows narrows 'for every input' (looked for: loops, veiled, ifaces, maps, wideKeys, modest, calm, conditions, laid).
  DERIVED. THE GIVEN ROWS OF THIS SEAT. 5 by the template 'for every input the law returns true; each argument reads behind the call as it read before'; 0 by the template 'total and deterministic' (their statements: YtoamkfegjhailaaTotals.lean).
  GIVEN WITH THE SEED: the statements are not yours to turn. If you find one false, say at which input.
  Laid BY PROGRAM, IN A SANDBOX (cutbox-rows.mjs): the forced cells as the released guide's own fill.sh prints them over the translation c6ebc3d9ad286534… (all of the seat's roots in one cut). By AI agents, Wed Nov 11 2026. No macro, syntax, notation, axiom, sorry.
-/
import Derived.Test.YtoamkfegjhailaaChecked
import GoSem.Claim
import GoSem.ClaimJoined
import GoSem.ClaimMapViews
import Derived.JoinedTies
import Derived.KernelRfl
namespace Go.Proofs.Ytoamkfegjhailaa
/- THE CELL 'sum', in the pinned program and in every row, IS THE sha256 OF THE DUMP (.gsa) THAT YtoamkfegjhailaaProg.lean LOADS. Nothing in Lean hashes anything: it is a label: what it is worth is what the hold of that sum in a sandbox is worth. -/
noncomputable def Try.pinned : Pinned := { name := "ytoamkfegjhailaa", sum := "c6ebc3d9ad286534a7b9c9e93e772a1d70a4a74284742a2408cca136cc681ce4", checked := Try.checked }
namespace Rows
def none {H : Type} : Left H := { results := [], args := [] }

/-- 'sennitlaw15.DotsBlock': WHATEVER THE INPUT: true; the input reads as it did. -/
def dotsBlockSpec : ChangeSpec := { name := "dotsBlock", fn := fun _ => fun
  | [d] => { results := [.lit (.bool true)], args := [d] }
  | _ => none }
def dotsBlockRow : OpenClaim := { program := "ytoamkfegjhailaa", sum := "c6ebc3d9ad286534a7b9c9e93e772a1d70a4a74284742a2408cca136cc681ce4", func := "sennit/sennitlaw15.DotsBlock", spec := "dotsBlock", unfollowed := true, recurses := true, apart := false }
def DotsBlockSaid : Prop := dotsBlockRow.holds Try.pinned (OpenSpec.ofChange dotsBlockSpec)

/-- ITS FALSE NEIGHBOUR: 'it returns false'. Refute it at one input. -/
def dotsBlockWrong : ChangeSpec := { name := "dotsBlock", fn := fun _ => fun
  | [d] => { results := [.lit (.bool false)], args := [d] }
  | _ => none }
def DotsBlockWrongFalsely : Prop := dotsBlockRow.holds Try.pinned (OpenSpec.ofChange dotsBlockWrong)

/-- 'sennitlaw15.DotsUnblock': WHATEVER THE INPUT: true; the input reads as it did. -/
def dotsUnblockSpec : ChangeSpec := { name := "dotsUnblock", fn := fun _ => fun
  | [d] => { results := [.lit (.bool true)], args := [d] }
  | _ => none }
def dotsUnblockRow : OpenClaim := { program := "ytoamkfegjhailaa", sum := "c6ebc3d9ad286534a7b9c9e93e772a1d70a4a74284742a2408cca136cc681ce4", func := "sennit/sennitlaw15.DotsUnblock", spec := "dotsUnblock", unfollowed := true, recurses := true, apart := false }
def DotsUnblockSaid : Prop := dotsUnblockRow.holds Try.pinned (OpenSpec.ofChange dotsUnblockSpec)

/-- ITS FALSE NEIGHBOUR: 'it returns false'. Refute it at one input. -/
def dotsUnblockWrong : ChangeSpec := { name := "dotsUnblock", fn := fun _ => fun
  | [d] => { results := [.lit (.bool false)], args := [d] }
  | _ => none }
def DotsUnblockWrongFalsely : Prop := dotsUnblockRow.holds Try.pinned (OpenSpec.ofChange dotsUnblockWrong)

/-- 'sennitlaw15.DotsBack': WHATEVER THE INPUT: true; the input reads as it did. -/
def dotsBackSpec : ChangeSpec := { name := "dotsBack", fn := fun _ => fun
  | [d1, d2] => { results := [.lit (.bool true)], args := [d1, d2] }
  | _ => none }
def dotsBackRow : OpenClaim := { program := "ytoamkfegjhailaa", sum := "c6ebc3d9ad286534a7b9c9e93e772a1d70a4a74284742a2408cca136cc681ce4", func := "sennit/sennitlaw15.DotsBack", spec := "dotsBack", unfollowed := true, recurses := true, apart := false }
def DotsBackSaid : Prop := dotsBackRow.holds Try.pinned (OpenSpec.ofChange dotsBackSpec)

/-- ITS FALSE NEIGHBOUR: 'it returns false'. Refute it at one input. -/
def dotsBackWrong : ChangeSpec := { name := "dotsBack", fn := fun _ => fun
  | [d1, d2] => { results := [.lit (.bool false)], args := [d1, d2] }
  | _ => none }
def DotsBackWrongFalsely : Prop := dotsBackRow.holds Try.pinned (OpenSpec.ofChange dotsBackWrong)

/-- 'sennitlaw15.DotsEnds': WHATEVER THE INPUT: true; the input reads as it did. -/
def dotsEndsSpec : ChangeSpec := { name := "dotsEnds", fn := fun _ => fun
  | [d] => { results := [.lit (.bool true)], args := [d] }
  | _ => none }
def dotsEndsRow : OpenClaim := { program := "ytoamkfegjhailaa", sum := "c6ebc3d9ad286534a7b9c9e93e772a1d70a4a74284742a2408cca136cc681ce4", func := "sennit/sennitlaw15.DotsEnds", spec := "dotsEnds", unfollowed := true, recurses := true, apart := false }
def DotsEndsSaid : Prop := dotsEndsRow.holds Try.pinned (OpenSpec.ofChange dotsEndsSpec)

/-- ITS FALSE NEIGHBOUR: 'it returns false'. Refute it at one input. -/
def dotsEndsWrong : ChangeSpec := { name := "dotsEnds", fn := fun _ => fun
  | [d] => { results := [.lit (.bool false)], args := [d] }
  | _ => none }
def DotsEndsWrongFalsely : Prop := dotsEndsRow.holds Try.pinned (OpenSpec.ofChange dotsEndsWrong)

/-- 'sennitlaw15.DotsJoins': WHATEVER THE INPUT: true; the input reads as it did. -/
def dotsJoinsSpec : ChangeSpec := { name := "dotsJoins", fn := fun _ => fun
  | [d1, d2] => { results := [.lit (.bool true)], args := [d1, d2] }
  | _ => none }
def dotsJoinsRow : OpenClaim := { program := "ytoamkfegjhailaa", sum := "c6ebc3d9ad286534a7b9c9e93e772a1d70a4a74284742a2408cca136cc681ce4", func := "sennit/sennitlaw15.DotsJoins", spec := "dotsJoins", unfollowed := true, recurses := true, apart := false }
def DotsJoinsSaid : Prop := dotsJoinsRow.holds Try.pinned (OpenSpec.ofChange dotsJoinsSpec)

/-- ITS FALSE NEIGHBOUR: 'it returns false'. Refute it at one input. -/
def dotsJoinsWrong : ChangeSpec := { name := "dotsJoins", fn := fun _ => fun
  | [d1, d2] => { results := [.lit (.bool false)], args := [d1, d2] }
  | _ => none }
def DotsJoinsWrongFalsely : Prop := dotsJoinsRow.holds Try.pinned (OpenSpec.ofChange dotsJoinsWrong)

/- THE SECOND FORM. 'bulk': how many values and letters a reading holds, each counted each time it is reached (what is shared counts as often as it is met; a slice's spare places count too). A statement '..UptoSaid' is the law's where the arguments, and the package variables that the reading takes, are together of bulk at most 1048576: NARROWER than '..Said'. Prove '..Said' where nothing that the law and all that it calls make is longer than what came in: it says more and counts as full. Else prove '..UptoSaid'. A law counts once. -/
mutual
def uptoBulk {H : Type} : DataW H → Nat
  | .lit (.string bytes) => bytes.length + 1
  | .lit _ => 1
  | .nil => 1
  | .ptr d => uptoBulk d + 1
  | .slice elems spare => uptoBulkAll elems + uptoBulkAll spare + 1
  | .agg parts => uptoBulkAll parts + 1
  | .iface _ d => uptoBulk d + 1
  | .map entries => uptoBulkEntries entries + 1
  | .held _ => 1
def uptoBulkAll {H : Type} : List (DataW H) → Nat
  | [] => 0
  | d :: r => uptoBulk d + uptoBulkAll r
def uptoBulkEntries {H : Type} : List (Lit × DataW H) → Nat
  | [] => 0
  | x :: r => uptoBulkEntry x + uptoBulkEntries r
def uptoBulkEntry {H : Type} : Lit × DataW H → Nat
  | (.string bytes, d) => bytes.length + uptoBulk d + 1
  | (_, d) => uptoBulk d + 1
 end
def uptoSmall : (H : Type) → List (DataW H) → Bool := fun _ ds => decide (uptoBulkAll ds ≤ 1048576)
def OpenSpec.upto (s : _root_.Go.ChangeSpec) : _root_.Go.OpenSpec := { _root_.Go.OpenSpec.ofChange s with cond := some uptoSmall }

/-- 'sennitlaw15.DotsBlock', WHERE WHAT IT READS IS OF BULK AT MOST 1048576: true; the input reads as it did. -/
def dotsBlockUptoRow : OpenClaim := { program := "ytoamkfegjhailaa", sum := "c6ebc3d9ad286534a7b9c9e93e772a1d70a4a74284742a2408cca136cc681ce4", func := "sennit/sennitlaw15.DotsBlock", spec := "dotsBlock", unfollowed := true, recurses := true, apart := false, narrowed := true }
def DotsBlockUptoSaid : Prop := dotsBlockUptoRow.holds Try.pinned (OpenSpec.upto dotsBlockSpec)

/-- 'sennitlaw15.DotsUnblock', WHERE WHAT IT READS IS OF BULK AT MOST 1048576: true; the input reads as it did. -/
def dotsUnblockUptoRow : OpenClaim := { program := "ytoamkfegjhailaa", sum := "c6ebc3d9ad286534a7b9c9e93e772a1d70a4a74284742a2408cca136cc681ce4", func := "sennit/sennitlaw15.DotsUnblock", spec := "dotsUnblock", unfollowed := true, recurses := true, apart := false, narrowed := true }
def DotsUnblockUptoSaid : Prop := dotsUnblockUptoRow.holds Try.pinned (OpenSpec.upto dotsUnblockSpec)

/-- 'sennitlaw15.DotsBack', WHERE WHAT IT READS IS OF BULK AT MOST 1048576: true; the input reads as it did. -/
def dotsBackUptoRow : OpenClaim := { program := "ytoamkfegjhailaa", sum := "c6ebc3d9ad286534a7b9c9e93e772a1d70a4a74284742a2408cca136cc681ce4", func := "sennit/sennitlaw15.DotsBack", spec := "dotsBack", unfollowed := true, recurses := true, apart := false, narrowed := true }
def DotsBackUptoSaid : Prop := dotsBackUptoRow.holds Try.pinned (OpenSpec.upto dotsBackSpec)

/-- 'sennitlaw15.DotsEnds', WHERE WHAT IT READS IS OF BULK AT MOST 1048576: true; the input reads as it did. -/
def dotsEndsUptoRow : OpenClaim := { program := "ytoamkfegjhailaa", sum := "c6ebc3d9ad286534a7b9c9e93e772a1d70a4a74284742a2408cca136cc681ce4", func := "sennit/sennitlaw15.DotsEnds", spec := "dotsEnds", unfollowed := true, recurses := true, apart := false, narrowed := true }
def DotsEndsUptoSaid : Prop := dotsEndsUptoRow.holds Try.pinned (OpenSpec.upto dotsEndsSpec)

/-- 'sennitlaw15.DotsJoins', WHERE WHAT IT READS IS OF BULK AT MOST 1048576: true; the input reads as it did. -/
def dotsJoinsUptoRow : OpenClaim := { program := "ytoamkfegjhailaa", sum := "c6ebc3d9ad286534a7b9c9e93e772a1d70a4a74284742a2408cca136cc681ce4", func := "sennit/sennitlaw15.DotsJoins", spec := "dotsJoins", unfollowed := true, recurses := true, apart := false, narrowed := true }
def DotsJoinsUptoSaid : Prop := dotsJoinsUptoRow.holds Try.pinned (OpenSpec.upto dotsJoinsSpec)

end Rows
end Go.Proofs.Ytoamkfegjhailaa

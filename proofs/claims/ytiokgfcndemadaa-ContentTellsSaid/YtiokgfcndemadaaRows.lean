/-
  No cell of these rows narrows 'for every input' (looked for: loops, veiled, ifaces, maps, wideKeys, modest, calm, conditions, laid).
  DERIVED. THE GIVEN ROWS OF THIS SEAT. 5 by the template 'for every input the law returns true; each argument reads behind the call as it read before'; 0 by the template 'total and deterministic' (their statements: YtiokgfcndemadaaTotals.lean).
  GIVEN WITH THE SEED: the statements are not yours to turn. If you find one false, say at which input.
  Laid BY PROGRAM, IN A SANDBOX (cutbox-rows.mjs): the forced cells as the released guide's own fill.sh prints them over the translation c3c4b3be2a4bc5a7… (all of the seat's roots in one cut). By AI agents, Wed Nov 11 2026. No macro, syntax, notation, axiom, sorry.
-/
import Derived.Test.YtiokgfcndemadaaChecked
import GoSem.Claim
import GoSem.ClaimJoined
import GoSem.ClaimMapViews
import Derived.JoinedTies
import Derived.KernelRfl
namespace Go.Proofs.Ytiokgfcndemadaa
/- THE CELL 'sum', in the pinned program and in every row, IS THE sha256 OF THE DUMP (.gsa) THAT YtiokgfcndemadaaProg.lean LOADS. Nothing in Lean hashes anything: it is a label: what it is worth is what the hold of that sum in a sandbox is worth. -/
noncomputable def Try.pinned : Pinned := { name := "ytiokgfcndemadaa", sum := "c3c4b3be2a4bc5a7079661622247556eba9eba7b5916465e4c950d99429fbaaf", checked := Try.checked }
namespace Rows
def none {H : Type} : Left H := { results := [], args := [] }

/-- 'sennitlaw06.ContentParts': WHATEVER THE INPUT: true; the input reads as it did. -/
def contentPartsSpec : ChangeSpec := { name := "contentParts", fn := fun _ => fun
  | [d1, d2, d3] => { results := [.lit (.bool true)], args := [d1, d2, d3] }
  | _ => none }
def contentPartsRow : OpenClaim := { program := "ytiokgfcndemadaa", sum := "c3c4b3be2a4bc5a7079661622247556eba9eba7b5916465e4c950d99429fbaaf", func := "sennit/sennitlaw06.ContentParts", spec := "contentParts", unfollowed := true, recurses := true, apart := false }
def ContentPartsSaid : Prop := contentPartsRow.holds Try.pinned (OpenSpec.ofChange contentPartsSpec)

/-- ITS FALSE NEIGHBOUR: 'it returns false'. Refute it at one input. -/
def contentPartsWrong : ChangeSpec := { name := "contentParts", fn := fun _ => fun
  | [d1, d2, d3] => { results := [.lit (.bool false)], args := [d1, d2, d3] }
  | _ => none }
def ContentPartsWrongFalsely : Prop := contentPartsRow.holds Try.pinned (OpenSpec.ofChange contentPartsWrong)

/-- 'sennitlaw06.ContentTells': WHATEVER THE INPUT: true; the input reads as it did. -/
def contentTellsSpec : ChangeSpec := { name := "contentTells", fn := fun _ => fun
  | [d1, d2] => { results := [.lit (.bool true)], args := [d1, d2] }
  | _ => none }
def contentTellsRow : OpenClaim := { program := "ytiokgfcndemadaa", sum := "c3c4b3be2a4bc5a7079661622247556eba9eba7b5916465e4c950d99429fbaaf", func := "sennit/sennitlaw06.ContentTells", spec := "contentTells", unfollowed := true, recurses := true, apart := false }
def ContentTellsSaid : Prop := contentTellsRow.holds Try.pinned (OpenSpec.ofChange contentTellsSpec)

/-- ITS FALSE NEIGHBOUR: 'it returns false'. Refute it at one input. -/
def contentTellsWrong : ChangeSpec := { name := "contentTells", fn := fun _ => fun
  | [d1, d2] => { results := [.lit (.bool false)], args := [d1, d2] }
  | _ => none }
def ContentTellsWrongFalsely : Prop := contentTellsRow.holds Try.pinned (OpenSpec.ofChange contentTellsWrong)

/-- 'sennitlaw06.ContentEach': WHATEVER THE INPUT: true; the input reads as it did. -/
def contentEachSpec : ChangeSpec := { name := "contentEach", fn := fun _ => fun
  | [d1, d2] => { results := [.lit (.bool true)], args := [d1, d2] }
  | _ => none }
def contentEachRow : OpenClaim := { program := "ytiokgfcndemadaa", sum := "c3c4b3be2a4bc5a7079661622247556eba9eba7b5916465e4c950d99429fbaaf", func := "sennit/sennitlaw06.ContentEach", spec := "contentEach", unfollowed := true, recurses := true, apart := false }
def ContentEachSaid : Prop := contentEachRow.holds Try.pinned (OpenSpec.ofChange contentEachSpec)

/-- ITS FALSE NEIGHBOUR: 'it returns false'. Refute it at one input. -/
def contentEachWrong : ChangeSpec := { name := "contentEach", fn := fun _ => fun
  | [d1, d2] => { results := [.lit (.bool false)], args := [d1, d2] }
  | _ => none }
def ContentEachWrongFalsely : Prop := contentEachRow.holds Try.pinned (OpenSpec.ofChange contentEachWrong)

/-- 'sennitlaw06.ContentTurn': WHATEVER THE INPUT: true; the input reads as it did. -/
def contentTurnSpec : ChangeSpec := { name := "contentTurn", fn := fun _ => fun
  | [d1, d2, d3] => { results := [.lit (.bool true)], args := [d1, d2, d3] }
  | _ => none }
def contentTurnRow : OpenClaim := { program := "ytiokgfcndemadaa", sum := "c3c4b3be2a4bc5a7079661622247556eba9eba7b5916465e4c950d99429fbaaf", func := "sennit/sennitlaw06.ContentTurn", spec := "contentTurn", unfollowed := true, recurses := true, apart := false }
def ContentTurnSaid : Prop := contentTurnRow.holds Try.pinned (OpenSpec.ofChange contentTurnSpec)

/-- ITS FALSE NEIGHBOUR: 'it returns false'. Refute it at one input. -/
def contentTurnWrong : ChangeSpec := { name := "contentTurn", fn := fun _ => fun
  | [d1, d2, d3] => { results := [.lit (.bool false)], args := [d1, d2, d3] }
  | _ => none }
def ContentTurnWrongFalsely : Prop := contentTurnRow.holds Try.pinned (OpenSpec.ofChange contentTurnWrong)

/-- 'sennitlaw06.ContentSame': WHATEVER THE INPUT: true; the input reads as it did. -/
def contentSameSpec : ChangeSpec := { name := "contentSame", fn := fun _ => fun
  | [d1, d2] => { results := [.lit (.bool true)], args := [d1, d2] }
  | _ => none }
def contentSameRow : OpenClaim := { program := "ytiokgfcndemadaa", sum := "c3c4b3be2a4bc5a7079661622247556eba9eba7b5916465e4c950d99429fbaaf", func := "sennit/sennitlaw06.ContentSame", spec := "contentSame", unfollowed := true, recurses := true, apart := false }
def ContentSameSaid : Prop := contentSameRow.holds Try.pinned (OpenSpec.ofChange contentSameSpec)

/-- ITS FALSE NEIGHBOUR: 'it returns false'. Refute it at one input. -/
def contentSameWrong : ChangeSpec := { name := "contentSame", fn := fun _ => fun
  | [d1, d2] => { results := [.lit (.bool false)], args := [d1, d2] }
  | _ => none }
def ContentSameWrongFalsely : Prop := contentSameRow.holds Try.pinned (OpenSpec.ofChange contentSameWrong)

/- THE SECOND FORM. 'bulk': how many values and letters a reading holds, each counted each time it is reached (what is shared counts as often as it is met; a slice's spare places count too). A statement '..UptoSaid' is the law's where the arguments, and the package variables that the reading takes, are together of bulk at most 1048576: NARROWER than '..Said'. Prove '..Said' where nothing that the law and all that it calls make is longer than what came in: it says more and counts as full. Else prove '..UptoSaid'. A law counts once. -/
mutual
def uptoBulk {H : Type} : DataW H → Nat
  | .lit (.string bytes) => bytes.length + 1
  | .lit _ => 1
  | .nil => 1
  | .ptr d => uptoBulk d + 1
  | .slice elems spare => uptoBulkAll elems + uptoBulkAll spare + 1
  | .agg parts => uptoBulkAll parts + 1
  | .iface _ d => uptoBulk d + 1
  | .map entries => uptoBulkEntries entries + 1
  | .held _ => 1
def uptoBulkAll {H : Type} : List (DataW H) → Nat
  | [] => 0
  | d :: r => uptoBulk d + uptoBulkAll r
def uptoBulkEntries {H : Type} : List (Lit × DataW H) → Nat
  | [] => 0
  | x :: r => uptoBulkEntry x + uptoBulkEntries r
def uptoBulkEntry {H : Type} : Lit × DataW H → Nat
  | (.string bytes, d) => bytes.length + uptoBulk d + 1
  | (_, d) => uptoBulk d + 1
 end
def uptoSmall : (H : Type) → List (DataW H) → Bool := fun _ ds => decide (uptoBulkAll ds ≤ 1048576)
def OpenSpec.upto (s : _root_.Go.ChangeSpec) : _root_.Go.OpenSpec := { _root_.Go.OpenSpec.ofChange s with cond := some uptoSmall }

/-- 'sennitlaw06.ContentParts', WHERE WHAT IT READS IS OF BULK AT MOST 1048576: true; the input reads as it did. -/
def contentPartsUptoRow : OpenClaim := { program := "ytiokgfcndemadaa", sum := "c3c4b3be2a4bc5a7079661622247556eba9eba7b5916465e4c950d99429fbaaf", func := "sennit/sennitlaw06.ContentParts", spec := "contentParts", unfollowed := true, recurses := true, apart := false, narrowed := true }
def ContentPartsUptoSaid : Prop := contentPartsUptoRow.holds Try.pinned (OpenSpec.upto contentPartsSpec)

/-- 'sennitlaw06.ContentTells', WHERE WHAT IT READS IS OF BULK AT MOST 1048576: true; the input reads as it did. -/
def contentTellsUptoRow : OpenClaim := { program := "ytiokgfcndemadaa", sum := "c3c4b3be2a4bc5a7079661622247556eba9eba7b5916465e4c950d99429fbaaf", func := "sennit/sennitlaw06.ContentTells", spec := "contentTells", unfollowed := true, recurses := true, apart := false, narrowed := true }
def ContentTellsUptoSaid : Prop := contentTellsUptoRow.holds Try.pinned (OpenSpec.upto contentTellsSpec)

/-- 'sennitlaw06.ContentEach', WHERE WHAT IT READS IS OF BULK AT MOST 1048576: true; the input reads as it did. -/
def contentEachUptoRow : OpenClaim := { program := "ytiokgfcndemadaa", sum := "c3c4b3be2a4bc5a7079661622247556eba9eba7b5916465e4c950d99429fbaaf", func := "sennit/sennitlaw06.ContentEach", spec := "contentEach", unfollowed := true, recurses := true, apart := false, narrowed := true }
def ContentEachUptoSaid : Prop := contentEachUptoRow.holds Try.pinned (OpenSpec.upto contentEachSpec)

/-- 'sennitlaw06.ContentTurn', WHERE WHAT IT READS IS OF BULK AT MOST 1048576: true; the input reads as it did. -/
def contentTurnUptoRow : OpenClaim := { program := "ytiokgfcndemadaa", sum := "c3c4b3be2a4bc5a7079661622247556eba9eba7b5916465e4c950d99429fbaaf", func := "sennit/sennitlaw06.ContentTurn", spec := "contentTurn", unfollowed := true, recurses := true, apart := false, narrowed := true }
def ContentTurnUptoSaid : Prop := contentTurnUptoRow.holds Try.pinned (OpenSpec.upto contentTurnSpec)

/-- 'sennitlaw06.ContentSame', WHERE WHAT IT READS IS OF BULK AT MOST 1048576: true; the input reads as it did. -/
def contentSameUptoRow : OpenClaim := { program := "ytiokgfcndemadaa", sum := "c3c4b3be2a4bc5a7079661622247556eba9eba7b5916465e4c950d99429fbaaf", func := "sennit/sennitlaw06.ContentSame", spec := "contentSame", unfollowed := true, recurses := true, apart := false, narrowed := true }
def ContentSameUptoSaid : Prop := contentSameUptoRow.holds Try.pinned (OpenSpec.upto contentSameSpec)

end Rows
end Go.Proofs.Ytiokgfcndemadaa

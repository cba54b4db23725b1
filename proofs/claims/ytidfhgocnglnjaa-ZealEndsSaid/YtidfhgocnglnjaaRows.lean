/-
  No cell of these rows narrows 'for every input' (looked for: loops, veiled, ifaces, maps, wideKeys, modest, calm, conditions, laid).
  DERIVED. THE GIVEN ROWS OF THIS SEAT. 5 by the template 'for every input the law returns true; each argument reads behind the call as it read before'; 0 by the template 'total and deterministic' (their statements: YtidfhgocnglnjaaTotals.lean).
  GIVEN WITH THE SEED: the statements are not yours to turn. If you find one false, say at which input.
  Laid BY PROGRAM, IN A SANDBOX (cutbox-rows.mjs): the forced cells as the released guide's own fill.sh prints them over the translation 474e12fc56cfd0bf… (all of the seat's roots in one cut). By AI agents, Wed Nov 11 2026. No macro, syntax, notation, axiom, sorry.
-/
import Derived.Test.YtidfhgocnglnjaaChecked
import GoSem.Claim
import GoSem.ClaimJoined
import GoSem.ClaimMapViews
import Derived.JoinedTies
import Derived.KernelRfl
namespace Go.Proofs.Ytidfhgocnglnjaa
/- THE CELL 'sum', in the pinned program and in every row, IS THE sha256 OF THE DUMP (.gsa) THAT YtidfhgocnglnjaaProg.lean LOADS. Nothing in Lean hashes anything: it is a label: what it is worth is what the hold of that sum in a sandbox is worth. -/
noncomputable def Try.pinned : Pinned := { name := "ytidfhgocnglnjaa", sum := "474e12fc56cfd0bfa95f30c1f5586b35d447aa998cdf081f501e5062ea281623", checked := Try.checked }
namespace Rows
def none {H : Type} : Left H := { results := [], args := [] }

/-- 'sennitlaw10.ZealTells': WHATEVER THE INPUT: true; the input reads as it did. -/
def zealTellsSpec : ChangeSpec := { name := "zealTells", fn := fun _ => fun
  | [d1, d2] => { results := [.lit (.bool true)], args := [d1, d2] }
  | _ => none }
def zealTellsRow : OpenClaim := { program := "ytidfhgocnglnjaa", sum := "474e12fc56cfd0bfa95f30c1f5586b35d447aa998cdf081f501e5062ea281623", func := "sennit/sennitlaw10.ZealTells", spec := "zealTells", unfollowed := true, recurses := true, apart := false }
def ZealTellsSaid : Prop := zealTellsRow.holds Try.pinned (OpenSpec.ofChange zealTellsSpec)

/-- ITS FALSE NEIGHBOUR: 'it returns false'. Refute it at one input. -/
def zealTellsWrong : ChangeSpec := { name := "zealTells", fn := fun _ => fun
  | [d1, d2] => { results := [.lit (.bool false)], args := [d1, d2] }
  | _ => none }
def ZealTellsWrongFalsely : Prop := zealTellsRow.holds Try.pinned (OpenSpec.ofChange zealTellsWrong)

/-- 'sennitlaw10.ZealChoose': WHATEVER THE INPUT: true; the input reads as it did. -/
def zealChooseSpec : ChangeSpec := { name := "zealChoose", fn := fun _ => fun
  | [d1, d2] => { results := [.lit (.bool true)], args := [d1, d2] }
  | _ => none }
def zealChooseRow : OpenClaim := { program := "ytidfhgocnglnjaa", sum := "474e12fc56cfd0bfa95f30c1f5586b35d447aa998cdf081f501e5062ea281623", func := "sennit/sennitlaw10.ZealChoose", spec := "zealChoose", unfollowed := true, recurses := true, apart := false }
def ZealChooseSaid : Prop := zealChooseRow.holds Try.pinned (OpenSpec.ofChange zealChooseSpec)

/-- ITS FALSE NEIGHBOUR: 'it returns false'. Refute it at one input. -/
def zealChooseWrong : ChangeSpec := { name := "zealChoose", fn := fun _ => fun
  | [d1, d2] => { results := [.lit (.bool false)], args := [d1, d2] }
  | _ => none }
def ZealChooseWrongFalsely : Prop := zealChooseRow.holds Try.pinned (OpenSpec.ofChange zealChooseWrong)

/-- 'sennitlaw10.ZealTwice': WHATEVER THE INPUT: true; the input reads as it did. -/
def zealTwiceSpec : ChangeSpec := { name := "zealTwice", fn := fun _ => fun
  | [d1, d2] => { results := [.lit (.bool true)], args := [d1, d2] }
  | _ => none }
def zealTwiceRow : OpenClaim := { program := "ytidfhgocnglnjaa", sum := "474e12fc56cfd0bfa95f30c1f5586b35d447aa998cdf081f501e5062ea281623", func := "sennit/sennitlaw10.ZealTwice", spec := "zealTwice", unfollowed := true, recurses := true, apart := false }
def ZealTwiceSaid : Prop := zealTwiceRow.holds Try.pinned (OpenSpec.ofChange zealTwiceSpec)

/-- ITS FALSE NEIGHBOUR: 'it returns false'. Refute it at one input. -/
def zealTwiceWrong : ChangeSpec := { name := "zealTwice", fn := fun _ => fun
  | [d1, d2] => { results := [.lit (.bool false)], args := [d1, d2] }
  | _ => none }
def ZealTwiceWrongFalsely : Prop := zealTwiceRow.holds Try.pinned (OpenSpec.ofChange zealTwiceWrong)

/-- 'sennitlaw10.ZealEnds': WHATEVER THE INPUT: true; the input reads as it did. -/
def zealEndsSpec : ChangeSpec := { name := "zealEnds", fn := fun _ => fun
  | [d] => { results := [.lit (.bool true)], args := [d] }
  | _ => none }
def zealEndsRow : OpenClaim := { program := "ytidfhgocnglnjaa", sum := "474e12fc56cfd0bfa95f30c1f5586b35d447aa998cdf081f501e5062ea281623", func := "sennit/sennitlaw10.ZealEnds", spec := "zealEnds", unfollowed := true, recurses := true, apart := false }
def ZealEndsSaid : Prop := zealEndsRow.holds Try.pinned (OpenSpec.ofChange zealEndsSpec)

/-- ITS FALSE NEIGHBOUR: 'it returns false'. Refute it at one input. -/
def zealEndsWrong : ChangeSpec := { name := "zealEnds", fn := fun _ => fun
  | [d] => { results := [.lit (.bool false)], args := [d] }
  | _ => none }
def ZealEndsWrongFalsely : Prop := zealEndsRow.holds Try.pinned (OpenSpec.ofChange zealEndsWrong)

/-- 'sennitlaw10.ZealTurn': WHATEVER THE INPUT: true; the input reads as it did. -/
def zealTurnSpec : ChangeSpec := { name := "zealTurn", fn := fun _ => fun
  | [d1, d2] => { results := [.lit (.bool true)], args := [d1, d2] }
  | _ => none }
def zealTurnRow : OpenClaim := { program := "ytidfhgocnglnjaa", sum := "474e12fc56cfd0bfa95f30c1f5586b35d447aa998cdf081f501e5062ea281623", func := "sennit/sennitlaw10.ZealTurn", spec := "zealTurn", unfollowed := true, recurses := true, apart := false }
def ZealTurnSaid : Prop := zealTurnRow.holds Try.pinned (OpenSpec.ofChange zealTurnSpec)

/-- ITS FALSE NEIGHBOUR: 'it returns false'. Refute it at one input. -/
def zealTurnWrong : ChangeSpec := { name := "zealTurn", fn := fun _ => fun
  | [d1, d2] => { results := [.lit (.bool false)], args := [d1, d2] }
  | _ => none }
def ZealTurnWrongFalsely : Prop := zealTurnRow.holds Try.pinned (OpenSpec.ofChange zealTurnWrong)

/- THE SECOND FORM. 'bulk': how many values and letters a reading holds, each counted each time it is reached (what is shared counts as often as it is met; a slice's spare places count too). A statement '..UptoSaid' is the law's where the arguments, and the package variables that the reading takes, are together of bulk at most 1048576: NARROWER than '..Said'. Prove '..Said' where nothing that the law and all that it calls make is longer than what came in: it says more and counts as full. Else prove '..UptoSaid'. A law counts once. -/
mutual
def uptoBulk {H : Type} : DataW H → Nat
  | .lit (.string bytes) => bytes.length + 1
  | .lit _ => 1
  | .nil => 1
  | .ptr d => uptoBulk d + 1
  | .slice elems spare => uptoBulkAll elems + uptoBulkAll spare + 1
  | .agg parts => uptoBulkAll parts + 1
  | .iface _ d => uptoBulk d + 1
  | .map entries => uptoBulkEntries entries + 1
  | .held _ => 1
def uptoBulkAll {H : Type} : List (DataW H) → Nat
  | [] => 0
  | d :: r => uptoBulk d + uptoBulkAll r
def uptoBulkEntries {H : Type} : List (Lit × DataW H) → Nat
  | [] => 0
  | x :: r => uptoBulkEntry x + uptoBulkEntries r
def uptoBulkEntry {H : Type} : Lit × DataW H → Nat
  | (.string bytes, d) => bytes.length + uptoBulk d + 1
  | (_, d) => uptoBulk d + 1
 end
def uptoSmall : (H : Type) → List (DataW H) → Bool := fun _ ds => decide (uptoBulkAll ds ≤ 1048576)
def OpenSpec.upto (s : _root_.Go.ChangeSpec) : _root_.Go.OpenSpec := { _root_.Go.OpenSpec.ofChange s with cond := some uptoSmall }

/-- 'sennitlaw10.ZealTells', WHERE WHAT IT READS IS OF BULK AT MOST 1048576: true; the input reads as it did. -/
def zealTellsUptoRow : OpenClaim := { program := "ytidfhgocnglnjaa", sum := "474e12fc56cfd0bfa95f30c1f5586b35d447aa998cdf081f501e5062ea281623", func := "sennit/sennitlaw10.ZealTells", spec := "zealTells", unfollowed := true, recurses := true, apart := false, narrowed := true }
def ZealTellsUptoSaid : Prop := zealTellsUptoRow.holds Try.pinned (OpenSpec.upto zealTellsSpec)

/-- 'sennitlaw10.ZealChoose', WHERE WHAT IT READS IS OF BULK AT MOST 1048576: true; the input reads as it did. -/
def zealChooseUptoRow : OpenClaim := { program := "ytidfhgocnglnjaa", sum := "474e12fc56cfd0bfa95f30c1f5586b35d447aa998cdf081f501e5062ea281623", func := "sennit/sennitlaw10.ZealChoose", spec := "zealChoose", unfollowed := true, recurses := true, apart := false, narrowed := true }
def ZealChooseUptoSaid : Prop := zealChooseUptoRow.holds Try.pinned (OpenSpec.upto zealChooseSpec)

/-- 'sennitlaw10.ZealTwice', WHERE WHAT IT READS IS OF BULK AT MOST 1048576: true; the input reads as it did. -/
def zealTwiceUptoRow : OpenClaim := { program := "ytidfhgocnglnjaa", sum := "474e12fc56cfd0bfa95f30c1f5586b35d447aa998cdf081f501e5062ea281623", func := "sennit/sennitlaw10.ZealTwice", spec := "zealTwice", unfollowed := true, recurses := true, apart := false, narrowed := true }
def ZealTwiceUptoSaid : Prop := zealTwiceUptoRow.holds Try.pinned (OpenSpec.upto zealTwiceSpec)

/-- 'sennitlaw10.ZealEnds', WHERE WHAT IT READS IS OF BULK AT MOST 1048576: true; the input reads as it did. -/
def zealEndsUptoRow : OpenClaim := { program := "ytidfhgocnglnjaa", sum := "474e12fc56cfd0bfa95f30c1f5586b35d447aa998cdf081f501e5062ea281623", func := "sennit/sennitlaw10.ZealEnds", spec := "zealEnds", unfollowed := true, recurses := true, apart := false, narrowed := true }
def ZealEndsUptoSaid : Prop := zealEndsUptoRow.holds Try.pinned (OpenSpec.upto zealEndsSpec)

/-- 'sennitlaw10.ZealTurn', WHERE WHAT IT READS IS OF BULK AT MOST 1048576: true; the input reads as it did. -/
def zealTurnUptoRow : OpenClaim := { program := "ytidfhgocnglnjaa", sum := "474e12fc56cfd0bfa95f30c1f5586b35d447aa998cdf081f501e5062ea281623", func := "sennit/sennitlaw10.ZealTurn", spec := "zealTurn", unfollowed := true, recurses := true, apart := false, narrowed := true }
def ZealTurnUptoSaid : Prop := zealTurnUptoRow.holds Try.pinned (OpenSpec.upto zealTurnSpec)

end Rows
end Go.Proofs.Ytidfhgocnglnjaa

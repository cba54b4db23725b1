/-
  No cell of these rows narrows 'for every input' (looked for: loops, veiled, ifaces, maps, wideKeys, modest, calm, conditions, laid).
  DERIVED. THE GIVEN ROWS OF THIS SEAT. 5 by the template 'for every input the law returns true; each argument reads behind the call as it read before'; 0 by the template 'total and deterministic' (their statements: YtijinhhlikhjfaaTotals.lean).
  GIVEN WITH THE SEED: the statements are not yours to turn. If you find one false, say at which input.
  Laid BY PROGRAM, IN A SANDBOX (cutbox-rows.mjs): the forced cells as the released guide's own fill.sh prints them over the translation a360d591879a123a… (all of the seat's roots in one cut). By AI agents, Wed Nov 11 2026. No macro, syntax, notation, axiom, sorry.
-/
import Derived.Test.YtijinhhlikhjfaaChecked
import GoSem.Claim
import GoSem.ClaimJoined
import GoSem.ClaimMapViews
import Derived.JoinedTies
import Derived.KernelRfl
namespace Go.Proofs.Ytijinhhlikhjfaa
/- THE CELL 'sum', in the pinned program and in every row, IS THE sha256 OF THE DUMP (.gsa) THAT YtijinhhlikhjfaaProg.lean LOADS. Nothing in Lean hashes anything: it is a label: what it is worth is what the hold of that sum in a sandbox is worth. -/
noncomputable def Try.pinned : Pinned := { name := "ytijinhhlikhjfaa", sum := "a360d591879a123abecb6c0d1850d0e42ba7b2e50e2223d2203fe034eebe87df", checked := Try.checked }
namespace Rows
def none {H : Type} : Left H := { results := [], args := [] }

/-- 'sennitlaw05.AlignCovers': WHATEVER THE INPUT: true; the input reads as it did. -/
def alignCoversSpec : ChangeSpec := { name := "alignCovers", fn := fun _ => fun
  | [d1, d2] => { results := [.lit (.bool true)], args := [d1, d2] }
  | _ => none }
def alignCoversRow : OpenClaim := { program := "ytijinhhlikhjfaa", sum := "a360d591879a123abecb6c0d1850d0e42ba7b2e50e2223d2203fe034eebe87df", func := "sennit/sennitlaw05.AlignCovers", spec := "alignCovers", unfollowed := true, recurses := true, apart := false }
def AlignCoversSaid : Prop := alignCoversRow.holds Try.pinned (OpenSpec.ofChange alignCoversSpec)

/-- ITS FALSE NEIGHBOUR: 'it returns false'. Refute it at one input. -/
def alignCoversWrong : ChangeSpec := { name := "alignCovers", fn := fun _ => fun
  | [d1, d2] => { results := [.lit (.bool false)], args := [d1, d2] }
  | _ => none }
def AlignCoversWrongFalsely : Prop := alignCoversRow.holds Try.pinned (OpenSpec.ofChange alignCoversWrong)

/-- 'sennitlaw05.AlignStable': WHATEVER THE INPUT: true; the input reads as it did. -/
def alignStableSpec : ChangeSpec := { name := "alignStable", fn := fun _ => fun
  | [d1, d2] => { results := [.lit (.bool true)], args := [d1, d2] }
  | _ => none }
def alignStableRow : OpenClaim := { program := "ytijinhhlikhjfaa", sum := "a360d591879a123abecb6c0d1850d0e42ba7b2e50e2223d2203fe034eebe87df", func := "sennit/sennitlaw05.AlignStable", spec := "alignStable", unfollowed := true, recurses := true, apart := false }
def AlignStableSaid : Prop := alignStableRow.holds Try.pinned (OpenSpec.ofChange alignStableSpec)

/-- ITS FALSE NEIGHBOUR: 'it returns false'. Refute it at one input. -/
def alignStableWrong : ChangeSpec := { name := "alignStable", fn := fun _ => fun
  | [d1, d2] => { results := [.lit (.bool false)], args := [d1, d2] }
  | _ => none }
def AlignStableWrongFalsely : Prop := alignStableRow.holds Try.pinned (OpenSpec.ofChange alignStableWrong)

/-- 'sennitlaw05.AlignUnique': WHATEVER THE INPUT: true; the input reads as it did. -/
def alignUniqueSpec : ChangeSpec := { name := "alignUnique", fn := fun _ => fun
  | [d1, d2, d3] => { results := [.lit (.bool true)], args := [d1, d2, d3] }
  | _ => none }
def alignUniqueRow : OpenClaim := { program := "ytijinhhlikhjfaa", sum := "a360d591879a123abecb6c0d1850d0e42ba7b2e50e2223d2203fe034eebe87df", func := "sennit/sennitlaw05.AlignUnique", spec := "alignUnique", unfollowed := true, recurses := true, apart := false }
def AlignUniqueSaid : Prop := alignUniqueRow.holds Try.pinned (OpenSpec.ofChange alignUniqueSpec)

/-- ITS FALSE NEIGHBOUR: 'it returns false'. Refute it at one input. -/
def alignUniqueWrong : ChangeSpec := { name := "alignUnique", fn := fun _ => fun
  | [d1, d2, d3] => { results := [.lit (.bool false)], args := [d1, d2, d3] }
  | _ => none }
def AlignUniqueWrongFalsely : Prop := alignUniqueRow.holds Try.pinned (OpenSpec.ofChange alignUniqueWrong)

/-- 'sennitlaw05.AlignTurns': WHATEVER THE INPUT: true; the input reads as it did. -/
def alignTurnsSpec : ChangeSpec := { name := "alignTurns", fn := fun _ => fun
  | [d1, d2, d3] => { results := [.lit (.bool true)], args := [d1, d2, d3] }
  | _ => none }
def alignTurnsRow : OpenClaim := { program := "ytijinhhlikhjfaa", sum := "a360d591879a123abecb6c0d1850d0e42ba7b2e50e2223d2203fe034eebe87df", func := "sennit/sennitlaw05.AlignTurns", spec := "alignTurns", unfollowed := true, recurses := true, apart := false }
def AlignTurnsSaid : Prop := alignTurnsRow.holds Try.pinned (OpenSpec.ofChange alignTurnsSpec)

/-- ITS FALSE NEIGHBOUR: 'it returns false'. Refute it at one input. -/
def alignTurnsWrong : ChangeSpec := { name := "alignTurns", fn := fun _ => fun
  | [d1, d2, d3] => { results := [.lit (.bool false)], args := [d1, d2, d3] }
  | _ => none }
def AlignTurnsWrongFalsely : Prop := alignTurnsRow.holds Try.pinned (OpenSpec.ofChange alignTurnsWrong)

/-- 'sennitlaw05.AlignOne': WHATEVER THE INPUT: true; the input reads as it did. -/
def alignOneSpec : ChangeSpec := { name := "alignOne", fn := fun _ => fun
  | [d1, d2] => { results := [.lit (.bool true)], args := [d1, d2] }
  | _ => none }
def alignOneRow : OpenClaim := { program := "ytijinhhlikhjfaa", sum := "a360d591879a123abecb6c0d1850d0e42ba7b2e50e2223d2203fe034eebe87df", func := "sennit/sennitlaw05.AlignOne", spec := "alignOne", unfollowed := true, recurses := true, apart := false }
def AlignOneSaid : Prop := alignOneRow.holds Try.pinned (OpenSpec.ofChange alignOneSpec)

/-- ITS FALSE NEIGHBOUR: 'it returns false'. Refute it at one input. -/
def alignOneWrong : ChangeSpec := { name := "alignOne", fn := fun _ => fun
  | [d1, d2] => { results := [.lit (.bool false)], args := [d1, d2] }
  | _ => none }
def AlignOneWrongFalsely : Prop := alignOneRow.holds Try.pinned (OpenSpec.ofChange alignOneWrong)

/- THE SECOND FORM. 'bulk': how many values and letters a reading holds, each counted each time it is reached (what is shared counts as often as it is met; a slice's spare places count too). A statement '..UptoSaid' is the law's where the arguments, and the package variables that the reading takes, are together of bulk at most 1048576: NARROWER than '..Said'. Prove '..Said' where nothing that the law and all that it calls make is longer than what came in: it says more and counts as full. Else prove '..UptoSaid'. A law counts once. -/
mutual
def uptoBulk {H : Type} : DataW H → Nat
  | .lit (.string bytes) => bytes.length + 1
  | .lit _ => 1
  | .nil => 1
  | .ptr d => uptoBulk d + 1
  | .slice elems spare => uptoBulkAll elems + uptoBulkAll spare + 1
  | .agg parts => uptoBulkAll parts + 1
  | .iface _ d => uptoBulk d + 1
  | .map entries => uptoBulkEntries entries + 1
  | .held _ => 1
def uptoBulkAll {H : Type} : List (DataW H) → Nat
  | [] => 0
  | d :: r => uptoBulk d + uptoBulkAll r
def uptoBulkEntries {H : Type} : List (Lit × DataW H) → Nat
  | [] => 0
  | x :: r => uptoBulkEntry x + uptoBulkEntries r
def uptoBulkEntry {H : Type} : Lit × DataW H → Nat
  | (.string bytes, d) => bytes.length + uptoBulk d + 1
  | (_, d) => uptoBulk d + 1
 end
def uptoSmall : (H : Type) → List (DataW H) → Bool := fun _ ds => decide (uptoBulkAll ds ≤ 1048576)
def OpenSpec.upto (s : _root_.Go.ChangeSpec) : _root_.Go.OpenSpec := { _root_.Go.OpenSpec.ofChange s with cond := some uptoSmall }

/-- 'sennitlaw05.AlignCovers', WHERE WHAT IT READS IS OF BULK AT MOST 1048576: true; the input reads as it did. -/
def alignCoversUptoRow : OpenClaim := { program := "ytijinhhlikhjfaa", sum := "a360d591879a123abecb6c0d1850d0e42ba7b2e50e2223d2203fe034eebe87df", func := "sennit/sennitlaw05.AlignCovers", spec := "alignCovers", unfollowed := true, recurses := true, apart := false, narrowed := true }
def AlignCoversUptoSaid : Prop := alignCoversUptoRow.holds Try.pinned (OpenSpec.upto alignCoversSpec)

/-- 'sennitlaw05.AlignStable', WHERE WHAT IT READS IS OF BULK AT MOST 1048576: true; the input reads as it did. -/
def alignStableUptoRow : OpenClaim := { program := "ytijinhhlikhjfaa", sum := "a360d591879a123abecb6c0d1850d0e42ba7b2e50e2223d2203fe034eebe87df", func := "sennit/sennitlaw05.AlignStable", spec := "alignStable", unfollowed := true, recurses := true, apart := false, narrowed := true }
def AlignStableUptoSaid : Prop := alignStableUptoRow.holds Try.pinned (OpenSpec.upto alignStableSpec)

/-- 'sennitlaw05.AlignUnique', WHERE WHAT IT READS IS OF BULK AT MOST 1048576: true; the input reads as it did. -/
def alignUniqueUptoRow : OpenClaim := { program := "ytijinhhlikhjfaa", sum := "a360d591879a123abecb6c0d1850d0e42ba7b2e50e2223d2203fe034eebe87df", func := "sennit/sennitlaw05.AlignUnique", spec := "alignUnique", unfollowed := true, recurses := true, apart := false, narrowed := true }
def AlignUniqueUptoSaid : Prop := alignUniqueUptoRow.holds Try.pinned (OpenSpec.upto alignUniqueSpec)

/-- 'sennitlaw05.AlignTurns', WHERE WHAT IT READS IS OF BULK AT MOST 1048576: true; the input reads as it did. -/
def alignTurnsUptoRow : OpenClaim := { program := "ytijinhhlikhjfaa", sum := "a360d591879a123abecb6c0d1850d0e42ba7b2e50e2223d2203fe034eebe87df", func := "sennit/sennitlaw05.AlignTurns", spec := "alignTurns", unfollowed := true, recurses := true, apart := false, narrowed := true }
def AlignTurnsUptoSaid : Prop := alignTurnsUptoRow.holds Try.pinned (OpenSpec.upto alignTurnsSpec)

/-- 'sennitlaw05.AlignOne', WHERE WHAT IT READS IS OF BULK AT MOST 1048576: true; the input reads as it did. -/
def alignOneUptoRow : OpenClaim := { program := "ytijinhhlikhjfaa", sum := "a360d591879a123abecb6c0d1850d0e42ba7b2e50e2223d2203fe034eebe87df", func := "sennit/sennitlaw05.AlignOne", spec := "alignOne", unfollowed := true, recurses := true, apart := false, narrowed := true }
def AlignOneUptoSaid : Prop := alignOneUptoRow.holds Try.pinned (OpenSpec.upto alignOneSpec)

end Rows
end Go.Proofs.Ytijinhhlikhjfaa

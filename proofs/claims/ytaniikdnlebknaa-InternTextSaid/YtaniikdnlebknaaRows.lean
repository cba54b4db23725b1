/-
  No cell of these rows narrows 'for every input' (looked for: loops, veiled, ifaces, maps, wideKeys, modest, calm, conditions, laid).
  DERIVED. THE GIVEN ROWS OF THIS SEAT. 5 by the template 'for every input the law returns true; each argument reads behind the call as it read before'; 0 by the template 'total and deterministic' (their statements: YtaniikdnlebknaaTotals.lean).
  GIVEN WITH THE SEED: the statements are not yours to turn. If you find one false, say at which input.
  Laid BY PROGRAM, IN A SANDBOX (cutbox-rows.mjs): the forced cells as the released guide's own fill.sh prints them over the translation 320d13ee03dee634… (all of the seat's roots in one cut). By AI agents, Wed Nov 11 2026. No macro, syntax, notation, axiom, sorry.
-/
import Derived.Test.YtaniikdnlebknaaChecked
import GoSem.Claim
import GoSem.ClaimJoined
import GoSem.ClaimMapViews
import Derived.JoinedTies
import Derived.KernelRfl
namespace Go.Proofs.Ytaniikdnlebknaa
/- THE CELL 'sum', in the pinned program and in every row, IS THE sha256 OF THE DUMP (.gsa) THAT YtaniikdnlebknaaProg.lean LOADS. Nothing in Lean hashes anything: it is a label: what it is worth is what the hold of that sum in a sandbox is worth. -/
noncomputable def Try.pinned : Pinned := { name := "ytaniikdnlebknaa", sum := "320d13ee03dee634295ae875751bd1a42ef452f816a57e7ef736ec8959423d28", checked := Try.checked }
namespace Rows
def none {H : Type} : Left H := { results := [], args := [] }

/-- 'sennitlaw02.InternTells': WHATEVER THE INPUT: true; the input reads as it did. -/
def internTellsSpec : ChangeSpec := { name := "internTells", fn := fun _ => fun
  | [d] => { results := [.lit (.bool true)], args := [d] }
  | _ => none }
def internTellsRow : OpenClaim := { program := "ytaniikdnlebknaa", sum := "320d13ee03dee634295ae875751bd1a42ef452f816a57e7ef736ec8959423d28", func := "sennit/sennitlaw02.InternTells", spec := "internTells", inPlace := ["sync/atomic.AddInt64", "sync/atomic.LoadInt64"], apart := false }
def InternTellsSaid : Prop := internTellsRow.holds Try.pinned (OpenSpec.ofChange internTellsSpec)

/-- ITS FALSE NEIGHBOUR: 'it returns false'. Refute it at one input. -/
def internTellsWrong : ChangeSpec := { name := "internTells", fn := fun _ => fun
  | [d] => { results := [.lit (.bool false)], args := [d] }
  | _ => none }
def InternTellsWrongFalsely : Prop := internTellsRow.holds Try.pinned (OpenSpec.ofChange internTellsWrong)

/-- 'sennitlaw02.InternAll': WHATEVER THE INPUT: true; the input reads as it did. -/
def internAllSpec : ChangeSpec := { name := "internAll", fn := fun _ => fun
  | [d] => { results := [.lit (.bool true)], args := [d] }
  | _ => none }
def internAllRow : OpenClaim := { program := "ytaniikdnlebknaa", sum := "320d13ee03dee634295ae875751bd1a42ef452f816a57e7ef736ec8959423d28", func := "sennit/sennitlaw02.InternAll", spec := "internAll", inPlace := ["sync/atomic.AddInt64", "sync/atomic.LoadInt64"], apart := false }
def InternAllSaid : Prop := internAllRow.holds Try.pinned (OpenSpec.ofChange internAllSpec)

/-- ITS FALSE NEIGHBOUR: 'it returns false'. Refute it at one input. -/
def internAllWrong : ChangeSpec := { name := "internAll", fn := fun _ => fun
  | [d] => { results := [.lit (.bool false)], args := [d] }
  | _ => none }
def InternAllWrongFalsely : Prop := internAllRow.holds Try.pinned (OpenSpec.ofChange internAllWrong)

/-- 'sennitlaw02.InternSame': WHATEVER THE INPUT: true; the input reads as it did. -/
def internSameSpec : ChangeSpec := { name := "internSame", fn := fun _ => fun
  | [d1, d2] => { results := [.lit (.bool true)], args := [d1, d2] }
  | _ => none }
def internSameRow : OpenClaim := { program := "ytaniikdnlebknaa", sum := "320d13ee03dee634295ae875751bd1a42ef452f816a57e7ef736ec8959423d28", func := "sennit/sennitlaw02.InternSame", spec := "internSame", inPlace := ["sync/atomic.AddInt64", "sync/atomic.LoadInt64"], apart := false }
def InternSameSaid : Prop := internSameRow.holds Try.pinned (OpenSpec.ofChange internSameSpec)

/-- ITS FALSE NEIGHBOUR: 'it returns false'. Refute it at one input. -/
def internSameWrong : ChangeSpec := { name := "internSame", fn := fun _ => fun
  | [d1, d2] => { results := [.lit (.bool false)], args := [d1, d2] }
  | _ => none }
def InternSameWrongFalsely : Prop := internSameRow.holds Try.pinned (OpenSpec.ofChange internSameWrong)

/-- 'sennitlaw02.InternGaps': WHATEVER THE INPUT: true; the input reads as it did. -/
def internGapsSpec : ChangeSpec := { name := "internGaps", fn := fun _ => fun
  | [d] => { results := [.lit (.bool true)], args := [d] }
  | _ => none }
def internGapsRow : OpenClaim := { program := "ytaniikdnlebknaa", sum := "320d13ee03dee634295ae875751bd1a42ef452f816a57e7ef736ec8959423d28", func := "sennit/sennitlaw02.InternGaps", spec := "internGaps", inPlace := ["sync/atomic.AddInt64", "sync/atomic.LoadInt64"], apart := false }
def InternGapsSaid : Prop := internGapsRow.holds Try.pinned (OpenSpec.ofChange internGapsSpec)

/-- ITS FALSE NEIGHBOUR: 'it returns false'. Refute it at one input. -/
def internGapsWrong : ChangeSpec := { name := "internGaps", fn := fun _ => fun
  | [d] => { results := [.lit (.bool false)], args := [d] }
  | _ => none }
def InternGapsWrongFalsely : Prop := internGapsRow.holds Try.pinned (OpenSpec.ofChange internGapsWrong)

/-- 'sennitlaw02.InternText': WHATEVER THE INPUT: true; the input reads as it did. -/
def internTextSpec : ChangeSpec := { name := "internText", fn := fun _ => fun
  | [d1, d2] => { results := [.lit (.bool true)], args := [d1, d2] }
  | _ => none }
def internTextRow : OpenClaim := { program := "ytaniikdnlebknaa", sum := "320d13ee03dee634295ae875751bd1a42ef452f816a57e7ef736ec8959423d28", func := "sennit/sennitlaw02.InternText", spec := "internText", inPlace := ["sync/atomic.AddInt64", "sync/atomic.LoadInt64"], apart := false }
def InternTextSaid : Prop := internTextRow.holds Try.pinned (OpenSpec.ofChange internTextSpec)

/-- ITS FALSE NEIGHBOUR: 'it returns false'. Refute it at one input. -/
def internTextWrong : ChangeSpec := { name := "internText", fn := fun _ => fun
  | [d1, d2] => { results := [.lit (.bool false)], args := [d1, d2] }
  | _ => none }
def InternTextWrongFalsely : Prop := internTextRow.holds Try.pinned (OpenSpec.ofChange internTextWrong)

/- THE SECOND FORM. 'bulk': how many values and letters a reading holds, each counted each time it is reached (what is shared counts as often as it is met; a slice's spare places count too). A statement '..UptoSaid' is the law's where the arguments, and the package variables that the reading takes, are together of bulk at most 1048576: NARROWER than '..Said'. Prove '..Said' where nothing that the law and all that it calls make is longer than what came in: it says more and counts as full. Else prove '..UptoSaid'. A law counts once. -/
mutual
def uptoBulk {H : Type} : DataW H → Nat
  | .lit (.string bytes) => bytes.length + 1
  | .lit _ => 1
  | .nil => 1
  | .ptr d => uptoBulk d + 1
  | .slice elems spare => uptoBulkAll elems + uptoBulkAll spare + 1
  | .agg parts => uptoBulkAll parts + 1
  | .iface _ d => uptoBulk d + 1
  | .map entries => uptoBulkEntries entries + 1
  | .held _ => 1
def uptoBulkAll {H : Type} : List (DataW H) → Nat
  | [] => 0
  | d :: r => uptoBulk d + uptoBulkAll r
def uptoBulkEntries {H : Type} : List (Lit × DataW H) → Nat
  | [] => 0
  | x :: r => uptoBulkEntry x + uptoBulkEntries r
def uptoBulkEntry {H : Type} : Lit × DataW H → Nat
  | (.string bytes, d) => bytes.length + uptoBulk d + 1
  | (_, d) => uptoBulk d + 1
 end
def uptoSmall : (H : Type) → List (DataW H) → Bool := fun _ ds => decide (uptoBulkAll ds ≤ 1048576)
def OpenSpec.upto (s : _root_.Go.ChangeSpec) : _root_.Go.OpenSpec := { _root_.Go.OpenSpec.ofChange s with cond := some uptoSmall }

/-- 'sennitlaw02.InternTells', WHERE WHAT IT READS IS OF BULK AT MOST 1048576: true; the input reads as it did. -/
def internTellsUptoRow : OpenClaim := { program := "ytaniikdnlebknaa", sum := "320d13ee03dee634295ae875751bd1a42ef452f816a57e7ef736ec8959423d28", func := "sennit/sennitlaw02.InternTells", spec := "internTells", inPlace := ["sync/atomic.AddInt64", "sync/atomic.LoadInt64"], apart := false, narrowed := true }
def InternTellsUptoSaid : Prop := internTellsUptoRow.holds Try.pinned (OpenSpec.upto internTellsSpec)

/-- 'sennitlaw02.InternAll', WHERE WHAT IT READS IS OF BULK AT MOST 1048576: true; the input reads as it did. -/
def internAllUptoRow : OpenClaim := { program := "ytaniikdnlebknaa", sum := "320d13ee03dee634295ae875751bd1a42ef452f816a57e7ef736ec8959423d28", func := "sennit/sennitlaw02.InternAll", spec := "internAll", inPlace := ["sync/atomic.AddInt64", "sync/atomic.LoadInt64"], apart := false, narrowed := true }
def InternAllUptoSaid : Prop := internAllUptoRow.holds Try.pinned (OpenSpec.upto internAllSpec)

/-- 'sennitlaw02.InternSame', WHERE WHAT IT READS IS OF BULK AT MOST 1048576: true; the input reads as it did. -/
def internSameUptoRow : OpenClaim := { program := "ytaniikdnlebknaa", sum := "320d13ee03dee634295ae875751bd1a42ef452f816a57e7ef736ec8959423d28", func := "sennit/sennitlaw02.InternSame", spec := "internSame", inPlace := ["sync/atomic.AddInt64", "sync/atomic.LoadInt64"], apart := false, narrowed := true }
def InternSameUptoSaid : Prop := internSameUptoRow.holds Try.pinned (OpenSpec.upto internSameSpec)

/-- 'sennitlaw02.InternGaps', WHERE WHAT IT READS IS OF BULK AT MOST 1048576: true; the input reads as it did. -/
def internGapsUptoRow : OpenClaim := { program := "ytaniikdnlebknaa", sum := "320d13ee03dee634295ae875751bd1a42ef452f816a57e7ef736ec8959423d28", func := "sennit/sennitlaw02.InternGaps", spec := "internGaps", inPlace := ["sync/atomic.AddInt64", "sync/atomic.LoadInt64"], apart := false, narrowed := true }
def InternGapsUptoSaid : Prop := internGapsUptoRow.holds Try.pinned (OpenSpec.upto internGapsSpec)

/-- 'sennitlaw02.InternText', WHERE WHAT IT READS IS OF BULK AT MOST 1048576: true; the input reads as it did. -/
def internTextUptoRow : OpenClaim := { program := "ytaniikdnlebknaa", sum := "320d13ee03dee634295ae875751bd1a42ef452f816a57e7ef736ec8959423d28", func := "sennit/sennitlaw02.InternText", spec := "internText", inPlace := ["sync/atomic.AddInt64", "sync/atomic.LoadInt64"], apart := false, narrowed := true }
def InternTextUptoSaid : Prop := internTextUptoRow.holds Try.pinned (OpenSpec.upto internTextSpec)

end Rows
end Go.Proofs.Ytaniikdnlebknaa

/- Proved here, without conditions on the program: a region that draws its order, whose operations read what was there, and whose callees make memory alone, is one walk, in the text's order. -/
import Derived.Test.YtiokgfcndemadaaMore
import Derived.BigQuiet
namespace Go.Proofs.Ytiokgfcndemadaa
open Go.RowKit
set_option linter.unusedVariables false

/-- A world that has grown. -/
structure Grew (W : World) where
  w : World
  below : Below W.heap.size W w
theorem quiet_grew {P : Program} {id : Nat} {Q : Exit → Act → World → Prop} {a : Act} {w : World} {l : List Oper} (hm : P.follows .mixedOrders = true) (hB : Region.lexB .any l.toArray = true)
    (h : wpQuiet P l.toArray (fun wx => ∃ x : Grew w, wx = x.w) (fun a' => ∀ w', (∃ x : Grew w, w' = x.w) → Q .normal a' w') l a) : (Code.region id l.toArray true).wp P Q a w :=
  wp_region_quiet (C := fun wx => ∃ x : Grew w, wx = x.w) hm hB ⟨⟨w.drew, (Below.refl _ w).drew⟩, rfl⟩ (by simpa using h)
theorem grew_here (W : World) : Nonempty (Grew W) := ⟨⟨W, Below.refl _ _⟩⟩
/-- A call that only makes memory stays within the class. -/
theorem grew_call {P : Program} {W : World} {f : FuncId} {args : Array Value} {v : Value} (h : ∀ w', Below W.heap.size W w' → Calls P f args w' fun e w'' => e = .returned v ∧ Below w'.heap.size w' w'') : ∀ x : Grew W, Calls P f args x.w fun e w'' => e = .returned v ∧ ∃ y : Grew W, w'' = y.w :=
  fun x => (h x.w x.below).mono fun e w'' hh => ⟨hh.1, ⟨w'', x.below.trans (hh.2.mono x.below.size)⟩, rfl⟩
end Go.Proofs.Ytiokgfcndemadaa

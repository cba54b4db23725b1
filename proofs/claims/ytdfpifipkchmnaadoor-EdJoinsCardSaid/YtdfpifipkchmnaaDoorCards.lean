/-
  DERIVED. GIVEN WITH THE SEED: THE CARDS: each row of YtdfpifipkchmnaaDoorRows.lean that lists a variable, with what it lists TIED to the program's text (the seventh form; the later family's looks); each row that meets fmt, with fmt's text TOLD by the authors' own Lean function (tested against real Go, not proved from fmt's source: count such statements apart). THE CARD IS WHAT COUNTS. Prove the row's statement (the work); the ties are given (YtdfpifipkchmnaaDoorTie.lean); close each card by the builder's one call (the guide's Derived/Test/ToyasCard.lean, 'card_holds'). Laid BY PROGRAM, IN A SANDBOX (cutbox-door.mjs). By AI agents, Wed Nov 11 2026. No macro, syntax, notation, axiom, sorry.
-/
import Derived.Test.YtdfpifipkchmnaaDoorRows
import GoSem.ClaimSeven
namespace Go.Proofs.YtdfpifipkchmnaaDoor
namespace Rows

/-- THE TIED CARD OF 'sennitlaw17.EdMay'. -/
def edMayCard : Claim7 := { stood := { row := edMayRow, standIns := [], harness := (true, "a04d8185125f374d336a23c65fac08cb5dd9f3ddad1bb0e1f8ccbbef8cb758f8"), looks := true }, kinds := [], alts := [], laidByText := true, laidKinds := [.data, .data, .data, .data, .sentinel, .sentinel, .pinned], laidTests := true, laidLooks := .later }
def EdMayCardSaid : Prop := Claim7.holds Tryd.pinned (.plain (OpenSpec.ofChange edMaySpec)) edMayCard

/-- THE TIED CARD OF 'sennitlaw17.EdJoins'. -/
def edJoinsCard : Claim7 := { stood := { row := edJoinsRow, standIns := [], harness := (true, "a04d8185125f374d336a23c65fac08cb5dd9f3ddad1bb0e1f8ccbbef8cb758f8"), looks := true }, kinds := [], alts := [], laidByText := true, laidKinds := [.data, .data, .data, .data, .sentinel, .sentinel, .pinned], laidTests := true, laidLooks := .later }
def EdJoinsCardSaid : Prop := Claim7.holds Tryd.pinned (.plain (OpenSpec.ofChange edJoinsSpec)) edJoinsCard

/-- THE SECOND FORM's CARD OF 'sennitlaw17.EdMay'. -/
def edMayUptoCard : Claim7 := { stood := { row := edMayUptoRow, standIns := [], harness := (true, "a04d8185125f374d336a23c65fac08cb5dd9f3ddad1bb0e1f8ccbbef8cb758f8"), looks := true }, kinds := [], alts := [], laidByText := true, laidKinds := [.data, .data, .data, .data, .sentinel, .sentinel, .pinned], laidTests := true, laidLooks := .later }
def EdMayUptoCardSaid : Prop := Claim7.holds Tryd.pinned (.plain (OpenSpec.upto edMaySpec)) edMayUptoCard

/-- THE SECOND FORM's CARD OF 'sennitlaw17.EdJoins'. -/
def edJoinsUptoCard : Claim7 := { stood := { row := edJoinsUptoRow, standIns := [], harness := (true, "a04d8185125f374d336a23c65fac08cb5dd9f3ddad1bb0e1f8ccbbef8cb758f8"), looks := true }, kinds := [], alts := [], laidByText := true, laidKinds := [.data, .data, .data, .data, .sentinel, .sentinel, .pinned], laidTests := true, laidLooks := .later }
def EdJoinsUptoCardSaid : Prop := Claim7.holds Tryd.pinned (.plain (OpenSpec.upto edJoinsSpec)) edJoinsUptoCard
end Rows
end Go.Proofs.YtdfpifipkchmnaaDoor

/-
  DERIVED. GIVEN WITH THE SEED: THE CARDS: each row of YtcpopnhnihbofaaGreatDoorRows.lean that lists a variable, with what it lists TIED to the program's text (the seventh form; the later family's looks); each row that meets fmt, with fmt's text TOLD by the authors' own Lean function (tested against real Go, not proved from fmt's source: count such statements apart). THE CARD IS WHAT COUNTS. Prove the row's statement (the work); the ties are given (YtcpopnhnihbofaaGreatDoorTie.lean); close each card by the builder's one call (the guide's Derived/Test/ToyasCard.lean, 'card_holds'). Laid BY PROGRAM, IN A SANDBOX (cutbox-door.mjs). By AI agents, Wed Nov 11 2026. No macro, syntax, notation, axiom, sorry.
-/
import Derived.Test.YtcpopnhnihbofaaGreatDoorRows
import GoSem.ClaimSeven
namespace Go.Proofs.YtcpopnhnihbofaaGreatDoor
namespace Rows

/-- THE TIED CARD OF 'sennitlaw13.UnmarkBack'. -/
def unmarkBackCard : Claim7 := { stood := { row := unmarkBackRow, standIns := [], harness := (true, "eebec4d1553e018d494a2f8579a1932bd2a6a780ac3856afeff1f119edde283b"), looks := false }, kinds := [], alts := [], laidByText := true, laidKinds := [.data, .data, .data], laidTests := true, laidLooks := .later }
def UnmarkBackCardSaid : Prop := Claim7.holds Tryz.pinned (.plain (OpenSpec.ofChange unmarkBackSpec)) unmarkBackCard

/-- THE TIED CARD OF 'sennitlaw13.UnmarkOne'. -/
def unmarkOneCard : Claim7 := { stood := { row := unmarkOneRow, standIns := [], harness := (true, "eebec4d1553e018d494a2f8579a1932bd2a6a780ac3856afeff1f119edde283b"), looks := false }, kinds := [], alts := [], laidByText := true, laidKinds := [.data, .data, .data], laidTests := true, laidLooks := .later }
def UnmarkOneCardSaid : Prop := Claim7.holds Tryz.pinned (.plain (OpenSpec.ofChange unmarkOneSpec)) unmarkOneCard

/-- THE TIED CARD OF 'sennitlaw13.UnmarkChoose'. -/
def unmarkChooseCard : Claim7 := { stood := { row := unmarkChooseRow, standIns := [], harness := (true, "eebec4d1553e018d494a2f8579a1932bd2a6a780ac3856afeff1f119edde283b"), looks := false }, kinds := [], alts := [], laidByText := true, laidKinds := [.data, .data, .data], laidTests := true, laidLooks := .later }
def UnmarkChooseCardSaid : Prop := Claim7.holds Tryz.pinned (.plain (OpenSpec.ofChange unmarkChooseSpec)) unmarkChooseCard

/-- THE SECOND FORM's CARD OF 'sennitlaw13.UnmarkBack'. -/
def unmarkBackUptoCard : Claim7 := { stood := { row := unmarkBackUptoRow, standIns := [], harness := (true, "eebec4d1553e018d494a2f8579a1932bd2a6a780ac3856afeff1f119edde283b"), looks := false }, kinds := [], alts := [], laidByText := true, laidKinds := [.data, .data, .data], laidTests := true, laidLooks := .later }
def UnmarkBackUptoCardSaid : Prop := Claim7.holds Tryz.pinned (.plain (OpenSpec.upto unmarkBackSpec)) unmarkBackUptoCard

/-- THE SECOND FORM's CARD OF 'sennitlaw13.UnmarkOne'. -/
def unmarkOneUptoCard : Claim7 := { stood := { row := unmarkOneUptoRow, standIns := [], harness := (true, "eebec4d1553e018d494a2f8579a1932bd2a6a780ac3856afeff1f119edde283b"), looks := false }, kinds := [], alts := [], laidByText := true, laidKinds := [.data, .data, .data], laidTests := true, laidLooks := .later }
def UnmarkOneUptoCardSaid : Prop := Claim7.holds Tryz.pinned (.plain (OpenSpec.upto unmarkOneSpec)) unmarkOneUptoCard

/-- THE SECOND FORM's CARD OF 'sennitlaw13.UnmarkChoose'. -/
def unmarkChooseUptoCard : Claim7 := { stood := { row := unmarkChooseUptoRow, standIns := [], harness := (true, "eebec4d1553e018d494a2f8579a1932bd2a6a780ac3856afeff1f119edde283b"), looks := false }, kinds := [], alts := [], laidByText := true, laidKinds := [.data, .data, .data], laidTests := true, laidLooks := .later }
def UnmarkChooseUptoCardSaid : Prop := Claim7.holds Tryz.pinned (.plain (OpenSpec.upto unmarkChooseSpec)) unmarkChooseUptoCard
end Rows
end Go.Proofs.YtcpopnhnihbofaaGreatDoor

/-
  DERIVED. GIVEN WITH THE SEED: THE CARDS: each row of YtoopdgohdeddoaaGreatDoorRows.lean that lists a variable, with what it lists TIED to the program's text (the seventh form; the later family's looks); each row that meets fmt, with fmt's text TOLD by the authors' own Lean function (tested against real Go, not proved from fmt's source: count such statements apart). THE CARD IS WHAT COUNTS. Prove the row's statement (the work); the ties are given (YtoopdgohdeddoaaGreatDoorTie.lean); close each card by the builder's one call (the guide's Derived/Test/ToyasCard.lean, 'card_holds'). Laid BY PROGRAM, IN A SANDBOX (cutbox-door.mjs). By AI agents, Wed Nov 11 2026. No macro, syntax, notation, axiom, sorry.
-/
import Derived.Test.YtoopdgohdeddoaaGreatDoorRows
import GoSem.ClaimSeven
namespace Go.Proofs.YtoopdgohdeddoaaGreatDoor
namespace Rows

/-- THE TIED CARD OF 'sennitlaw16.ScriptTells'. -/
def scriptTellsCard : Claim7 := { stood := { row := scriptTellsRow, standIns := [], harness := (true, "c87146f46ad5adeb8f4cb28acb3740f9b92569ea365ec55e7d825fde937f8614"), looks := false }, kinds := [], alts := [], laidByText := true, laidKinds := [.data, .data, .data], laidTests := true, laidLooks := .later }
def ScriptTellsCardSaid : Prop := Claim7.holds Tryz.pinned (.plain (OpenSpec.ofChange scriptTellsSpec)) scriptTellsCard

/-- THE TIED CARD OF 'sennitlaw16.ScriptNothing'. -/
def scriptNothingCard : Claim7 := { stood := { row := scriptNothingRow, standIns := [], harness := (true, "c87146f46ad5adeb8f4cb28acb3740f9b92569ea365ec55e7d825fde937f8614"), looks := false }, kinds := [], alts := [], laidByText := true, laidKinds := [.data, .data, .data], laidTests := true, laidLooks := .later }
def ScriptNothingCardSaid : Prop := Claim7.holds Tryz.pinned (.plain (OpenSpec.ofChange scriptNothingSpec)) scriptNothingCard

/-- THE TIED CARD OF 'sennitlaw16.ScriptEnd'. -/
def scriptEndCard : Claim7 := { stood := { row := scriptEndRow, standIns := [], harness := (true, "c87146f46ad5adeb8f4cb28acb3740f9b92569ea365ec55e7d825fde937f8614"), looks := false }, kinds := [], alts := [], laidByText := true, laidKinds := [.data, .data, .data], laidTests := true, laidLooks := .later }
def ScriptEndCardSaid : Prop := Claim7.holds Tryz.pinned (.plain (OpenSpec.ofChange scriptEndSpec)) scriptEndCard

/-- THE TIED CARD OF 'sennitlaw16.ScriptOpen'. -/
def scriptOpenCard : Claim7 := { stood := { row := scriptOpenRow, standIns := [], harness := (true, "c87146f46ad5adeb8f4cb28acb3740f9b92569ea365ec55e7d825fde937f8614"), looks := false }, kinds := [], alts := [], laidByText := true, laidKinds := [.data, .data, .data], laidTests := true, laidLooks := .later }
def ScriptOpenCardSaid : Prop := Claim7.holds Tryz.pinned (.plain (OpenSpec.ofChange scriptOpenSpec)) scriptOpenCard

/-- THE TIED CARD OF 'sennitlaw16.ScriptParts'. -/
def scriptPartsCard : Claim7 := { stood := { row := scriptPartsRow, standIns := [], harness := (true, "c87146f46ad5adeb8f4cb28acb3740f9b92569ea365ec55e7d825fde937f8614"), looks := false }, kinds := [], alts := [], laidByText := true, laidKinds := [.data, .data, .data], laidTests := true, laidLooks := .later }
def ScriptPartsCardSaid : Prop := Claim7.holds Tryz.pinned (.plain (OpenSpec.ofChange scriptPartsSpec)) scriptPartsCard

/-- THE SECOND FORM's CARD OF 'sennitlaw16.ScriptTells'. -/
def scriptTellsUptoCard : Claim7 := { stood := { row := scriptTellsUptoRow, standIns := [], harness := (true, "c87146f46ad5adeb8f4cb28acb3740f9b92569ea365ec55e7d825fde937f8614"), looks := false }, kinds := [], alts := [], laidByText := true, laidKinds := [.data, .data, .data], laidTests := true, laidLooks := .later }
def ScriptTellsUptoCardSaid : Prop := Claim7.holds Tryz.pinned (.plain (OpenSpec.upto scriptTellsSpec)) scriptTellsUptoCard

/-- THE SECOND FORM's CARD OF 'sennitlaw16.ScriptNothing'. -/
def scriptNothingUptoCard : Claim7 := { stood := { row := scriptNothingUptoRow, standIns := [], harness := (true, "c87146f46ad5adeb8f4cb28acb3740f9b92569ea365ec55e7d825fde937f8614"), looks := false }, kinds := [], alts := [], laidByText := true, laidKinds := [.data, .data, .data], laidTests := true, laidLooks := .later }
def ScriptNothingUptoCardSaid : Prop := Claim7.holds Tryz.pinned (.plain (OpenSpec.upto scriptNothingSpec)) scriptNothingUptoCard

/-- THE SECOND FORM's CARD OF 'sennitlaw16.ScriptEnd'. -/
def scriptEndUptoCard : Claim7 := { stood := { row := scriptEndUptoRow, standIns := [], harness := (true, "c87146f46ad5adeb8f4cb28acb3740f9b92569ea365ec55e7d825fde937f8614"), looks := false }, kinds := [], alts := [], laidByText := true, laidKinds := [.data, .data, .data], laidTests := true, laidLooks := .later }
def ScriptEndUptoCardSaid : Prop := Claim7.holds Tryz.pinned (.plain (OpenSpec.upto scriptEndSpec)) scriptEndUptoCard

/-- THE SECOND FORM's CARD OF 'sennitlaw16.ScriptOpen'. -/
def scriptOpenUptoCard : Claim7 := { stood := { row := scriptOpenUptoRow, standIns := [], harness := (true, "c87146f46ad5adeb8f4cb28acb3740f9b92569ea365ec55e7d825fde937f8614"), looks := false }, kinds := [], alts := [], laidByText := true, laidKinds := [.data, .data, .data], laidTests := true, laidLooks := .later }
def ScriptOpenUptoCardSaid : Prop := Claim7.holds Tryz.pinned (.plain (OpenSpec.upto scriptOpenSpec)) scriptOpenUptoCard

/-- THE SECOND FORM's CARD OF 'sennitlaw16.ScriptParts'. -/
def scriptPartsUptoCard : Claim7 := { stood := { row := scriptPartsUptoRow, standIns := [], harness := (true, "c87146f46ad5adeb8f4cb28acb3740f9b92569ea365ec55e7d825fde937f8614"), looks := false }, kinds := [], alts := [], laidByText := true, laidKinds := [.data, .data, .data], laidTests := true, laidLooks := .later }
def ScriptPartsUptoCardSaid : Prop := Claim7.holds Tryz.pinned (.plain (OpenSpec.upto scriptPartsSpec)) scriptPartsUptoCard
end Rows
end Go.Proofs.YtoopdgohdeddoaaGreatDoor

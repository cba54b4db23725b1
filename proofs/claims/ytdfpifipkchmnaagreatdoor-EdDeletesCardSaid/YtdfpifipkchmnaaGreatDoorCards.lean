/-
  DERIVED. GIVEN WITH THE SEED: THE CARDS: each row of YtdfpifipkchmnaaGreatDoorRows.lean that lists a variable, with what it lists TIED to the program's text (the seventh form; the later family's looks); each row that meets fmt, with fmt's text TOLD by the authors' own Lean function (tested against real Go, not proved from fmt's source: count such statements apart). THE CARD IS WHAT COUNTS. Prove the row's statement (the work); the ties are given (YtdfpifipkchmnaaGreatDoorTie.lean); close each card by the builder's one call (the guide's Derived/Test/ToyasCard.lean, 'card_holds'). Laid BY PROGRAM, IN A SANDBOX (cutbox-door.mjs). By AI agents, Wed Nov 11 2026. No macro, syntax, notation, axiom, sorry.
-/
import Derived.Test.YtdfpifipkchmnaaGreatDoorRows
import GoSem.ClaimSeven
namespace Go.Proofs.YtdfpifipkchmnaaGreatDoor
namespace Rows

/-- THE TIED CARD OF 'sennitlaw17.EdRuns'. -/
def edRunsCard : Claim7 := { stood := { row := edRunsRow, standIns := [], harness := (true, "c9d47236cd605ac97052ec80804115382264955b71a883ae90484911bf065895"), looks := true }, kinds := [], alts := [], laidByText := true, laidKinds := [.data, .data, .data, .data, .sentinel, .sentinel, .pinned], laidTests := true, laidLooks := .later }
def EdRunsCardSaid : Prop := Claim7.holds Tryz.pinned (.plain (OpenSpec.ofChange edRunsSpec)) edRunsCard

/-- THE TIED CARD OF 'sennitlaw17.EdLays'. -/
def edLaysCard : Claim7 := { stood := { row := edLaysRow, standIns := [], harness := (true, "c9d47236cd605ac97052ec80804115382264955b71a883ae90484911bf065895"), looks := true }, kinds := [], alts := [], laidByText := true, laidKinds := [.data, .data, .data, .data, .sentinel, .sentinel, .pinned], laidTests := true, laidLooks := .later }
def EdLaysCardSaid : Prop := Claim7.holds Tryz.pinned (.plain (OpenSpec.ofChange edLaysSpec)) edLaysCard

/-- THE TIED CARD OF 'sennitlaw17.EdDeletes'. -/
def edDeletesCard : Claim7 := { stood := { row := edDeletesRow, standIns := [], harness := (true, "c9d47236cd605ac97052ec80804115382264955b71a883ae90484911bf065895"), looks := true }, kinds := [], alts := [], laidByText := true, laidKinds := [.data, .data, .data, .data, .sentinel, .sentinel, .pinned], laidTests := true, laidLooks := .later }
def EdDeletesCardSaid : Prop := Claim7.holds Tryz.pinned (.plain (OpenSpec.ofChange edDeletesSpec)) edDeletesCard

/-- THE TIED CARD OF 'sennitlaw17.EdStrips'. -/
def edStripsCard : Claim7 := { stood := { row := edStripsRow, standIns := [], harness := (true, "c9d47236cd605ac97052ec80804115382264955b71a883ae90484911bf065895"), looks := true }, kinds := [], alts := [], laidByText := true, laidKinds := [.data, .data, .data, .data, .sentinel, .sentinel, .pinned], laidTests := true, laidLooks := .later }
def EdStripsCardSaid : Prop := Claim7.holds Tryz.pinned (.plain (OpenSpec.ofChange edStripsSpec)) edStripsCard

/-- THE SECOND FORM's CARD OF 'sennitlaw17.EdRuns'. -/
def edRunsUptoCard : Claim7 := { stood := { row := edRunsUptoRow, standIns := [], harness := (true, "c9d47236cd605ac97052ec80804115382264955b71a883ae90484911bf065895"), looks := true }, kinds := [], alts := [], laidByText := true, laidKinds := [.data, .data, .data, .data, .sentinel, .sentinel, .pinned], laidTests := true, laidLooks := .later }
def EdRunsUptoCardSaid : Prop := Claim7.holds Tryz.pinned (.plain (OpenSpec.upto edRunsSpec)) edRunsUptoCard

/-- THE SECOND FORM's CARD OF 'sennitlaw17.EdLays'. -/
def edLaysUptoCard : Claim7 := { stood := { row := edLaysUptoRow, standIns := [], harness := (true, "c9d47236cd605ac97052ec80804115382264955b71a883ae90484911bf065895"), looks := true }, kinds := [], alts := [], laidByText := true, laidKinds := [.data, .data, .data, .data, .sentinel, .sentinel, .pinned], laidTests := true, laidLooks := .later }
def EdLaysUptoCardSaid : Prop := Claim7.holds Tryz.pinned (.plain (OpenSpec.upto edLaysSpec)) edLaysUptoCard

/-- THE SECOND FORM's CARD OF 'sennitlaw17.EdDeletes'. -/
def edDeletesUptoCard : Claim7 := { stood := { row := edDeletesUptoRow, standIns := [], harness := (true, "c9d47236cd605ac97052ec80804115382264955b71a883ae90484911bf065895"), looks := true }, kinds := [], alts := [], laidByText := true, laidKinds := [.data, .data, .data, .data, .sentinel, .sentinel, .pinned], laidTests := true, laidLooks := .later }
def EdDeletesUptoCardSaid : Prop := Claim7.holds Tryz.pinned (.plain (OpenSpec.upto edDeletesSpec)) edDeletesUptoCard

/-- THE SECOND FORM's CARD OF 'sennitlaw17.EdStrips'. -/
def edStripsUptoCard : Claim7 := { stood := { row := edStripsUptoRow, standIns := [], harness := (true, "c9d47236cd605ac97052ec80804115382264955b71a883ae90484911bf065895"), looks := true }, kinds := [], alts := [], laidByText := true, laidKinds := [.data, .data, .data, .data, .sentinel, .sentinel, .pinned], laidTests := true, laidLooks := .later }
def EdStripsUptoCardSaid : Prop := Claim7.holds Tryz.pinned (.plain (OpenSpec.upto edStripsSpec)) edStripsUptoCard
end Rows
end Go.Proofs.YtdfpifipkchmnaaGreatDoor

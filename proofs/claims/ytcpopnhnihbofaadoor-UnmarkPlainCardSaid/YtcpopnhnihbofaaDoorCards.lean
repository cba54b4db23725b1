/-
  DERIVED. GIVEN WITH THE SEED: THE CARDS: each row of YtcpopnhnihbofaaDoorRows.lean that lists a variable, with what it lists TIED to the program's text (the seventh form; the later family's looks); each row that meets fmt, with fmt's text TOLD by the authors' own Lean function (tested against real Go, not proved from fmt's source: count such statements apart). THE CARD IS WHAT COUNTS. Prove the row's statement (the work); the ties are given (YtcpopnhnihbofaaDoorTie.lean); close each card by the builder's one call (the guide's Derived/Test/ToyasCard.lean, 'card_holds'). Laid BY PROGRAM, IN A SANDBOX (cutbox-door.mjs). By AI agents, Wed Nov 11 2026. No macro, syntax, notation, axiom, sorry.
-/
import Derived.Test.YtcpopnhnihbofaaDoorRows
import GoSem.ClaimSeven
namespace Go.Proofs.YtcpopnhnihbofaaDoor
namespace Rows

/-- THE TIED CARD OF 'sennitlaw13.UnmarkTells'. -/
def unmarkTellsCard : Claim7 := { stood := { row := unmarkTellsRow, standIns := [], harness := (true, "99b911b1fa176b740f52d9ba92d2cfd86218f621c9ce510be08275a2883b0188"), looks := false }, kinds := [], alts := [], laidByText := true, laidKinds := [.data, .data, .data], laidTests := true, laidLooks := .later }
def UnmarkTellsCardSaid : Prop := Claim7.holds Tryd.pinned (.plain (OpenSpec.ofChange unmarkTellsSpec)) unmarkTellsCard

/-- THE TIED CARD OF 'sennitlaw13.UnmarkPlain'. -/
def unmarkPlainCard : Claim7 := { stood := { row := unmarkPlainRow, standIns := [], harness := (true, "99b911b1fa176b740f52d9ba92d2cfd86218f621c9ce510be08275a2883b0188"), looks := false }, kinds := [], alts := [], laidByText := true, laidKinds := [.data, .data, .data], laidTests := true, laidLooks := .later }
def UnmarkPlainCardSaid : Prop := Claim7.holds Tryd.pinned (.plain (OpenSpec.ofChange unmarkPlainSpec)) unmarkPlainCard

/-- THE TIED CARD OF 'sennitlaw13.UnmarkWrong'. -/
def unmarkWrongCard : Claim7 := { stood := { row := unmarkWrongRow, standIns := [], harness := (true, "99b911b1fa176b740f52d9ba92d2cfd86218f621c9ce510be08275a2883b0188"), looks := false }, kinds := [], alts := [], laidByText := true, laidKinds := [.data, .data, .data], laidTests := true, laidLooks := .later }
def UnmarkWrongCardSaid : Prop := Claim7.holds Tryd.pinned (.plain (OpenSpec.ofChange unmarkWrongSpec)) unmarkWrongCard

/-- THE SECOND FORM's CARD OF 'sennitlaw13.UnmarkTells'. -/
def unmarkTellsUptoCard : Claim7 := { stood := { row := unmarkTellsUptoRow, standIns := [], harness := (true, "99b911b1fa176b740f52d9ba92d2cfd86218f621c9ce510be08275a2883b0188"), looks := false }, kinds := [], alts := [], laidByText := true, laidKinds := [.data, .data, .data], laidTests := true, laidLooks := .later }
def UnmarkTellsUptoCardSaid : Prop := Claim7.holds Tryd.pinned (.plain (OpenSpec.upto unmarkTellsSpec)) unmarkTellsUptoCard

/-- THE SECOND FORM's CARD OF 'sennitlaw13.UnmarkPlain'. -/
def unmarkPlainUptoCard : Claim7 := { stood := { row := unmarkPlainUptoRow, standIns := [], harness := (true, "99b911b1fa176b740f52d9ba92d2cfd86218f621c9ce510be08275a2883b0188"), looks := false }, kinds := [], alts := [], laidByText := true, laidKinds := [.data, .data, .data], laidTests := true, laidLooks := .later }
def UnmarkPlainUptoCardSaid : Prop := Claim7.holds Tryd.pinned (.plain (OpenSpec.upto unmarkPlainSpec)) unmarkPlainUptoCard

/-- THE SECOND FORM's CARD OF 'sennitlaw13.UnmarkWrong'. -/
def unmarkWrongUptoCard : Claim7 := { stood := { row := unmarkWrongUptoRow, standIns := [], harness := (true, "99b911b1fa176b740f52d9ba92d2cfd86218f621c9ce510be08275a2883b0188"), looks := false }, kinds := [], alts := [], laidByText := true, laidKinds := [.data, .data, .data], laidTests := true, laidLooks := .later }
def UnmarkWrongUptoCardSaid : Prop := Claim7.holds Tryd.pinned (.plain (OpenSpec.upto unmarkWrongSpec)) unmarkWrongUptoCard
end Rows
end Go.Proofs.YtcpopnhnihbofaaDoor

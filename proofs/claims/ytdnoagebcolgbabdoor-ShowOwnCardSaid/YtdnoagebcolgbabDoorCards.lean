/-
  DERIVED. GIVEN WITH THE SEED: THE CARDS: each row of YtdnoagebcolgbabDoorRows.lean that lists a variable, with what it lists TIED to the program's text (the seventh form; the later family's looks); each row that meets fmt, with fmt's text TOLD by the authors' own Lean function (tested against real Go, not proved from fmt's source: count such statements apart). THE CARD IS WHAT COUNTS. Prove the row's statement (the work); the ties are given (YtdnoagebcolgbabDoorTie.lean); close each card by the builder's one call (the guide's Derived/Test/ToyasCard.lean, 'card_holds'). Laid BY PROGRAM, IN A SANDBOX (cutbox-door.mjs). By AI agents, Wed Nov 11 2026. No macro, syntax, notation, axiom, sorry.
-/
import Derived.Test.YtdnoagebcolgbabDoorRows
import GoSem.ClaimSeven
namespace Go.Proofs.YtdnoagebcolgbabDoor
namespace Rows

/-- THE TIED CARD OF 'berthlaw13.ShowOwn'. -/
def showOwnCard : Claim7 := { stood := { row := showOwnRow, standIns := [], harness := (true, "3bc58901a22ee76cca5d37369610659174540c9e44235e70665333d1bd9dd2f1"), looks := true }, kinds := [], alts := [], laidByText := true, laidKinds := [.data, .data, .data], laidTests := true, laidLooks := .later }
def ShowOwnCardSaid : Prop := Claim7.holds Tryd.pinned (.plain (OpenSpec.ofChange showOwnSpec)) showOwnCard

/-- THE SECOND FORM's CARD OF 'berthlaw13.ShowOwn'. -/
def showOwnUptoCard : Claim7 := { stood := { row := showOwnUptoRow, standIns := [], harness := (true, "3bc58901a22ee76cca5d37369610659174540c9e44235e70665333d1bd9dd2f1"), looks := true }, kinds := [], alts := [], laidByText := true, laidKinds := [.data, .data, .data], laidTests := true, laidLooks := .later }
def ShowOwnUptoCardSaid : Prop := Claim7.holds Tryd.pinned (.plain (OpenSpec.upto showOwnSpec)) showOwnUptoCard
end Rows
end Go.Proofs.YtdnoagebcolgbabDoor

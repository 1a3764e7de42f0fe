/-
  DERIVED. GIVEN WITH THE SEED: THE CARDS: each row of YtppblibcbjpfnaaGreatDoorRows.lean that lists a variable, with what it lists TIED to the program's text (the seventh form; the later family's looks); each row that meets fmt, with fmt's text TOLD by the authors' own Lean function (tested against real Go, not proved from fmt's source: count such statements apart). THE CARD IS WHAT COUNTS. Prove the row's statement (the work); the ties are given (YtppblibcbjpfnaaGreatDoorTie.lean); close each card by the builder's one call (the guide's Derived/Test/ToyasCard.lean, 'card_holds'). Laid BY PROGRAM, IN A SANDBOX (cutbox-door.mjs). By AI agents, Wed Nov 11 2026. No macro, syntax, notation, axiom, sorry.
-/
import Derived.Test.YtppblibcbjpfnaaGreatDoorRows
import GoSem.ClaimSeven
namespace Go.Proofs.YtppblibcbjpfnaaGreatDoor
namespace Rows

/-- THE TIED CARD OF 'berthlaw04.TaintPlays'. -/
def taintPlaysCard : Claim7 := { stood := { row := taintPlaysRow, standIns := [], harness := (true, "0160f7e341cb11808cb9891325b844faddf11a4c1287ba66c23f63cad1f5100d"), looks := false }, kinds := [], alts := [], laidByText := true, laidKinds := [.data, .pinned], laidTests := true, laidLooks := .later }
def TaintPlaysCardSaid : Prop := Claim7.holds Tryz.pinned (.plain (OpenSpec.ofChange taintPlaysSpec)) taintPlaysCard

/-- THE SECOND FORM's CARD OF 'berthlaw04.TaintPlays'. -/
def taintPlaysUptoCard : Claim7 := { stood := { row := taintPlaysUptoRow, standIns := [], harness := (true, "0160f7e341cb11808cb9891325b844faddf11a4c1287ba66c23f63cad1f5100d"), looks := false }, kinds := [], alts := [], laidByText := true, laidKinds := [.data, .pinned], laidTests := true, laidLooks := .later }
def TaintPlaysUptoCardSaid : Prop := Claim7.holds Tryz.pinned (.plain (OpenSpec.upto taintPlaysSpec)) taintPlaysUptoCard
end Rows
end Go.Proofs.YtppblibcbjpfnaaGreatDoor

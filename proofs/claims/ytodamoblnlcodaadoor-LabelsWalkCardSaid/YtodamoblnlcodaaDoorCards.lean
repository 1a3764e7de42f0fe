/-
  DERIVED. GIVEN WITH THE SEED: THE CARDS: each row of YtodamoblnlcodaaDoorRows.lean that lists a variable, with what it lists TIED to the program's text (the seventh form; the later family's looks); each row that meets fmt, with fmt's text TOLD by the authors' own Lean function (tested against real Go, not proved from fmt's source: count such statements apart). THE CARD IS WHAT COUNTS. Prove the row's statement (the work); the ties are given (YtodamoblnlcodaaDoorTie.lean); close each card by the builder's one call (the guide's Derived/Test/ToyasCard.lean, 'card_holds'). Laid BY PROGRAM, IN A SANDBOX (cutbox-door.mjs). By AI agents, Wed Nov 11 2026. No macro, syntax, notation, axiom, sorry.
-/
import Derived.Test.YtodamoblnlcodaaDoorRows
import GoSem.ClaimSeven
namespace Go.Proofs.YtodamoblnlcodaaDoor
namespace Rows

/-- THE TIED CARD OF 'berthlaw03.LabelsWalk'. -/
def labelsWalkCard : Claim7 := { stood := { row := labelsWalkRow, standIns := [], harness := (true, "1d82b868e02d349c3c95234c9976e99cd66260cead92d7421e6a5bc6ae18ce08"), looks := false }, kinds := [], alts := [], laidByText := true, laidKinds := [.data, .pinned], laidTests := true, laidLooks := .later }
def LabelsWalkCardSaid : Prop := Claim7.holds Tryd.pinned (.plain (OpenSpec.ofChange labelsWalkSpec)) labelsWalkCard

/-- THE SECOND FORM's CARD OF 'berthlaw03.LabelsWalk'. -/
def labelsWalkUptoCard : Claim7 := { stood := { row := labelsWalkUptoRow, standIns := [], harness := (true, "1d82b868e02d349c3c95234c9976e99cd66260cead92d7421e6a5bc6ae18ce08"), looks := false }, kinds := [], alts := [], laidByText := true, laidKinds := [.data, .pinned], laidTests := true, laidLooks := .later }
def LabelsWalkUptoCardSaid : Prop := Claim7.holds Tryd.pinned (.plain (OpenSpec.upto labelsWalkSpec)) labelsWalkUptoCard
end Rows
end Go.Proofs.YtodamoblnlcodaaDoor

/-
  DERIVED. GIVEN WITH THE SEED: THE CARDS: each row of YtnldagpbmphdhabDoorRows.lean that lists a variable, with what it lists TIED to the program's text (the seventh form; the later family's looks); each row that meets fmt, with fmt's text TOLD by the authors' own Lean function (tested against real Go, not proved from fmt's source: count such statements apart). THE CARD IS WHAT COUNTS. Prove the row's statement (the work); the ties are given (YtnldagpbmphdhabDoorTie.lean); close each card by the builder's one call (the guide's Derived/Test/ToyasCard.lean, 'card_holds'). Laid BY PROGRAM, IN A SANDBOX (cutbox-door.mjs). By AI agents, Wed Nov 11 2026. No macro, syntax, notation, axiom, sorry.
-/
import Derived.Test.YtnldagpbmphdhabDoorRows
import GoSem.ClaimSeven
namespace Go.Proofs.YtnldagpbmphdhabDoor
namespace Rows

/-- THE TIED CARD OF 'berthlaw03.LabelsRead'. -/
def labelsReadCard : Claim7 := { stood := { row := labelsReadRow, standIns := [], harness := (true, "a606aecc3a1533a2a348ab7cb6659cd556c5db9b82b8c0dde764570aa4d8876b"), looks := false }, kinds := [], alts := [], laidByText := true, laidKinds := [.data, .pinned], laidTests := true, laidLooks := .later }
def LabelsReadCardSaid : Prop := Claim7.holds Tryd.pinned (.plain (OpenSpec.ofChange labelsReadSpec)) labelsReadCard

/-- THE TIED CARD OF 'berthlaw03.LabelsMap'. -/
def labelsMapCard : Claim7 := { stood := { row := labelsMapRow, standIns := [], harness := (true, "a606aecc3a1533a2a348ab7cb6659cd556c5db9b82b8c0dde764570aa4d8876b"), looks := false }, kinds := [], alts := [], laidByText := true, laidKinds := [.data, .pinned], laidTests := true, laidLooks := .later }
def LabelsMapCardSaid : Prop := Claim7.holds Tryd.pinned (.plain (OpenSpec.ofChange labelsMapSpec)) labelsMapCard

/-- THE TIED CARD OF 'berthlaw03.LabelsWay'. -/
def labelsWayCard : Claim7 := { stood := { row := labelsWayRow, standIns := [], harness := (true, "a606aecc3a1533a2a348ab7cb6659cd556c5db9b82b8c0dde764570aa4d8876b"), looks := false }, kinds := [], alts := [], laidByText := true, laidKinds := [.data, .pinned], laidTests := true, laidLooks := .later }
def LabelsWayCardSaid : Prop := Claim7.holds Tryd.pinned (.plain (OpenSpec.ofChange labelsWaySpec)) labelsWayCard

/-- THE TIED CARD OF 'berthlaw03.LabelsWalk'. -/
def labelsWalkCard : Claim7 := { stood := { row := labelsWalkRow, standIns := [], harness := (true, "a606aecc3a1533a2a348ab7cb6659cd556c5db9b82b8c0dde764570aa4d8876b"), looks := false }, kinds := [], alts := [], laidByText := true, laidKinds := [.data, .pinned], laidTests := true, laidLooks := .later }
def LabelsWalkCardSaid : Prop := Claim7.holds Tryd.pinned (.plain (OpenSpec.ofChange labelsWalkSpec)) labelsWalkCard

/-- THE SECOND FORM's CARD OF 'berthlaw03.LabelsRead'. -/
def labelsReadUptoCard : Claim7 := { stood := { row := labelsReadUptoRow, standIns := [], harness := (true, "a606aecc3a1533a2a348ab7cb6659cd556c5db9b82b8c0dde764570aa4d8876b"), looks := false }, kinds := [], alts := [], laidByText := true, laidKinds := [.data, .pinned], laidTests := true, laidLooks := .later }
def LabelsReadUptoCardSaid : Prop := Claim7.holds Tryd.pinned (.plain (OpenSpec.upto labelsReadSpec)) labelsReadUptoCard

/-- THE SECOND FORM's CARD OF 'berthlaw03.LabelsMap'. -/
def labelsMapUptoCard : Claim7 := { stood := { row := labelsMapUptoRow, standIns := [], harness := (true, "a606aecc3a1533a2a348ab7cb6659cd556c5db9b82b8c0dde764570aa4d8876b"), looks := false }, kinds := [], alts := [], laidByText := true, laidKinds := [.data, .pinned], laidTests := true, laidLooks := .later }
def LabelsMapUptoCardSaid : Prop := Claim7.holds Tryd.pinned (.plain (OpenSpec.upto labelsMapSpec)) labelsMapUptoCard

/-- THE SECOND FORM's CARD OF 'berthlaw03.LabelsWay'. -/
def labelsWayUptoCard : Claim7 := { stood := { row := labelsWayUptoRow, standIns := [], harness := (true, "a606aecc3a1533a2a348ab7cb6659cd556c5db9b82b8c0dde764570aa4d8876b"), looks := false }, kinds := [], alts := [], laidByText := true, laidKinds := [.data, .pinned], laidTests := true, laidLooks := .later }
def LabelsWayUptoCardSaid : Prop := Claim7.holds Tryd.pinned (.plain (OpenSpec.upto labelsWaySpec)) labelsWayUptoCard

/-- THE SECOND FORM's CARD OF 'berthlaw03.LabelsWalk'. -/
def labelsWalkUptoCard : Claim7 := { stood := { row := labelsWalkUptoRow, standIns := [], harness := (true, "a606aecc3a1533a2a348ab7cb6659cd556c5db9b82b8c0dde764570aa4d8876b"), looks := false }, kinds := [], alts := [], laidByText := true, laidKinds := [.data, .pinned], laidTests := true, laidLooks := .later }
def LabelsWalkUptoCardSaid : Prop := Claim7.holds Tryd.pinned (.plain (OpenSpec.upto labelsWalkSpec)) labelsWalkUptoCard
end Rows
end Go.Proofs.YtnldagpbmphdhabDoor

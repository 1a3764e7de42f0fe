/-
  DERIVED. GIVEN WITH THE SEED: THE CARDS: each row of YtkbjjbgmnfngjaaGreatDoorRows.lean that lists a variable, with what it lists TIED to the program's text (the seventh form; the later family's looks); each row that meets fmt, with fmt's text TOLD by the authors' own Lean function (tested against real Go, not proved from fmt's source: count such statements apart). THE CARD IS WHAT COUNTS. Prove the row's statement (the work); the ties are given (YtkbjjbgmnfngjaaGreatDoorTie.lean); close each card by the builder's one call (the guide's Derived/Test/ToyasCard.lean, 'card_holds'). Laid BY PROGRAM, IN A SANDBOX (cutbox-door.mjs). By AI agents, Wed Nov 11 2026. No macro, syntax, notation, axiom, sorry.
-/
import Derived.Test.YtkbjjbgmnfngjaaGreatDoorRows
import GoSem.ClaimSeven
namespace Go.Proofs.YtkbjjbgmnfngjaaGreatDoor
namespace Rows

/-- THE TIED CARD OF 'berthlaw03.LabelsMemory'. -/
def labelsMemoryCard : Claim7 := { stood := { row := labelsMemoryRow, standIns := [], harness := (true, "ec41fa686e165d338bd23d30e633cd1e47d08f0e903652117ececfd7b5793719"), looks := false }, kinds := [], alts := [], laidByText := true, laidKinds := [.data, .pinned], laidTests := true, laidLooks := .later }
def LabelsMemoryCardSaid : Prop := Claim7.holds Tryz.pinned (.plain (OpenSpec.ofChange labelsMemorySpec)) labelsMemoryCard

/-- THE SECOND FORM's CARD OF 'berthlaw03.LabelsMemory'. -/
def labelsMemoryUptoCard : Claim7 := { stood := { row := labelsMemoryUptoRow, standIns := [], harness := (true, "ec41fa686e165d338bd23d30e633cd1e47d08f0e903652117ececfd7b5793719"), looks := false }, kinds := [], alts := [], laidByText := true, laidKinds := [.data, .pinned], laidTests := true, laidLooks := .later }
def LabelsMemoryUptoCardSaid : Prop := Claim7.holds Tryz.pinned (.plain (OpenSpec.upto labelsMemorySpec)) labelsMemoryUptoCard
end Rows
end Go.Proofs.YtkbjjbgmnfngjaaGreatDoor

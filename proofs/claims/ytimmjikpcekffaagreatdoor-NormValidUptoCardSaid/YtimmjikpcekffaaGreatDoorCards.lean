/-
  DERIVED. GIVEN WITH THE SEED: THE CARDS: each row of YtimmjikpcekffaaGreatDoorRows.lean that lists a variable, with what it lists TIED to the program's text (the seventh form; the later family's looks); each row that meets fmt, with fmt's text TOLD by the authors' own Lean function (tested against real Go, not proved from fmt's source: count such statements apart). THE CARD IS WHAT COUNTS. Prove the row's statement (the work); the ties are given (YtimmjikpcekffaaGreatDoorTie.lean); close each card by the builder's one call (the guide's Derived/Test/ToyasCard.lean, 'card_holds'). Laid BY PROGRAM, IN A SANDBOX (cutbox-door.mjs). By AI agents, Wed Nov 11 2026. No macro, syntax, notation, axiom, sorry.
-/
import Derived.Test.YtimmjikpcekffaaGreatDoorRows
import GoSem.ClaimSeven
namespace Go.Proofs.YtimmjikpcekffaaGreatDoor
namespace Rows

/-- THE TIED CARD OF 'berthlaw16.NormValid'. -/
def normValidCard : Claim7 := { stood := { row := normValidRow, standIns := [], harness := (true, "24b60ee9d9a8d87b391ac778789f73f702c6c0d4f8139e219e789969cc1e7686"), looks := true }, kinds := [], alts := [], laidByText := true, laidKinds := [.data, .data, .data, .data, .handle, .sentinel, .sentinel, .pinned], laidTests := true, laidLooks := .later }
def NormValidCardSaid : Prop := Claim7.holds Tryz.pinned (.plain (OpenSpec.ofChange normValidSpec)) normValidCard

/-- THE SECOND FORM's CARD OF 'berthlaw16.NormValid'. -/
def normValidUptoCard : Claim7 := { stood := { row := normValidUptoRow, standIns := [], harness := (true, "24b60ee9d9a8d87b391ac778789f73f702c6c0d4f8139e219e789969cc1e7686"), looks := true }, kinds := [], alts := [], laidByText := true, laidKinds := [.data, .data, .data, .data, .handle, .sentinel, .sentinel, .pinned], laidTests := true, laidLooks := .later }
def NormValidUptoCardSaid : Prop := Claim7.holds Tryz.pinned (.plain (OpenSpec.upto normValidSpec)) normValidUptoCard
end Rows
end Go.Proofs.YtimmjikpcekffaaGreatDoor

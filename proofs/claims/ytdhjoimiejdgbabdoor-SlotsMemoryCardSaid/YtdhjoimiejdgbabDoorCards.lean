/-
  DERIVED. GIVEN WITH THE SEED: THE CARDS: each row of YtdhjoimiejdgbabDoorRows.lean that lists a variable, with what it lists TIED to the program's text (the seventh form; the later family's looks); each row that meets fmt, with fmt's text TOLD by the authors' own Lean function (tested against real Go, not proved from fmt's source: count such statements apart). THE CARD IS WHAT COUNTS. Prove the row's statement (the work); the ties are given (YtdhjoimiejdgbabDoorTie.lean); close each card by the builder's one call (the guide's Derived/Test/ToyasCard.lean, 'card_holds'). Laid BY PROGRAM, IN A SANDBOX (cutbox-door.mjs). By AI agents, Wed Nov 11 2026. No macro, syntax, notation, axiom, sorry.
-/
import Derived.Test.YtdhjoimiejdgbabDoorRows
import GoSem.ClaimSeven
namespace Go.Proofs.YtdhjoimiejdgbabDoor
namespace Rows

/-- THE TIED CARD OF 'berthlaw05.SlotsBlind'. -/
def slotsBlindCard : Claim7 := { stood := { row := slotsBlindRow, standIns := [], harness := (true, "303fd5849b9673816e504b4d7d12d49a98f448cc2721007d3f534d461d74d529"), looks := true }, kinds := [], alts := [], laidByText := true, laidKinds := [.data], laidTests := true, laidLooks := .later }
def SlotsBlindCardSaid : Prop := Claim7.holds Tryd.pinned (.plain (OpenSpec.ofChange slotsBlindSpec)) slotsBlindCard

/-- THE TIED CARD OF 'berthlaw05.SlotsMemory'. -/
def slotsMemoryCard : Claim7 := { stood := { row := slotsMemoryRow, standIns := [], harness := (true, "303fd5849b9673816e504b4d7d12d49a98f448cc2721007d3f534d461d74d529"), looks := true }, kinds := [], alts := [], laidByText := true, laidKinds := [.data, .data, .data], laidTests := true, laidLooks := .later }
def SlotsMemoryCardSaid : Prop := Claim7.holds Tryd.pinned (.plain (OpenSpec.ofChange slotsMemorySpec)) slotsMemoryCard

/-- THE SECOND FORM's CARD OF 'berthlaw05.SlotsBlind'. -/
def slotsBlindUptoCard : Claim7 := { stood := { row := slotsBlindUptoRow, standIns := [], harness := (true, "303fd5849b9673816e504b4d7d12d49a98f448cc2721007d3f534d461d74d529"), looks := true }, kinds := [], alts := [], laidByText := true, laidKinds := [.data], laidTests := true, laidLooks := .later }
def SlotsBlindUptoCardSaid : Prop := Claim7.holds Tryd.pinned (.plain (OpenSpec.upto slotsBlindSpec)) slotsBlindUptoCard

/-- THE SECOND FORM's CARD OF 'berthlaw05.SlotsMemory'. -/
def slotsMemoryUptoCard : Claim7 := { stood := { row := slotsMemoryUptoRow, standIns := [], harness := (true, "303fd5849b9673816e504b4d7d12d49a98f448cc2721007d3f534d461d74d529"), looks := true }, kinds := [], alts := [], laidByText := true, laidKinds := [.data, .data, .data], laidTests := true, laidLooks := .later }
def SlotsMemoryUptoCardSaid : Prop := Claim7.holds Tryd.pinned (.plain (OpenSpec.upto slotsMemorySpec)) slotsMemoryUptoCard
end Rows
end Go.Proofs.YtdhjoimiejdgbabDoor

/-
  DERIVED. GIVEN WITH THE SEED: THE CARDS: each row of YtlhlpamciafocaaGreatDoorRows.lean that lists a variable, with what it lists TIED to the program's text (the seventh form; the later family's looks); each row that meets fmt, with fmt's text TOLD by the authors' own Lean function (tested against real Go, not proved from fmt's source: count such statements apart). THE CARD IS WHAT COUNTS. Prove the row's statement (the work); the ties are given (YtlhlpamciafocaaGreatDoorTie.lean); close each card by the builder's one call (the guide's Derived/Test/ToyasCard.lean, 'card_holds'). Laid BY PROGRAM, IN A SANDBOX (cutbox-door.mjs). By AI agents, Wed Nov 11 2026. No macro, syntax, notation, axiom, sorry.
-/
import Derived.Test.YtlhlpamciafocaaGreatDoorRows
import GoSem.ClaimSeven
namespace Go.Proofs.YtlhlpamciafocaaGreatDoor
namespace Rows

/-- THE TIED CARD OF 'berthlaw13.ShowReads'. -/
def showReadsCard : Claim7 := { stood := { row := showReadsRow, standIns := [], harness := (true, "4f56b4f5e0fd4ae8bf24c9d6e8ce51d253c691f29b9217dc865282ad8ccaa8f3"), looks := true }, kinds := [], alts := [], laidByText := true, laidKinds := [.data, .data, .data, .sentinel, .sentinel], laidTests := true, laidLooks := .later }
def ShowReadsCardSaid : Prop := Claim7.holds Tryz.pinned (.plain (OpenSpec.ofChange showReadsSpec)) showReadsCard

/-- THE TIED CARD OF 'berthlaw13.ShowSource'. -/
def showSourceCard : Claim7 := { stood := { row := showSourceRow, standIns := [], harness := (true, "4f56b4f5e0fd4ae8bf24c9d6e8ce51d253c691f29b9217dc865282ad8ccaa8f3"), looks := true }, kinds := [], alts := [], laidByText := true, laidKinds := [.data, .data, .data, .sentinel, .sentinel], laidTests := true, laidLooks := .later }
def ShowSourceCardSaid : Prop := Claim7.holds Tryz.pinned (.plain (OpenSpec.ofChange showSourceSpec)) showSourceCard

/-- THE TIED CARD OF 'berthtop.TopReads'. -/
def topReadsCard : Claim7 := { stood := { row := topReadsRow, standIns := [], harness := (true, "4f56b4f5e0fd4ae8bf24c9d6e8ce51d253c691f29b9217dc865282ad8ccaa8f3"), looks := true }, kinds := [], alts := [], laidByText := true, laidKinds := [.data, .data, .data, .sentinel, .sentinel], laidTests := true, laidLooks := .later }
def TopReadsCardSaid : Prop := Claim7.holds Tryz.pinned (.plain (OpenSpec.ofChange topReadsSpec)) topReadsCard

/-- THE TIED CARD OF 'berthtop.TopShows'. -/
def topShowsCard : Claim7 := { stood := { row := topShowsRow, standIns := [], harness := (true, "4f56b4f5e0fd4ae8bf24c9d6e8ce51d253c691f29b9217dc865282ad8ccaa8f3"), looks := true }, kinds := [], alts := [], laidByText := true, laidKinds := [.data, .data, .data, .sentinel, .sentinel], laidTests := true, laidLooks := .later }
def TopShowsCardSaid : Prop := Claim7.holds Tryz.pinned (.plain (OpenSpec.ofChange topShowsSpec)) topShowsCard

/-- THE SECOND FORM's CARD OF 'berthlaw13.ShowReads'. -/
def showReadsUptoCard : Claim7 := { stood := { row := showReadsUptoRow, standIns := [], harness := (true, "4f56b4f5e0fd4ae8bf24c9d6e8ce51d253c691f29b9217dc865282ad8ccaa8f3"), looks := true }, kinds := [], alts := [], laidByText := true, laidKinds := [.data, .data, .data, .sentinel, .sentinel], laidTests := true, laidLooks := .later }
def ShowReadsUptoCardSaid : Prop := Claim7.holds Tryz.pinned (.plain (OpenSpec.upto showReadsSpec)) showReadsUptoCard

/-- THE SECOND FORM's CARD OF 'berthlaw13.ShowSource'. -/
def showSourceUptoCard : Claim7 := { stood := { row := showSourceUptoRow, standIns := [], harness := (true, "4f56b4f5e0fd4ae8bf24c9d6e8ce51d253c691f29b9217dc865282ad8ccaa8f3"), looks := true }, kinds := [], alts := [], laidByText := true, laidKinds := [.data, .data, .data, .sentinel, .sentinel], laidTests := true, laidLooks := .later }
def ShowSourceUptoCardSaid : Prop := Claim7.holds Tryz.pinned (.plain (OpenSpec.upto showSourceSpec)) showSourceUptoCard

/-- THE SECOND FORM's CARD OF 'berthtop.TopReads'. -/
def topReadsUptoCard : Claim7 := { stood := { row := topReadsUptoRow, standIns := [], harness := (true, "4f56b4f5e0fd4ae8bf24c9d6e8ce51d253c691f29b9217dc865282ad8ccaa8f3"), looks := true }, kinds := [], alts := [], laidByText := true, laidKinds := [.data, .data, .data, .sentinel, .sentinel], laidTests := true, laidLooks := .later }
def TopReadsUptoCardSaid : Prop := Claim7.holds Tryz.pinned (.plain (OpenSpec.upto topReadsSpec)) topReadsUptoCard

/-- THE SECOND FORM's CARD OF 'berthtop.TopShows'. -/
def topShowsUptoCard : Claim7 := { stood := { row := topShowsUptoRow, standIns := [], harness := (true, "4f56b4f5e0fd4ae8bf24c9d6e8ce51d253c691f29b9217dc865282ad8ccaa8f3"), looks := true }, kinds := [], alts := [], laidByText := true, laidKinds := [.data, .data, .data, .sentinel, .sentinel], laidTests := true, laidLooks := .later }
def TopShowsUptoCardSaid : Prop := Claim7.holds Tryz.pinned (.plain (OpenSpec.upto topShowsSpec)) topShowsUptoCard
end Rows
end Go.Proofs.YtlhlpamciafocaaGreatDoor

/-
  DERIVED. GIVEN WITH THE SEED: THE CARDS: each row of YtiddnjjaidiohaaGreatDoorRows.lean that lists a variable, with what it lists TIED to the program's text (the seventh form; the later family's looks); each row that meets fmt, with fmt's text TOLD by the authors' own Lean function (tested against real Go, not proved from fmt's source: count such statements apart). THE CARD IS WHAT COUNTS. Prove the row's statement (the work); the ties are given (YtiddnjjaidiohaaGreatDoorTie.lean); close each card by the builder's one call (the guide's Derived/Test/ToyasCard.lean, 'card_holds'). Laid BY PROGRAM, IN A SANDBOX (cutbox-door.mjs). By AI agents, Wed Nov 11 2026. No macro, syntax, notation, axiom, sorry.
-/
import Derived.Test.YtiddnjjaidiohaaGreatDoorRows
import GoSem.ClaimSeven
namespace Go.Proofs.YtiddnjjaidiohaaGreatDoor
namespace Rows

/-- THE TIED CARD OF 'berthlaw14.SortsChecks'. -/
def sortsChecksCard : Claim7 := { stood := { row := sortsChecksRow, standIns := [], harness := (true, "65d5021183bf1252472a7c7883b65c5c7172d2fbdb07ba821853504322e933cf"), looks := true }, kinds := [], alts := [], laidByText := true, laidKinds := [.data, .handle, .pinned], laidTests := true, laidLooks := .later }
def SortsChecksCardSaid : Prop := Claim7.holds Tryz.pinned (.plain (OpenSpec.ofChange sortsChecksSpec)) sortsChecksCard

/-- THE TIED CARD OF 'berthlaw14.SortsOne'. -/
def sortsOneCard : Claim7 := { stood := { row := sortsOneRow, standIns := [], harness := (true, "65d5021183bf1252472a7c7883b65c5c7172d2fbdb07ba821853504322e933cf"), looks := true }, kinds := [], alts := [], laidByText := true, laidKinds := [.data, .handle, .pinned], laidTests := true, laidLooks := .later }
def SortsOneCardSaid : Prop := Claim7.holds Tryz.pinned (.plain (OpenSpec.ofChange sortsOneSpec)) sortsOneCard

/-- THE TIED CARD OF 'berthlaw14.SortsParts'. -/
def sortsPartsCard : Claim7 := { stood := { row := sortsPartsRow, standIns := [], harness := (true, "65d5021183bf1252472a7c7883b65c5c7172d2fbdb07ba821853504322e933cf"), looks := true }, kinds := [], alts := [], laidByText := true, laidKinds := [.data, .handle, .pinned], laidTests := true, laidLooks := .later }
def SortsPartsCardSaid : Prop := Claim7.holds Tryz.pinned (.plain (OpenSpec.ofChange sortsPartsSpec)) sortsPartsCard

/-- THE TIED CARD OF 'berthlaw14.SortsMoves'. -/
def sortsMovesCard : Claim7 := { stood := { row := sortsMovesRow, standIns := [], harness := (true, "65d5021183bf1252472a7c7883b65c5c7172d2fbdb07ba821853504322e933cf"), looks := true }, kinds := [], alts := [], laidByText := true, laidKinds := [.data, .handle, .pinned], laidTests := true, laidLooks := .later }
def SortsMovesCardSaid : Prop := Claim7.holds Tryz.pinned (.plain (OpenSpec.ofChange sortsMovesSpec)) sortsMovesCard

/-- THE TIED CARD OF 'berthlaw14.SortsKeeps'. -/
def sortsKeepsCard : Claim7 := { stood := { row := sortsKeepsRow, standIns := [], harness := (true, "65d5021183bf1252472a7c7883b65c5c7172d2fbdb07ba821853504322e933cf"), looks := true }, kinds := [], alts := [], laidByText := true, laidKinds := [.data, .handle, .pinned], laidTests := true, laidLooks := .later }
def SortsKeepsCardSaid : Prop := Claim7.holds Tryz.pinned (.plain (OpenSpec.ofChange sortsKeepsSpec)) sortsKeepsCard

/-- THE SECOND FORM's CARD OF 'berthlaw14.SortsChecks'. -/
def sortsChecksUptoCard : Claim7 := { stood := { row := sortsChecksUptoRow, standIns := [], harness := (true, "65d5021183bf1252472a7c7883b65c5c7172d2fbdb07ba821853504322e933cf"), looks := true }, kinds := [], alts := [], laidByText := true, laidKinds := [.data, .handle, .pinned], laidTests := true, laidLooks := .later }
def SortsChecksUptoCardSaid : Prop := Claim7.holds Tryz.pinned (.plain (OpenSpec.upto sortsChecksSpec)) sortsChecksUptoCard

/-- THE SECOND FORM's CARD OF 'berthlaw14.SortsOne'. -/
def sortsOneUptoCard : Claim7 := { stood := { row := sortsOneUptoRow, standIns := [], harness := (true, "65d5021183bf1252472a7c7883b65c5c7172d2fbdb07ba821853504322e933cf"), looks := true }, kinds := [], alts := [], laidByText := true, laidKinds := [.data, .handle, .pinned], laidTests := true, laidLooks := .later }
def SortsOneUptoCardSaid : Prop := Claim7.holds Tryz.pinned (.plain (OpenSpec.upto sortsOneSpec)) sortsOneUptoCard

/-- THE SECOND FORM's CARD OF 'berthlaw14.SortsParts'. -/
def sortsPartsUptoCard : Claim7 := { stood := { row := sortsPartsUptoRow, standIns := [], harness := (true, "65d5021183bf1252472a7c7883b65c5c7172d2fbdb07ba821853504322e933cf"), looks := true }, kinds := [], alts := [], laidByText := true, laidKinds := [.data, .handle, .pinned], laidTests := true, laidLooks := .later }
def SortsPartsUptoCardSaid : Prop := Claim7.holds Tryz.pinned (.plain (OpenSpec.upto sortsPartsSpec)) sortsPartsUptoCard

/-- THE SECOND FORM's CARD OF 'berthlaw14.SortsMoves'. -/
def sortsMovesUptoCard : Claim7 := { stood := { row := sortsMovesUptoRow, standIns := [], harness := (true, "65d5021183bf1252472a7c7883b65c5c7172d2fbdb07ba821853504322e933cf"), looks := true }, kinds := [], alts := [], laidByText := true, laidKinds := [.data, .handle, .pinned], laidTests := true, laidLooks := .later }
def SortsMovesUptoCardSaid : Prop := Claim7.holds Tryz.pinned (.plain (OpenSpec.upto sortsMovesSpec)) sortsMovesUptoCard

/-- THE SECOND FORM's CARD OF 'berthlaw14.SortsKeeps'. -/
def sortsKeepsUptoCard : Claim7 := { stood := { row := sortsKeepsUptoRow, standIns := [], harness := (true, "65d5021183bf1252472a7c7883b65c5c7172d2fbdb07ba821853504322e933cf"), looks := true }, kinds := [], alts := [], laidByText := true, laidKinds := [.data, .handle, .pinned], laidTests := true, laidLooks := .later }
def SortsKeepsUptoCardSaid : Prop := Claim7.holds Tryz.pinned (.plain (OpenSpec.upto sortsKeepsSpec)) sortsKeepsUptoCard
end Rows
end Go.Proofs.YtiddnjjaidiohaaGreatDoor

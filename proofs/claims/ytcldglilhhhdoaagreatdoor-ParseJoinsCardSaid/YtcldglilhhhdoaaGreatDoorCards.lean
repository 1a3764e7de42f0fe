/-
  DERIVED. GIVEN WITH THE SEED: THE CARDS: each row of YtcldglilhhhdoaaGreatDoorRows.lean that lists a variable, with what it lists TIED to the program's text (the seventh form; the later family's looks); each row that meets fmt, with fmt's text TOLD by the authors' own Lean function (tested against real Go, not proved from fmt's source: count such statements apart). THE CARD IS WHAT COUNTS. Prove the row's statement (the work); the ties are given (YtcldglilhhhdoaaGreatDoorTie.lean); close each card by the builder's one call (the guide's Derived/Test/ToyasCard.lean, 'card_holds'). Laid BY PROGRAM, IN A SANDBOX (cutbox-door.mjs). By AI agents, Wed Nov 11 2026. No macro, syntax, notation, axiom, sorry.
-/
import Derived.Test.YtcldglilhhhdoaaGreatDoorRows
import GoSem.ClaimSeven
namespace Go.Proofs.YtcldglilhhhdoaaGreatDoor
namespace Rows

/-- THE TIED CARD OF 'berthlaw12.ParseReads'. -/
def parseReadsCard : Claim7 := { stood := { row := parseReadsRow, standIns := [], harness := (true, "8ddcc95fd2cee4db479257aff0e0f78e960c87317110b3a50782e0c516ee20ca"), looks := true }, kinds := [], alts := [], laidByText := true, laidKinds := [.data, .data, .data, .sentinel, .sentinel], laidTests := true, laidLooks := .later }
def ParseReadsCardSaid : Prop := Claim7.holds Tryz.pinned (.plain (OpenSpec.ofChange parseReadsSpec)) parseReadsCard

/-- THE TIED CARD OF 'berthlaw12.ParseEither'. -/
def parseEitherCard : Claim7 := { stood := { row := parseEitherRow, standIns := [], harness := (true, "8ddcc95fd2cee4db479257aff0e0f78e960c87317110b3a50782e0c516ee20ca"), looks := true }, kinds := [], alts := [], laidByText := true, laidKinds := [.data, .data, .data, .sentinel, .sentinel], laidTests := true, laidLooks := .later }
def ParseEitherCardSaid : Prop := Claim7.holds Tryz.pinned (.plain (OpenSpec.ofChange parseEitherSpec)) parseEitherCard

/-- THE TIED CARD OF 'berthlaw12.ParseBlanks'. -/
def parseBlanksCard : Claim7 := { stood := { row := parseBlanksRow, standIns := [], harness := (true, "8ddcc95fd2cee4db479257aff0e0f78e960c87317110b3a50782e0c516ee20ca"), looks := true }, kinds := [], alts := [], laidByText := true, laidKinds := [.data, .data, .data, .sentinel, .sentinel], laidTests := true, laidLooks := .later }
def ParseBlanksCardSaid : Prop := Claim7.holds Tryz.pinned (.plain (OpenSpec.ofChange parseBlanksSpec)) parseBlanksCard

/-- THE TIED CARD OF 'berthlaw12.ParseJoins'. -/
def parseJoinsCard : Claim7 := { stood := { row := parseJoinsRow, standIns := [], harness := (true, "8ddcc95fd2cee4db479257aff0e0f78e960c87317110b3a50782e0c516ee20ca"), looks := true }, kinds := [], alts := [], laidByText := true, laidKinds := [.data, .data, .data, .sentinel, .sentinel], laidTests := true, laidLooks := .later }
def ParseJoinsCardSaid : Prop := Claim7.holds Tryz.pinned (.plain (OpenSpec.ofChange parseJoinsSpec)) parseJoinsCard

/-- THE TIED CARD OF 'berthlaw12.ParseRest'. -/
def parseRestCard : Claim7 := { stood := { row := parseRestRow, standIns := [], harness := (true, "8ddcc95fd2cee4db479257aff0e0f78e960c87317110b3a50782e0c516ee20ca"), looks := true }, kinds := [], alts := [], laidByText := true, laidKinds := [.data, .data, .data, .sentinel, .sentinel], laidTests := true, laidLooks := .later }
def ParseRestCardSaid : Prop := Claim7.holds Tryz.pinned (.plain (OpenSpec.ofChange parseRestSpec)) parseRestCard

/-- THE TIED CARD OF 'berthlaw12.ParseMemory'. -/
def parseMemoryCard : Claim7 := { stood := { row := parseMemoryRow, standIns := [], harness := (true, "8ddcc95fd2cee4db479257aff0e0f78e960c87317110b3a50782e0c516ee20ca"), looks := true }, kinds := [], alts := [], laidByText := true, laidKinds := [.data, .data, .data, .sentinel, .sentinel], laidTests := true, laidLooks := .later }
def ParseMemoryCardSaid : Prop := Claim7.holds Tryz.pinned (.plain (OpenSpec.ofChange parseMemorySpec)) parseMemoryCard

/-- THE SECOND FORM's CARD OF 'berthlaw12.ParseReads'. -/
def parseReadsUptoCard : Claim7 := { stood := { row := parseReadsUptoRow, standIns := [], harness := (true, "8ddcc95fd2cee4db479257aff0e0f78e960c87317110b3a50782e0c516ee20ca"), looks := true }, kinds := [], alts := [], laidByText := true, laidKinds := [.data, .data, .data, .sentinel, .sentinel], laidTests := true, laidLooks := .later }
def ParseReadsUptoCardSaid : Prop := Claim7.holds Tryz.pinned (.plain (OpenSpec.upto parseReadsSpec)) parseReadsUptoCard

/-- THE SECOND FORM's CARD OF 'berthlaw12.ParseEither'. -/
def parseEitherUptoCard : Claim7 := { stood := { row := parseEitherUptoRow, standIns := [], harness := (true, "8ddcc95fd2cee4db479257aff0e0f78e960c87317110b3a50782e0c516ee20ca"), looks := true }, kinds := [], alts := [], laidByText := true, laidKinds := [.data, .data, .data, .sentinel, .sentinel], laidTests := true, laidLooks := .later }
def ParseEitherUptoCardSaid : Prop := Claim7.holds Tryz.pinned (.plain (OpenSpec.upto parseEitherSpec)) parseEitherUptoCard

/-- THE SECOND FORM's CARD OF 'berthlaw12.ParseBlanks'. -/
def parseBlanksUptoCard : Claim7 := { stood := { row := parseBlanksUptoRow, standIns := [], harness := (true, "8ddcc95fd2cee4db479257aff0e0f78e960c87317110b3a50782e0c516ee20ca"), looks := true }, kinds := [], alts := [], laidByText := true, laidKinds := [.data, .data, .data, .sentinel, .sentinel], laidTests := true, laidLooks := .later }
def ParseBlanksUptoCardSaid : Prop := Claim7.holds Tryz.pinned (.plain (OpenSpec.upto parseBlanksSpec)) parseBlanksUptoCard

/-- THE SECOND FORM's CARD OF 'berthlaw12.ParseJoins'. -/
def parseJoinsUptoCard : Claim7 := { stood := { row := parseJoinsUptoRow, standIns := [], harness := (true, "8ddcc95fd2cee4db479257aff0e0f78e960c87317110b3a50782e0c516ee20ca"), looks := true }, kinds := [], alts := [], laidByText := true, laidKinds := [.data, .data, .data, .sentinel, .sentinel], laidTests := true, laidLooks := .later }
def ParseJoinsUptoCardSaid : Prop := Claim7.holds Tryz.pinned (.plain (OpenSpec.upto parseJoinsSpec)) parseJoinsUptoCard

/-- THE SECOND FORM's CARD OF 'berthlaw12.ParseRest'. -/
def parseRestUptoCard : Claim7 := { stood := { row := parseRestUptoRow, standIns := [], harness := (true, "8ddcc95fd2cee4db479257aff0e0f78e960c87317110b3a50782e0c516ee20ca"), looks := true }, kinds := [], alts := [], laidByText := true, laidKinds := [.data, .data, .data, .sentinel, .sentinel], laidTests := true, laidLooks := .later }
def ParseRestUptoCardSaid : Prop := Claim7.holds Tryz.pinned (.plain (OpenSpec.upto parseRestSpec)) parseRestUptoCard

/-- THE SECOND FORM's CARD OF 'berthlaw12.ParseMemory'. -/
def parseMemoryUptoCard : Claim7 := { stood := { row := parseMemoryUptoRow, standIns := [], harness := (true, "8ddcc95fd2cee4db479257aff0e0f78e960c87317110b3a50782e0c516ee20ca"), looks := true }, kinds := [], alts := [], laidByText := true, laidKinds := [.data, .data, .data, .sentinel, .sentinel], laidTests := true, laidLooks := .later }
def ParseMemoryUptoCardSaid : Prop := Claim7.holds Tryz.pinned (.plain (OpenSpec.upto parseMemorySpec)) parseMemoryUptoCard
end Rows
end Go.Proofs.YtcldglilhhhdoaaGreatDoor

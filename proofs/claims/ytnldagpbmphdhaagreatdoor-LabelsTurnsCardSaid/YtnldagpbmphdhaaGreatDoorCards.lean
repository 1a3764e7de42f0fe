/-
  DERIVED. GIVEN WITH THE SEED: THE CARDS: each row of YtnldagpbmphdhaaGreatDoorRows.lean that lists a variable, with what it lists TIED to the program's text (the seventh form; the later family's looks); each row that meets fmt, with fmt's text TOLD by the authors' own Lean function (tested against real Go, not proved from fmt's source: count such statements apart). THE CARD IS WHAT COUNTS. Prove the row's statement (the work); the ties are given (YtnldagpbmphdhaaGreatDoorTie.lean); close each card by the builder's one call (the guide's Derived/Test/ToyasCard.lean, 'card_holds'). Laid BY PROGRAM, IN A SANDBOX (cutbox-door.mjs). By AI agents, Wed Nov 11 2026. No macro, syntax, notation, axiom, sorry.
-/
import Derived.Test.YtnldagpbmphdhaaGreatDoorRows
import GoSem.ClaimSeven
namespace Go.Proofs.YtnldagpbmphdhaaGreatDoor
namespace Rows

/-- THE TIED CARD OF 'berthlaw03.LabelsTexts'. -/
def labelsTextsCard : Claim7 := { stood := { row := labelsTextsRow, standIns := [], harness := (true, "913a9f9ba2507036cfa28a74f9e196720a5617292e97e95736bc929ca9f1e259"), looks := true }, kinds := [], alts := [], laidByText := true, laidKinds := [.data, .data, .data, .data, .sentinel, .sentinel, .pinned], laidTests := true, laidLooks := .later }
def LabelsTextsCardSaid : Prop := Claim7.holds Tryz.pinned (.plain (OpenSpec.ofChange labelsTextsSpec)) labelsTextsCard

/-- THE TIED CARD OF 'berthlaw03.LabelsLists'. -/
def labelsListsCard : Claim7 := { stood := { row := labelsListsRow, standIns := [], harness := (true, "913a9f9ba2507036cfa28a74f9e196720a5617292e97e95736bc929ca9f1e259"), looks := true }, kinds := [], alts := [], laidByText := true, laidKinds := [.data, .data, .data, .data, .sentinel, .sentinel, .pinned], laidTests := true, laidLooks := .later }
def LabelsListsCardSaid : Prop := Claim7.holds Tryz.pinned (.plain (OpenSpec.ofChange labelsListsSpec)) labelsListsCard

/-- THE TIED CARD OF 'berthlaw03.LabelsTurns'. -/
def labelsTurnsCard : Claim7 := { stood := { row := labelsTurnsRow, standIns := [], harness := (true, "913a9f9ba2507036cfa28a74f9e196720a5617292e97e95736bc929ca9f1e259"), looks := true }, kinds := [], alts := [], laidByText := true, laidKinds := [.data, .data, .data, .data, .sentinel, .sentinel, .pinned], laidTests := true, laidLooks := .later }
def LabelsTurnsCardSaid : Prop := Claim7.holds Tryz.pinned (.plain (OpenSpec.ofChange labelsTurnsSpec)) labelsTurnsCard

/-- THE TIED CARD OF 'berthlaw03.LabelsAll'. -/
def labelsAllCard : Claim7 := { stood := { row := labelsAllRow, standIns := [], harness := (true, "913a9f9ba2507036cfa28a74f9e196720a5617292e97e95736bc929ca9f1e259"), looks := true }, kinds := [], alts := [], laidByText := true, laidKinds := [.data, .data, .data, .data, .sentinel, .sentinel, .pinned], laidTests := true, laidLooks := .later }
def LabelsAllCardSaid : Prop := Claim7.holds Tryz.pinned (.plain (OpenSpec.ofChange labelsAllSpec)) labelsAllCard

/-- THE SECOND FORM's CARD OF 'berthlaw03.LabelsTexts'. -/
def labelsTextsUptoCard : Claim7 := { stood := { row := labelsTextsUptoRow, standIns := [], harness := (true, "913a9f9ba2507036cfa28a74f9e196720a5617292e97e95736bc929ca9f1e259"), looks := true }, kinds := [], alts := [], laidByText := true, laidKinds := [.data, .data, .data, .data, .sentinel, .sentinel, .pinned], laidTests := true, laidLooks := .later }
def LabelsTextsUptoCardSaid : Prop := Claim7.holds Tryz.pinned (.plain (OpenSpec.upto labelsTextsSpec)) labelsTextsUptoCard

/-- THE SECOND FORM's CARD OF 'berthlaw03.LabelsLists'. -/
def labelsListsUptoCard : Claim7 := { stood := { row := labelsListsUptoRow, standIns := [], harness := (true, "913a9f9ba2507036cfa28a74f9e196720a5617292e97e95736bc929ca9f1e259"), looks := true }, kinds := [], alts := [], laidByText := true, laidKinds := [.data, .data, .data, .data, .sentinel, .sentinel, .pinned], laidTests := true, laidLooks := .later }
def LabelsListsUptoCardSaid : Prop := Claim7.holds Tryz.pinned (.plain (OpenSpec.upto labelsListsSpec)) labelsListsUptoCard

/-- THE SECOND FORM's CARD OF 'berthlaw03.LabelsTurns'. -/
def labelsTurnsUptoCard : Claim7 := { stood := { row := labelsTurnsUptoRow, standIns := [], harness := (true, "913a9f9ba2507036cfa28a74f9e196720a5617292e97e95736bc929ca9f1e259"), looks := true }, kinds := [], alts := [], laidByText := true, laidKinds := [.data, .data, .data, .data, .sentinel, .sentinel, .pinned], laidTests := true, laidLooks := .later }
def LabelsTurnsUptoCardSaid : Prop := Claim7.holds Tryz.pinned (.plain (OpenSpec.upto labelsTurnsSpec)) labelsTurnsUptoCard

/-- THE SECOND FORM's CARD OF 'berthlaw03.LabelsAll'. -/
def labelsAllUptoCard : Claim7 := { stood := { row := labelsAllUptoRow, standIns := [], harness := (true, "913a9f9ba2507036cfa28a74f9e196720a5617292e97e95736bc929ca9f1e259"), looks := true }, kinds := [], alts := [], laidByText := true, laidKinds := [.data, .data, .data, .data, .sentinel, .sentinel, .pinned], laidTests := true, laidLooks := .later }
def LabelsAllUptoCardSaid : Prop := Claim7.holds Tryz.pinned (.plain (OpenSpec.upto labelsAllSpec)) labelsAllUptoCard
end Rows
end Go.Proofs.YtnldagpbmphdhaaGreatDoor

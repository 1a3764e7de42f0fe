/-
  DERIVED. GIVEN WITH THE SEED: THE CARDS: each row of YtppblibcbjpfnaaDoorRows.lean that lists a variable, with what it lists TIED to the program's text (the seventh form; the later family's looks); each row that meets fmt, with fmt's text TOLD by the authors' own Lean function (tested against real Go, not proved from fmt's source: count such statements apart). THE CARD IS WHAT COUNTS. Prove the row's statement (the work); the ties are given (YtppblibcbjpfnaaDoorTie.lean); close each card by the builder's one call (the guide's Derived/Test/ToyasCard.lean, 'card_holds'). Laid BY PROGRAM, IN A SANDBOX (cutbox-door.mjs). By AI agents, Wed Nov 11 2026. No macro, syntax, notation, axiom, sorry.
-/
import Derived.Test.YtppblibcbjpfnaaDoorRows
import GoSem.ClaimSeven
namespace Go.Proofs.YtppblibcbjpfnaaDoor
namespace Rows

/-- THE TIED CARD OF 'berthlaw04.TaintTexts'. -/
def taintTextsCard : Claim7 := { stood := { row := taintTextsRow, standIns := [], harness := (true, "f03dd432611666d3d177c7008c1ea915e5e3a7adc0c8715092ee5a0e60fb4231"), looks := false }, kinds := [], alts := [], laidByText := true, laidKinds := [.data, .pinned], laidTests := true, laidLooks := .later }
def TaintTextsCardSaid : Prop := Claim7.holds Tryd.pinned (.plain (OpenSpec.ofChange taintTextsSpec)) taintTextsCard

/-- THE TIED CARD OF 'berthlaw04.TaintLists'. -/
def taintListsCard : Claim7 := { stood := { row := taintListsRow, standIns := [], harness := (true, "f03dd432611666d3d177c7008c1ea915e5e3a7adc0c8715092ee5a0e60fb4231"), looks := false }, kinds := [], alts := [], laidByText := true, laidKinds := [.data, .pinned], laidTests := true, laidLooks := .later }
def TaintListsCardSaid : Prop := Claim7.holds Tryd.pinned (.plain (OpenSpec.ofChange taintListsSpec)) taintListsCard

/-- THE TIED CARD OF 'berthlaw04.TaintLeft'. -/
def taintLeftCard : Claim7 := { stood := { row := taintLeftRow, standIns := [], harness := (true, "f03dd432611666d3d177c7008c1ea915e5e3a7adc0c8715092ee5a0e60fb4231"), looks := false }, kinds := [], alts := [], laidByText := true, laidKinds := [.data, .pinned], laidTests := true, laidLooks := .later }
def TaintLeftCardSaid : Prop := Claim7.holds Tryd.pinned (.plain (OpenSpec.ofChange taintLeftSpec)) taintLeftCard

/-- THE TIED CARD OF 'berthlaw04.TaintOwn'. -/
def taintOwnCard : Claim7 := { stood := { row := taintOwnRow, standIns := [], harness := (true, "f03dd432611666d3d177c7008c1ea915e5e3a7adc0c8715092ee5a0e60fb4231"), looks := false }, kinds := [], alts := [], laidByText := true, laidKinds := [.data, .pinned], laidTests := true, laidLooks := .later }
def TaintOwnCardSaid : Prop := Claim7.holds Tryd.pinned (.plain (OpenSpec.ofChange taintOwnSpec)) taintOwnCard

/-- THE SECOND FORM's CARD OF 'berthlaw04.TaintTexts'. -/
def taintTextsUptoCard : Claim7 := { stood := { row := taintTextsUptoRow, standIns := [], harness := (true, "f03dd432611666d3d177c7008c1ea915e5e3a7adc0c8715092ee5a0e60fb4231"), looks := false }, kinds := [], alts := [], laidByText := true, laidKinds := [.data, .pinned], laidTests := true, laidLooks := .later }
def TaintTextsUptoCardSaid : Prop := Claim7.holds Tryd.pinned (.plain (OpenSpec.upto taintTextsSpec)) taintTextsUptoCard

/-- THE SECOND FORM's CARD OF 'berthlaw04.TaintLists'. -/
def taintListsUptoCard : Claim7 := { stood := { row := taintListsUptoRow, standIns := [], harness := (true, "f03dd432611666d3d177c7008c1ea915e5e3a7adc0c8715092ee5a0e60fb4231"), looks := false }, kinds := [], alts := [], laidByText := true, laidKinds := [.data, .pinned], laidTests := true, laidLooks := .later }
def TaintListsUptoCardSaid : Prop := Claim7.holds Tryd.pinned (.plain (OpenSpec.upto taintListsSpec)) taintListsUptoCard

/-- THE SECOND FORM's CARD OF 'berthlaw04.TaintLeft'. -/
def taintLeftUptoCard : Claim7 := { stood := { row := taintLeftUptoRow, standIns := [], harness := (true, "f03dd432611666d3d177c7008c1ea915e5e3a7adc0c8715092ee5a0e60fb4231"), looks := false }, kinds := [], alts := [], laidByText := true, laidKinds := [.data, .pinned], laidTests := true, laidLooks := .later }
def TaintLeftUptoCardSaid : Prop := Claim7.holds Tryd.pinned (.plain (OpenSpec.upto taintLeftSpec)) taintLeftUptoCard

/-- THE SECOND FORM's CARD OF 'berthlaw04.TaintOwn'. -/
def taintOwnUptoCard : Claim7 := { stood := { row := taintOwnUptoRow, standIns := [], harness := (true, "f03dd432611666d3d177c7008c1ea915e5e3a7adc0c8715092ee5a0e60fb4231"), looks := false }, kinds := [], alts := [], laidByText := true, laidKinds := [.data, .pinned], laidTests := true, laidLooks := .later }
def TaintOwnUptoCardSaid : Prop := Claim7.holds Tryd.pinned (.plain (OpenSpec.upto taintOwnSpec)) taintOwnUptoCard
end Rows
end Go.Proofs.YtppblibcbjpfnaaDoor

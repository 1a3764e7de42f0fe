/-
  DERIVED. GIVEN WITH THE SEED: THE CARDS: each row of YtdhjoimiejdgbaaDoorRows.lean that lists a variable, with what it lists TIED to the program's text (the seventh form; the later family's looks); each row that meets fmt, with fmt's text TOLD by the authors' own Lean function (tested against real Go, not proved from fmt's source: count such statements apart). THE CARD IS WHAT COUNTS. Prove the row's statement (the work); the ties are given (YtdhjoimiejdgbaaDoorTie.lean); close each card by the builder's one call (the guide's Derived/Test/ToyasCard.lean, 'card_holds'). Laid BY PROGRAM, IN A SANDBOX (cutbox-door.mjs). By AI agents, Wed Nov 11 2026. No macro, syntax, notation, axiom, sorry.
-/
import Derived.Test.YtdhjoimiejdgbaaDoorRows
import GoSem.ClaimSeven
namespace Go.Proofs.YtdhjoimiejdgbaaDoor
namespace Rows

/-- THE TIED CARD OF 'berthlaw05.SlotsAnswers'. -/
def slotsAnswersCard : Claim7 := { stood := { row := slotsAnswersRow, standIns := [], harness := (true, "87c24d2c5fdfe3c173506371f4090a0fcc477c2a0ba8037c9961a9da6d933b0c"), looks := true }, kinds := [], alts := [], laidByText := true, laidKinds := [.data], laidTests := true, laidLooks := .later }
def SlotsAnswersCardSaid : Prop := Claim7.holds Tryd.pinned (.plain (OpenSpec.ofChange slotsAnswersSpec)) slotsAnswersCard

/-- THE TIED CARD OF 'berthlaw05.SlotsThings'. -/
def slotsThingsCard : Claim7 := { stood := { row := slotsThingsRow, standIns := [], harness := (true, "87c24d2c5fdfe3c173506371f4090a0fcc477c2a0ba8037c9961a9da6d933b0c"), looks := true }, kinds := [], alts := [], laidByText := true, laidKinds := [.data, .data, .data], laidTests := true, laidLooks := .later }
def SlotsThingsCardSaid : Prop := Claim7.holds Tryd.pinned (.plain (OpenSpec.ofChange slotsThingsSpec)) slotsThingsCard

/-- THE TIED CARD OF 'berthlaw05.SlotsLowest'. -/
def slotsLowestCard : Claim7 := { stood := { row := slotsLowestRow, standIns := [], harness := (true, "87c24d2c5fdfe3c173506371f4090a0fcc477c2a0ba8037c9961a9da6d933b0c"), looks := true }, kinds := [], alts := [], laidByText := true, laidKinds := [.data], laidTests := true, laidLooks := .later }
def SlotsLowestCardSaid : Prop := Claim7.holds Tryd.pinned (.plain (OpenSpec.ofChange slotsLowestSpec)) slotsLowestCard

/-- THE TIED CARD OF 'berthlaw05.SlotsFills'. -/
def slotsFillsCard : Claim7 := { stood := { row := slotsFillsRow, standIns := [], harness := (true, "87c24d2c5fdfe3c173506371f4090a0fcc477c2a0ba8037c9961a9da6d933b0c"), looks := true }, kinds := [], alts := [], laidByText := true, laidKinds := [.data, .data, .data], laidTests := true, laidLooks := .later }
def SlotsFillsCardSaid : Prop := Claim7.holds Tryd.pinned (.plain (OpenSpec.ofChange slotsFillsSpec)) slotsFillsCard

/-- THE TIED CARD OF 'berthlaw05.SlotsWalk'. -/
def slotsWalkCard : Claim7 := { stood := { row := slotsWalkRow, standIns := [], harness := (true, "87c24d2c5fdfe3c173506371f4090a0fcc477c2a0ba8037c9961a9da6d933b0c"), looks := true }, kinds := [], alts := [], laidByText := true, laidKinds := [.data], laidTests := true, laidLooks := .later }
def SlotsWalkCardSaid : Prop := Claim7.holds Tryd.pinned (.plain (OpenSpec.ofChange slotsWalkSpec)) slotsWalkCard

/-- THE TIED CARD OF 'berthlaw05.SlotsCopies'. -/
def slotsCopiesCard : Claim7 := { stood := { row := slotsCopiesRow, standIns := [], harness := (true, "87c24d2c5fdfe3c173506371f4090a0fcc477c2a0ba8037c9961a9da6d933b0c"), looks := true }, kinds := [], alts := [], laidByText := true, laidKinds := [.data], laidTests := true, laidLooks := .later }
def SlotsCopiesCardSaid : Prop := Claim7.holds Tryd.pinned (.plain (OpenSpec.ofChange slotsCopiesSpec)) slotsCopiesCard

/-- THE SECOND FORM's CARD OF 'berthlaw05.SlotsAnswers'. -/
def slotsAnswersUptoCard : Claim7 := { stood := { row := slotsAnswersUptoRow, standIns := [], harness := (true, "87c24d2c5fdfe3c173506371f4090a0fcc477c2a0ba8037c9961a9da6d933b0c"), looks := true }, kinds := [], alts := [], laidByText := true, laidKinds := [.data], laidTests := true, laidLooks := .later }
def SlotsAnswersUptoCardSaid : Prop := Claim7.holds Tryd.pinned (.plain (OpenSpec.upto slotsAnswersSpec)) slotsAnswersUptoCard

/-- THE SECOND FORM's CARD OF 'berthlaw05.SlotsThings'. -/
def slotsThingsUptoCard : Claim7 := { stood := { row := slotsThingsUptoRow, standIns := [], harness := (true, "87c24d2c5fdfe3c173506371f4090a0fcc477c2a0ba8037c9961a9da6d933b0c"), looks := true }, kinds := [], alts := [], laidByText := true, laidKinds := [.data, .data, .data], laidTests := true, laidLooks := .later }
def SlotsThingsUptoCardSaid : Prop := Claim7.holds Tryd.pinned (.plain (OpenSpec.upto slotsThingsSpec)) slotsThingsUptoCard

/-- THE SECOND FORM's CARD OF 'berthlaw05.SlotsLowest'. -/
def slotsLowestUptoCard : Claim7 := { stood := { row := slotsLowestUptoRow, standIns := [], harness := (true, "87c24d2c5fdfe3c173506371f4090a0fcc477c2a0ba8037c9961a9da6d933b0c"), looks := true }, kinds := [], alts := [], laidByText := true, laidKinds := [.data], laidTests := true, laidLooks := .later }
def SlotsLowestUptoCardSaid : Prop := Claim7.holds Tryd.pinned (.plain (OpenSpec.upto slotsLowestSpec)) slotsLowestUptoCard

/-- THE SECOND FORM's CARD OF 'berthlaw05.SlotsFills'. -/
def slotsFillsUptoCard : Claim7 := { stood := { row := slotsFillsUptoRow, standIns := [], harness := (true, "87c24d2c5fdfe3c173506371f4090a0fcc477c2a0ba8037c9961a9da6d933b0c"), looks := true }, kinds := [], alts := [], laidByText := true, laidKinds := [.data, .data, .data], laidTests := true, laidLooks := .later }
def SlotsFillsUptoCardSaid : Prop := Claim7.holds Tryd.pinned (.plain (OpenSpec.upto slotsFillsSpec)) slotsFillsUptoCard

/-- THE SECOND FORM's CARD OF 'berthlaw05.SlotsWalk'. -/
def slotsWalkUptoCard : Claim7 := { stood := { row := slotsWalkUptoRow, standIns := [], harness := (true, "87c24d2c5fdfe3c173506371f4090a0fcc477c2a0ba8037c9961a9da6d933b0c"), looks := true }, kinds := [], alts := [], laidByText := true, laidKinds := [.data], laidTests := true, laidLooks := .later }
def SlotsWalkUptoCardSaid : Prop := Claim7.holds Tryd.pinned (.plain (OpenSpec.upto slotsWalkSpec)) slotsWalkUptoCard

/-- THE SECOND FORM's CARD OF 'berthlaw05.SlotsCopies'. -/
def slotsCopiesUptoCard : Claim7 := { stood := { row := slotsCopiesUptoRow, standIns := [], harness := (true, "87c24d2c5fdfe3c173506371f4090a0fcc477c2a0ba8037c9961a9da6d933b0c"), looks := true }, kinds := [], alts := [], laidByText := true, laidKinds := [.data], laidTests := true, laidLooks := .later }
def SlotsCopiesUptoCardSaid : Prop := Claim7.holds Tryd.pinned (.plain (OpenSpec.upto slotsCopiesSpec)) slotsCopiesUptoCard
end Rows
end Go.Proofs.YtdhjoimiejdgbaaDoor

/-
  DERIVED. GIVEN WITH THE SEED: THE CARDS: each row of YtkagdmhijjfnnaaDoorRows.lean that lists a variable, with what it lists TIED to the program's text (the seventh form; the later family's looks); each row that meets fmt, with fmt's text TOLD by the authors' own Lean function (tested against real Go, not proved from fmt's source: count such statements apart). THE CARD IS WHAT COUNTS. Prove the row's statement (the work); the ties are given (YtkagdmhijjfnnaaDoorTie.lean); close each card by the builder's one call (the guide's Derived/Test/ToyasCard.lean, 'card_holds'). Laid BY PROGRAM, IN A SANDBOX (cutbox-door.mjs). By AI agents, Wed Nov 11 2026. No macro, syntax, notation, axiom, sorry.
-/
import Derived.Test.YtkagdmhijjfnnaaDoorRows
import GoSem.ClaimSeven
namespace Go.Proofs.YtkagdmhijjfnnaaDoor
namespace Rows

/-- THE TIED CARD OF 'berthlaw01.BitsetPlays'. -/
def bitsetPlaysCard : Claim7 := { stood := { row := bitsetPlaysRow, standIns := [], harness := (true, "f5bb644d031aa865dee7cee78d9367368bfcda6569b13154d2dda6c3a57a5c96"), looks := false }, kinds := [], alts := [], laidByText := true, laidKinds := [.data], laidTests := true, laidLooks := .later }
def BitsetPlaysCardSaid : Prop := Claim7.holds Tryd.pinned (.plain (OpenSpec.ofChange bitsetPlaysSpec)) bitsetPlaysCard

/-- THE TIED CARD OF 'berthlaw01.BitsetAlgebra'. -/
def bitsetAlgebraCard : Claim7 := { stood := { row := bitsetAlgebraRow, standIns := [], harness := (true, "f5bb644d031aa865dee7cee78d9367368bfcda6569b13154d2dda6c3a57a5c96"), looks := false }, kinds := [], alts := [], laidByText := true, laidKinds := [.data], laidTests := true, laidLooks := .later }
def BitsetAlgebraCardSaid : Prop := Claim7.holds Tryd.pinned (.plain (OpenSpec.ofChange bitsetAlgebraSpec)) bitsetAlgebraCard

/-- THE TIED CARD OF 'berthlaw01.BitsetWalks'. -/
def bitsetWalksCard : Claim7 := { stood := { row := bitsetWalksRow, standIns := [], harness := (true, "f5bb644d031aa865dee7cee78d9367368bfcda6569b13154d2dda6c3a57a5c96"), looks := false }, kinds := [], alts := [], laidByText := true, laidKinds := [.data], laidTests := true, laidLooks := .later }
def BitsetWalksCardSaid : Prop := Claim7.holds Tryd.pinned (.plain (OpenSpec.ofChange bitsetWalksSpec)) bitsetWalksCard

/-- THE TIED CARD OF 'berthlaw01.BitsetWords'. -/
def bitsetWordsCard : Claim7 := { stood := { row := bitsetWordsRow, standIns := [], harness := (true, "f5bb644d031aa865dee7cee78d9367368bfcda6569b13154d2dda6c3a57a5c96"), looks := false }, kinds := [], alts := [], laidByText := true, laidKinds := [.data], laidTests := true, laidLooks := .later }
def BitsetWordsCardSaid : Prop := Claim7.holds Tryd.pinned (.plain (OpenSpec.ofChange bitsetWordsSpec)) bitsetWordsCard

/-- THE TIED CARD OF 'berthlaw01.BitsetSnaps'. -/
def bitsetSnapsCard : Claim7 := { stood := { row := bitsetSnapsRow, standIns := [], harness := (true, "f5bb644d031aa865dee7cee78d9367368bfcda6569b13154d2dda6c3a57a5c96"), looks := false }, kinds := [], alts := [], laidByText := true, laidKinds := [.data], laidTests := true, laidLooks := .later }
def BitsetSnapsCardSaid : Prop := Claim7.holds Tryd.pinned (.plain (OpenSpec.ofChange bitsetSnapsSpec)) bitsetSnapsCard

/-- THE TIED CARD OF 'berthlaw01.BitsetPlace'. -/
def bitsetPlaceCard : Claim7 := { stood := { row := bitsetPlaceRow, standIns := [], harness := (true, "f5bb644d031aa865dee7cee78d9367368bfcda6569b13154d2dda6c3a57a5c96"), looks := false }, kinds := [], alts := [], laidByText := true, laidKinds := [.data], laidTests := true, laidLooks := .later }
def BitsetPlaceCardSaid : Prop := Claim7.holds Tryd.pinned (.plain (OpenSpec.ofChange bitsetPlaceSpec)) bitsetPlaceCard

/-- THE SECOND FORM's CARD OF 'berthlaw01.BitsetPlays'. -/
def bitsetPlaysUptoCard : Claim7 := { stood := { row := bitsetPlaysUptoRow, standIns := [], harness := (true, "f5bb644d031aa865dee7cee78d9367368bfcda6569b13154d2dda6c3a57a5c96"), looks := false }, kinds := [], alts := [], laidByText := true, laidKinds := [.data], laidTests := true, laidLooks := .later }
def BitsetPlaysUptoCardSaid : Prop := Claim7.holds Tryd.pinned (.plain (OpenSpec.upto bitsetPlaysSpec)) bitsetPlaysUptoCard

/-- THE SECOND FORM's CARD OF 'berthlaw01.BitsetAlgebra'. -/
def bitsetAlgebraUptoCard : Claim7 := { stood := { row := bitsetAlgebraUptoRow, standIns := [], harness := (true, "f5bb644d031aa865dee7cee78d9367368bfcda6569b13154d2dda6c3a57a5c96"), looks := false }, kinds := [], alts := [], laidByText := true, laidKinds := [.data], laidTests := true, laidLooks := .later }
def BitsetAlgebraUptoCardSaid : Prop := Claim7.holds Tryd.pinned (.plain (OpenSpec.upto bitsetAlgebraSpec)) bitsetAlgebraUptoCard

/-- THE SECOND FORM's CARD OF 'berthlaw01.BitsetWalks'. -/
def bitsetWalksUptoCard : Claim7 := { stood := { row := bitsetWalksUptoRow, standIns := [], harness := (true, "f5bb644d031aa865dee7cee78d9367368bfcda6569b13154d2dda6c3a57a5c96"), looks := false }, kinds := [], alts := [], laidByText := true, laidKinds := [.data], laidTests := true, laidLooks := .later }
def BitsetWalksUptoCardSaid : Prop := Claim7.holds Tryd.pinned (.plain (OpenSpec.upto bitsetWalksSpec)) bitsetWalksUptoCard

/-- THE SECOND FORM's CARD OF 'berthlaw01.BitsetWords'. -/
def bitsetWordsUptoCard : Claim7 := { stood := { row := bitsetWordsUptoRow, standIns := [], harness := (true, "f5bb644d031aa865dee7cee78d9367368bfcda6569b13154d2dda6c3a57a5c96"), looks := false }, kinds := [], alts := [], laidByText := true, laidKinds := [.data], laidTests := true, laidLooks := .later }
def BitsetWordsUptoCardSaid : Prop := Claim7.holds Tryd.pinned (.plain (OpenSpec.upto bitsetWordsSpec)) bitsetWordsUptoCard

/-- THE SECOND FORM's CARD OF 'berthlaw01.BitsetSnaps'. -/
def bitsetSnapsUptoCard : Claim7 := { stood := { row := bitsetSnapsUptoRow, standIns := [], harness := (true, "f5bb644d031aa865dee7cee78d9367368bfcda6569b13154d2dda6c3a57a5c96"), looks := false }, kinds := [], alts := [], laidByText := true, laidKinds := [.data], laidTests := true, laidLooks := .later }
def BitsetSnapsUptoCardSaid : Prop := Claim7.holds Tryd.pinned (.plain (OpenSpec.upto bitsetSnapsSpec)) bitsetSnapsUptoCard

/-- THE SECOND FORM's CARD OF 'berthlaw01.BitsetPlace'. -/
def bitsetPlaceUptoCard : Claim7 := { stood := { row := bitsetPlaceUptoRow, standIns := [], harness := (true, "f5bb644d031aa865dee7cee78d9367368bfcda6569b13154d2dda6c3a57a5c96"), looks := false }, kinds := [], alts := [], laidByText := true, laidKinds := [.data], laidTests := true, laidLooks := .later }
def BitsetPlaceUptoCardSaid : Prop := Claim7.holds Tryd.pinned (.plain (OpenSpec.upto bitsetPlaceSpec)) bitsetPlaceUptoCard
end Rows
end Go.Proofs.YtkagdmhijjfnnaaDoor

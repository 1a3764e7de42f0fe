/-
  DERIVED. GIVEN WITH THE SEED: THE CARDS: each row of YtkagdmhijjfnnabDoorRows.lean that lists a variable, with what it lists TIED to the program's text (the seventh form; the later family's looks); each row that meets fmt, with fmt's text TOLD by the authors' own Lean function (tested against real Go, not proved from fmt's source: count such statements apart). THE CARD IS WHAT COUNTS. Prove the row's statement (the work); the ties are given (YtkagdmhijjfnnabDoorTie.lean); close each card by the builder's one call (the guide's Derived/Test/ToyasCard.lean, 'card_holds'). Laid BY PROGRAM, IN A SANDBOX (cutbox-door.mjs). By AI agents, Wed Nov 11 2026. No macro, syntax, notation, axiom, sorry.
-/
import Derived.Test.YtkagdmhijjfnnabDoorRows
import GoSem.ClaimSeven
namespace Go.Proofs.YtkagdmhijjfnnabDoor
namespace Rows

/-- THE TIED CARD OF 'berthlaw01.BitsetNil'. -/
def bitsetNilCard : Claim7 := { stood := { row := bitsetNilRow, standIns := [], harness := (true, "1f378a158b3991494c0eb78e6579ed40f76dd8743a8747d803eb416668e419df"), looks := false }, kinds := [], alts := [], laidByText := true, laidKinds := [.data], laidTests := true, laidLooks := .later }
def BitsetNilCardSaid : Prop := Claim7.holds Tryd.pinned (.plain (OpenSpec.ofChange bitsetNilSpec)) bitsetNilCard

/-- THE TIED CARD OF 'berthlaw01.BitsetLists'. -/
def bitsetListsCard : Claim7 := { stood := { row := bitsetListsRow, standIns := [], harness := (true, "1f378a158b3991494c0eb78e6579ed40f76dd8743a8747d803eb416668e419df"), looks := false }, kinds := [], alts := [], laidByText := true, laidKinds := [.data], laidTests := true, laidLooks := .later }
def BitsetListsCardSaid : Prop := Claim7.holds Tryd.pinned (.plain (OpenSpec.ofChange bitsetListsSpec)) bitsetListsCard

/-- THE TIED CARD OF 'berthlaw01.BitsetFresh'. -/
def bitsetFreshCard : Claim7 := { stood := { row := bitsetFreshRow, standIns := [], harness := (true, "1f378a158b3991494c0eb78e6579ed40f76dd8743a8747d803eb416668e419df"), looks := false }, kinds := [], alts := [], laidByText := true, laidKinds := [.data], laidTests := true, laidLooks := .later }
def BitsetFreshCardSaid : Prop := Claim7.holds Tryd.pinned (.plain (OpenSpec.ofChange bitsetFreshSpec)) bitsetFreshCard

/-- THE SECOND FORM's CARD OF 'berthlaw01.BitsetNil'. -/
def bitsetNilUptoCard : Claim7 := { stood := { row := bitsetNilUptoRow, standIns := [], harness := (true, "1f378a158b3991494c0eb78e6579ed40f76dd8743a8747d803eb416668e419df"), looks := false }, kinds := [], alts := [], laidByText := true, laidKinds := [.data], laidTests := true, laidLooks := .later }
def BitsetNilUptoCardSaid : Prop := Claim7.holds Tryd.pinned (.plain (OpenSpec.upto bitsetNilSpec)) bitsetNilUptoCard

/-- THE SECOND FORM's CARD OF 'berthlaw01.BitsetLists'. -/
def bitsetListsUptoCard : Claim7 := { stood := { row := bitsetListsUptoRow, standIns := [], harness := (true, "1f378a158b3991494c0eb78e6579ed40f76dd8743a8747d803eb416668e419df"), looks := false }, kinds := [], alts := [], laidByText := true, laidKinds := [.data], laidTests := true, laidLooks := .later }
def BitsetListsUptoCardSaid : Prop := Claim7.holds Tryd.pinned (.plain (OpenSpec.upto bitsetListsSpec)) bitsetListsUptoCard

/-- THE SECOND FORM's CARD OF 'berthlaw01.BitsetFresh'. -/
def bitsetFreshUptoCard : Claim7 := { stood := { row := bitsetFreshUptoRow, standIns := [], harness := (true, "1f378a158b3991494c0eb78e6579ed40f76dd8743a8747d803eb416668e419df"), looks := false }, kinds := [], alts := [], laidByText := true, laidKinds := [.data], laidTests := true, laidLooks := .later }
def BitsetFreshUptoCardSaid : Prop := Claim7.holds Tryd.pinned (.plain (OpenSpec.upto bitsetFreshSpec)) bitsetFreshUptoCard
end Rows
end Go.Proofs.YtkagdmhijjfnnabDoor

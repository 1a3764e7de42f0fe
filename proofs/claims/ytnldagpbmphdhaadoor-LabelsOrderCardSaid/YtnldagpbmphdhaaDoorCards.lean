/-
  DERIVED. GIVEN WITH THE SEED: THE CARDS: each row of YtnldagpbmphdhaaDoorRows.lean that lists a variable, with what it lists TIED to the program's text (the seventh form; the later family's looks); each row that meets fmt, with fmt's text TOLD by the authors' own Lean function (tested against real Go, not proved from fmt's source: count such statements apart). THE CARD IS WHAT COUNTS. Prove the row's statement (the work); the ties are given (YtnldagpbmphdhaaDoorTie.lean); close each card by the builder's one call (the guide's Derived/Test/ToyasCard.lean, 'card_holds'). Laid BY PROGRAM, IN A SANDBOX (cutbox-door.mjs). By AI agents, Wed Nov 11 2026. No macro, syntax, notation, axiom, sorry.
-/
import Derived.Test.YtnldagpbmphdhaaDoorRows
import GoSem.ClaimSeven
namespace Go.Proofs.YtnldagpbmphdhaaDoor
namespace Rows

/-- THE TIED CARD OF 'berthlaw03.LabelsNumbers'. -/
def labelsNumbersCard : Claim7 := { stood := { row := labelsNumbersRow, standIns := [], harness := (true, "fd0ca501b9d9ab6826c59d289c01dd164f92d522844869050bb7ca98f519812a"), looks := true }, kinds := [], alts := [], laidByText := true, laidKinds := [.data, .data, .data, .sentinel, .sentinel], laidTests := true, laidLooks := .later }
def LabelsNumbersCardSaid : Prop := Claim7.holds Tryd.pinned (.plain (OpenSpec.ofChange labelsNumbersSpec)) labelsNumbersCard

/-- THE TIED CARD OF 'berthlaw03.LabelsOrder'. -/
def labelsOrderCard : Claim7 := { stood := { row := labelsOrderRow, standIns := [], harness := (true, "fd0ca501b9d9ab6826c59d289c01dd164f92d522844869050bb7ca98f519812a"), looks := true }, kinds := [], alts := [], laidByText := true, laidKinds := [.data, .pinned], laidTests := true, laidLooks := .later }
def LabelsOrderCardSaid : Prop := Claim7.holds Tryd.pinned (.plain (OpenSpec.ofChange labelsOrderSpec)) labelsOrderCard

/-- THE SECOND FORM's CARD OF 'berthlaw03.LabelsNumbers'. -/
def labelsNumbersUptoCard : Claim7 := { stood := { row := labelsNumbersUptoRow, standIns := [], harness := (true, "fd0ca501b9d9ab6826c59d289c01dd164f92d522844869050bb7ca98f519812a"), looks := true }, kinds := [], alts := [], laidByText := true, laidKinds := [.data, .data, .data, .sentinel, .sentinel], laidTests := true, laidLooks := .later }
def LabelsNumbersUptoCardSaid : Prop := Claim7.holds Tryd.pinned (.plain (OpenSpec.upto labelsNumbersSpec)) labelsNumbersUptoCard

/-- THE SECOND FORM's CARD OF 'berthlaw03.LabelsOrder'. -/
def labelsOrderUptoCard : Claim7 := { stood := { row := labelsOrderUptoRow, standIns := [], harness := (true, "fd0ca501b9d9ab6826c59d289c01dd164f92d522844869050bb7ca98f519812a"), looks := true }, kinds := [], alts := [], laidByText := true, laidKinds := [.data, .pinned], laidTests := true, laidLooks := .later }
def LabelsOrderUptoCardSaid : Prop := Claim7.holds Tryd.pinned (.plain (OpenSpec.upto labelsOrderSpec)) labelsOrderUptoCard
end Rows
end Go.Proofs.YtnldagpbmphdhaaDoor

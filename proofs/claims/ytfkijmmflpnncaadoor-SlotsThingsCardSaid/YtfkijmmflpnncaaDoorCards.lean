/-
  DERIVED. GIVEN WITH THE SEED: THE CARDS: each row of YtfkijmmflpnncaaDoorRows.lean that lists a variable, with what it lists TIED to the program's text (the seventh form; the later family's looks); each row that meets fmt, with fmt's text TOLD by the authors' own Lean function (tested against real Go, not proved from fmt's source: count such statements apart). THE CARD IS WHAT COUNTS. Prove the row's statement (the work); the ties are given (YtfkijmmflpnncaaDoorTie.lean); close each card by the builder's one call (the guide's Derived/Test/ToyasCard.lean, 'card_holds'). Laid BY PROGRAM, IN A SANDBOX (cutbox-door.mjs). By AI agents, Wed Nov 11 2026. No macro, syntax, notation, axiom, sorry.
-/
import Derived.Test.YtfkijmmflpnncaaDoorRows
import GoSem.ClaimSeven
namespace Go.Proofs.YtfkijmmflpnncaaDoor
namespace Rows

/-- THE TIED CARD OF 'berthlaw05.SlotsThings'. -/
def slotsThingsCard : Claim7 := { stood := { row := slotsThingsRow, standIns := [], harness := (true, "1acaa9b2925cc230d2f94f014a26eeeb1d2c56877914948f2c6e36c57e1247c6"), looks := false }, kinds := [], alts := [], laidByText := true, laidKinds := [.data, .data, .data], laidTests := true, laidLooks := .later }
def SlotsThingsCardSaid : Prop := Claim7.holds Tryd.pinned (.plain (OpenSpec.ofChange slotsThingsSpec)) slotsThingsCard

/-- THE SECOND FORM's CARD OF 'berthlaw05.SlotsThings'. -/
def slotsThingsUptoCard : Claim7 := { stood := { row := slotsThingsUptoRow, standIns := [], harness := (true, "1acaa9b2925cc230d2f94f014a26eeeb1d2c56877914948f2c6e36c57e1247c6"), looks := false }, kinds := [], alts := [], laidByText := true, laidKinds := [.data, .data, .data], laidTests := true, laidLooks := .later }
def SlotsThingsUptoCardSaid : Prop := Claim7.holds Tryd.pinned (.plain (OpenSpec.upto slotsThingsSpec)) slotsThingsUptoCard
end Rows
end Go.Proofs.YtfkijmmflpnncaaDoor

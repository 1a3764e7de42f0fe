/-
  DERIVED. GIVEN WITH THE SEED: THE CARDS: each row of YtbpkfnnncglegaaDoorRows.lean that lists a variable, with what it lists TIED to the program's text (the seventh form; the later family's looks); each row that meets fmt, with fmt's text TOLD by the authors' own Lean function (tested against real Go, not proved from fmt's source: count such statements apart). THE CARD IS WHAT COUNTS. Prove the row's statement (the work); the ties are given (YtbpkfnnncglegaaDoorTie.lean); close each card by the builder's one call (the guide's Derived/Test/ToyasCard.lean, 'card_holds'). Laid BY PROGRAM, IN A SANDBOX (cutbox-door.mjs). By AI agents, Wed Nov 11 2026. No macro, syntax, notation, axiom, sorry.
-/
import Derived.Test.YtbpkfnnncglegaaDoorRows
import GoSem.ClaimSeven
namespace Go.Proofs.YtbpkfnnncglegaaDoor
namespace Rows

/-- THE TIED CARD OF 'berthlaw02.QuantTexts'. -/
def quantTextsCard : Claim7 := { stood := { row := quantTextsRow, standIns := [], harness := (true, "c62a4f7a048082461bfa201110bb38652d650471b63cc3aa350fe2374631e690"), looks := false }, kinds := [], alts := [], laidByText := true, laidKinds := [.data, .data, .data, .data], laidTests := true, laidLooks := .later }
def QuantTextsCardSaid : Prop := Claim7.holds Tryd.pinned (.plain (OpenSpec.ofChange quantTextsSpec)) quantTextsCard

/-- THE SECOND FORM's CARD OF 'berthlaw02.QuantTexts'. -/
def quantTextsUptoCard : Claim7 := { stood := { row := quantTextsUptoRow, standIns := [], harness := (true, "c62a4f7a048082461bfa201110bb38652d650471b63cc3aa350fe2374631e690"), looks := false }, kinds := [], alts := [], laidByText := true, laidKinds := [.data, .data, .data, .data], laidTests := true, laidLooks := .later }
def QuantTextsUptoCardSaid : Prop := Claim7.holds Tryd.pinned (.plain (OpenSpec.upto quantTextsSpec)) quantTextsUptoCard
end Rows
end Go.Proofs.YtbpkfnnncglegaaDoor

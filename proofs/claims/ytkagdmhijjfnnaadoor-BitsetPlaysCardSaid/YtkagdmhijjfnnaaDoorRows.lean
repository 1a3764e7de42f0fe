/-
  NARROWER THAN 'FOR EVERY INPUT', by the rows' own cells (each row's printed sentence says how): BitsetPlays: laid · BitsetAlgebra: laid · BitsetWalks: laid · BitsetWords: laid · BitsetSnaps: laid · BitsetPlace: laid.
  DERIVED. THE GIVEN ROWS OF THIS SEAT. 6 by the template 'for every input the law returns true; each argument reads behind the call as it read before'; 0 by the template 'total and deterministic' (their statements: YtkagdmhijjfnnaaDoorTotals.lean).
  GIVEN WITH THE SEED: the statements are not yours to turn. If you find one false, say at which input.
  Laid BY PROGRAM, IN A SANDBOX (cutbox-rows.mjs): the forced cells as the released guide's own fill.sh prints them over the translation 041c5d1672a8a49d… (all of the seat's roots in one cut). By AI agents, Wed Nov 11 2026. No macro, syntax, notation, axiom, sorry.
-/
import Derived.Test.YtkagdmhijjfnnaaDoorChecked
import GoSem.Claim
import GoSem.ClaimJoined
import GoSem.ClaimMapViews
import Derived.JoinedTies
import Derived.KernelRfl
namespace Go.Proofs.YtkagdmhijjfnnaaDoor
/- THE CELL 'sum', in the pinned program and in every row, IS THE sha256 OF THE DUMP (.gsa) THAT YtkagdmhijjfnnaaDoorProg.lean LOADS. Nothing in Lean hashes anything: it is a label: what it is worth is what the hold of that sum in a sandbox is worth. -/
noncomputable def Tryd.pinned : Pinned := { name := "ytkagdmhijjfnnaadoor", sum := "041c5d1672a8a49d3e1df01e90bb3d0ceb435b5050741c3f3ceb65e04dc8a615", checked := Tryd.checked }
namespace Rows
def none {H : Type} : Left H := { results := [], args := [] }

/- WHAT THE LISTED PACKAGE-LEVEL VARIABLES READ AS WHEN THE CALL BEGINS. Each datum BY PROGRAM (the guide's laid-datum.mjs) off the statement by which the dump's own 'gosem.cut.vars' lays the variable. In a bare row this is a premise. The card (YtkagdmhijjfnnaaDoorCards.lean) ties it to the program's text. -/
def laid_math_bits_deBruijn64tab {H : Type} : DataW H := .agg [.lit (.int .u8 0), .lit (.int .u8 1), .lit (.int .u8 56), .lit (.int .u8 2), .lit (.int .u8 57), .lit (.int .u8 49), .lit (.int .u8 28), .lit (.int .u8 3), .lit (.int .u8 61), .lit (.int .u8 58), .lit (.int .u8 42), .lit (.int .u8 50), .lit (.int .u8 38), .lit (.int .u8 29), .lit (.int .u8 17), .lit (.int .u8 4), .lit (.int .u8 62), .lit (.int .u8 47), .lit (.int .u8 59), .lit (.int .u8 36), .lit (.int .u8 45), .lit (.int .u8 43), .lit (.int .u8 51), .lit (.int .u8 22), .lit (.int .u8 53), .lit (.int .u8 39), .lit (.int .u8 33), .lit (.int .u8 30), .lit (.int .u8 24), .lit (.int .u8 18), .lit (.int .u8 12), .lit (.int .u8 5), .lit (.int .u8 63), .lit (.int .u8 55), .lit (.int .u8 48), .lit (.int .u8 27), .lit (.int .u8 60), .lit (.int .u8 41), .lit (.int .u8 37), .lit (.int .u8 16), .lit (.int .u8 46), .lit (.int .u8 35), .lit (.int .u8 44), .lit (.int .u8 21), .lit (.int .u8 52), .lit (.int .u8 32), .lit (.int .u8 23), .lit (.int .u8 11), .lit (.int .u8 54), .lit (.int .u8 26), .lit (.int .u8 40), .lit (.int .u8 15), .lit (.int .u8 34), .lit (.int .u8 20), .lit (.int .u8 31), .lit (.int .u8 10), .lit (.int .u8 25), .lit (.int .u8 14), .lit (.int .u8 19), .lit (.int .u8 9), .lit (.int .u8 13), .lit (.int .u8 8), .lit (.int .u8 7), .lit (.int .u8 6)]

/-- 'berthlaw01.BitsetPlays': WHATEVER THE INPUT: true; the input reads as it did. -/
def bitsetPlaysSpec : ChangeSpec := { name := "bitsetPlays", fn := fun _ => fun
  | [d] => { results := [.lit (.bool true)], args := [d] }
  | _ => none }
def bitsetPlaysRow : OpenClaim := { program := "ytkagdmhijjfnnaadoor", sum := "041c5d1672a8a49d3e1df01e90bb3d0ceb435b5050741c3f3ceb65e04dc8a615", func := "berth/berthlaw01.BitsetPlays", spec := "bitsetPlays", unfollowed := true, recurses := true, named := ["math/bits.deBruijn64tab"], apart := false, laid := [("math/bits.deBruijn64tab", laid_math_bits_deBruijn64tab)] }
def BitsetPlaysSaid : Prop := bitsetPlaysRow.holds Tryd.pinned (OpenSpec.ofChange bitsetPlaysSpec)

/-- ITS FALSE NEIGHBOUR: 'it returns false'. Refute it at one input. -/
def bitsetPlaysWrong : ChangeSpec := { name := "bitsetPlays", fn := fun _ => fun
  | [d] => { results := [.lit (.bool false)], args := [d] }
  | _ => none }
def BitsetPlaysWrongFalsely : Prop := bitsetPlaysRow.holds Tryd.pinned (OpenSpec.ofChange bitsetPlaysWrong)

/-- 'berthlaw01.BitsetAlgebra': WHATEVER THE INPUT: true; the input reads as it did. -/
def bitsetAlgebraSpec : ChangeSpec := { name := "bitsetAlgebra", fn := fun _ => fun
  | [d] => { results := [.lit (.bool true)], args := [d] }
  | _ => none }
def bitsetAlgebraRow : OpenClaim := { program := "ytkagdmhijjfnnaadoor", sum := "041c5d1672a8a49d3e1df01e90bb3d0ceb435b5050741c3f3ceb65e04dc8a615", func := "berth/berthlaw01.BitsetAlgebra", spec := "bitsetAlgebra", named := ["math/bits.deBruijn64tab"], apart := false, laid := [("math/bits.deBruijn64tab", laid_math_bits_deBruijn64tab)] }
def BitsetAlgebraSaid : Prop := bitsetAlgebraRow.holds Tryd.pinned (OpenSpec.ofChange bitsetAlgebraSpec)

/-- ITS FALSE NEIGHBOUR: 'it returns false'. Refute it at one input. -/
def bitsetAlgebraWrong : ChangeSpec := { name := "bitsetAlgebra", fn := fun _ => fun
  | [d] => { results := [.lit (.bool false)], args := [d] }
  | _ => none }
def BitsetAlgebraWrongFalsely : Prop := bitsetAlgebraRow.holds Tryd.pinned (OpenSpec.ofChange bitsetAlgebraWrong)

/-- 'berthlaw01.BitsetWalks': WHATEVER THE INPUT: true; the input reads as it did. -/
def bitsetWalksSpec : ChangeSpec := { name := "bitsetWalks", fn := fun _ => fun
  | [d] => { results := [.lit (.bool true)], args := [d] }
  | _ => none }
def bitsetWalksRow : OpenClaim := { program := "ytkagdmhijjfnnaadoor", sum := "041c5d1672a8a49d3e1df01e90bb3d0ceb435b5050741c3f3ceb65e04dc8a615", func := "berth/berthlaw01.BitsetWalks", spec := "bitsetWalks", named := ["math/bits.deBruijn64tab"], apart := false, laid := [("math/bits.deBruijn64tab", laid_math_bits_deBruijn64tab)] }
def BitsetWalksSaid : Prop := bitsetWalksRow.holds Tryd.pinned (OpenSpec.ofChange bitsetWalksSpec)

/-- ITS FALSE NEIGHBOUR: 'it returns false'. Refute it at one input. -/
def bitsetWalksWrong : ChangeSpec := { name := "bitsetWalks", fn := fun _ => fun
  | [d] => { results := [.lit (.bool false)], args := [d] }
  | _ => none }
def BitsetWalksWrongFalsely : Prop := bitsetWalksRow.holds Tryd.pinned (OpenSpec.ofChange bitsetWalksWrong)

/-- 'berthlaw01.BitsetWords': WHATEVER THE INPUT: true; the input reads as it did. -/
def bitsetWordsSpec : ChangeSpec := { name := "bitsetWords", fn := fun _ => fun
  | [d] => { results := [.lit (.bool true)], args := [d] }
  | _ => none }
def bitsetWordsRow : OpenClaim := { program := "ytkagdmhijjfnnaadoor", sum := "041c5d1672a8a49d3e1df01e90bb3d0ceb435b5050741c3f3ceb65e04dc8a615", func := "berth/berthlaw01.BitsetWords", spec := "bitsetWords", named := ["math/bits.deBruijn64tab"], apart := false, laid := [("math/bits.deBruijn64tab", laid_math_bits_deBruijn64tab)] }
def BitsetWordsSaid : Prop := bitsetWordsRow.holds Tryd.pinned (OpenSpec.ofChange bitsetWordsSpec)

/-- ITS FALSE NEIGHBOUR: 'it returns false'. Refute it at one input. -/
def bitsetWordsWrong : ChangeSpec := { name := "bitsetWords", fn := fun _ => fun
  | [d] => { results := [.lit (.bool false)], args := [d] }
  | _ => none }
def BitsetWordsWrongFalsely : Prop := bitsetWordsRow.holds Tryd.pinned (OpenSpec.ofChange bitsetWordsWrong)

/-- 'berthlaw01.BitsetSnaps': WHATEVER THE INPUT: true; the input reads as it did. -/
def bitsetSnapsSpec : ChangeSpec := { name := "bitsetSnaps", fn := fun _ => fun
  | [d] => { results := [.lit (.bool true)], args := [d] }
  | _ => none }
def bitsetSnapsRow : OpenClaim := { program := "ytkagdmhijjfnnaadoor", sum := "041c5d1672a8a49d3e1df01e90bb3d0ceb435b5050741c3f3ceb65e04dc8a615", func := "berth/berthlaw01.BitsetSnaps", spec := "bitsetSnaps", unfollowed := true, recurses := true, named := ["math/bits.deBruijn64tab"], apart := false, laid := [("math/bits.deBruijn64tab", laid_math_bits_deBruijn64tab)] }
def BitsetSnapsSaid : Prop := bitsetSnapsRow.holds Tryd.pinned (OpenSpec.ofChange bitsetSnapsSpec)

/-- ITS FALSE NEIGHBOUR: 'it returns false'. Refute it at one input. -/
def bitsetSnapsWrong : ChangeSpec := { name := "bitsetSnaps", fn := fun _ => fun
  | [d] => { results := [.lit (.bool false)], args := [d] }
  | _ => none }
def BitsetSnapsWrongFalsely : Prop := bitsetSnapsRow.holds Tryd.pinned (OpenSpec.ofChange bitsetSnapsWrong)

/-- 'berthlaw01.BitsetPlace': WHATEVER THE INPUT: true; the input reads as it did. -/
def bitsetPlaceSpec : ChangeSpec := { name := "bitsetPlace", fn := fun _ => fun
  | [d] => { results := [.lit (.bool true)], args := [d] }
  | _ => none }
def bitsetPlaceRow : OpenClaim := { program := "ytkagdmhijjfnnaadoor", sum := "041c5d1672a8a49d3e1df01e90bb3d0ceb435b5050741c3f3ceb65e04dc8a615", func := "berth/berthlaw01.BitsetPlace", spec := "bitsetPlace", named := ["math/bits.deBruijn64tab"], apart := false, laid := [("math/bits.deBruijn64tab", laid_math_bits_deBruijn64tab)] }
def BitsetPlaceSaid : Prop := bitsetPlaceRow.holds Tryd.pinned (OpenSpec.ofChange bitsetPlaceSpec)

/-- ITS FALSE NEIGHBOUR: 'it returns false'. Refute it at one input. -/
def bitsetPlaceWrong : ChangeSpec := { name := "bitsetPlace", fn := fun _ => fun
  | [d] => { results := [.lit (.bool false)], args := [d] }
  | _ => none }
def BitsetPlaceWrongFalsely : Prop := bitsetPlaceRow.holds Tryd.pinned (OpenSpec.ofChange bitsetPlaceWrong)

/- THE SECOND FORM. 'bulk': how many values and letters a reading holds, each counted each time it is reached (what is shared counts as often as it is met; a slice's spare places count too). A statement '..UptoSaid' is the law's where the arguments, and the package variables that the reading takes, are together of bulk at most 1048576: NARROWER than '..Said'. Prove '..Said' where nothing that the law and all that it calls make is longer than what came in: it says more and counts as full. Else prove '..UptoSaid'. A law counts once. -/
mutual
def uptoBulk {H : Type} : DataW H → Nat
  | .lit (.string bytes) => bytes.length + 1
  | .lit _ => 1
  | .nil => 1
  | .ptr d => uptoBulk d + 1
  | .slice elems spare => uptoBulkAll elems + uptoBulkAll spare + 1
  | .agg parts => uptoBulkAll parts + 1
  | .iface _ d => uptoBulk d + 1
  | .map entries => uptoBulkEntries entries + 1
  | .held _ => 1
def uptoBulkAll {H : Type} : List (DataW H) → Nat
  | [] => 0
  | d :: r => uptoBulk d + uptoBulkAll r
def uptoBulkEntries {H : Type} : List (Lit × DataW H) → Nat
  | [] => 0
  | x :: r => uptoBulkEntry x + uptoBulkEntries r
def uptoBulkEntry {H : Type} : Lit × DataW H → Nat
  | (.string bytes, d) => bytes.length + uptoBulk d + 1
  | (_, d) => uptoBulk d + 1
 end
def uptoSmall : (H : Type) → List (DataW H) → Bool := fun _ ds => decide (uptoBulkAll ds ≤ 1048576)
def OpenSpec.upto (s : _root_.Go.ChangeSpec) : _root_.Go.OpenSpec := { _root_.Go.OpenSpec.ofChange s with cond := some uptoSmall }

/-- 'berthlaw01.BitsetPlays', WHERE WHAT IT READS IS OF BULK AT MOST 1048576: true; the input reads as it did. -/
def bitsetPlaysUptoRow : OpenClaim := { program := "ytkagdmhijjfnnaadoor", sum := "041c5d1672a8a49d3e1df01e90bb3d0ceb435b5050741c3f3ceb65e04dc8a615", func := "berth/berthlaw01.BitsetPlays", spec := "bitsetPlays", unfollowed := true, recurses := true, named := ["math/bits.deBruijn64tab"], apart := false, laid := [("math/bits.deBruijn64tab", laid_math_bits_deBruijn64tab)], narrowed := true }
def BitsetPlaysUptoSaid : Prop := bitsetPlaysUptoRow.holds Tryd.pinned (OpenSpec.upto bitsetPlaysSpec)

/-- 'berthlaw01.BitsetAlgebra', WHERE WHAT IT READS IS OF BULK AT MOST 1048576: true; the input reads as it did. -/
def bitsetAlgebraUptoRow : OpenClaim := { program := "ytkagdmhijjfnnaadoor", sum := "041c5d1672a8a49d3e1df01e90bb3d0ceb435b5050741c3f3ceb65e04dc8a615", func := "berth/berthlaw01.BitsetAlgebra", spec := "bitsetAlgebra", named := ["math/bits.deBruijn64tab"], apart := false, laid := [("math/bits.deBruijn64tab", laid_math_bits_deBruijn64tab)], narrowed := true }
def BitsetAlgebraUptoSaid : Prop := bitsetAlgebraUptoRow.holds Tryd.pinned (OpenSpec.upto bitsetAlgebraSpec)

/-- 'berthlaw01.BitsetWalks', WHERE WHAT IT READS IS OF BULK AT MOST 1048576: true; the input reads as it did. -/
def bitsetWalksUptoRow : OpenClaim := { program := "ytkagdmhijjfnnaadoor", sum := "041c5d1672a8a49d3e1df01e90bb3d0ceb435b5050741c3f3ceb65e04dc8a615", func := "berth/berthlaw01.BitsetWalks", spec := "bitsetWalks", named := ["math/bits.deBruijn64tab"], apart := false, laid := [("math/bits.deBruijn64tab", laid_math_bits_deBruijn64tab)], narrowed := true }
def BitsetWalksUptoSaid : Prop := bitsetWalksUptoRow.holds Tryd.pinned (OpenSpec.upto bitsetWalksSpec)

/-- 'berthlaw01.BitsetWords', WHERE WHAT IT READS IS OF BULK AT MOST 1048576: true; the input reads as it did. -/
def bitsetWordsUptoRow : OpenClaim := { program := "ytkagdmhijjfnnaadoor", sum := "041c5d1672a8a49d3e1df01e90bb3d0ceb435b5050741c3f3ceb65e04dc8a615", func := "berth/berthlaw01.BitsetWords", spec := "bitsetWords", named := ["math/bits.deBruijn64tab"], apart := false, laid := [("math/bits.deBruijn64tab", laid_math_bits_deBruijn64tab)], narrowed := true }
def BitsetWordsUptoSaid : Prop := bitsetWordsUptoRow.holds Tryd.pinned (OpenSpec.upto bitsetWordsSpec)

/-- 'berthlaw01.BitsetSnaps', WHERE WHAT IT READS IS OF BULK AT MOST 1048576: true; the input reads as it did. -/
def bitsetSnapsUptoRow : OpenClaim := { program := "ytkagdmhijjfnnaadoor", sum := "041c5d1672a8a49d3e1df01e90bb3d0ceb435b5050741c3f3ceb65e04dc8a615", func := "berth/berthlaw01.BitsetSnaps", spec := "bitsetSnaps", unfollowed := true, recurses := true, named := ["math/bits.deBruijn64tab"], apart := false, laid := [("math/bits.deBruijn64tab", laid_math_bits_deBruijn64tab)], narrowed := true }
def BitsetSnapsUptoSaid : Prop := bitsetSnapsUptoRow.holds Tryd.pinned (OpenSpec.upto bitsetSnapsSpec)

/-- 'berthlaw01.BitsetPlace', WHERE WHAT IT READS IS OF BULK AT MOST 1048576: true; the input reads as it did. -/
def bitsetPlaceUptoRow : OpenClaim := { program := "ytkagdmhijjfnnaadoor", sum := "041c5d1672a8a49d3e1df01e90bb3d0ceb435b5050741c3f3ceb65e04dc8a615", func := "berth/berthlaw01.BitsetPlace", spec := "bitsetPlace", named := ["math/bits.deBruijn64tab"], apart := false, laid := [("math/bits.deBruijn64tab", laid_math_bits_deBruijn64tab)], narrowed := true }
def BitsetPlaceUptoSaid : Prop := bitsetPlaceUptoRow.holds Tryd.pinned (OpenSpec.upto bitsetPlaceSpec)

end Rows
end Go.Proofs.YtkagdmhijjfnnaaDoor

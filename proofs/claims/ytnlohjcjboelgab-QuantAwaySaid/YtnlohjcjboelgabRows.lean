/-
  No cell of these rows narrows 'for every input' (looked for: loops, veiled, ifaces, maps, wideKeys, modest, calm, conditions, laid).
  DERIVED. THE GIVEN ROWS OF THIS SEAT. 3 by the template 'for every input the law returns true; each argument reads behind the call as it read before'; 0 by the template 'total and deterministic' (their statements: YtnlohjcjboelgabTotals.lean).
  GIVEN WITH THE SEED: the statements are not yours to turn. If you find one false, say at which input.
  Laid BY PROGRAM, IN A SANDBOX (cutbox-rows.mjs): the forced cells as the released guide's own fill.sh prints them over the translation 05fceb3142d3894d… (all of the seat's roots in one cut). By AI agents, Wed Nov 11 2026. No macro, syntax, notation, axiom, sorry.
-/
import Derived.Test.YtnlohjcjboelgabChecked
import GoSem.Claim
import GoSem.ClaimJoined
import GoSem.ClaimMapViews
import Derived.JoinedTies
import Derived.KernelRfl
namespace Go.Proofs.Ytnlohjcjboelgab
/- THE CELL 'sum', in the pinned program and in every row, IS THE sha256 OF THE DUMP (.gsa) THAT YtnlohjcjboelgabProg.lean LOADS. Nothing in Lean hashes anything: it is a label: what it is worth is what the hold of that sum in a sandbox is worth. -/
noncomputable def Try.pinned : Pinned := { name := "ytnlohjcjboelgab", sum := "05fceb3142d3894d51a17b9bcb894e7e72ab6b3788263900776a1c0af1618fc0", checked := Try.checked }
namespace Rows
def none {H : Type} : Left H := { results := [], args := [] }

/-- 'berthlaw02.QuantAway': WHATEVER THE INPUT: true; the input reads as it did. -/
def quantAwaySpec : ChangeSpec := { name := "quantAway", fn := fun _ => fun
  | [d1, d2] => { results := [.lit (.bool true)], args := [d1, d2] }
  | _ => none }
def quantAwayRow : OpenClaim := { program := "ytnlohjcjboelgab", sum := "05fceb3142d3894d51a17b9bcb894e7e72ab6b3788263900776a1c0af1618fc0", func := "berth/berthlaw02.QuantAway", spec := "quantAway", apart := false }
def QuantAwaySaid : Prop := quantAwayRow.holds Try.pinned (OpenSpec.ofChange quantAwaySpec)

/-- ITS FALSE NEIGHBOUR: 'it returns false'. Refute it at one input. -/
def quantAwayWrong : ChangeSpec := { name := "quantAway", fn := fun _ => fun
  | [d1, d2] => { results := [.lit (.bool false)], args := [d1, d2] }
  | _ => none }
def QuantAwayWrongFalsely : Prop := quantAwayRow.holds Try.pinned (OpenSpec.ofChange quantAwayWrong)

/-- 'berthlaw02.QuantRoom': WHATEVER THE INPUT: true; the input reads as it did. -/
def quantRoomSpec : ChangeSpec := { name := "quantRoom", fn := fun _ => fun
  | [d1, d2, d3] => { results := [.lit (.bool true)], args := [d1, d2, d3] }
  | _ => none }
def quantRoomRow : OpenClaim := { program := "ytnlohjcjboelgab", sum := "05fceb3142d3894d51a17b9bcb894e7e72ab6b3788263900776a1c0af1618fc0", func := "berth/berthlaw02.QuantRoom", spec := "quantRoom", apart := false }
def QuantRoomSaid : Prop := quantRoomRow.holds Try.pinned (OpenSpec.ofChange quantRoomSpec)

/-- ITS FALSE NEIGHBOUR: 'it returns false'. Refute it at one input. -/
def quantRoomWrong : ChangeSpec := { name := "quantRoom", fn := fun _ => fun
  | [d1, d2, d3] => { results := [.lit (.bool false)], args := [d1, d2, d3] }
  | _ => none }
def QuantRoomWrongFalsely : Prop := quantRoomRow.holds Try.pinned (OpenSpec.ofChange quantRoomWrong)

/-- 'berthlaw02.QuantShareBounds': WHATEVER THE INPUT: true; the input reads as it did. -/
def quantShareBoundsSpec : ChangeSpec := { name := "quantShareBounds", fn := fun _ => fun
  | [d1, d2, d3] => { results := [.lit (.bool true)], args := [d1, d2, d3] }
  | _ => none }
def quantShareBoundsRow : OpenClaim := { program := "ytnlohjcjboelgab", sum := "05fceb3142d3894d51a17b9bcb894e7e72ab6b3788263900776a1c0af1618fc0", func := "berth/berthlaw02.QuantShareBounds", spec := "quantShareBounds", named := ["math/bits.divideError", "math/bits.overflowError"], apart := false }
def QuantShareBoundsSaid : Prop := quantShareBoundsRow.holds Try.pinned (OpenSpec.ofChange quantShareBoundsSpec)

/-- ITS FALSE NEIGHBOUR: 'it returns false'. Refute it at one input. -/
def quantShareBoundsWrong : ChangeSpec := { name := "quantShareBounds", fn := fun _ => fun
  | [d1, d2, d3] => { results := [.lit (.bool false)], args := [d1, d2, d3] }
  | _ => none }
def QuantShareBoundsWrongFalsely : Prop := quantShareBoundsRow.holds Try.pinned (OpenSpec.ofChange quantShareBoundsWrong)

/- THE SECOND FORM. 'bulk': how many values and letters a reading holds, each counted each time it is reached (what is shared counts as often as it is met; a slice's spare places count too). A statement '..UptoSaid' is the law's where the arguments, and the package variables that the reading takes, are together of bulk at most 1048576: NARROWER than '..Said'. Prove '..Said' where nothing that the law and all that it calls make is longer than what came in: it says more and counts as full. Else prove '..UptoSaid'. A law counts once. -/
mutual
def uptoBulk {H : Type} : DataW H → Nat
  | .lit (.string bytes) => bytes.length + 1
  | .lit _ => 1
  | .nil => 1
  | .ptr d => uptoBulk d + 1
  | .slice elems spare => uptoBulkAll elems + uptoBulkAll spare + 1
  | .agg parts => uptoBulkAll parts + 1
  | .iface _ d => uptoBulk d + 1
  | .map entries => uptoBulkEntries entries + 1
  | .held _ => 1
def uptoBulkAll {H : Type} : List (DataW H) → Nat
  | [] => 0
  | d :: r => uptoBulk d + uptoBulkAll r
def uptoBulkEntries {H : Type} : List (Lit × DataW H) → Nat
  | [] => 0
  | x :: r => uptoBulkEntry x + uptoBulkEntries r
def uptoBulkEntry {H : Type} : Lit × DataW H → Nat
  | (.string bytes, d) => bytes.length + uptoBulk d + 1
  | (_, d) => uptoBulk d + 1
 end
def uptoSmall : (H : Type) → List (DataW H) → Bool := fun _ ds => decide (uptoBulkAll ds ≤ 1048576)
def OpenSpec.upto (s : _root_.Go.ChangeSpec) : _root_.Go.OpenSpec := { _root_.Go.OpenSpec.ofChange s with cond := some uptoSmall }

/-- 'berthlaw02.QuantAway', WHERE WHAT IT READS IS OF BULK AT MOST 1048576: true; the input reads as it did. -/
def quantAwayUptoRow : OpenClaim := { program := "ytnlohjcjboelgab", sum := "05fceb3142d3894d51a17b9bcb894e7e72ab6b3788263900776a1c0af1618fc0", func := "berth/berthlaw02.QuantAway", spec := "quantAway", apart := false, narrowed := true }
def QuantAwayUptoSaid : Prop := quantAwayUptoRow.holds Try.pinned (OpenSpec.upto quantAwaySpec)

/-- 'berthlaw02.QuantRoom', WHERE WHAT IT READS IS OF BULK AT MOST 1048576: true; the input reads as it did. -/
def quantRoomUptoRow : OpenClaim := { program := "ytnlohjcjboelgab", sum := "05fceb3142d3894d51a17b9bcb894e7e72ab6b3788263900776a1c0af1618fc0", func := "berth/berthlaw02.QuantRoom", spec := "quantRoom", apart := false, narrowed := true }
def QuantRoomUptoSaid : Prop := quantRoomUptoRow.holds Try.pinned (OpenSpec.upto quantRoomSpec)

/-- 'berthlaw02.QuantShareBounds', WHERE WHAT IT READS IS OF BULK AT MOST 1048576: true; the input reads as it did. -/
def quantShareBoundsUptoRow : OpenClaim := { program := "ytnlohjcjboelgab", sum := "05fceb3142d3894d51a17b9bcb894e7e72ab6b3788263900776a1c0af1618fc0", func := "berth/berthlaw02.QuantShareBounds", spec := "quantShareBounds", named := ["math/bits.divideError", "math/bits.overflowError"], apart := false, narrowed := true }
def QuantShareBoundsUptoSaid : Prop := quantShareBoundsUptoRow.holds Try.pinned (OpenSpec.upto quantShareBoundsSpec)

end Rows
end Go.Proofs.Ytnlohjcjboelgab

/-
  No cell of these rows narrows 'for every input' (looked for: loops, veiled, ifaces, maps, wideKeys, modest, calm, conditions, laid).
  DERIVED. THE GIVEN ROWS OF THIS SEAT. 2 by the template 'for every input the law returns true; each argument reads behind the call as it read before'; 0 by the template 'total and deterministic' (their statements: YtnlohjcjboelgaaTotals.lean).
  GIVEN WITH THE SEED: the statements are not yours to turn. If you find one false, say at which input.
  Laid BY PROGRAM, IN A SANDBOX (cutbox-rows.mjs): the forced cells as the released guide's own fill.sh prints them over the translation d9de6a2764eaafdf… (all of the seat's roots in one cut). By AI agents, Wed Nov 11 2026. No macro, syntax, notation, axiom, sorry.
-/
import Derived.Test.YtnlohjcjboelgaaChecked
import GoSem.Claim
import GoSem.ClaimJoined
import GoSem.ClaimMapViews
import Derived.JoinedTies
import Derived.KernelRfl
namespace Go.Proofs.Ytnlohjcjboelgaa
/- THE CELL 'sum', in the pinned program and in every row, IS THE sha256 OF THE DUMP (.gsa) THAT YtnlohjcjboelgaaProg.lean LOADS. Nothing in Lean hashes anything: it is a label: what it is worth is what the hold of that sum in a sandbox is worth. -/
noncomputable def Try.pinned : Pinned := { name := "ytnlohjcjboelgaa", sum := "d9de6a2764eaafdfd0196e31c29e9d94125622b92ba3923512d5e52f26e1e9bf", checked := Try.checked }
namespace Rows
def none {H : Type} : Left H := { results := [], args := [] }

/-- 'berthlaw02.QuantSums': WHATEVER THE INPUT: true; the input reads as it did. -/
def quantSumsSpec : ChangeSpec := { name := "quantSums", fn := fun _ => fun
  | [d] => { results := [.lit (.bool true)], args := [d] }
  | _ => none }
def quantSumsRow : OpenClaim := { program := "ytnlohjcjboelgaa", sum := "d9de6a2764eaafdfd0196e31c29e9d94125622b92ba3923512d5e52f26e1e9bf", func := "berth/berthlaw02.QuantSums", spec := "quantSums", apart := false }
def QuantSumsSaid : Prop := quantSumsRow.holds Try.pinned (OpenSpec.ofChange quantSumsSpec)

/-- ITS FALSE NEIGHBOUR: 'it returns false'. Refute it at one input. -/
def quantSumsWrong : ChangeSpec := { name := "quantSums", fn := fun _ => fun
  | [d] => { results := [.lit (.bool false)], args := [d] }
  | _ => none }
def QuantSumsWrongFalsely : Prop := quantSumsRow.holds Try.pinned (OpenSpec.ofChange quantSumsWrong)

/-- 'berthlaw02.QuantShares': WHATEVER THE INPUT: true; the input reads as it did. -/
def quantSharesSpec : ChangeSpec := { name := "quantShares", fn := fun _ => fun
  | [d] => { results := [.lit (.bool true)], args := [d] }
  | _ => none }
def quantSharesRow : OpenClaim := { program := "ytnlohjcjboelgaa", sum := "d9de6a2764eaafdfd0196e31c29e9d94125622b92ba3923512d5e52f26e1e9bf", func := "berth/berthlaw02.QuantShares", spec := "quantShares", named := ["math/bits.divideError", "math/bits.overflowError"], apart := false }
def QuantSharesSaid : Prop := quantSharesRow.holds Try.pinned (OpenSpec.ofChange quantSharesSpec)

/-- ITS FALSE NEIGHBOUR: 'it returns false'. Refute it at one input. -/
def quantSharesWrong : ChangeSpec := { name := "quantShares", fn := fun _ => fun
  | [d] => { results := [.lit (.bool false)], args := [d] }
  | _ => none }
def QuantSharesWrongFalsely : Prop := quantSharesRow.holds Try.pinned (OpenSpec.ofChange quantSharesWrong)

/- THE SECOND FORM. 'bulk': how many values and letters a reading holds, each counted each time it is reached (what is shared counts as often as it is met; a slice's spare places count too). A statement '..UptoSaid' is the law's where the arguments, and the package variables that the reading takes, are together of bulk at most 1048576: NARROWER than '..Said'. Prove '..Said' where nothing that the law and all that it calls make is longer than what came in: it says more and counts as full. Else prove '..UptoSaid'. A law counts once. -/
mutual
def uptoBulk {H : Type} : DataW H → Nat
  | .lit (.string bytes) => bytes.length + 1
  | .lit _ => 1
  | .nil => 1
  | .ptr d => uptoBulk d + 1
  | .slice elems spare => uptoBulkAll elems + uptoBulkAll spare + 1
  | .agg parts => uptoBulkAll parts + 1
  | .iface _ d => uptoBulk d + 1
  | .map entries => uptoBulkEntries entries + 1
  | .held _ => 1
def uptoBulkAll {H : Type} : List (DataW H) → Nat
  | [] => 0
  | d :: r => uptoBulk d + uptoBulkAll r
def uptoBulkEntries {H : Type} : List (Lit × DataW H) → Nat
  | [] => 0
  | x :: r => uptoBulkEntry x + uptoBulkEntries r
def uptoBulkEntry {H : Type} : Lit × DataW H → Nat
  | (.string bytes, d) => bytes.length + uptoBulk d + 1
  | (_, d) => uptoBulk d + 1
 end
def uptoSmall : (H : Type) → List (DataW H) → Bool := fun _ ds => decide (uptoBulkAll ds ≤ 1048576)
def OpenSpec.upto (s : _root_.Go.ChangeSpec) : _root_.Go.OpenSpec := { _root_.Go.OpenSpec.ofChange s with cond := some uptoSmall }

/-- 'berthlaw02.QuantSums', WHERE WHAT IT READS IS OF BULK AT MOST 1048576: true; the input reads as it did. -/
def quantSumsUptoRow : OpenClaim := { program := "ytnlohjcjboelgaa", sum := "d9de6a2764eaafdfd0196e31c29e9d94125622b92ba3923512d5e52f26e1e9bf", func := "berth/berthlaw02.QuantSums", spec := "quantSums", apart := false, narrowed := true }
def QuantSumsUptoSaid : Prop := quantSumsUptoRow.holds Try.pinned (OpenSpec.upto quantSumsSpec)

/-- 'berthlaw02.QuantShares', WHERE WHAT IT READS IS OF BULK AT MOST 1048576: true; the input reads as it did. -/
def quantSharesUptoRow : OpenClaim := { program := "ytnlohjcjboelgaa", sum := "d9de6a2764eaafdfd0196e31c29e9d94125622b92ba3923512d5e52f26e1e9bf", func := "berth/berthlaw02.QuantShares", spec := "quantShares", named := ["math/bits.divideError", "math/bits.overflowError"], apart := false, narrowed := true }
def QuantSharesUptoSaid : Prop := quantSharesUptoRow.holds Try.pinned (OpenSpec.upto quantSharesSpec)

end Rows
end Go.Proofs.Ytnlohjcjboelgaa

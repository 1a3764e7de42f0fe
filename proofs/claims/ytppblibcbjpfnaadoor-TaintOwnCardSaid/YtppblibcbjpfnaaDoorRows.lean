/-
  NARROWER THAN 'FOR EVERY INPUT', by the rows' own cells (each row's printed sentence says how): TaintTexts: laid · TaintLists: laid · TaintLeft: laid · TaintOwn: laid.
  DERIVED. THE GIVEN ROWS OF THIS SEAT. 4 by the template 'for every input the law returns true; each argument reads behind the call as it read before'; 0 by the template 'total and deterministic' (their statements: YtppblibcbjpfnaaDoorTotals.lean).
  GIVEN WITH THE SEED: the statements are not yours to turn. If you find one false, say at which input.
  Laid BY PROGRAM, IN A SANDBOX (cutbox-rows.mjs): the forced cells as the released guide's own fill.sh prints them over the translation cd99f0d19ae0f2d6… (all of the seat's roots in one cut). By AI agents, Wed Nov 11 2026. No macro, syntax, notation, axiom, sorry.
-/
import Derived.Test.YtppblibcbjpfnaaDoorChecked
import GoSem.PinnedTables
import GoSem.Claim
import GoSem.ClaimJoined
import GoSem.ClaimMapViews
import Derived.JoinedTies
import Derived.KernelRfl
namespace Go.Proofs.YtppblibcbjpfnaaDoor
/- THE CELL 'sum', in the pinned program and in every row, IS THE sha256 OF THE DUMP (.gsa) THAT YtppblibcbjpfnaaDoorProg.lean LOADS. Nothing in Lean hashes anything: it is a label: what it is worth is what the hold of that sum in a sandbox is worth. -/
noncomputable def Tryd.pinned : Pinned := { name := "ytppblibcbjpfnaadoor", sum := "cd99f0d19ae0f2d67eacfb7606ef66b4a72a3b21c751948b3739669bb730b81e", checked := Tryd.checked }
namespace Rows
def none {H : Type} : Left H := { results := [], args := [] }

/- WHAT THE LISTED PACKAGE-LEVEL VARIABLES READ AS WHEN THE CALL BEGINS. Each datum BY PROGRAM (the guide's laid-datum.mjs) off the statement by which the dump's own 'gosem.cut.vars' lays the variable. In a bare row this is a premise. The card (YtppblibcbjpfnaaDoorCards.lean) ties it to the program's text. -/
def laid_unicode_utf8_acceptRanges {H : Type} : DataW H := .agg [.agg [.lit (.int .u8 128), .lit (.int .u8 191)], .agg [.lit (.int .u8 160), .lit (.int .u8 191)], .agg [.lit (.int .u8 128), .lit (.int .u8 159)], .agg [.lit (.int .u8 144), .lit (.int .u8 191)], .agg [.lit (.int .u8 128), .lit (.int .u8 143)], .agg [.lit (.int .u8 0), .lit (.int .u8 0)], .agg [.lit (.int .u8 0), .lit (.int .u8 0)], .agg [.lit (.int .u8 0), .lit (.int .u8 0)], .agg [.lit (.int .u8 0), .lit (.int .u8 0)], .agg [.lit (.int .u8 0), .lit (.int .u8 0)], .agg [.lit (.int .u8 0), .lit (.int .u8 0)], .agg [.lit (.int .u8 0), .lit (.int .u8 0)], .agg [.lit (.int .u8 0), .lit (.int .u8 0)], .agg [.lit (.int .u8 0), .lit (.int .u8 0)], .agg [.lit (.int .u8 0), .lit (.int .u8 0)], .agg [.lit (.int .u8 0), .lit (.int .u8 0)]]
/-- One of Go's own tables, pinned by name: the form's constant. -/
def laid_unicode_utf8_first : DataW Unit := Go.Pinned.utf8First

/-- 'berthlaw04.TaintTexts': WHATEVER THE INPUT: true; the input reads as it did. -/
def taintTextsSpec : ChangeSpec := { name := "taintTexts", fn := fun _ => fun
  | [d] => { results := [.lit (.bool true)], args := [d] }
  | _ => none }
def taintTextsRow : OpenClaim := { program := "ytppblibcbjpfnaadoor", sum := "cd99f0d19ae0f2d67eacfb7606ef66b4a72a3b21c751948b3739669bb730b81e", func := "berth/berthlaw04.TaintTexts", spec := "taintTexts", inPlace := ["internal/bytealg.IndexByteString", "internal/bytealg.IndexString", "internal/bytealg.CountString"], named := ["internal/bytealg.MaxLen", "unicode/utf8.first", "unicode/utf8.acceptRanges"], apart := false, laid := [("unicode/utf8.acceptRanges", laid_unicode_utf8_acceptRanges), ("unicode/utf8.first", laid_unicode_utf8_first)] }
def TaintTextsSaid : Prop := taintTextsRow.holds Tryd.pinned (OpenSpec.ofChange taintTextsSpec)

/-- ITS FALSE NEIGHBOUR: 'it returns false'. Refute it at one input. -/
def taintTextsWrong : ChangeSpec := { name := "taintTexts", fn := fun _ => fun
  | [d] => { results := [.lit (.bool false)], args := [d] }
  | _ => none }
def TaintTextsWrongFalsely : Prop := taintTextsRow.holds Tryd.pinned (OpenSpec.ofChange taintTextsWrong)

/-- 'berthlaw04.TaintLists': WHATEVER THE INPUT: true; the input reads as it did. -/
def taintListsSpec : ChangeSpec := { name := "taintLists", fn := fun _ => fun
  | [d] => { results := [.lit (.bool true)], args := [d] }
  | _ => none }
def taintListsRow : OpenClaim := { program := "ytppblibcbjpfnaadoor", sum := "cd99f0d19ae0f2d67eacfb7606ef66b4a72a3b21c751948b3739669bb730b81e", func := "berth/berthlaw04.TaintLists", spec := "taintLists", inPlace := ["internal/bytealg.IndexByteString", "internal/bytealg.IndexString", "internal/bytealg.CountString"], unfollowed := true, recurses := true, named := ["internal/bytealg.MaxLen", "unicode/utf8.first", "unicode/utf8.acceptRanges"], apart := false, laid := [("unicode/utf8.acceptRanges", laid_unicode_utf8_acceptRanges), ("unicode/utf8.first", laid_unicode_utf8_first)] }
def TaintListsSaid : Prop := taintListsRow.holds Tryd.pinned (OpenSpec.ofChange taintListsSpec)

/-- ITS FALSE NEIGHBOUR: 'it returns false'. Refute it at one input. -/
def taintListsWrong : ChangeSpec := { name := "taintLists", fn := fun _ => fun
  | [d] => { results := [.lit (.bool false)], args := [d] }
  | _ => none }
def TaintListsWrongFalsely : Prop := taintListsRow.holds Tryd.pinned (OpenSpec.ofChange taintListsWrong)

/-- 'berthlaw04.TaintLeft': WHATEVER THE INPUT: true; the input reads as it did. -/
def taintLeftSpec : ChangeSpec := { name := "taintLeft", fn := fun _ => fun
  | [d] => { results := [.lit (.bool true)], args := [d] }
  | _ => none }
def taintLeftRow : OpenClaim := { program := "ytppblibcbjpfnaadoor", sum := "cd99f0d19ae0f2d67eacfb7606ef66b4a72a3b21c751948b3739669bb730b81e", func := "berth/berthlaw04.TaintLeft", spec := "taintLeft", inPlace := ["internal/bytealg.IndexByteString", "internal/bytealg.IndexString", "internal/bytealg.CountString"], named := ["internal/bytealg.MaxLen", "unicode/utf8.first", "unicode/utf8.acceptRanges"], apart := false, laid := [("unicode/utf8.acceptRanges", laid_unicode_utf8_acceptRanges), ("unicode/utf8.first", laid_unicode_utf8_first)] }
def TaintLeftSaid : Prop := taintLeftRow.holds Tryd.pinned (OpenSpec.ofChange taintLeftSpec)

/-- ITS FALSE NEIGHBOUR: 'it returns false'. Refute it at one input. -/
def taintLeftWrong : ChangeSpec := { name := "taintLeft", fn := fun _ => fun
  | [d] => { results := [.lit (.bool false)], args := [d] }
  | _ => none }
def TaintLeftWrongFalsely : Prop := taintLeftRow.holds Tryd.pinned (OpenSpec.ofChange taintLeftWrong)

/-- 'berthlaw04.TaintOwn': WHATEVER THE INPUT: true; the input reads as it did. -/
def taintOwnSpec : ChangeSpec := { name := "taintOwn", fn := fun _ => fun
  | [d] => { results := [.lit (.bool true)], args := [d] }
  | _ => none }
def taintOwnRow : OpenClaim := { program := "ytppblibcbjpfnaadoor", sum := "cd99f0d19ae0f2d67eacfb7606ef66b4a72a3b21c751948b3739669bb730b81e", func := "berth/berthlaw04.TaintOwn", spec := "taintOwn", inPlace := ["internal/bytealg.IndexByteString", "internal/bytealg.IndexString", "internal/bytealg.CountString"], unfollowed := true, recurses := true, named := ["internal/bytealg.MaxLen", "unicode/utf8.first", "unicode/utf8.acceptRanges"], apart := false, laid := [("unicode/utf8.acceptRanges", laid_unicode_utf8_acceptRanges), ("unicode/utf8.first", laid_unicode_utf8_first)] }
def TaintOwnSaid : Prop := taintOwnRow.holds Tryd.pinned (OpenSpec.ofChange taintOwnSpec)

/-- ITS FALSE NEIGHBOUR: 'it returns false'. Refute it at one input. -/
def taintOwnWrong : ChangeSpec := { name := "taintOwn", fn := fun _ => fun
  | [d] => { results := [.lit (.bool false)], args := [d] }
  | _ => none }
def TaintOwnWrongFalsely : Prop := taintOwnRow.holds Tryd.pinned (OpenSpec.ofChange taintOwnWrong)

/- THE SECOND FORM. 'bulk': how many values and letters a reading holds, each counted each time it is reached (what is shared counts as often as it is met; a slice's spare places count too). A statement '..UptoSaid' is the law's where the arguments, and the package variables that the reading takes, are together of bulk at most 1048576: NARROWER than '..Said'. Prove '..Said' where nothing that the law and all that it calls make is longer than what came in: it says more and counts as full. Else prove '..UptoSaid'. A law counts once. -/
mutual
def uptoBulk {H : Type} : DataW H → Nat
  | .lit (.string bytes) => bytes.length + 1
  | .lit _ => 1
  | .nil => 1
  | .ptr d => uptoBulk d + 1
  | .slice elems spare => uptoBulkAll elems + uptoBulkAll spare + 1
  | .agg parts => uptoBulkAll parts + 1
  | .iface _ d => uptoBulk d + 1
  | .map entries => uptoBulkEntries entries + 1
  | .held _ => 1
def uptoBulkAll {H : Type} : List (DataW H) → Nat
  | [] => 0
  | d :: r => uptoBulk d + uptoBulkAll r
def uptoBulkEntries {H : Type} : List (Lit × DataW H) → Nat
  | [] => 0
  | x :: r => uptoBulkEntry x + uptoBulkEntries r
def uptoBulkEntry {H : Type} : Lit × DataW H → Nat
  | (.string bytes, d) => bytes.length + uptoBulk d + 1
  | (_, d) => uptoBulk d + 1
 end
def uptoSmall : (H : Type) → List (DataW H) → Bool := fun _ ds => decide (uptoBulkAll ds ≤ 1048576)
def OpenSpec.upto (s : _root_.Go.ChangeSpec) : _root_.Go.OpenSpec := { _root_.Go.OpenSpec.ofChange s with cond := some uptoSmall }

/-- 'berthlaw04.TaintTexts', WHERE WHAT IT READS IS OF BULK AT MOST 1048576: true; the input reads as it did. -/
def taintTextsUptoRow : OpenClaim := { program := "ytppblibcbjpfnaadoor", sum := "cd99f0d19ae0f2d67eacfb7606ef66b4a72a3b21c751948b3739669bb730b81e", func := "berth/berthlaw04.TaintTexts", spec := "taintTexts", inPlace := ["internal/bytealg.IndexByteString", "internal/bytealg.IndexString", "internal/bytealg.CountString"], named := ["internal/bytealg.MaxLen", "unicode/utf8.first", "unicode/utf8.acceptRanges"], apart := false, laid := [("unicode/utf8.acceptRanges", laid_unicode_utf8_acceptRanges), ("unicode/utf8.first", laid_unicode_utf8_first)], narrowed := true }
def TaintTextsUptoSaid : Prop := taintTextsUptoRow.holds Tryd.pinned (OpenSpec.upto taintTextsSpec)

/-- 'berthlaw04.TaintLists', WHERE WHAT IT READS IS OF BULK AT MOST 1048576: true; the input reads as it did. -/
def taintListsUptoRow : OpenClaim := { program := "ytppblibcbjpfnaadoor", sum := "cd99f0d19ae0f2d67eacfb7606ef66b4a72a3b21c751948b3739669bb730b81e", func := "berth/berthlaw04.TaintLists", spec := "taintLists", inPlace := ["internal/bytealg.IndexByteString", "internal/bytealg.IndexString", "internal/bytealg.CountString"], unfollowed := true, recurses := true, named := ["internal/bytealg.MaxLen", "unicode/utf8.first", "unicode/utf8.acceptRanges"], apart := false, laid := [("unicode/utf8.acceptRanges", laid_unicode_utf8_acceptRanges), ("unicode/utf8.first", laid_unicode_utf8_first)], narrowed := true }
def TaintListsUptoSaid : Prop := taintListsUptoRow.holds Tryd.pinned (OpenSpec.upto taintListsSpec)

/-- 'berthlaw04.TaintLeft', WHERE WHAT IT READS IS OF BULK AT MOST 1048576: true; the input reads as it did. -/
def taintLeftUptoRow : OpenClaim := { program := "ytppblibcbjpfnaadoor", sum := "cd99f0d19ae0f2d67eacfb7606ef66b4a72a3b21c751948b3739669bb730b81e", func := "berth/berthlaw04.TaintLeft", spec := "taintLeft", inPlace := ["internal/bytealg.IndexByteString", "internal/bytealg.IndexString", "internal/bytealg.CountString"], named := ["internal/bytealg.MaxLen", "unicode/utf8.first", "unicode/utf8.acceptRanges"], apart := false, laid := [("unicode/utf8.acceptRanges", laid_unicode_utf8_acceptRanges), ("unicode/utf8.first", laid_unicode_utf8_first)], narrowed := true }
def TaintLeftUptoSaid : Prop := taintLeftUptoRow.holds Tryd.pinned (OpenSpec.upto taintLeftSpec)

/-- 'berthlaw04.TaintOwn', WHERE WHAT IT READS IS OF BULK AT MOST 1048576: true; the input reads as it did. -/
def taintOwnUptoRow : OpenClaim := { program := "ytppblibcbjpfnaadoor", sum := "cd99f0d19ae0f2d67eacfb7606ef66b4a72a3b21c751948b3739669bb730b81e", func := "berth/berthlaw04.TaintOwn", spec := "taintOwn", inPlace := ["internal/bytealg.IndexByteString", "internal/bytealg.IndexString", "internal/bytealg.CountString"], unfollowed := true, recurses := true, named := ["internal/bytealg.MaxLen", "unicode/utf8.first", "unicode/utf8.acceptRanges"], apart := false, laid := [("unicode/utf8.acceptRanges", laid_unicode_utf8_acceptRanges), ("unicode/utf8.first", laid_unicode_utf8_first)], narrowed := true }
def TaintOwnUptoSaid : Prop := taintOwnUptoRow.holds Tryd.pinned (OpenSpec.upto taintOwnSpec)

end Rows
end Go.Proofs.YtppblibcbjpfnaaDoor

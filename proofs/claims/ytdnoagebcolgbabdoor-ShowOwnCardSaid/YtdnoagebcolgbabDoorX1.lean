import Derived.Test.YtdnoagebcolgbabDoorX0
namespace Go.Proofs.YtdnoagebcolgbabDoor.L
open Go.RowKit
set_option linter.unusedVariables false
theorem iv_get (s : ByteArray) (k : Nat) (h : k < s.size) : ((s[k]'h).toNat : Int) = iv (bt s k) := by
  rw [bt_get s k h]; rfl
end Go.Proofs.YtdnoagebcolgbabDoor.L

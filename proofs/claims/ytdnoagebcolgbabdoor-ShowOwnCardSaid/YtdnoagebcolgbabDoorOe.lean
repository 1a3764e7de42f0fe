import Derived.Test.YtdnoagebcolgbabDoorHR
import Derived.Test.YtdnoagebcolgbabDoorOc
import Derived.LaidSub
import Derived.Lib.LaidTab
namespace Go.Proofs.YtdnoagebcolgbabDoor.L
open Go.ChangeShapes Go.WideShapes Go.ChangeAt Go.RowKit Go.Joins
set_option linter.unusedVariables false
theorem tab_laid {W : World} {laid : List (String × DataW Unit)} (h : laidMetH Tryd.prog laid W)
    (e1 : (laid.filter fun x => x.1 == "internal/strconv.uint64pow10") = [("internal/strconv.uint64pow10", Rows.laid_internal_strconv_uint64pow10)]) : TabW W := by
  have k1 : laidMet Tryd.prog [("internal/strconv.uint64pow10", Rows.laid_internal_strconv_uint64pow10)] W := by have := h.filter (fun x => x.1 == "internal/strconv.uint64pow10"); rw [e1] at this; exact this
  exact Lib.tabIs_of_head (rest := []) (g := 1) (t := 117) (by kernel_rfl) (by kernel_rfl) Tryd.underlying117 Tryd.underlying110 (by kernel_rfl) (by kernel_rfl) k1
end Go.Proofs.YtdnoagebcolgbabDoor.L

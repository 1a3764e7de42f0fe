import Derived.Test.YtlhlpamciafocaaGreatDoorSwHR
import Derived.Test.YtlhlpamciafocaaGreatDoorMgBF
import Derived.Test.YtlhlpamciafocaaGreatDoorXY
import Derived.LaidSub
import Derived.Lib.LaidTab
namespace Go.Proofs.YtlhlpamciafocaaGreatDoor.L.Sw
open Go.ChangeShapes Go.WideShapes Go.ChangeAt Go.RowKit Go.Joins
set_option linter.unusedVariables false
theorem tab_laid {W : World} {laid : List (String × DataW Unit)} (h : laidMetH Tryz.prog laid W)
    (e1 : (laid.filter fun x => x.1 == "internal/strconv.uint64pow10") = [("internal/strconv.uint64pow10", Rows.laid_internal_strconv_uint64pow10)]) : TabW W := by
  have k1 : laidMet Tryz.prog [("internal/strconv.uint64pow10", Rows.laid_internal_strconv_uint64pow10)] W := by have := h.filter (fun x => x.1 == "internal/strconv.uint64pow10"); rw [e1] at this; exact this
  exact Lib.tabIs_of_head (rest := []) (g := 1) (t := 155) (by kernel_rfl) (by kernel_rfl) Tryz.underlying155 Tryz.underlying143 (by kernel_rfl) (by kernel_rfl) k1
end Go.Proofs.YtlhlpamciafocaaGreatDoor.L.Sw

import Derived.Test.YtbplmglddinkdaaDoorXY
import Derived.Test.YtbplmglddinkdaaDoorYC
namespace Go.Proofs.YtbplmglddinkdaaDoor.L
open Go.ChangeShapes Go.WideShapes Go.ChangeAt Go.RowKit Go.Joins
set_option linter.unusedVariables false
theorem tab_laid {W : World} {laid : List (String × DataW Unit)} (h : laidMetH Tryd.prog laid W)
    (e1 : (laid.filter fun x => x.1 == "internal/strconv.uint64pow10") = [("internal/strconv.uint64pow10", Rows.laid_internal_strconv_uint64pow10)]) : TabW W := by
  have k1 : laidMet Tryd.prog [("internal/strconv.uint64pow10", Rows.laid_internal_strconv_uint64pow10)] W := by have := h.filter (fun x => x.1 == "internal/strconv.uint64pow10"); rw [e1] at this; exact this
  exact Lib.tabIs_of_head (rest := []) (g := 0) (t := 96) (by kernel_rfl) (by kernel_rfl) Tryd.underlying96 Tryd.underlying89 (by kernel_rfl) (by kernel_rfl) k1
end Go.Proofs.YtbplmglddinkdaaDoor.L

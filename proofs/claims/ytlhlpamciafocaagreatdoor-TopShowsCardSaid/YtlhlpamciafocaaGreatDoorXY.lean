import Derived.Test.YtlhlpamciafocaaGreatDoorRows
import Derived.Test.YtlhlpamciafocaaGreatDoorTie
import Derived.Test.YtlhlpamciafocaaGreatDoorCards
import Derived.Test.YtlhlpamciafocaaGreatDoorMgAE
import Derived.ProofKit
import Derived.LaidMore
import Derived.LaidLaws
import Derived.LaidSub
import Derived.OpenShut
import Derived.SizedLaws
import Derived.Deep.DeepHandedRow
import Derived.Deep.Slices
import Derived.Lib.SmallJoins
import Derived.Lib.LaidTab
import Derived.SevenTiedAt
namespace Go.Proofs.YtlhlpamciafocaaGreatDoor.L
open Go.ChangeShapes Go.WideShapes Go.ChangeAt Go.RowKit Go.Joins
set_option linter.unusedVariables false
theorem own : ownKnob Tryz.prog.godebug = none := by kernel_rfl
theorem reach_num : reachBytes = 140737488351232 := by kernel_rfl
theorem iface_laid {W : World} {name nm : String} {d : DataW Unit} {rest : List (String × DataW Unit)} {g : Nat} {t : TypeId} {ms : Array (String × TypeId)} (hg : Tryz.prog.globalNamed name = some g) (hty : (Tryz.prog.globals[g]?).map (·.type) = some t) (ht : Tryz.prog.underlying t = some (.interface ms))
    (h : laidMet Tryz.prog ((name, .iface nm d) :: rest) W) : ∃ tp p, W.var? Tryz.prog name = some #[.iface tp p] := by
  obtain ⟨ps, ⟨g', t', cs, fuel, p, q, hg', ht', hvar, hd, _, _⟩, _⟩ := h
  obtain rfl := Option.some.inj (hg.symm.trans hg')
  obtain rfl := Option.some.inj (hty.symm.trans ht')
  obtain ⟨f', u, v, e, _, _⟩ := iface_of_trod ht hd
  refine ⟨u, v, ?_⟩
  rw [hvar, Array.eq_one_of_toList e]
theorem vars_laid {W : World} {laid : List (String × DataW Unit)} (h : laidMetH Tryz.prog laid W)
    (e1 : (laid.filter fun x => x.1 == "strconv.ErrSyntax") = [("strconv.ErrSyntax", Rows.laid_strconv_ErrSyntax)]) (e2 : (laid.filter fun x => x.1 == "strconv.ErrRange") = [("strconv.ErrRange", Rows.laid_strconv_ErrRange)]) : Vars W := by
  have k2 : laidMet Tryz.prog [("strconv.ErrSyntax", Rows.laid_strconv_ErrSyntax)] W := by have := h.filter (fun x => x.1 == "strconv.ErrSyntax"); rw [e1] at this; exact this
  have k3 : laidMet Tryz.prog [("strconv.ErrRange", Rows.laid_strconv_ErrRange)] W := by have := h.filter (fun x => x.1 == "strconv.ErrRange"); rw [e2] at this; exact this
  exact ⟨iface_laid (g := 4) (by kernel_rfl) (by kernel_rfl) Tryz.underlying27 k2, iface_laid (g := 5) (by kernel_rfl) (by kernel_rfl) Tryz.underlying27 k3⟩
end Go.Proofs.YtlhlpamciafocaaGreatDoor.L

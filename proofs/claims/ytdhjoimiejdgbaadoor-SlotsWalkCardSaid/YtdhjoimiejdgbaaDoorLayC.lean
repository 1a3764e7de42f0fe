import Derived.Shelf.SlMaps.Clone
import Derived.Test.YtdhjoimiejdgbaaDoorProg
namespace Go.Proofs.YtdhjoimiejdgbaaDoor
open Go.Shelf
def mcl_ren : Go.Shelf.Ren := ⟨fun | 5 => 79 | 7 => 91 | n => n, fun | 23 => 76 | 25 => 9 | 3 => 3 | 4 => 4 | 20 => 20 | n => n, fun | n => n⟩
theorem mcl : Go.Proofs.SlLaysW.n5 Tryd.prog mcl_ren := {
  mixed := by kernel_rfl
  f5 := ⟨Tryd.f79.name, by decide, Tryd.func79.trans (congrArg some (by kernel_rfl))⟩
  f7 := Tryd.func91.trans (congrArg some (by kernel_rfl))
  t4 := Tryd.underlying4
  a4 := Tryd.isAgg4
  z4 := Tryd.sizeOf4
  v4 := Tryd.zeroValue4
  t20 := Tryd.underlying20
  a20 := Tryd.isAgg20
  z20 := Tryd.sizeOf20
  v20 := Tryd.zeroValue20
  t23 := Tryd.underlying76
  a23 := Tryd.isAgg76
  z23 := Tryd.sizeOf76
  v23 := Tryd.zeroValue76 }
end Go.Proofs.YtdhjoimiejdgbaaDoor

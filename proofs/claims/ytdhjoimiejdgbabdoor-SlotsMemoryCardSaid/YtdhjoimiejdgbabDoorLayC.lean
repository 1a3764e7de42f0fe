import Derived.Shelf.SlMaps.Clone
import Derived.Test.YtdhjoimiejdgbabDoorProg
namespace Go.Proofs.YtdhjoimiejdgbabDoor
open Go.Shelf
def mcl_ren : Go.Shelf.Ren := ⟨fun | 5 => 61 | 7 => 75 | n => n, fun | 23 => 57 | 25 => 9 | 3 => 3 | 4 => 4 | 20 => 20 | n => n, fun | n => n⟩
theorem mcl : Go.Proofs.SlLaysW.n5 Tryd.prog mcl_ren := {
  mixed := by kernel_rfl
  f5 := ⟨Tryd.f61.name, by decide, Tryd.func61.trans (congrArg some (by kernel_rfl))⟩
  f7 := Tryd.func75.trans (congrArg some (by kernel_rfl))
  t4 := Tryd.underlying4
  a4 := Tryd.isAgg4
  z4 := Tryd.sizeOf4
  v4 := Tryd.zeroValue4
  t20 := Tryd.underlying20
  a20 := Tryd.isAgg20
  z20 := Tryd.sizeOf20
  v20 := Tryd.zeroValue20
  t23 := Tryd.underlying57
  a23 := Tryd.isAgg57
  z23 := Tryd.sizeOf57
  v23 := Tryd.zeroValue57 }
end Go.Proofs.YtdhjoimiejdgbabDoor

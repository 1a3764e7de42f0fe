import Derived.Test.YtlhlpamciafocaaGreatDoorMgBF
namespace Go.Proofs.YtlhlpamciafocaaGreatDoor.L.Sw
open Go.RowKit Go.Shelf
set_option linter.unusedVariables false
end Go.Proofs.YtlhlpamciafocaaGreatDoor.L.Sw

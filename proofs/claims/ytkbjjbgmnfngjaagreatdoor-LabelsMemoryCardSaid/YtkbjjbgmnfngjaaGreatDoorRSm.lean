import Derived.Test.YtkbjjbgmnfngjaaGreatDoorLab
namespace Go.Proofs.YtkbjjbgmnfngjaaGreatDoor.L
open Go.RowKit
set_option linter.unusedVariables false
end Go.Proofs.YtkbjjbgmnfngjaaGreatDoor.L

import Derived.Test.YtodamoblnlcodaaDoorLab
namespace Go.Proofs.YtodamoblnlcodaaDoor.L
open Go.RowKit
set_option linter.unusedVariables false
end Go.Proofs.YtodamoblnlcodaaDoor.L

/- Contracts of package data: Check. -/
import Derived.Test.YtainhpnmgligjacGreatDoorDataL
namespace Go.Proofs.YtainhpnmgligjacGreatDoor
open Go Go.RowKit
set_option linter.unusedVariables false
end Go.Proofs.YtainhpnmgligjacGreatDoor

/- The contract of the statements' own rulesBegun. -/
import Derived.Test.YtainhpnmgligjacGreatDoorRulesIAll
namespace Go.Proofs.YtainhpnmgligjacGreatDoor
open Go Go.RowKit
set_option linter.unusedVariables false
end Go.Proofs.YtainhpnmgligjacGreatDoor

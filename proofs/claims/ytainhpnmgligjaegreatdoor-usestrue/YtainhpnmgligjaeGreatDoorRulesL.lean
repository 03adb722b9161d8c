/- The contract of the statements' own rulesBegun. -/
import Derived.Test.YtainhpnmgligjaeGreatDoorRulesIAll
namespace Go.Proofs.YtainhpnmgligjaeGreatDoor
open Go Go.RowKit
set_option linter.unusedVariables false
end Go.Proofs.YtainhpnmgligjaeGreatDoor

/- The contract of the statements' own rulesBegun. -/
import Derived.Test.YtdffopkljomipaaGreatDoorRulesIAll
namespace Go.Proofs.YtdffopkljomipaaGreatDoor
open Go Go.RowKit
set_option linter.unusedVariables false
end Go.Proofs.YtdffopkljomipaaGreatDoor

/- The contract of the statements' own rulesBegun. -/
import Derived.Test.YtjjgjgipmcejdacDoorRulesIAll
namespace Go.Proofs.YtjjgjgipmcejdacDoor
open Go Go.RowKit
set_option linter.unusedVariables false
end Go.Proofs.YtjjgjgipmcejdacDoor

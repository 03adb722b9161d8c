/- Contracts of package data: Check. -/
import Derived.Test.YtdffopkljomipaaGreatDoorDataL
namespace Go.Proofs.YtdffopkljomipaaGreatDoor
open Go Go.RowKit
set_option linter.unusedVariables false
end Go.Proofs.YtdffopkljomipaaGreatDoor

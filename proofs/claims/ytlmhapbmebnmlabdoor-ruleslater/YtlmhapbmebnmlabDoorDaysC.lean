/- Contracts of package days, closed: Date whatever it is handed, and the statements' own daysBegun. -/
import Derived.Test.YtlmhapbmebnmlabDoorDaysB
namespace Go.Proofs.YtlmhapbmebnmlabDoor
open Go Go.RowKit
set_option linter.unusedVariables false

end Go.Proofs.YtlmhapbmebnmlabDoor

/- meter: sums of counts, the document's; the example; MeterSums. -/
import Derived.Test.YtdplhgpeggcmdaaGreatDoorTrapM
namespace Go.Proofs.YtdplhgpeggcmdaaGreatDoor
set_option linter.unusedSimpArgs false
set_option linter.unusedVariables false
open Go.RowKit errs under trap tail
namespace meter
end meter
end Go.Proofs.YtdplhgpeggcmdaaGreatDoor

/- The order of entries: Less, Before (for seats without layer 3's own law). -/
import Derived.Test.YtdplhgpeggcmdaaGreatDoorSplitFns
import Derived.Test.YtdplhgpeggcmdaaGreatDoorKit
import Derived.Test.YtdplhgpeggcmdaaGreatDoorErrors
namespace Go.Proofs.YtdplhgpeggcmdaaGreatDoor.split
open Go.ChangeShapes Go.WideShapes Go.ChangeAt Go.RowKit

/-- an entry: key, value, hash -/
abbrev entV (k v h:Nat):Value:=.agg #[.int .u64 ((k:Nat):Int),.int .u64 ((v:Nat):Int),.int .u64 ((h:Nat):Int)]
/-- does it come ahead, by hash and key -/
def lessB (k1 h1 k2 h2:Nat):Bool:=if h1 = h2 then decide (k1 < k2) else decide (h1 < h2)
end Go.Proofs.YtdplhgpeggcmdaaGreatDoor.split

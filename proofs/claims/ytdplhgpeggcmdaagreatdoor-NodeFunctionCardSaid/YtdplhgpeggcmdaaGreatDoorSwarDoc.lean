/- SwarMasks: the document's own functions (lanes that are some byte, that are high, their mask, their list), and two lists compared. -/
import Derived.Test.YtdplhgpeggcmdaaGreatDoorSwarFns
import Derived.Maps.AppendAt
import Derived.LoopTactic
namespace Go.Proofs.YtdplhgpeggcmdaaGreatDoor.swar
open Go.ChangeShapes Go.WideShapes Go.ChangeAt Go.RowKit

abbrev bagg8 (p0 p1 p2 p3 p4 p5 p6 p7:Bool):Value:=.agg #[.bool p0,.bool p1,.bool p2,.bool p3,.bool p4,.bool p5,.bool p6,.bool p7]
abbrev row8 (n:Nat):Array Value:=#[.int .u8 (ln n 0:Nat),.int .u8 (ln n 1:Nat),.int .u8 (ln n 2:Nat),.int .u8 (ln n 3:Nat),.int .u8 (ln n 4:Nat),.int .u8 (ln n 5:Nat),.int .u8 (ln n 6:Nat),.int .u8 (ln n 7:Nat)]
/-- a lane of a mask that is made as far as k -/
def mkb (p:Bool) (i k:Nat):Nat:=if p = true ∧ i < k then 128 else 0
/-- the mask of eight marks -/
def maskN (p0 p1 p2 p3 p4 p5 p6 p7:Bool):Nat:=pk8 (if p0 = true then 128 else 0) (if p1 = true then 128 else 0) (if p2 = true then 128 else 0) (if p3 = true then 128 else 0) (if p4 = true then 128 else 0) (if p5 = true then 128 else 0) (if p6 = true then 128 else 0) (if p7 = true then 128 else 0)
end Go.Proofs.YtdplhgpeggcmdaaGreatDoor.swar

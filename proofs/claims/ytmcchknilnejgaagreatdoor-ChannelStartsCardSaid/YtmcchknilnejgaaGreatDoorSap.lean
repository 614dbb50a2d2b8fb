import Derived.Lib.SmallJoins
import Derived.Deep.WholeRow
import Derived.StillTactics
import Derived.Laws.Pointers
import Derived.Deep.RegionHeld3
import Derived.Deep.QuietTactic
import Derived.BigQuiet
import Derived.RowKit3
import Derived.Lib.Hide
import Derived.Lib.QuietBelow
import Derived.Laws.Bits64b
import Derived.Test.YtmcchknilnejgaaGreatDoorProg
import Derived.Shelf.Spec.BitsCarry
import Derived.Shelf.Bits.Mul64
import Derived.WalkKit
import Derived.WalkSpells
import Derived.Test.YtmcchknilnejgaaGreatDoorKag
import Derived.Test.YtmcchknilnejgaaGreatDoorKab
import Derived.Test.YtmcchknilnejgaaGreatDoorKaa
import Derived.Test.YtmcchknilnejgaaGreatDoorSaa
namespace Go.Proofs.YtmcchknilnejgaaGreatDoor
open Go.RowKit Go.Shelf Go.Joins
theorem lat_yes {p:Int} {k:Nat} (h:p≤tb (k+1)):lat p (k+1)=k+1:=if_pos h
theorem lat_no {p:Int} {k:Nat} (h:¬ p≤tb (k+1)):lat p (k+1)=lat p k:=if_neg h
end Go.Proofs.YtmcchknilnejgaaGreatDoor

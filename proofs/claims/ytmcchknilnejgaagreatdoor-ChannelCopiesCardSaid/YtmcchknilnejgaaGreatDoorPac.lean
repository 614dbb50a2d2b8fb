import Derived.Orders
import Derived.RegionTactic
import Derived.Below
import Derived.StillTactics
import Derived.Laws.Pointers
import Derived.Deep.RegionHeld3
import Derived.Deep.QuietTactic
import Derived.BigQuiet
import Derived.RowKit3
import Derived.Lib.Hide
import Derived.Lib.QuietBelow
import Derived.Laws.Bits64b
import Derived.Test.YtmcchknilnejgaaGreatDoorProg
import Derived.Shelf.Spec.BitsCarry
import Derived.Shelf.Bits.Mul64
import Derived.WalkKit
import Derived.WalkSpells
import Derived.ScopeJumps
import Derived.WalkMore
import Derived.Laws.Cover1
import Derived.ChangeKeysEq
import Derived.Test.YtmcchknilnejgaaGreatDoorKae
import Derived.Test.YtmcchknilnejgaaGreatDoorKab
import Derived.Test.YtmcchknilnejgaaGreatDoorKaa
import Derived.Test.YtmcchknilnejgaaGreatDoorKad
import Derived.Test.YtmcchknilnejgaaGreatDoorKac
namespace Go.Proofs.YtmcchknilnejgaaGreatDoor
open Go.RowKit Go.Shelf
theorem vec_eq_self (x y z:Int) (w:World):(Op.equalIn 10000 23 (tv x y z) (tv x y z)).run Tryz.prog w=.ok true w:=by
 rw [vec_eq]; simp
end Go.Proofs.YtmcchknilnejgaaGreatDoor

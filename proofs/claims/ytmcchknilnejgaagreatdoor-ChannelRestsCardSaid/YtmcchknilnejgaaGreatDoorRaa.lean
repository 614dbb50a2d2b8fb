import Derived.StillTactics
import Derived.Laws.Pointers
import Derived.Deep.RegionHeld3
import Derived.Deep.QuietTactic
import Derived.BigQuiet
import Derived.RowKit3
import Derived.Lib.Hide
import Derived.Lib.QuietBelow
import Derived.Laws.Bits64b
import Derived.Test.YtmcchknilnejgaaGreatDoorProg
import Derived.Shelf.Spec.BitsCarry
import Derived.Shelf.Bits.Mul64
import Derived.WalkKit
import Derived.WalkSpells
import Derived.Lib.SmallJoins
import Derived.Test.YtmcchknilnejgaaGreatDoorKab
import Derived.Test.YtmcchknilnejgaaGreatDoorKaa
import Derived.Test.YtmcchknilnejgaaGreatDoorKag
set_option maxHeartbeats 4000000
set_option maxRecDepth 10000
namespace Go.Proofs.YtmcchknilnejgaaGreatDoor
open Go.RowKit Go.Shelf Go.Joins
theorem rgood_any (p:Int) (w:World):Calls Tryz.prog 56 #[.int .i64 p] w (RetV (.bool (gd p)) w):=by
 by_cases c:90528≤p
 ·have c0:90527<p:=by omega
  by_cases d:p≤430515
  ·rw [gd_in c d]
   have c1:p<430516:=by omega
   clear c d
   go_enter Tryz.func56,Tryz.ntmps56
   go_wp2
   go_ret
   exact ⟨rfl,Below.refl _ _⟩
  ·rw [gd_hi d]
   have c1:¬ p<430516:=by omega
   clear c d
   go_enter Tryz.func56,Tryz.ntmps56
   go_wp2
   go_ret
   exact ⟨rfl,Below.refl _ _⟩
 ·rw [gd_lo c]
  have c0:¬ 90527<p:=by omega
  clear c
  go_enter Tryz.func56,Tryz.ntmps56
  go_wp2
  go_ret
  exact ⟨rfl,Below.refl _ _⟩
end Go.Proofs.YtmcchknilnejgaaGreatDoor

import Derived.Lib.SmallJoins
import Derived.Deep.WholeRow
import Derived.StillTactics
import Derived.Laws.Pointers
import Derived.Deep.RegionHeld3
import Derived.Deep.QuietTactic
import Derived.BigQuiet
import Derived.RowKit3
import Derived.Lib.Hide
import Derived.Lib.QuietBelow
import Derived.Laws.Bits64b
import Derived.Test.YtjifkmldigemkaaGreatDoorProg
import Derived.Shelf.Spec.BitsCarry
import Derived.Shelf.Bits.Mul64
import Derived.WalkKit
import Derived.WalkSpells
import Derived.Orders
import Derived.RegionTactic
import Derived.Below
import Derived.Test.YtjifkmldigemkaaGreatDoorTak
import Derived.Test.YtjifkmldigemkaaGreatDoorTag
import Derived.Test.YtjifkmldigemkaaGreatDoorTab
import Derived.Test.YtjifkmldigemkaaGreatDoorTaa
set_option maxHeartbeats 4000000
set_option maxRecDepth 10000
namespace Go.Proofs.YtjifkmldigemkaaGreatDoor
open Go.RowKit Go.Shelf Go.Joins
theorem Known_any (b:Nat) (c m n r:Int) (w:World) (h:GR w b c m n r):Calls Tryz.prog 51 #[.pointer (some ⟨b,0,none⟩)] w (RetV (.tuple #[.int .i64 c,.bool (decide (c≠0))]) w):=by
 have c0:=known_grown h
 go_enter Tryz.func51,Tryz.ntmps51
 have q0:=cell_regrown (show w.cell? ⟨b,0,none⟩=some (.int .i64 c) from (cell_of_row _ _ 0 _ _ _ h).trans rfl)
 clear h
 generalize decide (c≠0)=k at *
 go_wp2
 refine wp_region_quiet_below (by kernel_rfl) (by kernel_rfl) ?_
 repeat (with_reducible refine wpQuiet_step (fun KQ hKQ=>?_); go_simp; first | (with_reducible refine hKQ _ ?_; clear hKQ KQ) | (apply Exists.intro; with_reducible refine ⟨fun _=>?_,hKQ _ ?_⟩; (with_reducible exact c0 _ _); clear hKQ KQ))
 refine wpQuiet_nil ?_
 intro _ hw'
 obtain ⟨⟨dq,osq⟩,hw''⟩:=hw'
 subst hw''
 have E:=below_regrown w dq osq
 clear q0 c0
 generalize Sort.grow (redrawn w dq) osq=y1 at *
 go_wp2
 go_ret2
 exact ⟨rfl,E⟩
end Go.Proofs.YtjifkmldigemkaaGreatDoor

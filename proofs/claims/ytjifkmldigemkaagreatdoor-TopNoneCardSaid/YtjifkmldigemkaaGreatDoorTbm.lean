import Derived.Lib.SmallJoins
import Derived.Deep.WholeRow
import Derived.StillTactics
import Derived.Laws.Pointers
import Derived.Deep.RegionHeld3
import Derived.Deep.QuietTactic
import Derived.BigQuiet
import Derived.RowKit3
import Derived.Lib.Hide
import Derived.Lib.QuietBelow
import Derived.Laws.Bits64b
import Derived.Test.YtjifkmldigemkaaGreatDoorProg
import Derived.Shelf.Spec.BitsCarry
import Derived.Shelf.Bits.Mul64
import Derived.WalkKit
import Derived.WalkSpells
import Derived.Test.YtjifkmldigemkaaGreatDoorTag
import Derived.Test.YtjifkmldigemkaaGreatDoorTab
import Derived.Test.YtjifkmldigemkaaGreatDoorTaa
import Derived.Test.YtjifkmldigemkaaGreatDoorTax
import Derived.Test.YtjifkmldigemkaaGreatDoorTah
import Derived.Test.YtjifkmldigemkaaGreatDoorTak
set_option maxHeartbeats 4000000
set_option maxRecDepth 10000
namespace Go.Proofs.YtjifkmldigemkaaGreatDoor
open Go.RowKit Go.Shelf Go.Joins
theorem rbrings_any (a:Int) (h:Bool) (p:Int) (s:Bool) (w:World):Calls Tryz.prog 19 #[tk a h p s] w (RetV (.tuple #[.int .i64 (bv h p),.bool (br h p)]) w):=by
 have cg:=rgood_any p
 have tw:TW (w.alloc (Obj.cells #[.int .i64 a,.bool h,.int .i64 p,.bool s] 49)) w.heap.size 0 a h p s:=tw_new
 have E:Below w.heap.size w (w.alloc (Obj.cells #[.int .i64 a,.bool h,.int .i64 p,.bool s] 49)):=b_alloc (Below.refl _ _)
 rcases three h p with ⟨rfl,g,-,k1,k2⟩ | ⟨rfl,g,-,k1,k2⟩ | ⟨rfl,-,k1,k2⟩
 ·rw [k1,k2]
  rw [g] at cg
  clear k1 k2 g
  go_enter Tryz.func19,Tryz.ntmps19
  go_wp2_with fail
  refine (cg _).mono ?_
  rintro e y0 ⟨rfl,hb⟩
  replace tw:=tw_keep hb tw
  replace E:=b_trans E hb
  clear hb cg
  obtain ⟨t0,t1,t2,t3⟩:=tw
  go_wp2
  go_ret2
  exact ⟨rfl,E⟩
 ·rw [k1,k2]
  rw [g] at cg
  clear k1 k2 g
  go_enter Tryz.func19,Tryz.ntmps19
  go_wp2_with fail
  refine (cg _).mono ?_
  rintro e y0 ⟨rfl,hb⟩
  replace tw:=tw_keep hb tw
  replace E:=b_trans E hb
  clear hb cg
  obtain ⟨t0,t1,t2,t3⟩:=tw
  go_wp2
  go_ret2
  exact ⟨rfl,E⟩
 ·rw [k1,k2]
  clear k1 k2 cg
  go_enter Tryz.func19,Tryz.ntmps19
  go_wp2
  go_ret2
  exact ⟨rfl,E⟩
end Go.Proofs.YtjifkmldigemkaaGreatDoor

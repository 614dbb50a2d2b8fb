import Derived.BigRegion
import Derived.Deep.QuietTactic
import Derived.BigQuiet
import Derived.Lib.SmallJoins
import Derived.WalkMore
import Derived.StillTactics
import Derived.Laws.Pointers
import Derived.Deep.RegionHeld3
import Derived.RowKit3
import Derived.Lib.Hide
import Derived.Lib.QuietBelow
import Derived.Laws.Bits64b
import Derived.Test.YtmcchknilnejgaaGreatDoorProg
import Derived.Shelf.Spec.BitsCarry
import Derived.Shelf.Bits.Mul64
import Derived.WalkKit
import Derived.WalkSpells
import Derived.ScopeJumps
import Derived.Orders
import Derived.RegionTactic
import Derived.Below
import Derived.Test.YtmcchknilnejgaaGreatDoorKai
import Derived.Test.YtmcchknilnejgaaGreatDoorKaf
import Derived.Test.YtmcchknilnejgaaGreatDoorKbm
import Derived.Test.YtmcchknilnejgaaGreatDoorKah
import Derived.Test.YtmcchknilnejgaaGreatDoorKab
import Derived.Test.YtmcchknilnejgaaGreatDoorKaa
import Derived.Test.YtmcchknilnejgaaGreatDoorKad
import Derived.Test.YtmcchknilnejgaaGreatDoorKac
import Derived.Test.YtmcchknilnejgaaGreatDoorKae
import Derived.Test.YtmcchknilnejgaaGreatDoorKag
import Derived.Test.YtmcchknilnejgaaGreatDoorKbk
import Derived.Test.YtmcchknilnejgaaGreatDoorKax
set_option maxHeartbeats 2000000
set_option maxRecDepth 10000
namespace Go.Proofs.YtmcchknilnejgaaGreatDoor
open Go.RowKit Go.Shelf
theorem is_go (m x:Nat→Int) (f0 f1 f2 c0 c1 c2:Int) (cT:∀ w,PL w→Calls Tryz.prog 48 #[sv m,tv f0 f1 f2,tv c0 c1 c2] w (RetV (.tuple #[sv x,.int .i64 0]) w)) (w:World) (hp:PL w) :
  Calls Tryz.prog 19 #[sv m,tv f0 f1 f2,tv c0 c1 c2] w (RetV (.bool (sqb x m)) w):=by
 have kA:SC (((w.alloc (Obj.cells #[.int .i64 (m 0),.int .i64 (m 1),.int .i64 (m 2),.int .i64 (m 3),.int .i64 (m 4),.int .i64 (m 5)] 40)).alloc (Obj.cells #[.int .i64 f0,.int .i64 f1,.int .i64 f2] 23)).alloc (Obj.cells #[.int .i64 c0,.int .i64 c1,.int .i64 c2] 23)) w.heap.size m:=sc_alloc (sc_alloc (sc_new (m:=m) rfl))
 have kF:TC (((w.alloc (Obj.cells #[.int .i64 (m 0),.int .i64 (m 1),.int .i64 (m 2),.int .i64 (m 3),.int .i64 (m 4),.int .i64 (m 5)] 40)).alloc (Obj.cells #[.int .i64 f0,.int .i64 f1,.int .i64 f2] 23)).alloc (Obj.cells #[.int .i64 c0,.int .i64 c1,.int .i64 c2] 23)) (w.heap.size+1) f0 f1 f2:=tc_alloc (tc_new (by simp))
 have kC:TC (((w.alloc (Obj.cells #[.int .i64 (m 0),.int .i64 (m 1),.int .i64 (m 2),.int .i64 (m 3),.int .i64 (m 4),.int .i64 (m 5)] 40)).alloc (Obj.cells #[.int .i64 f0,.int .i64 f1,.int .i64 f2] 23)).alloc (Obj.cells #[.int .i64 c0,.int .i64 c1,.int .i64 c2] 23)) (w.heap.size+1+1) c0 c1 c2:=tc_new (by simp)
 have B:Below w.heap.size w (((w.alloc (Obj.cells #[.int .i64 (m 0),.int .i64 (m 1),.int .i64 (m 2),.int .i64 (m 3),.int .i64 (m 4),.int .i64 (m 5)] 40)).alloc (Obj.cells #[.int .i64 f0,.int .i64 f1,.int .i64 f2] 23)).alloc (Obj.cells #[.int .i64 c0,.int .i64 c1,.int .i64 c2] 23)):=b_alloc (b_alloc (b_alloc (Below.refl _ _)))
 replace hp:=pl_keep B hp
 have l6:=sc_six kA
 go_enter Tryz.func19,Tryz.ntmps19
 go_wp2_with fail
 generalize (((w.alloc (Obj.cells #[.int .i64 (m 0),.int .i64 (m 1),.int .i64 (m 2),.int .i64 (m 3),.int .i64 (m 4),.int .i64 (m 5)] 40)).alloc (Obj.cells #[.int .i64 f0,.int .i64 f1,.int .i64 f2] 23)).alloc (Obj.cells #[.int .i64 c0,.int .i64 c1,.int .i64 c2] 23))=y0 at *
 refine (cT _ hp).mono ?_
 rintro x_ y1 ⟨rfl,hb⟩
 replace B:=b_trans B hb
 replace kA:=sc_keep hb kA
 clear hb kF kC l6 cT hp
 have kX:SC (y1.alloc (Obj.cells #[.int .i64 (x 0),.int .i64 (x 1),.int .i64 (x 2),.int .i64 (x 3),.int .i64 (x 4),.int .i64 (x 5)] 40)) y1.heap.size x:=sc_new (m:=x) rfl
 replace kA:=sc_alloc (o:=(Obj.cells #[.int .i64 (x 0),.int .i64 (x 1),.int .i64 (x 2),.int .i64 (x 3),.int .i64 (x 4),.int .i64 (x 5)] 40)) kA
 replace B:=b_alloc (o:=(Obj.cells #[.int .i64 (x 0),.int .i64 (x 1),.int .i64 (x 2),.int .i64 (x 3),.int .i64 (x 4),.int .i64 (x 5)] 40)) B
 have l6:=sc_six kA
 have hse:=fun w=>sym_eq x m w
 generalize sqb x m=b at *
 go_wp2
 go_ret
 exact ⟨rfl,B⟩
theorem is_ok (m:Nat→Int) (f0 f1 f2 c0 c1 c2 a b c:Int) (hm:I6 m) (h0:FB f0 c0) (h1:FB f1 c1) (h2:FB f2 c2) (R:TR m f0 f1 f2 c0 c1 c2 a b c) (w:World) (hp:PL w) :
  Calls Tryz.prog 19 #[sv m,tv f0 f1 f2,tv c0 c1 c2] w (RetV (.bool (sqb (tmz m f0 f1 f2 c0 c1 c2 a b c) m)) w) :=
 is_go m _ f0 f1 f2 c0 c1 c2 (fun w k=>tame_ok m f0 f1 f2 c0 c1 c2 a b c hm h0 h1 h2 R w k) w hp
end Go.Proofs.YtmcchknilnejgaaGreatDoor

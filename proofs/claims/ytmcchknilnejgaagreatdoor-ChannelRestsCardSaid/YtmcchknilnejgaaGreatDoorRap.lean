import Derived.Orders
import Derived.RegionTactic
import Derived.Below
import Derived.StillTactics
import Derived.Laws.Pointers
import Derived.Deep.RegionHeld3
import Derived.Deep.QuietTactic
import Derived.BigQuiet
import Derived.RowKit3
import Derived.Lib.Hide
import Derived.Lib.QuietBelow
import Derived.Laws.Bits64b
import Derived.Test.YtmcchknilnejgaaGreatDoorProg
import Derived.Shelf.Spec.BitsCarry
import Derived.Shelf.Bits.Mul64
import Derived.WalkKit
import Derived.WalkSpells
import Derived.Test.YtmcchknilnejgaaGreatDoorRac
import Derived.Test.YtmcchknilnejgaaGreatDoorKaa
import Derived.Test.YtmcchknilnejgaaGreatDoorKab
import Derived.ScopeJumps
import Derived.WalkMore
import Derived.Test.YtmcchknilnejgaaGreatDoorKae
import Derived.Test.YtmcchknilnejgaaGreatDoorKad
import Derived.Test.YtmcchknilnejgaaGreatDoorKac
import Derived.Laws.Cover1
import Derived.ChangeKeysEq
import Derived.LoopN
import Derived.Test.YtmcchknilnejgaaGreatDoorKaf
import Derived.Test.YtmcchknilnejgaaGreatDoorRad
import Derived.Lib.SmallJoins
import Derived.Deep.WholeRow
import Derived.Test.YtmcchknilnejgaaGreatDoorKag
import Derived.Test.YtmcchknilnejgaaGreatDoorRaa
set_option maxHeartbeats 4000000
set_option maxRecDepth 10000
namespace Go.Proofs.YtmcchknilnejgaaGreatDoor
open Go.RowKit Go.Shelf
theorem fits_ref (x:Int) (x0:-9223372036854775808≤x) (x1:x≤9223372036854775807) (w:World) :
  Calls Tryz.prog 137 #[.int .i64 x] w fun e w'=>e=.returned (.bool (fitb x))∧w=w':=by
 by_cases c:-288230376151711744≤x
 ·by_cases d:x≤288230376151711744
  ·have e:=Lib.hid (fitb_yes ⟨c,d⟩)
   go_enter Tryz.func137,Tryz.ntmps137
   go_wp2
   go_ret
   exact ⟨by rw [e.out]; rfl,rfl⟩
  ·have e:=Lib.hid (fitb_no (x:=x) (by omega))
   go_enter Tryz.func137,Tryz.ntmps137
   go_wp2
   go_ret
   exact ⟨by rw [e.out]; rfl,rfl⟩
 ·have e:=Lib.hid (fitb_no (x:=x) (by omega))
  go_enter Tryz.func137,Tryz.ntmps137
  go_wp2
  go_ret
  exact ⟨by rw [e.out]; rfl,rfl⟩
end Go.Proofs.YtmcchknilnejgaaGreatDoor
namespace Go.Proofs.YtmcchknilnejgaaGreatDoor
open Go.RowKit Go.Shelf
theorem clamp_ref (x m:Int) (_x0:-9223372036854775808≤x) (_x1:x≤9223372036854775807) (m0:-9223372036854775808≤m) (m1:m≤9223372036854775807) (w:World) :
  Calls Tryz.prog 65 #[.int .i64 x,.int .i64 m] w fun e w'=>e=.returned (.int .i64 (clz x m))∧w=w':=by
 by_cases c:m<0
 ·have E:=Lib.hid (show clz x m=0 from if_pos c)
  go_enter Tryz.func65,Tryz.ntmps65
  go_wp2
  go_ret
  exact ⟨by rw [E.out]; rfl,rfl⟩
 ·have n1:wrap64 (-m)=-m:=by unfold wrap64; omega
  by_cases d:x < -m
  ·have E:=Lib.hid (show clz x m=-m by unfold clz; rw [if_neg c,if_pos d])
   have d2:¬ m<x:=by omega
   go_enter Tryz.func65,Tryz.ntmps65
   go_wp2_with (simp only [n1])
   go_ret
   exact ⟨by rw [E.out]; simp,rfl⟩
  ·by_cases d2:m<x
   ·have E:=Lib.hid (show clz x m=m by unfold clz; rw [if_neg c,if_neg d,if_pos d2])
    go_enter Tryz.func65,Tryz.ntmps65
    go_wp2_with (simp only [n1])
    go_ret
    exact ⟨by rw [E.out]; rfl,rfl⟩
   ·have E:=Lib.hid (show clz x m=x by unfold clz; rw [if_neg c,if_neg d,if_neg d2])
    go_enter Tryz.func65,Tryz.ntmps65
    go_wp2_with (simp only [n1])
    go_ret
    exact ⟨by rw [E.out]; rfl,rfl⟩
end Go.Proofs.YtmcchknilnejgaaGreatDoor
namespace Go.Proofs.YtmcchknilnejgaaGreatDoor
open Go.RowKit Go.Shelf
theorem place_ok (i j:Int) (k:Nat) (h:At9 i j k) (w:World) :
  Calls Tryz.prog 63 #[.int .i64 i,.int .i64 j] w (RetV (.int .i64 k) w):=by
 rcases h with ⟨rfl,rfl,rfl⟩ | ⟨rfl,rfl,rfl⟩ | ⟨rfl,rfl,rfl⟩ | ⟨rfl,rfl,rfl⟩ | ⟨rfl,rfl,rfl⟩ | ⟨rfl,rfl,rfl⟩ | ⟨rfl,rfl,rfl⟩ | ⟨rfl,rfl,rfl⟩ | ⟨rfl,rfl,rfl⟩
 all_goals
  go_enter Tryz.func63,Tryz.ntmps63
  go_wp2
  refine wp_loop_rounds 4 ?_
  repeat (rw [rounds_succ]; go_wp2)
  go_ret
  exact ⟨rfl,Below.refl _ _⟩
end Go.Proofs.YtmcchknilnejgaaGreatDoor
namespace Go.Proofs.YtmcchknilnejgaaGreatDoor
open Go.RowKit Go.Shelf Go.Joins
theorem lat_yes {p:Int} {k:Nat} (h:p≤tb (k+1)):lat p (k+1)=k+1:=if_pos h
theorem lat_no {p:Int} {k:Nat} (h:¬ p≤tb (k+1)):lat p (k+1)=lat p k:=if_neg h
end Go.Proofs.YtmcchknilnejgaaGreatDoor
namespace Go.Proofs.YtmcchknilnejgaaGreatDoor
theorem root_ends {z l h:Int} (l0:0≤l) (h0:0≤h) (hl:l*l≤z) (hh:z<h*h) (e:h≤l+1):IsRoot z l:=by
 have h1:=of_sq_lt h0 (Int.lt_of_le_of_lt hl hh)
 obtain rfl:h=l+1:=by omega
 exact ⟨l0,hl,hh⟩
theorem half_between {l h:Int} (d:1<h - l):l<(l+h) / 2∧(l+h) / 2<h:=by omega
end Go.Proofs.YtmcchknilnejgaaGreatDoor
namespace Go.Proofs.YtmcchknilnejgaaGreatDoor
open Go.RowKit Go.Shelf Go.Joins
theorem rmay_any (f0 f1 f2 c0 c1 c2:Int) (h0:I64 c0) (h1:I64 c1) (h2:I64 c2) (w:World) :
  Calls Tryz.prog 62 #[tv f0 f1 f2,tv c0 c1 c2] w (RetV (.bool (mayb f0 f1 f2 c0 c1 c2)) w):=by
 have B:Below w.heap.size w ((w.alloc (Obj.cells #[.int .i64 f0,.int .i64 f1,.int .i64 f2] 23)).alloc (Obj.cells #[.int .i64 c0,.int .i64 c1,.int .i64 c2] 23)):=b_alloc (b_alloc (Below.refl _ _))
 obtain ⟨u0,t0⟩:=h0
 obtain ⟨u1,t1⟩:=h1
 obtain ⟨u2,t2⟩:=h2
 go_enter Tryz.func62,Tryz.ntmps62
 have kf:TC ((w.alloc (Obj.cells #[.int .i64 f0,.int .i64 f1,.int .i64 f2] 23)).alloc (Obj.cells #[.int .i64 c0,.int .i64 c1,.int .i64 c2] 23)) w.heap.size f0 f1 f2:=tc_alloc (tc_new rfl)
 have kc:TC ((w.alloc (Obj.cells #[.int .i64 f0,.int .i64 f1,.int .i64 f2] 23)).alloc (Obj.cells #[.int .i64 c0,.int .i64 c1,.int .i64 c2] 23)) (w.heap.size+1) c0 c1 c2:=tc_new (by simp)
 go_wp2
 generalize ((w.alloc (Obj.cells #[.int .i64 f0,.int .i64 f1,.int .i64 f2] 23)).alloc (Obj.cells #[.int .i64 c0,.int .i64 c1,.int .i64 c2] 23))=y0 at *
 refine wp_loop_rounds 4 ?_
 rw [rounds_succ]
 by_cases n0:f0<0
 ·have N0:=Lib.hid n0
  replace n0:=decide_eq_true n0
  go_wp2
  go_quiet (fail)
  replace B:=b_trans B (below_draws _ _ nq)
  replace kf:=tc_keep (below_draws _ _ nq) kf
  replace kc:=tc_keep (below_draws _ _ nq) kc
  generalize y0.drewN nq=y1 at *
  go_wp2
  go_ret
  exact ⟨by rw [mayb_no (fun h=>by have:=h.1; have:=N0.out; omega)]; rfl,B⟩
 have N0:=Lib.hid n0
 replace n0:=decide_eq_false n0
 by_cases m0:c0<f0
 ·have M0:=Lib.hid m0
  replace m0:=decide_eq_true m0
  go_wp2
  go_quiet (fail)
  replace B:=b_trans B (below_draws _ _ nq)
  replace kf:=tc_keep (below_draws _ _ nq) kf
  replace kc:=tc_keep (below_draws _ _ nq) kc
  generalize y0.drewN nq=y1 at *
  go_wp2
  go_ret
  exact ⟨by rw [mayb_no (fun h=>by have:=h.1; have:=M0.out; omega)]; rfl,B⟩
 have M0:=Lib.hid m0
 replace m0:=decide_eq_false m0
 by_cases e0:FitP c0
 rotate_left
 ·go_wp2
  have cF:∀ w,Calls Tryz.prog 137 #[.int .i64 c0] w fun x_ w_=>x_=.returned (.bool false)∧w=w_:=fun w=>by rw [← fitb_no e0]; exact fits_ref c0 u0 t0 w
  go_quiet ((go_at_call 137; exact Calls.quiet_of_same ((cF _).mono fun _ _ h=>⟨h.1,h.2.symm⟩)))
  clear cF
  replace B:=b_trans B (below_draws _ _ nq)
  replace kf:=tc_keep (below_draws _ _ nq) kf
  replace kc:=tc_keep (below_draws _ _ nq) kc
  generalize y0.drewN nq=y1 at *
  go_wp2
  go_ret
  exact ⟨by rw [mayb_no (fun h=>e0 ⟨by have:=h.1; omega,(h.1).2.2⟩)]; rfl,B⟩
 have E0:=Lib.hid e0
 go_wp2
 have cF:∀ w,Calls Tryz.prog 137 #[.int .i64 c0] w fun x_ w_=>x_=.returned (.bool true)∧w=w_:=fun w=>by rw [← fitb_yes e0]; exact fits_ref c0 u0 t0 w
 go_quiet ((go_at_call 137; exact Calls.quiet_of_same ((cF _).mono fun _ _ h=>⟨h.1,h.2.symm⟩)))
 clear cF
 replace B:=b_trans B (below_draws _ _ nq)
 replace kf:=tc_keep (below_draws _ _ nq) kf
 replace kc:=tc_keep (below_draws _ _ nq) kc
 generalize y0.drewN nq=y1 at *
 go_wp2
 clear e0
 rw [rounds_succ]
 by_cases n1:f1<0
 ·have N1:=Lib.hid n1
  replace n1:=decide_eq_true n1
  go_wp2
  go_quiet (fail)
  replace B:=b_trans B (below_draws _ _ nq)
  replace kf:=tc_keep (below_draws _ _ nq) kf
  replace kc:=tc_keep (below_draws _ _ nq) kc
  generalize y1.drewN nq=y2 at *
  go_wp2
  go_ret
  exact ⟨by rw [mayb_no (fun h=>by have:=h.2.1; have:=N1.out; omega)]; rfl,B⟩
 have N1:=Lib.hid n1
 replace n1:=decide_eq_false n1
 by_cases m1:c1<f1
 ·have M1:=Lib.hid m1
  replace m1:=decide_eq_true m1
  go_wp2
  go_quiet (fail)
  replace B:=b_trans B (below_draws _ _ nq)
  replace kf:=tc_keep (below_draws _ _ nq) kf
  replace kc:=tc_keep (below_draws _ _ nq) kc
  generalize y1.drewN nq=y2 at *
  go_wp2
  go_ret
  exact ⟨by rw [mayb_no (fun h=>by have:=h.2.1; have:=M1.out; omega)]; rfl,B⟩
 have M1:=Lib.hid m1
 replace m1:=decide_eq_false m1
 by_cases e1:FitP c1
 rotate_left
 ·go_wp2
  have cF:∀ w,Calls Tryz.prog 137 #[.int .i64 c1] w fun x_ w_=>x_=.returned (.bool false)∧w=w_:=fun w=>by rw [← fitb_no e1]; exact fits_ref c1 u1 t1 w
  go_quiet ((go_at_call 137; exact Calls.quiet_of_same ((cF _).mono fun _ _ h=>⟨h.1,h.2.symm⟩)))
  clear cF
  replace B:=b_trans B (below_draws _ _ nq)
  replace kf:=tc_keep (below_draws _ _ nq) kf
  replace kc:=tc_keep (below_draws _ _ nq) kc
  generalize y1.drewN nq=y2 at *
  go_wp2
  go_ret
  exact ⟨by rw [mayb_no (fun h=>e1 ⟨by have:=h.2.1; omega,(h.2.1).2.2⟩)]; rfl,B⟩
 have E1:=Lib.hid e1
 go_wp2
 have cF:∀ w,Calls Tryz.prog 137 #[.int .i64 c1] w fun x_ w_=>x_=.returned (.bool true)∧w=w_:=fun w=>by rw [← fitb_yes e1]; exact fits_ref c1 u1 t1 w
 go_quiet ((go_at_call 137; exact Calls.quiet_of_same ((cF _).mono fun _ _ h=>⟨h.1,h.2.symm⟩)))
 clear cF
 replace B:=b_trans B (below_draws _ _ nq)
 replace kf:=tc_keep (below_draws _ _ nq) kf
 replace kc:=tc_keep (below_draws _ _ nq) kc
 generalize y1.drewN nq=y2 at *
 go_wp2
 clear e1
 rw [rounds_succ]
 by_cases n2:f2<0
 ·have N2:=Lib.hid n2
  replace n2:=decide_eq_true n2
  go_wp2
  go_quiet (fail)
  replace B:=b_trans B (below_draws _ _ nq)
  replace kf:=tc_keep (below_draws _ _ nq) kf
  replace kc:=tc_keep (below_draws _ _ nq) kc
  generalize y2.drewN nq=y3 at *
  go_wp2
  go_ret
  exact ⟨by rw [mayb_no (fun h=>by have:=h.2.2; have:=N2.out; omega)]; rfl,B⟩
 have N2:=Lib.hid n2
 replace n2:=decide_eq_false n2
 by_cases m2:c2<f2
 ·have M2:=Lib.hid m2
  replace m2:=decide_eq_true m2
  go_wp2
  go_quiet (fail)
  replace B:=b_trans B (below_draws _ _ nq)
  replace kf:=tc_keep (below_draws _ _ nq) kf
  replace kc:=tc_keep (below_draws _ _ nq) kc
  generalize y2.drewN nq=y3 at *
  go_wp2
  go_ret
  exact ⟨by rw [mayb_no (fun h=>by have:=h.2.2; have:=M2.out; omega)]; rfl,B⟩
 have M2:=Lib.hid m2
 replace m2:=decide_eq_false m2
 by_cases e2:FitP c2
 rotate_left
 ·go_wp2
  have cF:∀ w,Calls Tryz.prog 137 #[.int .i64 c2] w fun x_ w_=>x_=.returned (.bool false)∧w=w_:=fun w=>by rw [← fitb_no e2]; exact fits_ref c2 u2 t2 w
  go_quiet ((go_at_call 137; exact Calls.quiet_of_same ((cF _).mono fun _ _ h=>⟨h.1,h.2.symm⟩)))
  clear cF
  replace B:=b_trans B (below_draws _ _ nq)
  replace kf:=tc_keep (below_draws _ _ nq) kf
  replace kc:=tc_keep (below_draws _ _ nq) kc
  generalize y2.drewN nq=y3 at *
  go_wp2
  go_ret
  exact ⟨by rw [mayb_no (fun h=>e2 ⟨by have:=h.2.2; omega,(h.2.2).2.2⟩)]; rfl,B⟩
 have E2:=Lib.hid e2
 go_wp2
 have cF:∀ w,Calls Tryz.prog 137 #[.int .i64 c2] w fun x_ w_=>x_=.returned (.bool true)∧w=w_:=fun w=>by rw [← fitb_yes e2]; exact fits_ref c2 u2 t2 w
 go_quiet ((go_at_call 137; exact Calls.quiet_of_same ((cF _).mono fun _ _ h=>⟨h.1,h.2.symm⟩)))
 clear cF
 replace B:=b_trans B (below_draws _ _ nq)
 replace kf:=tc_keep (below_draws _ _ nq) kf
 replace kc:=tc_keep (below_draws _ _ nq) kc
 generalize y2.drewN nq=y3 at *
 go_wp2
 clear e2
 rw [rounds_succ]
 go_wp2
 go_ret
 exact ⟨by rw [mayb_yes (by have:=N0.out; have:=N1.out; have:=N2.out; have:=M0.out; have:=M1.out; have:=M2.out; exact ⟨⟨by omega,by omega,E0.out.2⟩,⟨by omega,by omega,E1.out.2⟩,⟨by omega,by omega,E2.out.2⟩⟩)]; rfl,B⟩
end Go.Proofs.YtmcchknilnejgaaGreatDoor
namespace Go.Proofs.YtmcchknilnejgaaGreatDoor
open Go.RowKit Go.Shelf
theorem evn_err (A:Int) {B:Int} (hB:0<B):-B≤2*(B*evn A B - A)∧2*(B*evn A B - A)≤B:=by
 have e:=Int.mul_ediv_add_emod A B
 have r0:=Int.emod_nonneg A (show B≠0 by omega)
 have r1:=Int.emod_lt_of_pos A hB
 unfold evn near
 split
 ·rw [Int.mul_add,Int.mul_one]
  omega
 ·omega
end Go.Proofs.YtmcchknilnejgaaGreatDoor

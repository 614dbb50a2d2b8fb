import Derived.Deep.LoopGhost
import Derived.Test.YthnofhjgfhapiaaGreatDoorWag
import Derived.Test.YthnofhjgfhapiaaGreatDoorWae
import Derived.Test.YthnofhjgfhapiaaGreatDoorWaa
set_option maxHeartbeats 2000000
set_option maxRecDepth 10000
namespace Go.Proofs.YthnofhjgfhapiaaGreatDoor
open Go.RowKit Go.Shelf Go.Joins
theorem tc_regrown {w:World} {b:Nat} {x y z:Int} (c:TC w b x y z):∀ d os,TC (Sort.grow (redrawn w d) os) b x y z:=fun d os=>tc_keep (below_regrown w d os) c
theorem between_any (v0 v1 v2 l0 l1 l2 h0 h1 h2:Int) (w:World) :
  Calls Tryz.prog 45 #[tv v0 v1 v2,tv l0 l1 l2,tv h0 h1 h2] w (RetV (.bool (b3 v0 v1 v2 l0 l1 l2 h0 h1 h2)) w):=by
 have E:Below w.heap.size w (((w.alloc (Obj.cells #[.int .i64 v0,.int .i64 v1,.int .i64 v2] 25)).alloc (Obj.cells #[.int .i64 l0,.int .i64 l1,.int .i64 l2] 25)).alloc (Obj.cells #[.int .i64 h0,.int .i64 h1,.int .i64 h2] 25)):=b_alloc (b_alloc (b_alloc (Below.refl _ _)))
 have kl:TC (((w.alloc (Obj.cells #[.int .i64 v0,.int .i64 v1,.int .i64 v2] 25)).alloc (Obj.cells #[.int .i64 l0,.int .i64 l1,.int .i64 l2] 25)).alloc (Obj.cells #[.int .i64 h0,.int .i64 h1,.int .i64 h2] 25)) (w.heap.size+1) l0 l1 l2:=tc_alloc (tc_new (by simp))
 have kh:TC (((w.alloc (Obj.cells #[.int .i64 v0,.int .i64 v1,.int .i64 v2] 25)).alloc (Obj.cells #[.int .i64 l0,.int .i64 l1,.int .i64 l2] 25)).alloc (Obj.cells #[.int .i64 h0,.int .i64 h1,.int .i64 h2] 25)) (w.heap.size+1+1) h0 h1 h2:=tc_new (by simp)
 obtain ⟨i0,i1,i2⟩:=ix_vec v0 v1 v2
 go_enter Tryz.func45,Tryz.ntmps45
 go_wp2
 generalize (((w.alloc (Obj.cells #[.int .i64 v0,.int .i64 v1,.int .i64 v2] 25)).alloc (Obj.cells #[.int .i64 l0,.int .i64 l1,.int .i64 l2] 25)).alloc (Obj.cells #[.int .i64 h0,.int .i64 h1,.int .i64 h2] 25))=y0 at *
 refine wp_loop_rounds 4 ?_
 rw [rounds_succ]
 go_wp2
 have c0:=retV_regrown (w:=y0) (conf_from v0 l0 h0)
 have gl:=tc_regrown kl
 have gh:=tc_regrown kh
 refine wp_region_quiet_below (by kernel_rfl) (by kernel_rfl) ?_
 repeat (quiet_step (exact c0 _ _))
 refine wpQuiet_nil ?_
 intro _ hw'
 obtain ⟨⟨dq,osq⟩,hw''⟩:=hw'
 subst hw''
 replace E:=b_trans E (below_regrown _ dq osq)
 replace kl:=gl dq osq
 replace kh:=gh dq osq
 clear gl gh c0
 generalize Sort.grow (redrawn y0 dq) osq=y1 at *
 cases q0:inb v0 l0 h0
 ·go_wp2
  go_ret
  exact ⟨by rw [show b3 v0 v1 v2 l0 l1 l2 h0 h1 h2=false from by unfold b3; rw [q0]; rfl]; rfl,E⟩
 ·go_wp2
  rw [rounds_succ]
  go_wp2
  have c1:=retV_regrown (w:=y1) (conf_from v1 l1 h1)
  have gl:=tc_regrown kl
  have gh:=tc_regrown kh
  refine wp_region_quiet_below (by kernel_rfl) (by kernel_rfl) ?_
  repeat (quiet_step (exact c1 _ _))
  refine wpQuiet_nil ?_
  intro _ hw'
  obtain ⟨⟨dq,osq⟩,hw''⟩:=hw'
  subst hw''
  replace E:=b_trans E (below_regrown _ dq osq)
  replace kl:=gl dq osq
  replace kh:=gh dq osq
  clear gl gh c1
  generalize Sort.grow (redrawn y1 dq) osq=y2 at *
  cases q1:inb v1 l1 h1
  ·go_wp2
   go_ret
   exact ⟨by rw [show b3 v0 v1 v2 l0 l1 l2 h0 h1 h2=false from by unfold b3; rw [q0,q1]; rfl]; rfl,E⟩
  ·go_wp2
   rw [rounds_succ]
   go_wp2
   have c2:=retV_regrown (w:=y2) (conf_from v2 l2 h2)
   have gl:=tc_regrown kl
   have gh:=tc_regrown kh
   refine wp_region_quiet_below (by kernel_rfl) (by kernel_rfl) ?_
   repeat (quiet_step (exact c2 _ _))
   refine wpQuiet_nil ?_
   intro _ hw'
   obtain ⟨⟨dq,osq⟩,hw''⟩:=hw'
   subst hw''
   replace E:=b_trans E (below_regrown _ dq osq)
   replace kl:=gl dq osq
   replace kh:=gh dq osq
   clear gl gh c2
   generalize Sort.grow (redrawn y2 dq) osq=y3 at *
   cases q2:inb v2 l2 h2
   ·go_wp2
    go_ret
    exact ⟨by rw [show b3 v0 v1 v2 l0 l1 l2 h0 h1 h2=false from by unfold b3; rw [q0,q1,q2]; rfl]; rfl,E⟩
   ·go_wp2
    rw [rounds_succ]
    go_wp2
    go_ret
    exact ⟨by rw [show b3 v0 v1 v2 l0 l1 l2 h0 h1 h2=true from by unfold b3; rw [q0,q1,q2]; rfl]; rfl,E⟩
theorem rule1_any (x:Nat→Int) (w:World):Calls Tryz.prog 44 #[cv x] w (RetV (.bool (k1 x)) w):=by
 have E:Below w.heap.size w (w.alloc (Obj.cells #[.int .i64 (x 0),.int .i64 (x 1),.int .i64 (x 2),.int .i64 (x 3),.int .i64 (x 4),.int .i64 (x 5),.int .i64 (x 6),.int .i64 (x 7),.int .i64 (x 8),.int .i64 (x 9),.int .i64 (x 10),.int .i64 (x 11),.int .i64 (x 12),.int .i64 (x 13),.int .i64 (x 14),.int .i64 (x 15),.int .i64 (x 16),.int .i64 (x 17),.int .i64 (x 18),.int .i64 (x 19),.int .i64 (x 20),.int .i64 (x 21),.int .i64 (x 22),.int .i64 (x 23),.int .i64 (x 24),.int .i64 (x 25),.int .i64 (x 26),.int .i64 (x 27),.int .i64 (x 28),.int .i64 (x 29),.int .i64 (x 30)] 27)):=b_alloc (Below.refl _ _)
 have K:CF (w.alloc (Obj.cells #[.int .i64 (x 0),.int .i64 (x 1),.int .i64 (x 2),.int .i64 (x 3),.int .i64 (x 4),.int .i64 (x 5),.int .i64 (x 6),.int .i64 (x 7),.int .i64 (x 8),.int .i64 (x 9),.int .i64 (x 10),.int .i64 (x 11),.int .i64 (x 12),.int .i64 (x 13),.int .i64 (x 14),.int .i64 (x 15),.int .i64 (x 16),.int .i64 (x 17),.int .i64 (x 18),.int .i64 (x 19),.int .i64 (x 20),.int .i64 (x 21),.int .i64 (x 22),.int .i64 (x 23),.int .i64 (x 24),.int .i64 (x 25),.int .i64 (x 26),.int .i64 (x 27),.int .i64 (x 28),.int .i64 (x 29),.int .i64 (x 30)] 27)) w.heap.size x:=cf_new rfl
 have g0:=K 0 (by decide)
 have g1:=K 1 (by decide)
 have g2:=K 2 (by decide)
 clear K
 go_enter Tryz.func44,Tryz.ntmps44
 go_wp2
 generalize (w.alloc (Obj.cells #[.int .i64 (x 0),.int .i64 (x 1),.int .i64 (x 2),.int .i64 (x 3),.int .i64 (x 4),.int .i64 (x 5),.int .i64 (x 6),.int .i64 (x 7),.int .i64 (x 8),.int .i64 (x 9),.int .i64 (x 10),.int .i64 (x 11),.int .i64 (x 12),.int .i64 (x 13),.int .i64 (x 14),.int .i64 (x 15),.int .i64 (x 16),.int .i64 (x 17),.int .i64 (x 18),.int .i64 (x 19),.int .i64 (x 20),.int .i64 (x 21),.int .i64 (x 22),.int .i64 (x 23),.int .i64 (x 24),.int .i64 (x 25),.int .i64 (x 26),.int .i64 (x 27),.int .i64 (x 28),.int .i64 (x 29),.int .i64 (x 30)] 27))=y0 at *
 have h0:=cell_regrown g0
 have h1:=cell_regrown g1
 have h2:=cell_regrown g2
 have c0:=retV_regrown (w:=y0) (same_any 0)
 have c1:=retV_regrown (w:=y0) (same_any 1125899906842624)
 have c2:=retV_regrown (w:=y0) (between_any (x 0) (x 1) (x 2) 0 0 0 1125899906842624 1125899906842624 1125899906842624)
 go_wp2
 refine wp_region_quiet_below (by kernel_rfl) (by kernel_rfl) ?_
 repeat (quiet_step (first | exact c0 _ _ | exact c1 _ _ | exact c2 _ _))
 refine wpQuiet_nil ?_
 intro _ hw'
 obtain ⟨⟨dq,osq⟩,hw''⟩:=hw'
 subst hw''
 replace E:=b_trans E (below_regrown _ dq osq)
 generalize Sort.grow (redrawn y0 dq) osq=y1 at *
 go_wp2
 go_ret
 exact ⟨rfl,E⟩
theorem rule2_any (x:Nat→Int) (w:World):Calls Tryz.prog 46 #[cv x] w (RetV (.bool (k2 x)) w):=by
 have E:Below w.heap.size w (w.alloc (Obj.cells #[.int .i64 (x 0),.int .i64 (x 1),.int .i64 (x 2),.int .i64 (x 3),.int .i64 (x 4),.int .i64 (x 5),.int .i64 (x 6),.int .i64 (x 7),.int .i64 (x 8),.int .i64 (x 9),.int .i64 (x 10),.int .i64 (x 11),.int .i64 (x 12),.int .i64 (x 13),.int .i64 (x 14),.int .i64 (x 15),.int .i64 (x 16),.int .i64 (x 17),.int .i64 (x 18),.int .i64 (x 19),.int .i64 (x 20),.int .i64 (x 21),.int .i64 (x 22),.int .i64 (x 23),.int .i64 (x 24),.int .i64 (x 25),.int .i64 (x 26),.int .i64 (x 27),.int .i64 (x 28),.int .i64 (x 29),.int .i64 (x 30)] 27)):=b_alloc (Below.refl _ _)
 have K:CF (w.alloc (Obj.cells #[.int .i64 (x 0),.int .i64 (x 1),.int .i64 (x 2),.int .i64 (x 3),.int .i64 (x 4),.int .i64 (x 5),.int .i64 (x 6),.int .i64 (x 7),.int .i64 (x 8),.int .i64 (x 9),.int .i64 (x 10),.int .i64 (x 11),.int .i64 (x 12),.int .i64 (x 13),.int .i64 (x 14),.int .i64 (x 15),.int .i64 (x 16),.int .i64 (x 17),.int .i64 (x 18),.int .i64 (x 19),.int .i64 (x 20),.int .i64 (x 21),.int .i64 (x 22),.int .i64 (x 23),.int .i64 (x 24),.int .i64 (x 25),.int .i64 (x 26),.int .i64 (x 27),.int .i64 (x 28),.int .i64 (x 29),.int .i64 (x 30)] 27)) w.heap.size x:=cf_new rfl
 have g0:=K 0 (by decide)
 have g1:=K 1 (by decide)
 have g2:=K 2 (by decide)
 have g3:=K 3 (by decide)
 have g4:=K 4 (by decide)
 have g5:=K 5 (by decide)
 clear K
 go_enter Tryz.func46,Tryz.ntmps46
 go_wp2
 generalize (w.alloc (Obj.cells #[.int .i64 (x 0),.int .i64 (x 1),.int .i64 (x 2),.int .i64 (x 3),.int .i64 (x 4),.int .i64 (x 5),.int .i64 (x 6),.int .i64 (x 7),.int .i64 (x 8),.int .i64 (x 9),.int .i64 (x 10),.int .i64 (x 11),.int .i64 (x 12),.int .i64 (x 13),.int .i64 (x 14),.int .i64 (x 15),.int .i64 (x 16),.int .i64 (x 17),.int .i64 (x 18),.int .i64 (x 19),.int .i64 (x 20),.int .i64 (x 21),.int .i64 (x 22),.int .i64 (x 23),.int .i64 (x 24),.int .i64 (x 25),.int .i64 (x 26),.int .i64 (x 27),.int .i64 (x 28),.int .i64 (x 29),.int .i64 (x 30)] 27))=y0 at *
 have h0:=cell_regrown g0
 have h1:=cell_regrown g1
 have h2:=cell_regrown g2
 have h3:=cell_regrown g3
 have h4:=cell_regrown g4
 have h5:=cell_regrown g5
 have c0:=retV_regrown (w:=y0) (same_any 1125899906842624)
 have c1:=retV_regrown (w:=y0) (between_any (x 3) (x 4) (x 5) (x 0) (x 1) (x 2) 1125899906842624 1125899906842624 1125899906842624)
 go_wp2
 refine wp_region_quiet_below (by kernel_rfl) (by kernel_rfl) ?_
 repeat (quiet_step (first | exact c0 _ _ | exact c1 _ _))
 refine wpQuiet_nil ?_
 intro _ hw'
 obtain ⟨⟨dq,osq⟩,hw''⟩:=hw'
 subst hw''
 replace E:=b_trans E (below_regrown _ dq osq)
 generalize Sort.grow (redrawn y0 dq) osq=y1 at *
 go_wp2
 go_ret
 exact ⟨rfl,E⟩
theorem rule3_any (x:Nat→Int) (w:World):Calls Tryz.prog 47 #[cv x] w (RetV (.bool (k3 x)) w):=by
 have E:Below w.heap.size w (w.alloc (Obj.cells #[.int .i64 (x 0),.int .i64 (x 1),.int .i64 (x 2),.int .i64 (x 3),.int .i64 (x 4),.int .i64 (x 5),.int .i64 (x 6),.int .i64 (x 7),.int .i64 (x 8),.int .i64 (x 9),.int .i64 (x 10),.int .i64 (x 11),.int .i64 (x 12),.int .i64 (x 13),.int .i64 (x 14),.int .i64 (x 15),.int .i64 (x 16),.int .i64 (x 17),.int .i64 (x 18),.int .i64 (x 19),.int .i64 (x 20),.int .i64 (x 21),.int .i64 (x 22),.int .i64 (x 23),.int .i64 (x 24),.int .i64 (x 25),.int .i64 (x 26),.int .i64 (x 27),.int .i64 (x 28),.int .i64 (x 29),.int .i64 (x 30)] 27)):=b_alloc (Below.refl _ _)
 have K:CF (w.alloc (Obj.cells #[.int .i64 (x 0),.int .i64 (x 1),.int .i64 (x 2),.int .i64 (x 3),.int .i64 (x 4),.int .i64 (x 5),.int .i64 (x 6),.int .i64 (x 7),.int .i64 (x 8),.int .i64 (x 9),.int .i64 (x 10),.int .i64 (x 11),.int .i64 (x 12),.int .i64 (x 13),.int .i64 (x 14),.int .i64 (x 15),.int .i64 (x 16),.int .i64 (x 17),.int .i64 (x 18),.int .i64 (x 19),.int .i64 (x 20),.int .i64 (x 21),.int .i64 (x 22),.int .i64 (x 23),.int .i64 (x 24),.int .i64 (x 25),.int .i64 (x 26),.int .i64 (x 27),.int .i64 (x 28),.int .i64 (x 29),.int .i64 (x 30)] 27)) w.heap.size x:=cf_new rfl
 have g6:=K 6 (by decide)
 clear K
 go_enter Tryz.func47,Tryz.ntmps47
 go_wp2_with fail
 generalize (w.alloc (Obj.cells #[.int .i64 (x 0),.int .i64 (x 1),.int .i64 (x 2),.int .i64 (x 3),.int .i64 (x 4),.int .i64 (x 5),.int .i64 (x 6),.int .i64 (x 7),.int .i64 (x 8),.int .i64 (x 9),.int .i64 (x 10),.int .i64 (x 11),.int .i64 (x 12),.int .i64 (x 13),.int .i64 (x 14),.int .i64 (x 15),.int .i64 (x 16),.int .i64 (x 17),.int .i64 (x 18),.int .i64 (x 19),.int .i64 (x 20),.int .i64 (x 21),.int .i64 (x 22),.int .i64 (x 23),.int .i64 (x 24),.int .i64 (x 25),.int .i64 (x 26),.int .i64 (x 27),.int .i64 (x 28),.int .i64 (x 29),.int .i64 (x 30)] 27))=y0 at *
 refine (conf_from _ _ _ _).mono ?_
 rintro e y_ ⟨rfl,hb⟩
 replace g6:=cell_keep hb g6
 replace E:=b_trans E hb
 clear hb
 go_wp2
 go_ret
 exact ⟨rfl,E⟩
theorem rule4_any (x:Nat→Int) (w:World):Calls Tryz.prog 49 #[cv x] w (RetV (.bool (k4 x)) w):=by
 have E:Below w.heap.size w (w.alloc (Obj.cells #[.int .i64 (x 0),.int .i64 (x 1),.int .i64 (x 2),.int .i64 (x 3),.int .i64 (x 4),.int .i64 (x 5),.int .i64 (x 6),.int .i64 (x 7),.int .i64 (x 8),.int .i64 (x 9),.int .i64 (x 10),.int .i64 (x 11),.int .i64 (x 12),.int .i64 (x 13),.int .i64 (x 14),.int .i64 (x 15),.int .i64 (x 16),.int .i64 (x 17),.int .i64 (x 18),.int .i64 (x 19),.int .i64 (x 20),.int .i64 (x 21),.int .i64 (x 22),.int .i64 (x 23),.int .i64 (x 24),.int .i64 (x 25),.int .i64 (x 26),.int .i64 (x 27),.int .i64 (x 28),.int .i64 (x 29),.int .i64 (x 30)] 27)):=b_alloc (Below.refl _ _)
 have K:CF (w.alloc (Obj.cells #[.int .i64 (x 0),.int .i64 (x 1),.int .i64 (x 2),.int .i64 (x 3),.int .i64 (x 4),.int .i64 (x 5),.int .i64 (x 6),.int .i64 (x 7),.int .i64 (x 8),.int .i64 (x 9),.int .i64 (x 10),.int .i64 (x 11),.int .i64 (x 12),.int .i64 (x 13),.int .i64 (x 14),.int .i64 (x 15),.int .i64 (x 16),.int .i64 (x 17),.int .i64 (x 18),.int .i64 (x 19),.int .i64 (x 20),.int .i64 (x 21),.int .i64 (x 22),.int .i64 (x 23),.int .i64 (x 24),.int .i64 (x 25),.int .i64 (x 26),.int .i64 (x 27),.int .i64 (x 28),.int .i64 (x 29),.int .i64 (x 30)] 27)) w.heap.size x:=cf_new rfl
 have g6:=K 6 (by decide)
 have g7:=K 7 (by decide)
 clear K
 go_enter Tryz.func49,Tryz.ntmps49
 go_wp2_with fail
 generalize (w.alloc (Obj.cells #[.int .i64 (x 0),.int .i64 (x 1),.int .i64 (x 2),.int .i64 (x 3),.int .i64 (x 4),.int .i64 (x 5),.int .i64 (x 6),.int .i64 (x 7),.int .i64 (x 8),.int .i64 (x 9),.int .i64 (x 10),.int .i64 (x 11),.int .i64 (x 12),.int .i64 (x 13),.int .i64 (x 14),.int .i64 (x 15),.int .i64 (x 16),.int .i64 (x 17),.int .i64 (x 18),.int .i64 (x 19),.int .i64 (x 20),.int .i64 (x 21),.int .i64 (x 22),.int .i64 (x 23),.int .i64 (x 24),.int .i64 (x 25),.int .i64 (x 26),.int .i64 (x 27),.int .i64 (x 28),.int .i64 (x 29),.int .i64 (x 30)] 27))=y0 at *
 refine (conf_from _ _ _ _).mono ?_
 rintro e y_ ⟨rfl,hb⟩
 replace g6:=cell_keep hb g6
 replace g7:=cell_keep hb g7
 replace E:=b_trans E hb
 clear hb
 go_wp2
 go_ret
 exact ⟨rfl,E⟩
theorem rule6_any (x:Nat→Int) (w:World):Calls Tryz.prog 52 #[cv x] w (RetV (.bool (k6 x)) w):=by
 have E:Below w.heap.size w (w.alloc (Obj.cells #[.int .i64 (x 0),.int .i64 (x 1),.int .i64 (x 2),.int .i64 (x 3),.int .i64 (x 4),.int .i64 (x 5),.int .i64 (x 6),.int .i64 (x 7),.int .i64 (x 8),.int .i64 (x 9),.int .i64 (x 10),.int .i64 (x 11),.int .i64 (x 12),.int .i64 (x 13),.int .i64 (x 14),.int .i64 (x 15),.int .i64 (x 16),.int .i64 (x 17),.int .i64 (x 18),.int .i64 (x 19),.int .i64 (x 20),.int .i64 (x 21),.int .i64 (x 22),.int .i64 (x 23),.int .i64 (x 24),.int .i64 (x 25),.int .i64 (x 26),.int .i64 (x 27),.int .i64 (x 28),.int .i64 (x 29),.int .i64 (x 30)] 27)):=b_alloc (Below.refl _ _)
 have K:CF (w.alloc (Obj.cells #[.int .i64 (x 0),.int .i64 (x 1),.int .i64 (x 2),.int .i64 (x 3),.int .i64 (x 4),.int .i64 (x 5),.int .i64 (x 6),.int .i64 (x 7),.int .i64 (x 8),.int .i64 (x 9),.int .i64 (x 10),.int .i64 (x 11),.int .i64 (x 12),.int .i64 (x 13),.int .i64 (x 14),.int .i64 (x 15),.int .i64 (x 16),.int .i64 (x 17),.int .i64 (x 18),.int .i64 (x 19),.int .i64 (x 20),.int .i64 (x 21),.int .i64 (x 22),.int .i64 (x 23),.int .i64 (x 24),.int .i64 (x 25),.int .i64 (x 26),.int .i64 (x 27),.int .i64 (x 28),.int .i64 (x 29),.int .i64 (x 30)] 27)) w.heap.size x:=cf_new rfl
 have g8:=K 8 (by decide)
 have g9:=K 9 (by decide)
 have g10:=K 10 (by decide)
 have g11:=K 11 (by decide)
 have g12:=K 12 (by decide)
 have g13:=K 13 (by decide)
 have g14:=K 14 (by decide)
 have g15:=K 15 (by decide)
 have g16:=K 16 (by decide)
 clear K
 go_enter Tryz.func52,Tryz.ntmps52
 go_wp2_with fail
 generalize (w.alloc (Obj.cells #[.int .i64 (x 0),.int .i64 (x 1),.int .i64 (x 2),.int .i64 (x 3),.int .i64 (x 4),.int .i64 (x 5),.int .i64 (x 6),.int .i64 (x 7),.int .i64 (x 8),.int .i64 (x 9),.int .i64 (x 10),.int .i64 (x 11),.int .i64 (x 12),.int .i64 (x 13),.int .i64 (x 14),.int .i64 (x 15),.int .i64 (x 16),.int .i64 (x 17),.int .i64 (x 18),.int .i64 (x 19),.int .i64 (x 20),.int .i64 (x 21),.int .i64 (x 22),.int .i64 (x 23),.int .i64 (x 24),.int .i64 (x 25),.int .i64 (x 26),.int .i64 (x 27),.int .i64 (x 28),.int .i64 (x 29),.int .i64 (x 30)] 27))=y0 at *
 refine (between_any _ _ _ _ _ _ _ _ _ _).mono ?_
 rintro e y_ ⟨rfl,hb⟩
 replace g8:=cell_keep hb g8
 replace g9:=cell_keep hb g9
 replace g10:=cell_keep hb g10
 replace g11:=cell_keep hb g11
 replace g12:=cell_keep hb g12
 replace g13:=cell_keep hb g13
 replace g14:=cell_keep hb g14
 replace g15:=cell_keep hb g15
 replace g16:=cell_keep hb g16
 replace E:=b_trans E hb
 clear hb
 go_wp2
 go_ret
 exact ⟨rfl,E⟩
theorem rule7_any (x:Nat→Int) (w:World):Calls Tryz.prog 53 #[cv x] w (RetV (.bool (k7 x)) w):=by
 have E:Below w.heap.size w (w.alloc (Obj.cells #[.int .i64 (x 0),.int .i64 (x 1),.int .i64 (x 2),.int .i64 (x 3),.int .i64 (x 4),.int .i64 (x 5),.int .i64 (x 6),.int .i64 (x 7),.int .i64 (x 8),.int .i64 (x 9),.int .i64 (x 10),.int .i64 (x 11),.int .i64 (x 12),.int .i64 (x 13),.int .i64 (x 14),.int .i64 (x 15),.int .i64 (x 16),.int .i64 (x 17),.int .i64 (x 18),.int .i64 (x 19),.int .i64 (x 20),.int .i64 (x 21),.int .i64 (x 22),.int .i64 (x 23),.int .i64 (x 24),.int .i64 (x 25),.int .i64 (x 26),.int .i64 (x 27),.int .i64 (x 28),.int .i64 (x 29),.int .i64 (x 30)] 27)):=b_alloc (Below.refl _ _)
 have K:CF (w.alloc (Obj.cells #[.int .i64 (x 0),.int .i64 (x 1),.int .i64 (x 2),.int .i64 (x 3),.int .i64 (x 4),.int .i64 (x 5),.int .i64 (x 6),.int .i64 (x 7),.int .i64 (x 8),.int .i64 (x 9),.int .i64 (x 10),.int .i64 (x 11),.int .i64 (x 12),.int .i64 (x 13),.int .i64 (x 14),.int .i64 (x 15),.int .i64 (x 16),.int .i64 (x 17),.int .i64 (x 18),.int .i64 (x 19),.int .i64 (x 20),.int .i64 (x 21),.int .i64 (x 22),.int .i64 (x 23),.int .i64 (x 24),.int .i64 (x 25),.int .i64 (x 26),.int .i64 (x 27),.int .i64 (x 28),.int .i64 (x 29),.int .i64 (x 30)] 27)) w.heap.size x:=cf_new rfl
 have g17:=K 17 (by decide)
 have g18:=K 18 (by decide)
 have g19:=K 19 (by decide)
 clear K
 go_enter Tryz.func53,Tryz.ntmps53
 go_wp2
 generalize (w.alloc (Obj.cells #[.int .i64 (x 0),.int .i64 (x 1),.int .i64 (x 2),.int .i64 (x 3),.int .i64 (x 4),.int .i64 (x 5),.int .i64 (x 6),.int .i64 (x 7),.int .i64 (x 8),.int .i64 (x 9),.int .i64 (x 10),.int .i64 (x 11),.int .i64 (x 12),.int .i64 (x 13),.int .i64 (x 14),.int .i64 (x 15),.int .i64 (x 16),.int .i64 (x 17),.int .i64 (x 18),.int .i64 (x 19),.int .i64 (x 20),.int .i64 (x 21),.int .i64 (x 22),.int .i64 (x 23),.int .i64 (x 24),.int .i64 (x 25),.int .i64 (x 26),.int .i64 (x 27),.int .i64 (x 28),.int .i64 (x 29),.int .i64 (x 30)] 27))=y0 at *
 have h17:=cell_regrown g17
 have h18:=cell_regrown g18
 have h19:=cell_regrown g19
 have c0:=retV_regrown (w:=y0) (same_any 72057594037927936)
 have c1:=retV_regrown (w:=y0) (between_any (x 17) (x 18) (x 19) 18014398509481984 0 0 72057594037927936 72057594037927936 72057594037927936)
 go_wp2
 refine wp_region_quiet_below (by kernel_rfl) (by kernel_rfl) ?_
 repeat (quiet_step (first | exact c0 _ _ | exact c1 _ _))
 refine wpQuiet_nil ?_
 intro _ hw'
 obtain ⟨⟨dq,osq⟩,hw''⟩:=hw'
 subst hw''
 replace E:=b_trans E (below_regrown _ dq osq)
 generalize Sort.grow (redrawn y0 dq) osq=y1 at *
 go_wp2
 go_ret
 exact ⟨rfl,E⟩
theorem rule8_any (x:Nat→Int) (w:World):Calls Tryz.prog 54 #[cv x] w (RetV (.bool (k8 x)) w):=by
 have E:Below w.heap.size w (w.alloc (Obj.cells #[.int .i64 (x 0),.int .i64 (x 1),.int .i64 (x 2),.int .i64 (x 3),.int .i64 (x 4),.int .i64 (x 5),.int .i64 (x 6),.int .i64 (x 7),.int .i64 (x 8),.int .i64 (x 9),.int .i64 (x 10),.int .i64 (x 11),.int .i64 (x 12),.int .i64 (x 13),.int .i64 (x 14),.int .i64 (x 15),.int .i64 (x 16),.int .i64 (x 17),.int .i64 (x 18),.int .i64 (x 19),.int .i64 (x 20),.int .i64 (x 21),.int .i64 (x 22),.int .i64 (x 23),.int .i64 (x 24),.int .i64 (x 25),.int .i64 (x 26),.int .i64 (x 27),.int .i64 (x 28),.int .i64 (x 29),.int .i64 (x 30)] 27)):=b_alloc (Below.refl _ _)
 have K:CF (w.alloc (Obj.cells #[.int .i64 (x 0),.int .i64 (x 1),.int .i64 (x 2),.int .i64 (x 3),.int .i64 (x 4),.int .i64 (x 5),.int .i64 (x 6),.int .i64 (x 7),.int .i64 (x 8),.int .i64 (x 9),.int .i64 (x 10),.int .i64 (x 11),.int .i64 (x 12),.int .i64 (x 13),.int .i64 (x 14),.int .i64 (x 15),.int .i64 (x 16),.int .i64 (x 17),.int .i64 (x 18),.int .i64 (x 19),.int .i64 (x 20),.int .i64 (x 21),.int .i64 (x 22),.int .i64 (x 23),.int .i64 (x 24),.int .i64 (x 25),.int .i64 (x 26),.int .i64 (x 27),.int .i64 (x 28),.int .i64 (x 29),.int .i64 (x 30)] 27)) w.heap.size x:=cf_new rfl
 have g20:=K 20 (by decide)
 clear K
 go_enter Tryz.func54,Tryz.ntmps54
 go_wp2_with fail
 generalize (w.alloc (Obj.cells #[.int .i64 (x 0),.int .i64 (x 1),.int .i64 (x 2),.int .i64 (x 3),.int .i64 (x 4),.int .i64 (x 5),.int .i64 (x 6),.int .i64 (x 7),.int .i64 (x 8),.int .i64 (x 9),.int .i64 (x 10),.int .i64 (x 11),.int .i64 (x 12),.int .i64 (x 13),.int .i64 (x 14),.int .i64 (x 15),.int .i64 (x 16),.int .i64 (x 17),.int .i64 (x 18),.int .i64 (x 19),.int .i64 (x 20),.int .i64 (x 21),.int .i64 (x 22),.int .i64 (x 23),.int .i64 (x 24),.int .i64 (x 25),.int .i64 (x 26),.int .i64 (x 27),.int .i64 (x 28),.int .i64 (x 29),.int .i64 (x 30)] 27))=y0 at *
 refine (conf_from _ _ _ _).mono ?_
 rintro e y_ ⟨rfl,hb⟩
 replace g20:=cell_keep hb g20
 replace E:=b_trans E hb
 clear hb
 go_wp2
 go_ret
 exact ⟨rfl,E⟩
theorem rule9_any (x:Nat→Int) (w:World):Calls Tryz.prog 55 #[cv x] w (RetV (.bool (k9 x)) w):=by
 have E:Below w.heap.size w (w.alloc (Obj.cells #[.int .i64 (x 0),.int .i64 (x 1),.int .i64 (x 2),.int .i64 (x 3),.int .i64 (x 4),.int .i64 (x 5),.int .i64 (x 6),.int .i64 (x 7),.int .i64 (x 8),.int .i64 (x 9),.int .i64 (x 10),.int .i64 (x 11),.int .i64 (x 12),.int .i64 (x 13),.int .i64 (x 14),.int .i64 (x 15),.int .i64 (x 16),.int .i64 (x 17),.int .i64 (x 18),.int .i64 (x 19),.int .i64 (x 20),.int .i64 (x 21),.int .i64 (x 22),.int .i64 (x 23),.int .i64 (x 24),.int .i64 (x 25),.int .i64 (x 26),.int .i64 (x 27),.int .i64 (x 28),.int .i64 (x 29),.int .i64 (x 30)] 27)):=b_alloc (Below.refl _ _)
 have K:CF (w.alloc (Obj.cells #[.int .i64 (x 0),.int .i64 (x 1),.int .i64 (x 2),.int .i64 (x 3),.int .i64 (x 4),.int .i64 (x 5),.int .i64 (x 6),.int .i64 (x 7),.int .i64 (x 8),.int .i64 (x 9),.int .i64 (x 10),.int .i64 (x 11),.int .i64 (x 12),.int .i64 (x 13),.int .i64 (x 14),.int .i64 (x 15),.int .i64 (x 16),.int .i64 (x 17),.int .i64 (x 18),.int .i64 (x 19),.int .i64 (x 20),.int .i64 (x 21),.int .i64 (x 22),.int .i64 (x 23),.int .i64 (x 24),.int .i64 (x 25),.int .i64 (x 26),.int .i64 (x 27),.int .i64 (x 28),.int .i64 (x 29),.int .i64 (x 30)] 27)) w.heap.size x:=cf_new rfl
 have g21:=K 21 (by decide)
 have g22:=K 22 (by decide)
 have g23:=K 23 (by decide)
 clear K
 go_enter Tryz.func55,Tryz.ntmps55
 go_wp2_with fail
 generalize (w.alloc (Obj.cells #[.int .i64 (x 0),.int .i64 (x 1),.int .i64 (x 2),.int .i64 (x 3),.int .i64 (x 4),.int .i64 (x 5),.int .i64 (x 6),.int .i64 (x 7),.int .i64 (x 8),.int .i64 (x 9),.int .i64 (x 10),.int .i64 (x 11),.int .i64 (x 12),.int .i64 (x 13),.int .i64 (x 14),.int .i64 (x 15),.int .i64 (x 16),.int .i64 (x 17),.int .i64 (x 18),.int .i64 (x 19),.int .i64 (x 20),.int .i64 (x 21),.int .i64 (x 22),.int .i64 (x 23),.int .i64 (x 24),.int .i64 (x 25),.int .i64 (x 26),.int .i64 (x 27),.int .i64 (x 28),.int .i64 (x 29),.int .i64 (x 30)] 27))=y0 at *
 refine (between_any _ _ _ _ _ _ _ _ _ _).mono ?_
 rintro e y_ ⟨rfl,hb⟩
 replace g21:=cell_keep hb g21
 replace g22:=cell_keep hb g22
 replace g23:=cell_keep hb g23
 replace E:=b_trans E hb
 clear hb
 go_wp2
 go_ret
 exact ⟨rfl,E⟩
theorem rule10_any (x:Nat→Int) (w:World):Calls Tryz.prog 56 #[cv x] w (RetV (.bool (k10 x)) w):=by
 have E:Below w.heap.size w (w.alloc (Obj.cells #[.int .i64 (x 0),.int .i64 (x 1),.int .i64 (x 2),.int .i64 (x 3),.int .i64 (x 4),.int .i64 (x 5),.int .i64 (x 6),.int .i64 (x 7),.int .i64 (x 8),.int .i64 (x 9),.int .i64 (x 10),.int .i64 (x 11),.int .i64 (x 12),.int .i64 (x 13),.int .i64 (x 14),.int .i64 (x 15),.int .i64 (x 16),.int .i64 (x 17),.int .i64 (x 18),.int .i64 (x 19),.int .i64 (x 20),.int .i64 (x 21),.int .i64 (x 22),.int .i64 (x 23),.int .i64 (x 24),.int .i64 (x 25),.int .i64 (x 26),.int .i64 (x 27),.int .i64 (x 28),.int .i64 (x 29),.int .i64 (x 30)] 27)):=b_alloc (Below.refl _ _)
 have K:CF (w.alloc (Obj.cells #[.int .i64 (x 0),.int .i64 (x 1),.int .i64 (x 2),.int .i64 (x 3),.int .i64 (x 4),.int .i64 (x 5),.int .i64 (x 6),.int .i64 (x 7),.int .i64 (x 8),.int .i64 (x 9),.int .i64 (x 10),.int .i64 (x 11),.int .i64 (x 12),.int .i64 (x 13),.int .i64 (x 14),.int .i64 (x 15),.int .i64 (x 16),.int .i64 (x 17),.int .i64 (x 18),.int .i64 (x 19),.int .i64 (x 20),.int .i64 (x 21),.int .i64 (x 22),.int .i64 (x 23),.int .i64 (x 24),.int .i64 (x 25),.int .i64 (x 26),.int .i64 (x 27),.int .i64 (x 28),.int .i64 (x 29),.int .i64 (x 30)] 27)) w.heap.size x:=cf_new rfl
 have g24:=K 24 (by decide)
 clear K
 go_enter Tryz.func56,Tryz.ntmps56
 go_wp2_with fail
 generalize (w.alloc (Obj.cells #[.int .i64 (x 0),.int .i64 (x 1),.int .i64 (x 2),.int .i64 (x 3),.int .i64 (x 4),.int .i64 (x 5),.int .i64 (x 6),.int .i64 (x 7),.int .i64 (x 8),.int .i64 (x 9),.int .i64 (x 10),.int .i64 (x 11),.int .i64 (x 12),.int .i64 (x 13),.int .i64 (x 14),.int .i64 (x 15),.int .i64 (x 16),.int .i64 (x 17),.int .i64 (x 18),.int .i64 (x 19),.int .i64 (x 20),.int .i64 (x 21),.int .i64 (x 22),.int .i64 (x 23),.int .i64 (x 24),.int .i64 (x 25),.int .i64 (x 26),.int .i64 (x 27),.int .i64 (x 28),.int .i64 (x 29),.int .i64 (x 30)] 27))=y0 at *
 refine (conf_from _ _ _ _).mono ?_
 rintro e y_ ⟨rfl,hb⟩
 replace g24:=cell_keep hb g24
 replace E:=b_trans E hb
 clear hb
 go_wp2
 go_ret
 exact ⟨rfl,E⟩
theorem rule12_any (x:Nat→Int) (w:World):Calls Tryz.prog 59 #[cv x] w (RetV (.bool (k12 x)) w):=by
 have E:Below w.heap.size w (w.alloc (Obj.cells #[.int .i64 (x 0),.int .i64 (x 1),.int .i64 (x 2),.int .i64 (x 3),.int .i64 (x 4),.int .i64 (x 5),.int .i64 (x 6),.int .i64 (x 7),.int .i64 (x 8),.int .i64 (x 9),.int .i64 (x 10),.int .i64 (x 11),.int .i64 (x 12),.int .i64 (x 13),.int .i64 (x 14),.int .i64 (x 15),.int .i64 (x 16),.int .i64 (x 17),.int .i64 (x 18),.int .i64 (x 19),.int .i64 (x 20),.int .i64 (x 21),.int .i64 (x 22),.int .i64 (x 23),.int .i64 (x 24),.int .i64 (x 25),.int .i64 (x 26),.int .i64 (x 27),.int .i64 (x 28),.int .i64 (x 29),.int .i64 (x 30)] 27)):=b_alloc (Below.refl _ _)
 have K:CF (w.alloc (Obj.cells #[.int .i64 (x 0),.int .i64 (x 1),.int .i64 (x 2),.int .i64 (x 3),.int .i64 (x 4),.int .i64 (x 5),.int .i64 (x 6),.int .i64 (x 7),.int .i64 (x 8),.int .i64 (x 9),.int .i64 (x 10),.int .i64 (x 11),.int .i64 (x 12),.int .i64 (x 13),.int .i64 (x 14),.int .i64 (x 15),.int .i64 (x 16),.int .i64 (x 17),.int .i64 (x 18),.int .i64 (x 19),.int .i64 (x 20),.int .i64 (x 21),.int .i64 (x 22),.int .i64 (x 23),.int .i64 (x 24),.int .i64 (x 25),.int .i64 (x 26),.int .i64 (x 27),.int .i64 (x 28),.int .i64 (x 29),.int .i64 (x 30)] 27)) w.heap.size x:=cf_new rfl
 have g27:=K 27 (by decide)
 clear K
 go_enter Tryz.func59,Tryz.ntmps59
 go_wp2_with fail
 generalize (w.alloc (Obj.cells #[.int .i64 (x 0),.int .i64 (x 1),.int .i64 (x 2),.int .i64 (x 3),.int .i64 (x 4),.int .i64 (x 5),.int .i64 (x 6),.int .i64 (x 7),.int .i64 (x 8),.int .i64 (x 9),.int .i64 (x 10),.int .i64 (x 11),.int .i64 (x 12),.int .i64 (x 13),.int .i64 (x 14),.int .i64 (x 15),.int .i64 (x 16),.int .i64 (x 17),.int .i64 (x 18),.int .i64 (x 19),.int .i64 (x 20),.int .i64 (x 21),.int .i64 (x 22),.int .i64 (x 23),.int .i64 (x 24),.int .i64 (x 25),.int .i64 (x 26),.int .i64 (x 27),.int .i64 (x 28),.int .i64 (x 29),.int .i64 (x 30)] 27))=y0 at *
 refine (conf_from _ _ _ _).mono ?_
 rintro e y_ ⟨rfl,hb⟩
 replace g27:=cell_keep hb g27
 replace E:=b_trans E hb
 clear hb
 go_wp2
 go_ret
 exact ⟨rfl,E⟩
theorem rule14_any (x:Nat→Int) (w:World):Calls Tryz.prog 61 #[cv x] w (RetV (.bool (k14 x)) w):=by
 have E:Below w.heap.size w (w.alloc (Obj.cells #[.int .i64 (x 0),.int .i64 (x 1),.int .i64 (x 2),.int .i64 (x 3),.int .i64 (x 4),.int .i64 (x 5),.int .i64 (x 6),.int .i64 (x 7),.int .i64 (x 8),.int .i64 (x 9),.int .i64 (x 10),.int .i64 (x 11),.int .i64 (x 12),.int .i64 (x 13),.int .i64 (x 14),.int .i64 (x 15),.int .i64 (x 16),.int .i64 (x 17),.int .i64 (x 18),.int .i64 (x 19),.int .i64 (x 20),.int .i64 (x 21),.int .i64 (x 22),.int .i64 (x 23),.int .i64 (x 24),.int .i64 (x 25),.int .i64 (x 26),.int .i64 (x 27),.int .i64 (x 28),.int .i64 (x 29),.int .i64 (x 30)] 27)):=b_alloc (Below.refl _ _)
 have K:CF (w.alloc (Obj.cells #[.int .i64 (x 0),.int .i64 (x 1),.int .i64 (x 2),.int .i64 (x 3),.int .i64 (x 4),.int .i64 (x 5),.int .i64 (x 6),.int .i64 (x 7),.int .i64 (x 8),.int .i64 (x 9),.int .i64 (x 10),.int .i64 (x 11),.int .i64 (x 12),.int .i64 (x 13),.int .i64 (x 14),.int .i64 (x 15),.int .i64 (x 16),.int .i64 (x 17),.int .i64 (x 18),.int .i64 (x 19),.int .i64 (x 20),.int .i64 (x 21),.int .i64 (x 22),.int .i64 (x 23),.int .i64 (x 24),.int .i64 (x 25),.int .i64 (x 26),.int .i64 (x 27),.int .i64 (x 28),.int .i64 (x 29),.int .i64 (x 30)] 27)) w.heap.size x:=cf_new rfl
 have g30:=K 30 (by decide)
 clear K
 go_enter Tryz.func61,Tryz.ntmps61
 go_wp2_with fail
 generalize (w.alloc (Obj.cells #[.int .i64 (x 0),.int .i64 (x 1),.int .i64 (x 2),.int .i64 (x 3),.int .i64 (x 4),.int .i64 (x 5),.int .i64 (x 6),.int .i64 (x 7),.int .i64 (x 8),.int .i64 (x 9),.int .i64 (x 10),.int .i64 (x 11),.int .i64 (x 12),.int .i64 (x 13),.int .i64 (x 14),.int .i64 (x 15),.int .i64 (x 16),.int .i64 (x 17),.int .i64 (x 18),.int .i64 (x 19),.int .i64 (x 20),.int .i64 (x 21),.int .i64 (x 22),.int .i64 (x 23),.int .i64 (x 24),.int .i64 (x 25),.int .i64 (x 26),.int .i64 (x 27),.int .i64 (x 28),.int .i64 (x 29),.int .i64 (x 30)] 27))=y0 at *
 refine (conf_from _ _ _ _).mono ?_
 rintro e y_ ⟨rfl,hb⟩
 replace g30:=cell_keep hb g30
 replace E:=b_trans E hb
 clear hb
 go_wp2
 go_ret
 exact ⟨rfl,E⟩
theorem rule5_any (x:Nat→Int) (hx:C64 x) (w:World):Calls Tryz.prog 50 #[cv x] w (RetV (.bool (k5 x)) w):=by
 cases m:mayb (x 11) (x 12) (x 13) (x 14) (x 15) (x 16)
 ·have E:Below w.heap.size w (w.alloc (Obj.cells #[.int .i64 (x 0),.int .i64 (x 1),.int .i64 (x 2),.int .i64 (x 3),.int .i64 (x 4),.int .i64 (x 5),.int .i64 (x 6),.int .i64 (x 7),.int .i64 (x 8),.int .i64 (x 9),.int .i64 (x 10),.int .i64 (x 11),.int .i64 (x 12),.int .i64 (x 13),.int .i64 (x 14),.int .i64 (x 15),.int .i64 (x 16),.int .i64 (x 17),.int .i64 (x 18),.int .i64 (x 19),.int .i64 (x 20),.int .i64 (x 21),.int .i64 (x 22),.int .i64 (x 23),.int .i64 (x 24),.int .i64 (x 25),.int .i64 (x 26),.int .i64 (x 27),.int .i64 (x 28),.int .i64 (x 29),.int .i64 (x 30)] 27)):=b_alloc (Below.refl _ _)
  have K:CF (w.alloc (Obj.cells #[.int .i64 (x 0),.int .i64 (x 1),.int .i64 (x 2),.int .i64 (x 3),.int .i64 (x 4),.int .i64 (x 5),.int .i64 (x 6),.int .i64 (x 7),.int .i64 (x 8),.int .i64 (x 9),.int .i64 (x 10),.int .i64 (x 11),.int .i64 (x 12),.int .i64 (x 13),.int .i64 (x 14),.int .i64 (x 15),.int .i64 (x 16),.int .i64 (x 17),.int .i64 (x 18),.int .i64 (x 19),.int .i64 (x 20),.int .i64 (x 21),.int .i64 (x 22),.int .i64 (x 23),.int .i64 (x 24),.int .i64 (x 25),.int .i64 (x 26),.int .i64 (x 27),.int .i64 (x 28),.int .i64 (x 29),.int .i64 (x 30)] 27)) w.heap.size x:=cf_new rfl
  have g11:=K 11 (by decide)
  have g12:=K 12 (by decide)
  have g13:=K 13 (by decide)
  have g14:=K 14 (by decide)
  have g15:=K 15 (by decide)
  have g16:=K 16 (by decide)
  clear K
  have c0:=fun w=>may_any (x 11) (x 12) (x 13) (x 14) (x 15) (x 16) (hx 14 (by decide)) (hx 15 (by decide)) (hx 16 (by decide)) w
  rw [m] at c0
  go_enter Tryz.func50,Tryz.ntmps50
  go_wp2
  generalize (w.alloc (Obj.cells #[.int .i64 (x 0),.int .i64 (x 1),.int .i64 (x 2),.int .i64 (x 3),.int .i64 (x 4),.int .i64 (x 5),.int .i64 (x 6),.int .i64 (x 7),.int .i64 (x 8),.int .i64 (x 9),.int .i64 (x 10),.int .i64 (x 11),.int .i64 (x 12),.int .i64 (x 13),.int .i64 (x 14),.int .i64 (x 15),.int .i64 (x 16),.int .i64 (x 17),.int .i64 (x 18),.int .i64 (x 19),.int .i64 (x 20),.int .i64 (x 21),.int .i64 (x 22),.int .i64 (x 23),.int .i64 (x 24),.int .i64 (x 25),.int .i64 (x 26),.int .i64 (x 27),.int .i64 (x 28),.int .i64 (x 29),.int .i64 (x 30)] 27))=y0 at *
  have h11:=cell_regrown g11
  have h12:=cell_regrown g12
  have h13:=cell_regrown g13
  have h14:=cell_regrown g14
  have h15:=cell_regrown g15
  have h16:=cell_regrown g16
  replace c0:=retV_regrown (w:=y0) c0
  go_wp2
  refine wp_region_quiet_below (by kernel_rfl) (by kernel_rfl) ?_
  repeat (quiet_step (first | exact c0 _ _))
  refine wpQuiet_nil ?_
  intro _ hw'
  obtain ⟨⟨dq,osq⟩,hw''⟩:=hw'
  subst hw''
  replace E:=b_trans E (below_regrown _ dq osq)
  generalize Sort.grow (redrawn y0 dq) osq=y1 at *
  go_wp2
  go_ret
  exact ⟨by rw [show k5 x=false from by unfold k5; rw [m]; rfl]; rfl,E⟩
 ·have E:Below w.heap.size w (w.alloc (Obj.cells #[.int .i64 (x 0),.int .i64 (x 1),.int .i64 (x 2),.int .i64 (x 3),.int .i64 (x 4),.int .i64 (x 5),.int .i64 (x 6),.int .i64 (x 7),.int .i64 (x 8),.int .i64 (x 9),.int .i64 (x 10),.int .i64 (x 11),.int .i64 (x 12),.int .i64 (x 13),.int .i64 (x 14),.int .i64 (x 15),.int .i64 (x 16),.int .i64 (x 17),.int .i64 (x 18),.int .i64 (x 19),.int .i64 (x 20),.int .i64 (x 21),.int .i64 (x 22),.int .i64 (x 23),.int .i64 (x 24),.int .i64 (x 25),.int .i64 (x 26),.int .i64 (x 27),.int .i64 (x 28),.int .i64 (x 29),.int .i64 (x 30)] 27)):=b_alloc (Below.refl _ _)
  have K:CF (w.alloc (Obj.cells #[.int .i64 (x 0),.int .i64 (x 1),.int .i64 (x 2),.int .i64 (x 3),.int .i64 (x 4),.int .i64 (x 5),.int .i64 (x 6),.int .i64 (x 7),.int .i64 (x 8),.int .i64 (x 9),.int .i64 (x 10),.int .i64 (x 11),.int .i64 (x 12),.int .i64 (x 13),.int .i64 (x 14),.int .i64 (x 15),.int .i64 (x 16),.int .i64 (x 17),.int .i64 (x 18),.int .i64 (x 19),.int .i64 (x 20),.int .i64 (x 21),.int .i64 (x 22),.int .i64 (x 23),.int .i64 (x 24),.int .i64 (x 25),.int .i64 (x 26),.int .i64 (x 27),.int .i64 (x 28),.int .i64 (x 29),.int .i64 (x 30)] 27)) w.heap.size x:=cf_new rfl
  have g11:=K 11 (by decide)
  have g12:=K 12 (by decide)
  have g13:=K 13 (by decide)
  have g14:=K 14 (by decide)
  have g15:=K 15 (by decide)
  have g16:=K 16 (by decide)
  clear K
  have c0:=fun w=>may_any (x 11) (x 12) (x 13) (x 14) (x 15) (x 16) (hx 14 (by decide)) (hx 15 (by decide)) (hx 16 (by decide)) w
  rw [m] at c0
  go_enter Tryz.func50,Tryz.ntmps50
  go_wp2
  generalize (w.alloc (Obj.cells #[.int .i64 (x 0),.int .i64 (x 1),.int .i64 (x 2),.int .i64 (x 3),.int .i64 (x 4),.int .i64 (x 5),.int .i64 (x 6),.int .i64 (x 7),.int .i64 (x 8),.int .i64 (x 9),.int .i64 (x 10),.int .i64 (x 11),.int .i64 (x 12),.int .i64 (x 13),.int .i64 (x 14),.int .i64 (x 15),.int .i64 (x 16),.int .i64 (x 17),.int .i64 (x 18),.int .i64 (x 19),.int .i64 (x 20),.int .i64 (x 21),.int .i64 (x 22),.int .i64 (x 23),.int .i64 (x 24),.int .i64 (x 25),.int .i64 (x 26),.int .i64 (x 27),.int .i64 (x 28),.int .i64 (x 29),.int .i64 (x 30)] 27))=y0 at *
  have h11:=cell_regrown g11
  have h12:=cell_regrown g12
  have h13:=cell_regrown g13
  have h14:=cell_regrown g14
  have h15:=cell_regrown g15
  have h16:=cell_regrown g16
  replace c0:=retV_regrown (w:=y0) c0
  have c1:=retV_regrown (w:=y0) (same_any 72057594037927936)
  have c2:=retV_regrown (w:=y0) (between_any (x 14) (x 15) (x 16) (x 11) (x 12) (x 13) 72057594037927936 72057594037927936 72057594037927936)
  go_wp2
  refine wp_region_quiet_below (by kernel_rfl) (by kernel_rfl) ?_
  repeat (quiet_step (first | exact c0 _ _ | exact c1 _ _ | exact c2 _ _))
  refine wpQuiet_nil ?_
  intro _ hw'
  obtain ⟨⟨dq,osq⟩,hw''⟩:=hw'
  subst hw''
  replace E:=b_trans E (below_regrown _ dq osq)
  generalize Sort.grow (redrawn y0 dq) osq=y1 at *
  go_wp2
  go_ret
  exact ⟨by rw [show k5 x=b3 (x 14) (x 15) (x 16) (x 11) (x 12) (x 13) 72057594037927936 72057594037927936 72057594037927936 from by unfold k5; rw [m]; rfl]; rfl,E⟩
theorem rule11_any (x:Nat→Int) (w:World):Calls Tryz.prog 57 #[cv x] w (RetV (.bool (k11 x)) w):=by
 cases m:inb (x 26) 1 131072
 ·have E:Below w.heap.size w (w.alloc (Obj.cells #[.int .i64 (x 0),.int .i64 (x 1),.int .i64 (x 2),.int .i64 (x 3),.int .i64 (x 4),.int .i64 (x 5),.int .i64 (x 6),.int .i64 (x 7),.int .i64 (x 8),.int .i64 (x 9),.int .i64 (x 10),.int .i64 (x 11),.int .i64 (x 12),.int .i64 (x 13),.int .i64 (x 14),.int .i64 (x 15),.int .i64 (x 16),.int .i64 (x 17),.int .i64 (x 18),.int .i64 (x 19),.int .i64 (x 20),.int .i64 (x 21),.int .i64 (x 22),.int .i64 (x 23),.int .i64 (x 24),.int .i64 (x 25),.int .i64 (x 26),.int .i64 (x 27),.int .i64 (x 28),.int .i64 (x 29),.int .i64 (x 30)] 27)):=b_alloc (Below.refl _ _)
  have K:CF (w.alloc (Obj.cells #[.int .i64 (x 0),.int .i64 (x 1),.int .i64 (x 2),.int .i64 (x 3),.int .i64 (x 4),.int .i64 (x 5),.int .i64 (x 6),.int .i64 (x 7),.int .i64 (x 8),.int .i64 (x 9),.int .i64 (x 10),.int .i64 (x 11),.int .i64 (x 12),.int .i64 (x 13),.int .i64 (x 14),.int .i64 (x 15),.int .i64 (x 16),.int .i64 (x 17),.int .i64 (x 18),.int .i64 (x 19),.int .i64 (x 20),.int .i64 (x 21),.int .i64 (x 22),.int .i64 (x 23),.int .i64 (x 24),.int .i64 (x 25),.int .i64 (x 26),.int .i64 (x 27),.int .i64 (x 28),.int .i64 (x 29),.int .i64 (x 30)] 27)) w.heap.size x:=cf_new rfl
  have g25:=K 25 (by decide)
  have g26:=K 26 (by decide)
  clear K
  go_enter Tryz.func57,Tryz.ntmps57
  go_wp2_with fail
  generalize (w.alloc (Obj.cells #[.int .i64 (x 0),.int .i64 (x 1),.int .i64 (x 2),.int .i64 (x 3),.int .i64 (x 4),.int .i64 (x 5),.int .i64 (x 6),.int .i64 (x 7),.int .i64 (x 8),.int .i64 (x 9),.int .i64 (x 10),.int .i64 (x 11),.int .i64 (x 12),.int .i64 (x 13),.int .i64 (x 14),.int .i64 (x 15),.int .i64 (x 16),.int .i64 (x 17),.int .i64 (x 18),.int .i64 (x 19),.int .i64 (x 20),.int .i64 (x 21),.int .i64 (x 22),.int .i64 (x 23),.int .i64 (x 24),.int .i64 (x 25),.int .i64 (x 26),.int .i64 (x 27),.int .i64 (x 28),.int .i64 (x 29),.int .i64 (x 30)] 27))=y0 at *
  refine (conf_from (x 26) 1 131072 _).mono ?_
  rintro e y_ ⟨rfl,hb⟩
  rw [m]
  replace g25:=cell_keep hb g25
  replace g26:=cell_keep hb g26
  replace E:=b_trans E hb
  clear hb
  go_wp2
  go_ret
  exact ⟨by rw [show k11 x=false from by unfold k11; rw [m]; rfl]; rfl,E⟩
 ·have E:Below w.heap.size w (w.alloc (Obj.cells #[.int .i64 (x 0),.int .i64 (x 1),.int .i64 (x 2),.int .i64 (x 3),.int .i64 (x 4),.int .i64 (x 5),.int .i64 (x 6),.int .i64 (x 7),.int .i64 (x 8),.int .i64 (x 9),.int .i64 (x 10),.int .i64 (x 11),.int .i64 (x 12),.int .i64 (x 13),.int .i64 (x 14),.int .i64 (x 15),.int .i64 (x 16),.int .i64 (x 17),.int .i64 (x 18),.int .i64 (x 19),.int .i64 (x 20),.int .i64 (x 21),.int .i64 (x 22),.int .i64 (x 23),.int .i64 (x 24),.int .i64 (x 25),.int .i64 (x 26),.int .i64 (x 27),.int .i64 (x 28),.int .i64 (x 29),.int .i64 (x 30)] 27)):=b_alloc (Below.refl _ _)
  have K:CF (w.alloc (Obj.cells #[.int .i64 (x 0),.int .i64 (x 1),.int .i64 (x 2),.int .i64 (x 3),.int .i64 (x 4),.int .i64 (x 5),.int .i64 (x 6),.int .i64 (x 7),.int .i64 (x 8),.int .i64 (x 9),.int .i64 (x 10),.int .i64 (x 11),.int .i64 (x 12),.int .i64 (x 13),.int .i64 (x 14),.int .i64 (x 15),.int .i64 (x 16),.int .i64 (x 17),.int .i64 (x 18),.int .i64 (x 19),.int .i64 (x 20),.int .i64 (x 21),.int .i64 (x 22),.int .i64 (x 23),.int .i64 (x 24),.int .i64 (x 25),.int .i64 (x 26),.int .i64 (x 27),.int .i64 (x 28),.int .i64 (x 29),.int .i64 (x 30)] 27)) w.heap.size x:=cf_new rfl
  have g25:=K 25 (by decide)
  have g26:=K 26 (by decide)
  clear K
  go_enter Tryz.func57,Tryz.ntmps57
  go_wp2_with fail
  generalize (w.alloc (Obj.cells #[.int .i64 (x 0),.int .i64 (x 1),.int .i64 (x 2),.int .i64 (x 3),.int .i64 (x 4),.int .i64 (x 5),.int .i64 (x 6),.int .i64 (x 7),.int .i64 (x 8),.int .i64 (x 9),.int .i64 (x 10),.int .i64 (x 11),.int .i64 (x 12),.int .i64 (x 13),.int .i64 (x 14),.int .i64 (x 15),.int .i64 (x 16),.int .i64 (x 17),.int .i64 (x 18),.int .i64 (x 19),.int .i64 (x 20),.int .i64 (x 21),.int .i64 (x 22),.int .i64 (x 23),.int .i64 (x 24),.int .i64 (x 25),.int .i64 (x 26),.int .i64 (x 27),.int .i64 (x 28),.int .i64 (x 29),.int .i64 (x 30)] 27))=y0 at *
  refine (conf_from (x 26) 1 131072 _).mono ?_
  rintro e y_ ⟨rfl,hb⟩
  rw [m]
  replace g25:=cell_keep hb g25
  replace g26:=cell_keep hb g26
  replace E:=b_trans E hb
  clear hb
  obtain ⟨u1,u2⟩:=inb_iff.1 m
  go_wp2_with fail
  refine (inside_any (x 25) (x 26) u1 u2 _).mono ?_
  rintro e z_ ⟨rfl,hb⟩
  replace E:=b_trans E hb
  clear hb
  go_wp2
  go_ret
  exact ⟨by rw [show k11 x=inb (x 25) (1 - x 26) (x 26 - 1) from by unfold k11; rw [m]; rfl]; rfl,E⟩
theorem rule13_any (x:Nat→Int) (w:World):Calls Tryz.prog 60 #[cv x] w (RetV (.bool (k13 x)) w):=by
 cases m:inb (x 28) 1 (x 29)
 ·have E:Below w.heap.size w (w.alloc (Obj.cells #[.int .i64 (x 0),.int .i64 (x 1),.int .i64 (x 2),.int .i64 (x 3),.int .i64 (x 4),.int .i64 (x 5),.int .i64 (x 6),.int .i64 (x 7),.int .i64 (x 8),.int .i64 (x 9),.int .i64 (x 10),.int .i64 (x 11),.int .i64 (x 12),.int .i64 (x 13),.int .i64 (x 14),.int .i64 (x 15),.int .i64 (x 16),.int .i64 (x 17),.int .i64 (x 18),.int .i64 (x 19),.int .i64 (x 20),.int .i64 (x 21),.int .i64 (x 22),.int .i64 (x 23),.int .i64 (x 24),.int .i64 (x 25),.int .i64 (x 26),.int .i64 (x 27),.int .i64 (x 28),.int .i64 (x 29),.int .i64 (x 30)] 27)):=b_alloc (Below.refl _ _)
  have K:CF (w.alloc (Obj.cells #[.int .i64 (x 0),.int .i64 (x 1),.int .i64 (x 2),.int .i64 (x 3),.int .i64 (x 4),.int .i64 (x 5),.int .i64 (x 6),.int .i64 (x 7),.int .i64 (x 8),.int .i64 (x 9),.int .i64 (x 10),.int .i64 (x 11),.int .i64 (x 12),.int .i64 (x 13),.int .i64 (x 14),.int .i64 (x 15),.int .i64 (x 16),.int .i64 (x 17),.int .i64 (x 18),.int .i64 (x 19),.int .i64 (x 20),.int .i64 (x 21),.int .i64 (x 22),.int .i64 (x 23),.int .i64 (x 24),.int .i64 (x 25),.int .i64 (x 26),.int .i64 (x 27),.int .i64 (x 28),.int .i64 (x 29),.int .i64 (x 30)] 27)) w.heap.size x:=cf_new rfl
  have g28:=K 28 (by decide)
  have g29:=K 29 (by decide)
  clear K
  go_enter Tryz.func60,Tryz.ntmps60
  go_wp2_with fail
  generalize (w.alloc (Obj.cells #[.int .i64 (x 0),.int .i64 (x 1),.int .i64 (x 2),.int .i64 (x 3),.int .i64 (x 4),.int .i64 (x 5),.int .i64 (x 6),.int .i64 (x 7),.int .i64 (x 8),.int .i64 (x 9),.int .i64 (x 10),.int .i64 (x 11),.int .i64 (x 12),.int .i64 (x 13),.int .i64 (x 14),.int .i64 (x 15),.int .i64 (x 16),.int .i64 (x 17),.int .i64 (x 18),.int .i64 (x 19),.int .i64 (x 20),.int .i64 (x 21),.int .i64 (x 22),.int .i64 (x 23),.int .i64 (x 24),.int .i64 (x 25),.int .i64 (x 26),.int .i64 (x 27),.int .i64 (x 28),.int .i64 (x 29),.int .i64 (x 30)] 27))=y0 at *
  refine (conf_from (x 28) 1 (x 29) _).mono ?_
  rintro e y_ ⟨rfl,hb⟩
  rw [m]
  replace g28:=cell_keep hb g28
  replace g29:=cell_keep hb g29
  replace E:=b_trans E hb
  clear hb
  go_wp2
  go_ret
  exact ⟨by rw [show k13 x=false from by unfold k13; rw [m]; rfl]; rfl,E⟩
 ·have E:Below w.heap.size w (w.alloc (Obj.cells #[.int .i64 (x 0),.int .i64 (x 1),.int .i64 (x 2),.int .i64 (x 3),.int .i64 (x 4),.int .i64 (x 5),.int .i64 (x 6),.int .i64 (x 7),.int .i64 (x 8),.int .i64 (x 9),.int .i64 (x 10),.int .i64 (x 11),.int .i64 (x 12),.int .i64 (x 13),.int .i64 (x 14),.int .i64 (x 15),.int .i64 (x 16),.int .i64 (x 17),.int .i64 (x 18),.int .i64 (x 19),.int .i64 (x 20),.int .i64 (x 21),.int .i64 (x 22),.int .i64 (x 23),.int .i64 (x 24),.int .i64 (x 25),.int .i64 (x 26),.int .i64 (x 27),.int .i64 (x 28),.int .i64 (x 29),.int .i64 (x 30)] 27)):=b_alloc (Below.refl _ _)
  have K:CF (w.alloc (Obj.cells #[.int .i64 (x 0),.int .i64 (x 1),.int .i64 (x 2),.int .i64 (x 3),.int .i64 (x 4),.int .i64 (x 5),.int .i64 (x 6),.int .i64 (x 7),.int .i64 (x 8),.int .i64 (x 9),.int .i64 (x 10),.int .i64 (x 11),.int .i64 (x 12),.int .i64 (x 13),.int .i64 (x 14),.int .i64 (x 15),.int .i64 (x 16),.int .i64 (x 17),.int .i64 (x 18),.int .i64 (x 19),.int .i64 (x 20),.int .i64 (x 21),.int .i64 (x 22),.int .i64 (x 23),.int .i64 (x 24),.int .i64 (x 25),.int .i64 (x 26),.int .i64 (x 27),.int .i64 (x 28),.int .i64 (x 29),.int .i64 (x 30)] 27)) w.heap.size x:=cf_new rfl
  have g28:=K 28 (by decide)
  have g29:=K 29 (by decide)
  clear K
  go_enter Tryz.func60,Tryz.ntmps60
  go_wp2_with fail
  generalize (w.alloc (Obj.cells #[.int .i64 (x 0),.int .i64 (x 1),.int .i64 (x 2),.int .i64 (x 3),.int .i64 (x 4),.int .i64 (x 5),.int .i64 (x 6),.int .i64 (x 7),.int .i64 (x 8),.int .i64 (x 9),.int .i64 (x 10),.int .i64 (x 11),.int .i64 (x 12),.int .i64 (x 13),.int .i64 (x 14),.int .i64 (x 15),.int .i64 (x 16),.int .i64 (x 17),.int .i64 (x 18),.int .i64 (x 19),.int .i64 (x 20),.int .i64 (x 21),.int .i64 (x 22),.int .i64 (x 23),.int .i64 (x 24),.int .i64 (x 25),.int .i64 (x 26),.int .i64 (x 27),.int .i64 (x 28),.int .i64 (x 29),.int .i64 (x 30)] 27))=y0 at *
  refine (conf_from (x 28) 1 (x 29) _).mono ?_
  rintro e y_ ⟨rfl,hb⟩
  rw [m]
  replace g28:=cell_keep hb g28
  replace g29:=cell_keep hb g29
  replace E:=b_trans E hb
  clear hb
  go_wp2
  go_ret
  exact ⟨by rw [show k13 x=decide (x 29≤100000) from by unfold k13; rw [m]; rfl]; rfl,E⟩
end Go.Proofs.YthnofhjgfhapiaaGreatDoor

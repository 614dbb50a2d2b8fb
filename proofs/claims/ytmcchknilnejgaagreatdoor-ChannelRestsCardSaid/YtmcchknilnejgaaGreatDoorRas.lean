import Derived.BigRegion
import Derived.Deep.QuietTactic
import Derived.BigQuiet
import Derived.Lib.SmallJoins
import Derived.WalkMore
import Derived.StillTactics
import Derived.Laws.Pointers
import Derived.Deep.RegionHeld3
import Derived.RowKit3
import Derived.Lib.Hide
import Derived.Lib.QuietBelow
import Derived.Laws.Bits64b
import Derived.Test.YtmcchknilnejgaaGreatDoorProg
import Derived.Shelf.Spec.BitsCarry
import Derived.Shelf.Bits.Mul64
import Derived.WalkKit
import Derived.WalkSpells
import Derived.ScopeJumps
import Derived.Orders
import Derived.RegionTactic
import Derived.Below
import Derived.LoopN
import Derived.Test.YtmcchknilnejgaaGreatDoorKax
import Derived.Test.YtmcchknilnejgaaGreatDoorKai
import Derived.Test.YtmcchknilnejgaaGreatDoorKaf
import Derived.Test.YtmcchknilnejgaaGreatDoorRap
import Derived.Test.YtmcchknilnejgaaGreatDoorKah
import Derived.Test.YtmcchknilnejgaaGreatDoorKab
import Derived.Test.YtmcchknilnejgaaGreatDoorKaa
import Derived.Test.YtmcchknilnejgaaGreatDoorKad
import Derived.Test.YtmcchknilnejgaaGreatDoorKac
import Derived.Test.YtmcchknilnejgaaGreatDoorKae
import Derived.Test.YtmcchknilnejgaaGreatDoorKag
import Derived.Test.YtmcchknilnejgaaGreatDoorRac
import Derived.Test.YtmcchknilnejgaaGreatDoorRaq
import Derived.Test.YtmcchknilnejgaaGreatDoorKak
set_option maxHeartbeats 16000000
set_option maxRecDepth 10000
namespace Go.Proofs.YtmcchknilnejgaaGreatDoor
open Go.RowKit Go.Shelf Go.Joins
structure DM (W:World) (f0 f1 f2 c0 c1 c2:Int) (x:Nat→Int) (U:World):Prop where
 b:Below W.heap.size W U
 ka:SC U W.heap.size x
 fa:SF U W.heap.size
 kf:TC U (W.heap.size+1) f0 f1 f2
 kc:TC U (W.heap.size+1+1) c0 c1 c2
 kd:SC U (W.heap.size+1+1+1) (fun _=>0)
 fd:SF U (W.heap.size+1+1+1)
theorem dm_keep {W U U':World} {f0 f1 f2 c0 c1 c2:Int} {x:Nat→Int} (h:DM W f0 f1 f2 c0 c1 c2 x U) (hb:Below U.heap.size U U'):DM W f0 f1 f2 c0 c1 c2 x U' :=
 ⟨b_trans h.b hb,sc_keep hb h.ka,sf_keep hb h.ka h.fa,tc_keep hb h.kf,tc_keep hb h.kc,sc_keep hb h.kd,sf_keep hb h.kd h.fd⟩
theorem sc_umk {U:World} {A:Nat} {x:Nat→Int} (h:SC U A x) (k:Nat) (v:Int) (hk:k<6):SC (U.setCell ⟨A,k,none⟩ (.int .i64 v)) A (umk x k v):=fun i hi=>by
 by_cases c:i=k
 ·subst c
  rw [World.cell?_setCell_same' _ _ _ (by rw [h i hi]; rfl)]
  simp [umk]
 ·rw [World.cell?_setCell_other _ _ _ _ (by intro e; simp at e <;> omega),h i hi]
  simp [umk,c]
theorem sc_same {U:World} {A:Nat} {x:Nat→Int} (h:SC U A x) (k:Nat) (v:Int) (e:x k=v):SC U A (umk x k v):=fun i hi=>by
 rw [h i hi]
 by_cases c:i=k
 ·subst c; simp [umk,e]
 ·simp [umk,c]
theorem dm_put {W U:World} {f0 f1 f2 c0 c1 c2:Int} {x:Nat→Int} (h:DM W f0 f1 f2 c0 c1 c2 x U) (k:Nat) (v:Int) (hk:k<6):DM W f0 f1 f2 c0 c1 c2 (umk x k v) (U.setCell ⟨W.heap.size,k,none⟩ (.int .i64 v)):=by
 have q1:W.heap.size≠W.heap.size+1:=by omega
 have q2:W.heap.size≠W.heap.size+1+1:=by omega
 have q3:W.heap.size≠W.heap.size+1+1+1:=by omega
 exact ⟨b_set h.b (Nat.le_refl _),sc_umk h.ka k v hk,sf_set h.fa,tc_set h.kf q1,tc_set h.kc q2,sc_set h.kd q3,sf_set h.fd⟩
theorem dm_same {W U:World} {f0 f1 f2 c0 c1 c2:Int} {x:Nat→Int} (h:DM W f0 f1 f2 c0 c1 c2 x U) (k:Nat) (v:Int) (e:x k=v):DM W f0 f1 f2 c0 c1 c2 (umk x k v) U :=
 ⟨h.b,sc_same h.ka k v e,h.fa,h.kf,h.kc,h.kd,h.fd⟩
theorem tdg_lt {x f c:Int} (h:x<f) (k:f≤c):tdg x f c=f:=by unfold tdg; rw [if_pos h,if_neg (by omega)]
theorem tdg_gt {x f c:Int} (h:¬ x<f) (k:c<x):tdg x f c=c:=by unfold tdg; rw [if_neg h,if_pos k]
theorem tdg_mid {x f c:Int} (h:¬ x<f) (k:¬ c<x):tdg x f c=x:=by unfold tdg; rw [if_neg h,if_neg k]
theorem rtame_go (x0 x1 x2 x3 y z u:Nat→Int) (f0 f1 f2 c0 c1 c2 g0 g1 g2 r1 r2 r4 q1 q2 q4:Int)
  (cM:∀ w,Calls Tryz.prog 62 #[tv f0 f1 f2,tv c0 c1 c2] w (RetV (.bool true) w))
  (b0:f0≤c0) (h0:Hid (x1=umk x0 0 (tdg (x0 0) f0 c0)))
  (b1:f1≤c1) (h1:Hid (x2=umk x1 3 (tdg (x1 3) f1 c1)))
  (b2:f2≤c2) (h2:Hid (x3=umk x2 5 (tdg (x2 5) f2 c2)))
  (hx0:Hid (IntKind.i64.wrap (x3 0 - f0)=g0))
  (hx3:Hid (IntKind.i64.wrap (x3 3 - f1)=g1))
  (hy0:Hid (IntKind.i64.wrap (y 0 - f0)=g0))
  (hy5:Hid (IntKind.i64.wrap (y 5 - f2)=g2))
  (hz3:Hid (IntKind.i64.wrap (z 3 - f1)=g1))
  (hz5:Hid (IntKind.i64.wrap (z 5 - f2)=g2))
  (cR1:∀ w,Calls Tryz.prog 64 #[.int .i64 g0,.int .i64 g1] w (RetV (.int .i64 r1) w))
  (cR2:∀ w,Calls Tryz.prog 64 #[.int .i64 g0,.int .i64 g2] w (RetV (.int .i64 r2) w))
  (cR4:∀ w,Calls Tryz.prog 64 #[.int .i64 g1,.int .i64 g2] w (RetV (.int .i64 r4) w))
  (cC1:∀ w,Calls Tryz.prog 65 #[.int .i64 (x3 1),.int .i64 r1] w (RetV (.int .i64 q1) w)) (hq1:Hid (y=umk x3 1 q1))
  (cC2:∀ w,Calls Tryz.prog 65 #[.int .i64 (y 2),.int .i64 r2] w (RetV (.int .i64 q2) w)) (hq2:Hid (z=umk y 2 q2))
  (cC4:∀ w,Calls Tryz.prog 65 #[.int .i64 (z 4),.int .i64 r4] w (RetV (.int .i64 q4) w)) (hq4:Hid (u=umk z 4 q4)) (w:World) :
  Calls Tryz.prog 27 #[sv x0,tv f0 f1 f2,tv c0 c1 c2] w (RetV (.tuple #[sv u,.int .i64 0]) w):=by
 have s:DM w f0 f1 f2 c0 c1 c2 x0 ((((w.alloc (Obj.cells #[.int .i64 (x0 0),.int .i64 (x0 1),.int .i64 (x0 2),.int .i64 (x0 3),.int .i64 (x0 4),.int .i64 (x0 5)] 40)).alloc (Obj.cells #[.int .i64 f0,.int .i64 f1,.int .i64 f2] 23)).alloc (Obj.cells #[.int .i64 c0,.int .i64 c1,.int .i64 c2] 23)).alloc (Obj.cells #[.int .i64 0,.int .i64 0,.int .i64 0,.int .i64 0,.int .i64 0,.int .i64 0] 40)):=⟨b_alloc (b_alloc (b_alloc (b_alloc (Below.refl _ _)))),sc_alloc (sc_alloc (sc_alloc (sc_new (m:=x0) rfl))),sf_keep (b_alloc (b_alloc (b_alloc (Below.refl _ _)))) (sc_new (w:=w) (m:=x0) (t:=40) rfl) (sf_new rfl),tc_alloc (tc_alloc (tc_new (by simp))),tc_alloc (tc_new (by simp)),sc_new (m:=fun _=>0) (by simp),sf_new (by simp)⟩
 have kf:=s.kf
 have kc:=s.kc
 go_enter Tryz.func27,Tryz.ntmps27
 go_wp2_with fail
 generalize ((((w.alloc (Obj.cells #[.int .i64 (x0 0),.int .i64 (x0 1),.int .i64 (x0 2),.int .i64 (x0 3),.int .i64 (x0 4),.int .i64 (x0 5)] 40)).alloc (Obj.cells #[.int .i64 f0,.int .i64 f1,.int .i64 f2] 23)).alloc (Obj.cells #[.int .i64 c0,.int .i64 c1,.int .i64 c2] 23)).alloc (Obj.cells #[.int .i64 0,.int .i64 0,.int .i64 0,.int .i64 0,.int .i64 0,.int .i64 0] 40))=y0 at *
 refine (cM _).mono ?_
 rintro x_ y1 ⟨rfl,hb⟩
 replace s:=dm_keep s hb
 clear hb kf kc cM
 go_wp2
 replace s:=Lib.hid s
 go_loopw [8] (fun iv wr=>∃ (i:Int) (x:Nat→Int),((i=0∧x=x0)∨(i=1∧x=x1)∨(i=2∧x=x2)∨(i=3∧x=x3))∧iv=.int .i64 i∧Hid (DM w f0 f1 f2 c0 c1 c2 x wr)) (fun iv _=>3 - (intOf iv).toNat)
 case atStart=>exact ⟨0,x0,Or.inl ⟨rfl,rfl⟩,rfl,s⟩
 case round =>
  obtain ⟨k,x,hk,rfl,hs⟩:=hrel
  clear s
  have s:=hs.out
  clear hs
  rcases hk with ⟨rfl,ex⟩ | ⟨rfl,ex⟩ | ⟨rfl,ex⟩ | ⟨rfl,ex⟩
  ·rw [ex] at s
   clear ex
   clear cR1 cR2 cR4 cC1 cC2 cC4 hx0 hx3 hy0 hy5 hz3 hz5
   have hp9:∀ w,Calls Tryz.prog 63 #[.int .i64 0,.int .i64 0] w (RetV (.int .i64 0) w):=fun w=>place_ok 0 0 0 (by simp [At9]) w
   go_wp2_with fail
   refine (hp9 _).mono ?_
   rintro e1_ w1_ ⟨rfl,hb⟩
   replace s:=dm_keep s hb
   clear hb hp9
   have a6:=sc_six s.ka
   have kf:=s.kf
   have kc:=s.kc
   have fa:=sf_six s.fa
   by_cases n:(x0 0)<f0
   ·have E:=Lib.hid (tdg_lt n b0)
    have nb:=decide_eq_true n
    have nk:decide (c0<f0)=false:=decide_eq_false (by omega)
    go_wp2
    go_quiet (fail)
    clear a6 kf kc fa
    replace s:=dm_keep s (below_draws _ _ nq)
    generalize w1_.drewN nq=w2_ at *
    have a6:=sc_six s.ka
    have kf:=s.kf
    have kc:=s.kc
    have fa:=sf_six s.fa
    have K:=Lib.hid (dm_put s 0 f0 (by decide))
    clear s
    go_wp2
    clear a6 kf kc fa
    generalize w2_.setCell ⟨w.heap.size,0,none⟩ (.int .i64 f0)=w3_ at *
    have s:=K.out
    clear K
    have a0:w3_.cell? ⟨w.heap.size,0,none⟩=some (.int .i64 f0):=by rw [s.ka 0 (by decide)]; simp [umk]
    have kc:=s.kc
    go_quiet (fail)
    clear a0 kc
    replace s:=dm_keep s (below_draws _ _ nq)
    generalize w3_.drewN nq=w4_ at *
    rw [show umk x0 0 f0=x1 from by rw [h0.out,E.out]] at s
    clear n nb nk E
    replace s:=Lib.hid s
    go_wp2
    go_roundw
    case rel=>exact ⟨1,x1,Or.inr (Or.inl ⟨rfl,rfl⟩),rfl,s⟩
    case measure=>simp [intOf]
   ·have nb:=decide_eq_false n
    go_wp2
    go_quiet (fail)
    clear a6 kf kc fa
    replace s:=dm_keep s (below_draws _ _ nq)
    generalize w1_.drewN nq=w2_ at *
    have a6:=sc_six s.ka
    have kf:=s.kf
    have kc:=s.kc
    have fa:=sf_six s.fa
    by_cases n2:c0<(x0 0)
    ·have E:=Lib.hid (tdg_gt (show ¬ (x0 0)<f0 by omega) n2)
     have nb2:=decide_eq_true n2
     go_wp2
     go_quiet (fail)
     clear a6 kf kc fa
     replace s:=dm_keep s (below_draws _ _ nq)
     generalize w2_.drewN nq=w3_ at *
     have a6:=sc_six s.ka
     have kf:=s.kf
     have kc:=s.kc
     have fa:=sf_six s.fa
     have K:=Lib.hid (dm_put s 0 c0 (by decide))
     clear s
     go_wp2
     clear a6 kf kc fa
     generalize w3_.setCell ⟨w.heap.size,0,none⟩ (.int .i64 c0)=w4_ at *
     have s:=K.out
     clear K
     rw [show umk x0 0 c0=x1 from by rw [h0.out,E.out]] at s
     clear n nb n2 nb2 E
     replace s:=Lib.hid s
     go_roundw
     case rel=>exact ⟨1,x1,Or.inr (Or.inl ⟨rfl,rfl⟩),rfl,s⟩
     case measure=>simp [intOf]
    ·have E:=Lib.hid (tdg_mid (show ¬ (x0 0)<f0 by omega) n2)
     have nb2:=decide_eq_false n2
     go_wp2
     go_quiet (fail)
     clear a6 kf kc fa
     replace s:=dm_keep s (below_draws _ _ nq)
     generalize w2_.drewN nq=w3_ at *
     replace s:=dm_same s 0 (x0 0) rfl
     rw [show umk x0 0 (x0 0)=x1 from by rw [h0.out,E.out]] at s
     clear n nb n2 nb2 E
     replace s:=Lib.hid s
     go_wp2
     go_roundw
     case rel=>exact ⟨1,x1,Or.inr (Or.inl ⟨rfl,rfl⟩),rfl,s⟩
     case measure=>simp [intOf]
  ·rw [ex] at s
   clear ex
   clear cR1 cR2 cR4 cC1 cC2 cC4 hx0 hx3 hy0 hy5 hz3 hz5
   have hp9:∀ w,Calls Tryz.prog 63 #[.int .i64 1,.int .i64 1] w (RetV (.int .i64 3) w):=fun w=>place_ok 1 1 3 (by simp [At9]) w
   go_wp2_with fail
   refine (hp9 _).mono ?_
   rintro e1_ w1_ ⟨rfl,hb⟩
   replace s:=dm_keep s hb
   clear hb hp9
   have a6:=sc_six s.ka
   have kf:=s.kf
   have kc:=s.kc
   have fa:=sf_six s.fa
   by_cases n:(x1 3)<f1
   ·have E:=Lib.hid (tdg_lt n b1)
    have nb:=decide_eq_true n
    have nk:decide (c1<f1)=false:=decide_eq_false (by omega)
    go_wp2
    go_quiet (fail)
    clear a6 kf kc fa
    replace s:=dm_keep s (below_draws _ _ nq)
    generalize w1_.drewN nq=w2_ at *
    have a6:=sc_six s.ka
    have kf:=s.kf
    have kc:=s.kc
    have fa:=sf_six s.fa
    have K:=Lib.hid (dm_put s 3 f1 (by decide))
    clear s
    go_wp2
    clear a6 kf kc fa
    generalize w2_.setCell ⟨w.heap.size,3,none⟩ (.int .i64 f1)=w3_ at *
    have s:=K.out
    clear K
    have a0:w3_.cell? ⟨w.heap.size,3,none⟩=some (.int .i64 f1):=by rw [s.ka 3 (by decide)]; simp [umk]
    have kc:=s.kc
    go_quiet (fail)
    clear a0 kc
    replace s:=dm_keep s (below_draws _ _ nq)
    generalize w3_.drewN nq=w4_ at *
    rw [show umk x1 3 f1=x2 from by rw [h1.out,E.out]] at s
    clear n nb nk E
    replace s:=Lib.hid s
    go_wp2
    go_roundw
    case rel=>exact ⟨2,x2,Or.inr (Or.inr (Or.inl ⟨rfl,rfl⟩)),rfl,s⟩
    case measure=>simp [intOf]
   ·have nb:=decide_eq_false n
    go_wp2
    go_quiet (fail)
    clear a6 kf kc fa
    replace s:=dm_keep s (below_draws _ _ nq)
    generalize w1_.drewN nq=w2_ at *
    have a6:=sc_six s.ka
    have kf:=s.kf
    have kc:=s.kc
    have fa:=sf_six s.fa
    by_cases n2:c1<(x1 3)
    ·have E:=Lib.hid (tdg_gt (show ¬ (x1 3)<f1 by omega) n2)
     have nb2:=decide_eq_true n2
     go_wp2
     go_quiet (fail)
     clear a6 kf kc fa
     replace s:=dm_keep s (below_draws _ _ nq)
     generalize w2_.drewN nq=w3_ at *
     have a6:=sc_six s.ka
     have kf:=s.kf
     have kc:=s.kc
     have fa:=sf_six s.fa
     have K:=Lib.hid (dm_put s 3 c1 (by decide))
     clear s
     go_wp2
     clear a6 kf kc fa
     generalize w3_.setCell ⟨w.heap.size,3,none⟩ (.int .i64 c1)=w4_ at *
     have s:=K.out
     clear K
     rw [show umk x1 3 c1=x2 from by rw [h1.out,E.out]] at s
     clear n nb n2 nb2 E
     replace s:=Lib.hid s
     go_roundw
     case rel=>exact ⟨2,x2,Or.inr (Or.inr (Or.inl ⟨rfl,rfl⟩)),rfl,s⟩
     case measure=>simp [intOf]
    ·have E:=Lib.hid (tdg_mid (show ¬ (x1 3)<f1 by omega) n2)
     have nb2:=decide_eq_false n2
     go_wp2
     go_quiet (fail)
     clear a6 kf kc fa
     replace s:=dm_keep s (below_draws _ _ nq)
     generalize w2_.drewN nq=w3_ at *
     replace s:=dm_same s 3 (x1 3) rfl
     rw [show umk x1 3 (x1 3)=x2 from by rw [h1.out,E.out]] at s
     clear n nb n2 nb2 E
     replace s:=Lib.hid s
     go_wp2
     go_roundw
     case rel=>exact ⟨2,x2,Or.inr (Or.inr (Or.inl ⟨rfl,rfl⟩)),rfl,s⟩
     case measure=>simp [intOf]
  ·rw [ex] at s
   clear ex
   clear cR1 cR2 cR4 cC1 cC2 cC4 hx0 hx3 hy0 hy5 hz3 hz5
   have hp9:∀ w,Calls Tryz.prog 63 #[.int .i64 2,.int .i64 2] w (RetV (.int .i64 5) w):=fun w=>place_ok 2 2 5 (by simp [At9]) w
   go_wp2_with fail
   refine (hp9 _).mono ?_
   rintro e1_ w1_ ⟨rfl,hb⟩
   replace s:=dm_keep s hb
   clear hb hp9
   have a6:=sc_six s.ka
   have kf:=s.kf
   have kc:=s.kc
   have fa:=sf_six s.fa
   by_cases n:(x2 5)<f2
   ·have E:=Lib.hid (tdg_lt n b2)
    have nb:=decide_eq_true n
    have nk:decide (c2<f2)=false:=decide_eq_false (by omega)
    go_wp2
    go_quiet (fail)
    clear a6 kf kc fa
    replace s:=dm_keep s (below_draws _ _ nq)
    generalize w1_.drewN nq=w2_ at *
    have a6:=sc_six s.ka
    have kf:=s.kf
    have kc:=s.kc
    have fa:=sf_six s.fa
    have K:=Lib.hid (dm_put s 5 f2 (by decide))
    clear s
    go_wp2
    clear a6 kf kc fa
    generalize w2_.setCell ⟨w.heap.size,5,none⟩ (.int .i64 f2)=w3_ at *
    have s:=K.out
    clear K
    have a0:w3_.cell? ⟨w.heap.size,5,none⟩=some (.int .i64 f2):=by rw [s.ka 5 (by decide)]; simp [umk]
    have kc:=s.kc
    go_quiet (fail)
    clear a0 kc
    replace s:=dm_keep s (below_draws _ _ nq)
    generalize w3_.drewN nq=w4_ at *
    rw [show umk x2 5 f2=x3 from by rw [h2.out,E.out]] at s
    clear n nb nk E
    replace s:=Lib.hid s
    go_wp2
    go_roundw
    case rel=>exact ⟨3,x3,Or.inr (Or.inr (Or.inr ⟨rfl,rfl⟩)),rfl,s⟩
    case measure=>simp [intOf]
   ·have nb:=decide_eq_false n
    go_wp2
    go_quiet (fail)
    clear a6 kf kc fa
    replace s:=dm_keep s (below_draws _ _ nq)
    generalize w1_.drewN nq=w2_ at *
    have a6:=sc_six s.ka
    have kf:=s.kf
    have kc:=s.kc
    have fa:=sf_six s.fa
    by_cases n2:c2<(x2 5)
    ·have E:=Lib.hid (tdg_gt (show ¬ (x2 5)<f2 by omega) n2)
     have nb2:=decide_eq_true n2
     go_wp2
     go_quiet (fail)
     clear a6 kf kc fa
     replace s:=dm_keep s (below_draws _ _ nq)
     generalize w2_.drewN nq=w3_ at *
     have a6:=sc_six s.ka
     have kf:=s.kf
     have kc:=s.kc
     have fa:=sf_six s.fa
     have K:=Lib.hid (dm_put s 5 c2 (by decide))
     clear s
     go_wp2
     clear a6 kf kc fa
     generalize w3_.setCell ⟨w.heap.size,5,none⟩ (.int .i64 c2)=w4_ at *
     have s:=K.out
     clear K
     rw [show umk x2 5 c2=x3 from by rw [h2.out,E.out]] at s
     clear n nb n2 nb2 E
     replace s:=Lib.hid s
     go_roundw
     case rel=>exact ⟨3,x3,Or.inr (Or.inr (Or.inr ⟨rfl,rfl⟩)),rfl,s⟩
     case measure=>simp [intOf]
    ·have E:=Lib.hid (tdg_mid (show ¬ (x2 5)<f2 by omega) n2)
     have nb2:=decide_eq_false n2
     go_wp2
     go_quiet (fail)
     clear a6 kf kc fa
     replace s:=dm_keep s (below_draws _ _ nq)
     generalize w2_.drewN nq=w3_ at *
     replace s:=dm_same s 5 (x2 5) rfl
     rw [show umk x2 5 (x2 5)=x3 from by rw [h2.out,E.out]] at s
     clear n nb n2 nb2 E
     replace s:=Lib.hid s
     go_wp2
     go_roundw
     case rel=>exact ⟨3,x3,Or.inr (Or.inr (Or.inr ⟨rfl,rfl⟩)),rfl,s⟩
     case measure=>simp [intOf]
  ·rw [ex] at s
   clear ex
   go_wp2
   refine wp_loop_rounds 4 ?_
   rw [rounds_succ]
   go_wp2
   refine wp_loop_rounds 4 ?_
   rw [rounds_succ]
   go_wp2
   refine region_each [60,61,62,63,64,65,66,67,68,69,70,71,72,73,74,75,76,77,78] (fun i_ X_ U_=>match i_ with | 0=>X_=.int .i64 0 | 1=>X_=.int .i64 0 | 2=>X_=.int .i64 0 | 3=>X_=.pointer (some ⟨w.heap.size,0,none⟩) | 4=>X_=.int .i64 (x3 0) | 5=>X_=.int .i64 0 | 6=>X_=.pointer (some ⟨w.heap.size+1,0,none⟩) | 7=>X_=.int .i64 f0 | 8=>X_=.int .i64 g0 | 9=>X_=.int .i64 1 | 10=>X_=.int .i64 1 | 11=>X_=.int .i64 3 | 12=>X_=.pointer (some ⟨w.heap.size,3,none⟩) | 13=>X_=.int .i64 (x3 3) | 14=>X_=.int .i64 1 | 15=>X_=.pointer (some ⟨w.heap.size+1,1,none⟩) | 16=>X_=.int .i64 f1 | 17=>X_=.int .i64 g1 | 18=>X_=.int .i64 r1 | _=>True) (fun i_=>false) (by kernel_rfl) (by kernel_rfl) (by kernel_rfl) (by kernel_rfl) (by kernel_rfl) ?_ (fun i x w hi ha h=>by cases ha) ?_ ?_
   ·refine swp (upS (upS (upS (upS (upS (upS (upS (upS (upS (upS (upS (upS (upS (upS (upS (upS (upS (upS (upS up0 ?_) ?_) ?_) ?_) ?_) ?_) ?_) ?_) ?_) ?_) ?_) ?_) ?_) ?_) ?_) ?_) ?_) ?_) ?_)
    all_goals exact fun _ _ _ h _=>h
   ·refine upS (upS (upS (upS (upS (upS (upS (upS (upS (upS (upS (upS (upS (upS (upS (upS (upS (upS (upS up0 ?_) ?_) ?_) ?_) ?_) ?_) ?_) ?_) ?_) ?_) ?_) ?_) ?_) ?_) ?_) ?_) ?_) ?_) ?_
    all_goals intro v f w' hb hv hB hd
    ·have b10:f.tmps[10]?=some (.int .i64 0):=(hb 10 (by decide)).trans rfl
     clear hb hv hd
     refine wpOp_step rfl fun K hK=>?_
     go_simp
     exact hK _ _ ⟨_,rfl,Below.refl _ _,rfl,fun h=>absurd h (by decide)⟩
    ·have b10:f.tmps[10]?=some (.int .i64 0):=(hb 10 (by decide)).trans rfl
     clear hb hv hd
     refine wpOp_step rfl fun K hK=>?_
     go_simp
     exact hK _ _ ⟨_,rfl,Below.refl _ _,rfl,fun h=>absurd h (by decide)⟩
    ·have d0:=got (hv 0 60 rfl) (hd 0 (by kernel_rfl))
     have d1:=got (hv 1 61 rfl) (hd 1 (by kernel_rfl))
     clear hb hv hd
     refine wpOp_call rfl Tryz.call63 (args2 (eval_tmp d0) (eval_tmp d1)) (place_ok 0 0 0 (by simp [At9]) _) ?_
     rintro e5 w5_ ⟨rfl,hb5⟩
     exact ⟨_,rfl,_,rfl,hb5,rfl,fun h=>absurd h (by decide)⟩
    ·have b3:f.tmps[3]?=some (.pointer (some ⟨w.heap.size,0,none⟩)):=(hb 3 (by decide)).trans rfl
     have d2:=got (hv 2 62 rfl) (hd 2 (by kernel_rfl))
     clear hb hv hd
     refine wpOp_step rfl fun K hK=>?_
     go_simp
     exact hK _ _ ⟨_,rfl,Below.refl _ _,rfl,fun h=>absurd h (by decide)⟩
    ·have d3:=got (hv 3 63 rfl) (hd 3 (by kernel_rfl))
     clear hb hv hd
     have c:=sc_six (sc_keep hB s.ka)
     refine wpOp_step rfl fun K hK=>?_
     go_simp
     exact hK _ _ ⟨_,rfl,Below.refl _ _,rfl,fun h=>absurd h (by decide)⟩
    ·have b10:f.tmps[10]?=some (.int .i64 0):=(hb 10 (by decide)).trans rfl
     clear hb hv hd
     refine wpOp_step rfl fun K hK=>?_
     go_simp
     exact hK _ _ ⟨_,rfl,Below.refl _ _,rfl,fun h=>absurd h (by decide)⟩
    ·have b4:f.tmps[4]?=some (.pointer (some ⟨w.heap.size+1,0,none⟩)):=(hb 4 (by decide)).trans rfl
     have d5:=got (hv 5 65 rfl) (hd 5 (by kernel_rfl))
     clear hb hv hd
     refine wpOp_step rfl fun K hK=>?_
     go_simp
     exact hK _ _ ⟨_,rfl,Below.refl _ _,rfl,fun h=>absurd h (by decide)⟩
    ·have d6:=got (hv 6 66 rfl) (hd 6 (by kernel_rfl))
     clear hb hv hd
     have c:=tc_keep hB s.kf
     refine wpOp_step rfl fun K hK=>?_
     go_simp
     exact hK _ _ ⟨_,rfl,Below.refl _ _,rfl,fun h=>absurd h (by decide)⟩
    ·have d4:=got (hv 4 64 rfl) (hd 4 (by kernel_rfl))
     have d7:=got (hv 7 67 rfl) (hd 7 (by kernel_rfl))
     clear hb hv hd
     have hg:=hx0.out
     refine wpOp_step rfl fun K hK=>?_
     go_simp
     exact hK _ _ ⟨_,rfl,Below.refl _ _,rfl,fun h=>absurd h (by decide)⟩
    ·have b11:f.tmps[11]?=some (.int .i64 1):=(hb 11 (by decide)).trans rfl
     clear hb hv hd
     refine wpOp_step rfl fun K hK=>?_
     go_simp
     exact hK _ _ ⟨_,rfl,Below.refl _ _,rfl,fun h=>absurd h (by decide)⟩
    ·have b11:f.tmps[11]?=some (.int .i64 1):=(hb 11 (by decide)).trans rfl
     clear hb hv hd
     refine wpOp_step rfl fun K hK=>?_
     go_simp
     exact hK _ _ ⟨_,rfl,Below.refl _ _,rfl,fun h=>absurd h (by decide)⟩
    ·have d9:=got (hv 9 69 rfl) (hd 9 (by kernel_rfl))
     have d10:=got (hv 10 70 rfl) (hd 10 (by kernel_rfl))
     clear hb hv hd
     refine wpOp_call rfl Tryz.call63 (args2 (eval_tmp d9) (eval_tmp d10)) (place_ok 1 1 3 (by simp [At9]) _) ?_
     rintro e5 w5_ ⟨rfl,hb5⟩
     exact ⟨_,rfl,_,rfl,hb5,rfl,fun h=>absurd h (by decide)⟩
    ·have b3:f.tmps[3]?=some (.pointer (some ⟨w.heap.size,0,none⟩)):=(hb 3 (by decide)).trans rfl
     have d11:=got (hv 11 71 rfl) (hd 11 (by kernel_rfl))
     clear hb hv hd
     refine wpOp_step rfl fun K hK=>?_
     go_simp
     exact hK _ _ ⟨_,rfl,Below.refl _ _,rfl,fun h=>absurd h (by decide)⟩
    ·have d12:=got (hv 12 72 rfl) (hd 12 (by kernel_rfl))
     clear hb hv hd
     have c:=sc_six (sc_keep hB s.ka)
     refine wpOp_step rfl fun K hK=>?_
     go_simp
     exact hK _ _ ⟨_,rfl,Below.refl _ _,rfl,fun h=>absurd h (by decide)⟩
    ·have b11:f.tmps[11]?=some (.int .i64 1):=(hb 11 (by decide)).trans rfl
     clear hb hv hd
     refine wpOp_step rfl fun K hK=>?_
     go_simp
     exact hK _ _ ⟨_,rfl,Below.refl _ _,rfl,fun h=>absurd h (by decide)⟩
    ·have b4:f.tmps[4]?=some (.pointer (some ⟨w.heap.size+1,0,none⟩)):=(hb 4 (by decide)).trans rfl
     have d14:=got (hv 14 74 rfl) (hd 14 (by kernel_rfl))
     clear hb hv hd
     refine wpOp_step rfl fun K hK=>?_
     go_simp
     exact hK _ _ ⟨_,rfl,Below.refl _ _,rfl,fun h=>absurd h (by decide)⟩
    ·have d15:=got (hv 15 75 rfl) (hd 15 (by kernel_rfl))
     clear hb hv hd
     have c:=tc_keep hB s.kf
     refine wpOp_step rfl fun K hK=>?_
     go_simp
     exact hK _ _ ⟨_,rfl,Below.refl _ _,rfl,fun h=>absurd h (by decide)⟩
    ·have d13:=got (hv 13 73 rfl) (hd 13 (by kernel_rfl))
     have d16:=got (hv 16 76 rfl) (hd 16 (by kernel_rfl))
     clear hb hv hd
     have hg:=hx3.out
     refine wpOp_step rfl fun K hK=>?_
     go_simp
     exact hK _ _ ⟨_,rfl,Below.refl _ _,rfl,fun h=>absurd h (by decide)⟩
    ·have d8:=got (hv 8 68 rfl) (hd 8 (by kernel_rfl))
     have d17:=got (hv 17 77 rfl) (hd 17 (by kernel_rfl))
     clear hb hv hd
     refine wpOp_call rfl Tryz.call64 (args2 (eval_tmp d8) (eval_tmp d17)) (cR1 _) ?_
     rintro e5 w5_ ⟨rfl,hb5⟩
     exact ⟨_,rfl,_,rfl,hb5,rfl,fun h=>absurd h (by decide)⟩
   ·intro v w' hB hF hD
    have F0:v 0=_:=hF 0 (by simp)
    have F1:v 1=_:=hF 1 (by simp)
    have F2:v 2=_:=hF 2 (by simp)
    have F3:v 3=_:=hF 3 (by simp)
    have F4:v 4=_:=hF 4 (by simp)
    have F5:v 5=_:=hF 5 (by simp)
    have F6:v 6=_:=hF 6 (by simp)
    have F7:v 7=_:=hF 7 (by simp)
    have F8:v 8=_:=hF 8 (by simp)
    have F9:v 9=_:=hF 9 (by simp)
    have F10:v 10=_:=hF 10 (by simp)
    have F11:v 11=_:=hF 11 (by simp)
    have F12:v 12=_:=hF 12 (by simp)
    have F13:v 13=_:=hF 13 (by simp)
    have F14:v 14=_:=hF 14 (by simp)
    have F15:v 15=_:=hF 15 (by simp)
    have F16:v 16=_:=hF 16 (by simp)
    have F17:v 17=_:=hF 17 (by simp)
    have F18:v 18=_:=hF 18 (by simp)
    clear hF
    simp only [frOf,frGo,Nat.zero_add,Nat.reduceAdd,F0,F1,F2,F3,F4,F5,F6,F7,F8,F9,F10,F11,F12,F13,F14,F15,F16,F17,F18]
    replace s:=dm_keep s hB
    clear hB hD cR1 F0 F1 F2 F3 F4 F5 F6 F7 F8 F9 F10 F11 F12 F13 F14 F15 F16 F17 F18
    have hp9:∀ w,Calls Tryz.prog 63 #[.int .i64 0,.int .i64 1] w (RetV (.int .i64 1) w):=fun w=>place_ok 0 1 1 (by simp [At9]) w
    go_wp2_with fail
    refine (hp9 _).mono ?_
    rintro e1_ v1_ ⟨rfl,hb⟩
    replace s:=dm_keep s hb
    clear hb hp9
    have a6:=sc_six s.ka
    have fa:=sf_six s.fa
    go_wp2_with fail
    refine (cC1 _).mono ?_
    rintro e2_ v2_ ⟨rfl,hb⟩
    replace s:=dm_keep s hb
    clear hb a6 fa cC1
    have a6:=sc_six s.ka
    have fa:=sf_six s.fa
    have K:=Lib.hid (dm_put s 1 q1 (by decide))
    clear s
    go_wp2
    generalize v2_.setCell ⟨w.heap.size,1,none⟩ (.int .i64 q1)=v3_ at *
    have s:=K.out
    clear K a6 fa
    rw [show umk x3 1 q1=y from hq1.out.symm] at s
    rw [rounds_succ]
    go_wp2
    refine region_each [60,61,62,63,64,65,66,67,68,69,70,71,72,73,74,75,76,77,78] (fun i_ X_ U_=>match i_ with | 0=>X_=.int .i64 0 | 1=>X_=.int .i64 0 | 2=>X_=.int .i64 0 | 3=>X_=.pointer (some ⟨w.heap.size,0,none⟩) | 4=>X_=.int .i64 (y 0) | 5=>X_=.int .i64 0 | 6=>X_=.pointer (some ⟨w.heap.size+1,0,none⟩) | 7=>X_=.int .i64 f0 | 8=>X_=.int .i64 g0 | 9=>X_=.int .i64 2 | 10=>X_=.int .i64 2 | 11=>X_=.int .i64 5 | 12=>X_=.pointer (some ⟨w.heap.size,5,none⟩) | 13=>X_=.int .i64 (y 5) | 14=>X_=.int .i64 2 | 15=>X_=.pointer (some ⟨w.heap.size+1,2,none⟩) | 16=>X_=.int .i64 f2 | 17=>X_=.int .i64 g2 | 18=>X_=.int .i64 r2 | _=>True) (fun i_=>false) (by kernel_rfl) (by kernel_rfl) (by kernel_rfl) (by kernel_rfl) (by kernel_rfl) ?_ (fun i x w hi ha h=>by cases ha) ?_ ?_
    ·refine swp (upS (upS (upS (upS (upS (upS (upS (upS (upS (upS (upS (upS (upS (upS (upS (upS (upS (upS (upS up0 ?_) ?_) ?_) ?_) ?_) ?_) ?_) ?_) ?_) ?_) ?_) ?_) ?_) ?_) ?_) ?_) ?_) ?_) ?_)
     all_goals exact fun _ _ _ h _=>h
    ·refine upS (upS (upS (upS (upS (upS (upS (upS (upS (upS (upS (upS (upS (upS (upS (upS (upS (upS (upS up0 ?_) ?_) ?_) ?_) ?_) ?_) ?_) ?_) ?_) ?_) ?_) ?_) ?_) ?_) ?_) ?_) ?_) ?_) ?_
     all_goals intro v f w' hb hv hB hd
     ·have b10:f.tmps[10]?=some (.int .i64 0):=(hb 10 (by decide)).trans rfl
      clear hb hv hd
      refine wpOp_step rfl fun K hK=>?_
      go_simp
      exact hK _ _ ⟨_,rfl,Below.refl _ _,rfl,fun h=>absurd h (by decide)⟩
     ·have b10:f.tmps[10]?=some (.int .i64 0):=(hb 10 (by decide)).trans rfl
      clear hb hv hd
      refine wpOp_step rfl fun K hK=>?_
      go_simp
      exact hK _ _ ⟨_,rfl,Below.refl _ _,rfl,fun h=>absurd h (by decide)⟩
     ·have d0:=got (hv 0 60 rfl) (hd 0 (by kernel_rfl))
      have d1:=got (hv 1 61 rfl) (hd 1 (by kernel_rfl))
      clear hb hv hd
      refine wpOp_call rfl Tryz.call63 (args2 (eval_tmp d0) (eval_tmp d1)) (place_ok 0 0 0 (by simp [At9]) _) ?_
      rintro e5 w5_ ⟨rfl,hb5⟩
      exact ⟨_,rfl,_,rfl,hb5,rfl,fun h=>absurd h (by decide)⟩
     ·have b3:f.tmps[3]?=some (.pointer (some ⟨w.heap.size,0,none⟩)):=(hb 3 (by decide)).trans rfl
      have d2:=got (hv 2 62 rfl) (hd 2 (by kernel_rfl))
      clear hb hv hd
      refine wpOp_step rfl fun K hK=>?_
      go_simp
      exact hK _ _ ⟨_,rfl,Below.refl _ _,rfl,fun h=>absurd h (by decide)⟩
     ·have d3:=got (hv 3 63 rfl) (hd 3 (by kernel_rfl))
      clear hb hv hd
      have c:=sc_six (sc_keep hB s.ka)
      refine wpOp_step rfl fun K hK=>?_
      go_simp
      exact hK _ _ ⟨_,rfl,Below.refl _ _,rfl,fun h=>absurd h (by decide)⟩
     ·have b10:f.tmps[10]?=some (.int .i64 0):=(hb 10 (by decide)).trans rfl
      clear hb hv hd
      refine wpOp_step rfl fun K hK=>?_
      go_simp
      exact hK _ _ ⟨_,rfl,Below.refl _ _,rfl,fun h=>absurd h (by decide)⟩
     ·have b4:f.tmps[4]?=some (.pointer (some ⟨w.heap.size+1,0,none⟩)):=(hb 4 (by decide)).trans rfl
      have d5:=got (hv 5 65 rfl) (hd 5 (by kernel_rfl))
      clear hb hv hd
      refine wpOp_step rfl fun K hK=>?_
      go_simp
      exact hK _ _ ⟨_,rfl,Below.refl _ _,rfl,fun h=>absurd h (by decide)⟩
     ·have d6:=got (hv 6 66 rfl) (hd 6 (by kernel_rfl))
      clear hb hv hd
      have c:=tc_keep hB s.kf
      refine wpOp_step rfl fun K hK=>?_
      go_simp
      exact hK _ _ ⟨_,rfl,Below.refl _ _,rfl,fun h=>absurd h (by decide)⟩
     ·have d4:=got (hv 4 64 rfl) (hd 4 (by kernel_rfl))
      have d7:=got (hv 7 67 rfl) (hd 7 (by kernel_rfl))
      clear hb hv hd
      have hg:=hy0.out
      refine wpOp_step rfl fun K hK=>?_
      go_simp
      exact hK _ _ ⟨_,rfl,Below.refl _ _,rfl,fun h=>absurd h (by decide)⟩
     ·have b11:f.tmps[11]?=some (.int .i64 2):=(hb 11 (by decide)).trans rfl
      clear hb hv hd
      refine wpOp_step rfl fun K hK=>?_
      go_simp
      exact hK _ _ ⟨_,rfl,Below.refl _ _,rfl,fun h=>absurd h (by decide)⟩
     ·have b11:f.tmps[11]?=some (.int .i64 2):=(hb 11 (by decide)).trans rfl
      clear hb hv hd
      refine wpOp_step rfl fun K hK=>?_
      go_simp
      exact hK _ _ ⟨_,rfl,Below.refl _ _,rfl,fun h=>absurd h (by decide)⟩
     ·have d9:=got (hv 9 69 rfl) (hd 9 (by kernel_rfl))
      have d10:=got (hv 10 70 rfl) (hd 10 (by kernel_rfl))
      clear hb hv hd
      refine wpOp_call rfl Tryz.call63 (args2 (eval_tmp d9) (eval_tmp d10)) (place_ok 2 2 5 (by simp [At9]) _) ?_
      rintro e5 w5_ ⟨rfl,hb5⟩
      exact ⟨_,rfl,_,rfl,hb5,rfl,fun h=>absurd h (by decide)⟩
     ·have b3:f.tmps[3]?=some (.pointer (some ⟨w.heap.size,0,none⟩)):=(hb 3 (by decide)).trans rfl
      have d11:=got (hv 11 71 rfl) (hd 11 (by kernel_rfl))
      clear hb hv hd
      refine wpOp_step rfl fun K hK=>?_
      go_simp
      exact hK _ _ ⟨_,rfl,Below.refl _ _,rfl,fun h=>absurd h (by decide)⟩
     ·have d12:=got (hv 12 72 rfl) (hd 12 (by kernel_rfl))
      clear hb hv hd
      have c:=sc_six (sc_keep hB s.ka)
      refine wpOp_step rfl fun K hK=>?_
      go_simp
      exact hK _ _ ⟨_,rfl,Below.refl _ _,rfl,fun h=>absurd h (by decide)⟩
     ·have b11:f.tmps[11]?=some (.int .i64 2):=(hb 11 (by decide)).trans rfl
      clear hb hv hd
      refine wpOp_step rfl fun K hK=>?_
      go_simp
      exact hK _ _ ⟨_,rfl,Below.refl _ _,rfl,fun h=>absurd h (by decide)⟩
     ·have b4:f.tmps[4]?=some (.pointer (some ⟨w.heap.size+1,0,none⟩)):=(hb 4 (by decide)).trans rfl
      have d14:=got (hv 14 74 rfl) (hd 14 (by kernel_rfl))
      clear hb hv hd
      refine wpOp_step rfl fun K hK=>?_
      go_simp
      exact hK _ _ ⟨_,rfl,Below.refl _ _,rfl,fun h=>absurd h (by decide)⟩
     ·have d15:=got (hv 15 75 rfl) (hd 15 (by kernel_rfl))
      clear hb hv hd
      have c:=tc_keep hB s.kf
      refine wpOp_step rfl fun K hK=>?_
      go_simp
      exact hK _ _ ⟨_,rfl,Below.refl _ _,rfl,fun h=>absurd h (by decide)⟩
     ·have d13:=got (hv 13 73 rfl) (hd 13 (by kernel_rfl))
      have d16:=got (hv 16 76 rfl) (hd 16 (by kernel_rfl))
      clear hb hv hd
      have hg:=hy5.out
      refine wpOp_step rfl fun K hK=>?_
      go_simp
      exact hK _ _ ⟨_,rfl,Below.refl _ _,rfl,fun h=>absurd h (by decide)⟩
     ·have d8:=got (hv 8 68 rfl) (hd 8 (by kernel_rfl))
      have d17:=got (hv 17 77 rfl) (hd 17 (by kernel_rfl))
      clear hb hv hd
      refine wpOp_call rfl Tryz.call64 (args2 (eval_tmp d8) (eval_tmp d17)) (cR2 _) ?_
      rintro e5 w5_ ⟨rfl,hb5⟩
      exact ⟨_,rfl,_,rfl,hb5,rfl,fun h=>absurd h (by decide)⟩
    ·intro v w' hB hF hD
     have F0:v 0=_:=hF 0 (by simp)
     have F1:v 1=_:=hF 1 (by simp)
     have F2:v 2=_:=hF 2 (by simp)
     have F3:v 3=_:=hF 3 (by simp)
     have F4:v 4=_:=hF 4 (by simp)
     have F5:v 5=_:=hF 5 (by simp)
     have F6:v 6=_:=hF 6 (by simp)
     have F7:v 7=_:=hF 7 (by simp)
     have F8:v 8=_:=hF 8 (by simp)
     have F9:v 9=_:=hF 9 (by simp)
     have F10:v 10=_:=hF 10 (by simp)
     have F11:v 11=_:=hF 11 (by simp)
     have F12:v 12=_:=hF 12 (by simp)
     have F13:v 13=_:=hF 13 (by simp)
     have F14:v 14=_:=hF 14 (by simp)
     have F15:v 15=_:=hF 15 (by simp)
     have F16:v 16=_:=hF 16 (by simp)
     have F17:v 17=_:=hF 17 (by simp)
     have F18:v 18=_:=hF 18 (by simp)
     clear hF
     simp only [frOf,frGo,Nat.zero_add,Nat.reduceAdd,F0,F1,F2,F3,F4,F5,F6,F7,F8,F9,F10,F11,F12,F13,F14,F15,F16,F17,F18]
     replace s:=dm_keep s hB
     clear hB hD cR2 F0 F1 F2 F3 F4 F5 F6 F7 F8 F9 F10 F11 F12 F13 F14 F15 F16 F17 F18
     have hp9:∀ w,Calls Tryz.prog 63 #[.int .i64 0,.int .i64 2] w (RetV (.int .i64 2) w):=fun w=>place_ok 0 2 2 (by simp [At9]) w
     go_wp2_with fail
     refine (hp9 _).mono ?_
     rintro e1_ v1_ ⟨rfl,hb⟩
     replace s:=dm_keep s hb
     clear hb hp9
     have a6:=sc_six s.ka
     have fa:=sf_six s.fa
     go_wp2_with fail
     refine (cC2 _).mono ?_
     rintro e2_ v2_ ⟨rfl,hb⟩
     replace s:=dm_keep s hb
     clear hb a6 fa cC2
     have a6:=sc_six s.ka
     have fa:=sf_six s.fa
     have K:=Lib.hid (dm_put s 2 q2 (by decide))
     clear s
     go_wp2
     generalize v2_.setCell ⟨w.heap.size,2,none⟩ (.int .i64 q2)=v3_ at *
     have s:=K.out
     clear K a6 fa
     rw [show umk y 2 q2=z from hq2.out.symm] at s
     rw [rounds_succ]
     go_wp2
     rw [rounds_succ]
     go_wp2
     refine wp_loop_rounds 4 ?_
     rw [rounds_succ]
     go_wp2
     refine region_each [60,61,62,63,64,65,66,67,68,69,70,71,72,73,74,75,76,77,78] (fun i_ X_ U_=>match i_ with | 0=>X_=.int .i64 1 | 1=>X_=.int .i64 1 | 2=>X_=.int .i64 3 | 3=>X_=.pointer (some ⟨w.heap.size,3,none⟩) | 4=>X_=.int .i64 (z 3) | 5=>X_=.int .i64 1 | 6=>X_=.pointer (some ⟨w.heap.size+1,1,none⟩) | 7=>X_=.int .i64 f1 | 8=>X_=.int .i64 g1 | 9=>X_=.int .i64 2 | 10=>X_=.int .i64 2 | 11=>X_=.int .i64 5 | 12=>X_=.pointer (some ⟨w.heap.size,5,none⟩) | 13=>X_=.int .i64 (z 5) | 14=>X_=.int .i64 2 | 15=>X_=.pointer (some ⟨w.heap.size+1,2,none⟩) | 16=>X_=.int .i64 f2 | 17=>X_=.int .i64 g2 | 18=>X_=.int .i64 r4 | _=>True) (fun i_=>false) (by kernel_rfl) (by kernel_rfl) (by kernel_rfl) (by kernel_rfl) (by kernel_rfl) ?_ (fun i x w hi ha h=>by cases ha) ?_ ?_
     ·refine swp (upS (upS (upS (upS (upS (upS (upS (upS (upS (upS (upS (upS (upS (upS (upS (upS (upS (upS (upS up0 ?_) ?_) ?_) ?_) ?_) ?_) ?_) ?_) ?_) ?_) ?_) ?_) ?_) ?_) ?_) ?_) ?_) ?_) ?_)
      all_goals exact fun _ _ _ h _=>h
     ·refine upS (upS (upS (upS (upS (upS (upS (upS (upS (upS (upS (upS (upS (upS (upS (upS (upS (upS (upS up0 ?_) ?_) ?_) ?_) ?_) ?_) ?_) ?_) ?_) ?_) ?_) ?_) ?_) ?_) ?_) ?_) ?_) ?_) ?_
      all_goals intro v f w' hb hv hB hd
      ·have b10:f.tmps[10]?=some (.int .i64 1):=(hb 10 (by decide)).trans rfl
       clear hb hv hd
       refine wpOp_step rfl fun K hK=>?_
       go_simp
       exact hK _ _ ⟨_,rfl,Below.refl _ _,rfl,fun h=>absurd h (by decide)⟩
      ·have b10:f.tmps[10]?=some (.int .i64 1):=(hb 10 (by decide)).trans rfl
       clear hb hv hd
       refine wpOp_step rfl fun K hK=>?_
       go_simp
       exact hK _ _ ⟨_,rfl,Below.refl _ _,rfl,fun h=>absurd h (by decide)⟩
      ·have d0:=got (hv 0 60 rfl) (hd 0 (by kernel_rfl))
       have d1:=got (hv 1 61 rfl) (hd 1 (by kernel_rfl))
       clear hb hv hd
       refine wpOp_call rfl Tryz.call63 (args2 (eval_tmp d0) (eval_tmp d1)) (place_ok 1 1 3 (by simp [At9]) _) ?_
       rintro e5 w5_ ⟨rfl,hb5⟩
       exact ⟨_,rfl,_,rfl,hb5,rfl,fun h=>absurd h (by decide)⟩
      ·have b3:f.tmps[3]?=some (.pointer (some ⟨w.heap.size,0,none⟩)):=(hb 3 (by decide)).trans rfl
       have d2:=got (hv 2 62 rfl) (hd 2 (by kernel_rfl))
       clear hb hv hd
       refine wpOp_step rfl fun K hK=>?_
       go_simp
       exact hK _ _ ⟨_,rfl,Below.refl _ _,rfl,fun h=>absurd h (by decide)⟩
      ·have d3:=got (hv 3 63 rfl) (hd 3 (by kernel_rfl))
       clear hb hv hd
       have c:=sc_six (sc_keep hB s.ka)
       refine wpOp_step rfl fun K hK=>?_
       go_simp
       exact hK _ _ ⟨_,rfl,Below.refl _ _,rfl,fun h=>absurd h (by decide)⟩
      ·have b10:f.tmps[10]?=some (.int .i64 1):=(hb 10 (by decide)).trans rfl
       clear hb hv hd
       refine wpOp_step rfl fun K hK=>?_
       go_simp
       exact hK _ _ ⟨_,rfl,Below.refl _ _,rfl,fun h=>absurd h (by decide)⟩
      ·have b4:f.tmps[4]?=some (.pointer (some ⟨w.heap.size+1,0,none⟩)):=(hb 4 (by decide)).trans rfl
       have d5:=got (hv 5 65 rfl) (hd 5 (by kernel_rfl))
       clear hb hv hd
       refine wpOp_step rfl fun K hK=>?_
       go_simp
       exact hK _ _ ⟨_,rfl,Below.refl _ _,rfl,fun h=>absurd h (by decide)⟩
      ·have d6:=got (hv 6 66 rfl) (hd 6 (by kernel_rfl))
       clear hb hv hd
       have c:=tc_keep hB s.kf
       refine wpOp_step rfl fun K hK=>?_
       go_simp
       exact hK _ _ ⟨_,rfl,Below.refl _ _,rfl,fun h=>absurd h (by decide)⟩
      ·have d4:=got (hv 4 64 rfl) (hd 4 (by kernel_rfl))
       have d7:=got (hv 7 67 rfl) (hd 7 (by kernel_rfl))
       clear hb hv hd
       have hg:=hz3.out
       refine wpOp_step rfl fun K hK=>?_
       go_simp
       exact hK _ _ ⟨_,rfl,Below.refl _ _,rfl,fun h=>absurd h (by decide)⟩
      ·have b11:f.tmps[11]?=some (.int .i64 2):=(hb 11 (by decide)).trans rfl
       clear hb hv hd
       refine wpOp_step rfl fun K hK=>?_
       go_simp
       exact hK _ _ ⟨_,rfl,Below.refl _ _,rfl,fun h=>absurd h (by decide)⟩
      ·have b11:f.tmps[11]?=some (.int .i64 2):=(hb 11 (by decide)).trans rfl
       clear hb hv hd
       refine wpOp_step rfl fun K hK=>?_
       go_simp
       exact hK _ _ ⟨_,rfl,Below.refl _ _,rfl,fun h=>absurd h (by decide)⟩
      ·have d9:=got (hv 9 69 rfl) (hd 9 (by kernel_rfl))
       have d10:=got (hv 10 70 rfl) (hd 10 (by kernel_rfl))
       clear hb hv hd
       refine wpOp_call rfl Tryz.call63 (args2 (eval_tmp d9) (eval_tmp d10)) (place_ok 2 2 5 (by simp [At9]) _) ?_
       rintro e5 w5_ ⟨rfl,hb5⟩
       exact ⟨_,rfl,_,rfl,hb5,rfl,fun h=>absurd h (by decide)⟩
      ·have b3:f.tmps[3]?=some (.pointer (some ⟨w.heap.size,0,none⟩)):=(hb 3 (by decide)).trans rfl
       have d11:=got (hv 11 71 rfl) (hd 11 (by kernel_rfl))
       clear hb hv hd
       refine wpOp_step rfl fun K hK=>?_
       go_simp
       exact hK _ _ ⟨_,rfl,Below.refl _ _,rfl,fun h=>absurd h (by decide)⟩
      ·have d12:=got (hv 12 72 rfl) (hd 12 (by kernel_rfl))
       clear hb hv hd
       have c:=sc_six (sc_keep hB s.ka)
       refine wpOp_step rfl fun K hK=>?_
       go_simp
       exact hK _ _ ⟨_,rfl,Below.refl _ _,rfl,fun h=>absurd h (by decide)⟩
      ·have b11:f.tmps[11]?=some (.int .i64 2):=(hb 11 (by decide)).trans rfl
       clear hb hv hd
       refine wpOp_step rfl fun K hK=>?_
       go_simp
       exact hK _ _ ⟨_,rfl,Below.refl _ _,rfl,fun h=>absurd h (by decide)⟩
      ·have b4:f.tmps[4]?=some (.pointer (some ⟨w.heap.size+1,0,none⟩)):=(hb 4 (by decide)).trans rfl
       have d14:=got (hv 14 74 rfl) (hd 14 (by kernel_rfl))
       clear hb hv hd
       refine wpOp_step rfl fun K hK=>?_
       go_simp
       exact hK _ _ ⟨_,rfl,Below.refl _ _,rfl,fun h=>absurd h (by decide)⟩
      ·have d15:=got (hv 15 75 rfl) (hd 15 (by kernel_rfl))
       clear hb hv hd
       have c:=tc_keep hB s.kf
       refine wpOp_step rfl fun K hK=>?_
       go_simp
       exact hK _ _ ⟨_,rfl,Below.refl _ _,rfl,fun h=>absurd h (by decide)⟩
      ·have d13:=got (hv 13 73 rfl) (hd 13 (by kernel_rfl))
       have d16:=got (hv 16 76 rfl) (hd 16 (by kernel_rfl))
       clear hb hv hd
       have hg:=hz5.out
       refine wpOp_step rfl fun K hK=>?_
       go_simp
       exact hK _ _ ⟨_,rfl,Below.refl _ _,rfl,fun h=>absurd h (by decide)⟩
      ·have d8:=got (hv 8 68 rfl) (hd 8 (by kernel_rfl))
       have d17:=got (hv 17 77 rfl) (hd 17 (by kernel_rfl))
       clear hb hv hd
       refine wpOp_call rfl Tryz.call64 (args2 (eval_tmp d8) (eval_tmp d17)) (cR4 _) ?_
       rintro e5 w5_ ⟨rfl,hb5⟩
       exact ⟨_,rfl,_,rfl,hb5,rfl,fun h=>absurd h (by decide)⟩
     ·intro v w' hB hF hD
      have F0:v 0=_:=hF 0 (by simp)
      have F1:v 1=_:=hF 1 (by simp)
      have F2:v 2=_:=hF 2 (by simp)
      have F3:v 3=_:=hF 3 (by simp)
      have F4:v 4=_:=hF 4 (by simp)
      have F5:v 5=_:=hF 5 (by simp)
      have F6:v 6=_:=hF 6 (by simp)
      have F7:v 7=_:=hF 7 (by simp)
      have F8:v 8=_:=hF 8 (by simp)
      have F9:v 9=_:=hF 9 (by simp)
      have F10:v 10=_:=hF 10 (by simp)
      have F11:v 11=_:=hF 11 (by simp)
      have F12:v 12=_:=hF 12 (by simp)
      have F13:v 13=_:=hF 13 (by simp)
      have F14:v 14=_:=hF 14 (by simp)
      have F15:v 15=_:=hF 15 (by simp)
      have F16:v 16=_:=hF 16 (by simp)
      have F17:v 17=_:=hF 17 (by simp)
      have F18:v 18=_:=hF 18 (by simp)
      clear hF
      simp only [frOf,frGo,Nat.zero_add,Nat.reduceAdd,F0,F1,F2,F3,F4,F5,F6,F7,F8,F9,F10,F11,F12,F13,F14,F15,F16,F17,F18]
      replace s:=dm_keep s hB
      clear hB hD cR4 F0 F1 F2 F3 F4 F5 F6 F7 F8 F9 F10 F11 F12 F13 F14 F15 F16 F17 F18
      have hp9:∀ w,Calls Tryz.prog 63 #[.int .i64 1,.int .i64 2] w (RetV (.int .i64 4) w):=fun w=>place_ok 1 2 4 (by simp [At9]) w
      go_wp2_with fail
      refine (hp9 _).mono ?_
      rintro e1_ v1_ ⟨rfl,hb⟩
      replace s:=dm_keep s hb
      clear hb hp9
      have a6:=sc_six s.ka
      have fa:=sf_six s.fa
      go_wp2_with fail
      refine (cC4 _).mono ?_
      rintro e2_ v2_ ⟨rfl,hb⟩
      replace s:=dm_keep s hb
      clear hb a6 fa cC4
      have a6:=sc_six s.ka
      have fa:=sf_six s.fa
      have K:=Lib.hid (dm_put s 4 q4 (by decide))
      clear s
      go_wp2
      generalize v2_.setCell ⟨w.heap.size,4,none⟩ (.int .i64 q4)=v3_ at *
      have s:=K.out
      clear K a6 fa
      rw [show umk z 4 q4=u from hq4.out.symm] at s
      rw [rounds_succ]
      go_wp2
      rw [rounds_succ]
      go_wp2
      refine wp_loop_rounds 4 ?_
      rw [rounds_succ]
      go_wp2
      rw [rounds_succ]
      have d6:=sc_six s.kd
      have g6:=sf_six s.fd
      have a6:=sc_six s.ka
      have B9:=s.b
      clear s
      go_wp2
      obtain ⟨r0,r1,r2,r3,r4,r5⟩:=d6
      refine bodyPost_ret (v:=.tuple #[sv (u),.int .i64 0]) (by simp [results,Tryz.results27,go_sem,r0,r1,r2,r3,r4,r5]) rfl ⟨rfl,?_⟩
      have q:w.heap.size≤w.heap.size+1+1+1:=by omega
      exact b_set (b_set (b_set (b_set (b_set (b_set B9 q) q) q) q) q) q
end Go.Proofs.YtmcchknilnejgaaGreatDoor
namespace Go.Proofs.YtmcchknilnejgaaGreatDoor
open Go.RowKit Go.Shelf
theorem rtmz_sv (m:Nat→Int) (f0 f1 f2 c0 c1 c2 a b c:Int):sv (umk (umk (umk (umk (umk (umk m 0 (tdg (m 0) f0 c0)) 3 (tdg (m 3) f1 c1)) 5 (tdg (m 5) f2 c2)) 1 (clz (m 1) a)) 2 (clz (m 2) b)) 4 (clz (m 4) c))=sv (tmz m f0 f1 f2 c0 c1 c2 a b c):=by
 simp [sv,umk,tmz]
theorem rtame_ok (m:Nat→Int) (f0 f1 f2 c0 c1 c2 a b c:Int) (hm:I6 m) (h0:FB f0 c0) (h1:FB f1 c1) (h2:FB f2 c2) (R:TR m f0 f1 f2 c0 c1 c2 a b c) (w:World) :
  Calls Tryz.prog 27 #[sv m,tv f0 f1 f2,tv c0 c1 c2] w (RetV (.tuple #[sv (tmz m f0 f1 f2 c0 c1 c2 a b c),.int .i64 0]) w):=by
 have d0:=tdg_in (x:=m 0) h0.2.1
 have d1:=tdg_in (x:=m 3) h1.2.1
 have d2:=tdg_in (x:=m 5) h2.2.1
 obtain ⟨ha,hb,hc⟩:=tr_fits h0 h1 h2 R
 have k1:=hm 1 (by decide)
 have k2:=hm 2 (by decide)
 have k4:=hm 4 (by decide)
 obtain ⟨h00,h01,h02⟩:=h0
 obtain ⟨h10,h11,h12⟩:=h1
 obtain ⟨h20,h21,h22⟩:=h2
 have w0:=sub_i64 (x:=tdg (m 0) f0 c0) (f:=f0) (by omega) (by omega)
 have w1:=sub_i64 (x:=tdg (m 3) f1 c1) (f:=f1) (by omega) (by omega)
 have w2:=sub_i64 (x:=tdg (m 5) f2 c2) (f:=f2) (by omega) (by omega)
 rw [← rtmz_sv]
 refine rtame_go m (umk m 0 (tdg (m 0) f0 c0)) (umk (umk m 0 (tdg (m 0) f0 c0)) 3 (tdg (m 3) f1 c1)) (umk (umk (umk m 0 (tdg (m 0) f0 c0)) 3 (tdg (m 3) f1 c1)) 5 (tdg (m 5) f2 c2)) _ _ _ f0 f1 f2 c0 c1 c2 (tdg (m 0) f0 c0 - f0) (tdg (m 3) f1 c1 - f1) (tdg (m 5) f2 c2 - f2) a b c (clz (m 1) a) (clz (m 2) b) (clz (m 4) c) ?_ h01 (Lib.hid rfl) h11 (Lib.hid rfl) h21 (Lib.hid rfl)
  (Lib.hid w0) (Lib.hid w1) (Lib.hid w0) (Lib.hid w2) (Lib.hid w1) (Lib.hid w2)
  (fun w=>refmean_of _ _ a (by omega) (by omega) (by omega) (by omega) R.a w) (fun w=>refmean_of _ _ b (by omega) (by omega) (by omega) (by omega) R.b w) (fun w=>refmean_of _ _ c (by omega) (by omega) (by omega) (by omega) R.c w)
  (fun w=>retV_same (clamp_ref (m 1) a k1.1 k1.2 (by omega) (by omega) w)) (Lib.hid rfl) (fun w=>retV_same (clamp_ref (m 2) b k2.1 k2.2 (by omega) (by omega) w)) (Lib.hid rfl) (fun w=>retV_same (clamp_ref (m 4) c k4.1 k4.2 (by omega) (by omega) w)) (Lib.hid rfl) w
 intro w
 have q:=rmay_any f0 f1 f2 c0 c1 c2 ⟨by omega,by omega⟩ ⟨by omega,by omega⟩ ⟨by omega,by omega⟩ w
 rwa [mayb_yes ⟨⟨h00,h01,h02⟩,⟨h10,h11,h12⟩,⟨h20,h21,h22⟩⟩] at q
end Go.Proofs.YtmcchknilnejgaaGreatDoor

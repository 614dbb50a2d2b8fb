import Derived.Test.YthnofhjgfhapiaaGreatDoorWae
import Derived.Test.YthnofhjgfhapiaaGreatDoorWaf
import Derived.Test.YthnofhjgfhapiaaGreatDoorWaa
import Derived.Test.YthnofhjgfhapiaaGreatDoorWac
import Derived.LoopN
import Derived.Deep.QuietTactic
import Derived.BigQuiet
import Derived.Lib.SmallJoins
import Derived.Deep.LoopGhost
import Derived.BigRegion
import Derived.Test.YthnofhjgfhapiaaGreatDoorWai
import Derived.Orders
import Derived.RegionTactic
import Derived.Below
import Derived.Test.YthnofhjgfhapiaaGreatDoorWab
set_option maxHeartbeats 4000000
set_option maxRecDepth 10000
namespace Go.Proofs.YthnofhjgfhapiaaGreatDoor
def tdg (x f c:Int):Int:=if c<(if x<f then f else x) then c else (if x<f then f else x)
theorem tdg_in {x f c:Int} (h:f≤c):f≤tdg x f c∧tdg x f c≤c:=by
 unfold tdg
 by_cases k:x<f
 ·rw [if_pos k]; by_cases q:c<f
  ·omega
  ·rw [if_neg q]; omega
 ·rw [if_neg k]; by_cases q:c<x
  ·rw [if_pos q]; omega
  ·rw [if_neg q]; omega
theorem tdg_id {x f c:Int} (h:f≤x) (k:x≤c):tdg x f c=x:=by
 unfold tdg
 rw [if_neg (show ¬ x<f by omega),if_neg (by omega)]
theorem clz_bd {x m:Int} (h:0≤m):-m≤clz x m∧clz x m≤m:=by
 unfold clz
 rw [if_neg (by omega)]
 by_cases k:x < -m
 ·rw [if_pos k]; omega
 ·rw [if_neg k]; by_cases q:m<x
  ·rw [if_pos q]; omega
  ·rw [if_neg q]; omega
theorem clz_id {x m:Int} (h:-m≤x) (k:x≤m):clz x m=x:=by
 unfold clz
 rw [if_neg (by omega),if_neg (by omega),if_neg (by omega)]
theorem sq_abs {x r:Int} (h:-r≤x) (k:x≤r):x*x≤r*r:=by
 by_cases c:0≤x
 ·exact sq_le c k
 ·have:=sq_le (a:=-x) (b:=r) (by omega) (by omega)
  rwa [Int.neg_mul_neg] at this
theorem root_abs {z r x:Int} (R:IsRoot z r):x*x≤z↔-r≤x∧x≤r:=by
 have r0:=R.r0
 constructor
 ·intro h
  by_cases c:0≤x
  ·exact ⟨by omega,R.ge h⟩
  ·have:=R.ge (l:=-x) (by rwa [Int.neg_mul_neg])
   omega
 ·rintro ⟨h,k⟩
  exact Int.le_trans (sq_abs h k) R.lo
abbrev FB (f c:Int):Prop:=0≤f∧f≤c∧c≤288230376151711744
theorem root_fits {x y r:Int} (_x0:0≤x) (x1:x≤288230376151711744) (y0:0≤y) (y1:y≤288230376151711744) (R:IsRoot (x*y) r):0≤r∧r≤288230376151711744:=by
 have h:x*y≤288230376151711744*288230376151711744:=Int.mul_le_mul x1 y1 y0 (by decide)
 have:=R.lt (h:=288230376151711745) (by decide) (by omega)
 exact ⟨R.r0,by omega⟩
def tmz (m:Nat→Int) (f0 f1 f2 c0 c1 c2 a b c:Int):Nat→Int:=fun i =>
 if i=0 then tdg (m 0) f0 c0 else if i=1 then clz (m 1) a else if i=2 then clz (m 2) b else if i=3 then tdg (m 3) f1 c1 else if i=4 then clz (m 4) c else tdg (m 5) f2 c2
theorem tmz_lits (m:Nat→Int) (f0 f1 f2 c0 c1 c2 a b c:Int):tmz m f0 f1 f2 c0 c1 c2 a b c 0=tdg (m 0) f0 c0∧tmz m f0 f1 f2 c0 c1 c2 a b c 1=clz (m 1) a∧tmz m f0 f1 f2 c0 c1 c2 a b c 2=clz (m 2) b ∧
  tmz m f0 f1 f2 c0 c1 c2 a b c 3=tdg (m 3) f1 c1∧tmz m f0 f1 f2 c0 c1 c2 a b c 4=clz (m 4) c∧tmz m f0 f1 f2 c0 c1 c2 a b c 5=tdg (m 5) f2 c2:=⟨rfl,rfl,rfl,rfl,rfl,rfl⟩
structure TR (m:Nat→Int) (f0 f1 f2 c0 c1 c2 a b c:Int):Prop where
 a:IsRoot ((tdg (m 0) f0 c0 - f0)*(tdg (m 3) f1 c1 - f1)) a
 b:IsRoot ((tdg (m 0) f0 c0 - f0)*(tdg (m 5) f2 c2 - f2)) b
 c:IsRoot ((tdg (m 3) f1 c1 - f1)*(tdg (m 5) f2 c2 - f2)) c
section
variable {m:Nat→Int} {f0 f1 f2 c0 c1 c2 a b c:Int}
theorem tr_some (m:Nat→Int) (h0:FB f0 c0) (h1:FB f1 c1) (h2:FB f2 c2):∃ a b c,TR m f0 f1 f2 c0 c1 c2 a b c:=by
 have d0:=tdg_in (x:=m 0) h0.2.1
 have d1:=tdg_in (x:=m 3) h1.2.1
 have d2:=tdg_in (x:=m 5) h2.2.1
 obtain ⟨a,ha⟩:=root_any (Int.mul_nonneg (show 0≤tdg (m 0) f0 c0 - f0 by omega) (show 0≤tdg (m 3) f1 c1 - f1 by omega))
 obtain ⟨b,hb⟩:=root_any (Int.mul_nonneg (show 0≤tdg (m 0) f0 c0 - f0 by omega) (show 0≤tdg (m 5) f2 c2 - f2 by omega))
 obtain ⟨c,hc⟩:=root_any (Int.mul_nonneg (show 0≤tdg (m 3) f1 c1 - f1 by omega) (show 0≤tdg (m 5) f2 c2 - f2 by omega))
 exact ⟨a,b,c,ha,hb,hc⟩
theorem tr_fits (h0:FB f0 c0) (h1:FB f1 c1) (h2:FB f2 c2) (R:TR m f0 f1 f2 c0 c1 c2 a b c):(0≤a∧a≤288230376151711744)∧(0≤b∧b≤288230376151711744)∧(0≤c∧c≤288230376151711744):=by
 have d0:=tdg_in (x:=m 0) h0.2.1
 have d1:=tdg_in (x:=m 3) h1.2.1
 have d2:=tdg_in (x:=m 5) h2.2.1
 exact ⟨root_fits (by omega) (by omega) (by omega) (by omega) R.a,root_fits (by omega) (by omega) (by omega) (by omega) R.b,root_fits (by omega) (by omega) (by omega) (by omega) R.c⟩
theorem tmz_snd (h0:FB f0 c0) (h1:FB f1 c1) (h2:FB f2 c2) (R:TR m f0 f1 f2 c0 c1 c2 a b c):Snd (tmz m f0 f1 f2 c0 c1 c2 a b c) f0 f1 f2:=by
 obtain ⟨e0,e1,e2,e3,e4,e5⟩:=tmz_lits m f0 f1 f2 c0 c1 c2 a b c
 have d0:=tdg_in (x:=m 0) h0.2.1
 have d1:=tdg_in (x:=m 3) h1.2.1
 have d2:=tdg_in (x:=m 5) h2.2.1
 obtain ⟨ha,hb,hc⟩:=tr_fits h0 h1 h2 R
 have k1:=clz_bd (x:=m 1) ha.1
 have k2:=clz_bd (x:=m 2) hb.1
 have k4:=clz_bd (x:=m 4) hc.1
 refine ⟨six (P:=fun i=>FitP (tmz m f0 f1 f2 c0 c1 c2 a b c i)) ?_ ?_ ?_ ?_ ?_ ?_,?_,?_,?_,?_,?_,?_⟩
 ·rw [e0]; constructor <;> omega
 ·rw [e1]; constructor <;> omega
 ·rw [e2]; constructor <;> omega
 ·rw [e3]; constructor <;> omega
 ·rw [e4]; constructor <;> omega
 ·rw [e5]; constructor <;> omega
 ·rw [e0]; exact d0.1
 ·rw [e3]; exact d1.1
 ·rw [e5]; exact d2.1
 ·rw [e0,e1,e3,Int.mul_comm (tdg (m 3) f1 c1 - f1)]; exact (root_abs R.a).2 k1
 ·rw [e0,e2,e5,Int.mul_comm (tdg (m 5) f2 c2 - f2)]; exact (root_abs R.b).2 k2
 ·rw [e3,e4,e5,Int.mul_comm (tdg (m 5) f2 c2 - f2)]; exact (root_abs R.c).2 k4
theorem tmz_stays (h0:FB f0 c0) (h1:FB f1 c1) (h2:FB f2 c2) (R:TR m f0 f1 f2 c0 c1 c2 a b c) :
  (∀ i,i<6→tmz m f0 f1 f2 c0 c1 c2 a b c i=m i)↔(m 0≤c0∧m 3≤c1∧m 5≤c2)∧Snd m f0 f1 f2:=by
 obtain ⟨e0,e1,e2,e3,e4,e5⟩:=tmz_lits m f0 f1 f2 c0 c1 c2 a b c
 constructor
 ·intro h
  have S:=tmz_snd h0 h1 h2 R
  have d0:=(tdg_in (x:=m 0) h0.2.1).2
  have d1:=(tdg_in (x:=m 3) h1.2.1).2
  have d2:=(tdg_in (x:=m 5) h2.2.1).2
  rw [← e0,h 0 (by decide)] at d0
  rw [← e3,h 3 (by decide)] at d1
  rw [← e5,h 5 (by decide)] at d2
  obtain ⟨s,s0,s1,s2,s3,s4,s5⟩:=S
  rw [h 0 (by decide),h 1 (by decide),h 3 (by decide)] at s3
  rw [h 0 (by decide),h 2 (by decide),h 5 (by decide)] at s4
  rw [h 3 (by decide),h 4 (by decide),h 5 (by decide)] at s5
  rw [h 0 (by decide)] at s0
  rw [h 3 (by decide)] at s1
  rw [h 5 (by decide)] at s2
  exact ⟨⟨d0,d1,d2⟩,fun i hi=>by have:=s i hi; rwa [h i hi] at this,s0,s1,s2,s3,s4,s5⟩
 ·rintro ⟨⟨u0,u1,u2⟩,_,s0,s1,s2,s3,s4,s5⟩
  have q0:=tdg_id s0 u0
  have q1:=tdg_id s1 u1
  have q2:=tdg_id s2 u2
  have Ra:=R.a
  have Rb:=R.b
  have Rc:=R.c
  rw [q0,q1,Int.mul_comm] at Ra
  rw [q0,q2,Int.mul_comm] at Rb
  rw [q1,q2,Int.mul_comm] at Rc
  have k1:=(root_abs Ra).1 s3
  have k2:=(root_abs Rb).1 s4
  have k4:=(root_abs Rc).1 s5
  exact six (P:=fun i=>tmz m f0 f1 f2 c0 c1 c2 a b c i=m i) (e0.trans q0) (e1.trans (clz_id k1.1 k1.2)) (e2.trans (clz_id k2.1 k2.2)) (e3.trans q1) (e4.trans (clz_id k4.1 k4.2)) (e5.trans q2)
end
end Go.Proofs.YthnofhjgfhapiaaGreatDoor
namespace Go.Proofs.YthnofhjgfhapiaaGreatDoor
open Go.RowKit Go.Shelf Go.Joins
def sqb (a b:Nat→Int):Bool:=a 0 == b 0 && (a 1 == b 1 && (a 2 == b 2 && (a 3 == b 3 && (a 4 == b 4 && a 5 == b 5))))
theorem sqb_iff {a b:Nat→Int}:sqb a b=true↔∀ i,i<6→a i=b i:=by
 unfold sqb
 simp only [Bool.and_eq_true,beq_iff_eq]
 constructor
 ·rintro ⟨h0,h1,h2,h3,h4,h5⟩
  exact six (P:=fun i=>a i=b i) h0 h1 h2 h3 h4 h5
 ·intro h
  exact ⟨h 0 (by decide),h 1 (by decide),h 2 (by decide),h 3 (by decide),h 4 (by decide),h 5 (by decide)⟩
theorem sqb_same {a b:Nat→Int} (h:∀ i,i<6→a i=b i):sqb a b=true:=sqb_iff.2 h
abbrev FB3 (f0 f1 f2 c0 c1 c2:Int):Prop:=FB f0 c0∧FB f1 c1∧FB f2 c2
def mayb (f0 f1 f2 c0 c1 c2:Int):Bool:=decide (FB3 f0 f1 f2 c0 c1 c2)
theorem mayb_yes {f0 f1 f2 c0 c1 c2:Int} (h:FB3 f0 f1 f2 c0 c1 c2):mayb f0 f1 f2 c0 c1 c2=true:=decide_eq_true h
theorem mayb_no {f0 f1 f2 c0 c1 c2:Int} (h:¬ FB3 f0 f1 f2 c0 c1 c2):mayb f0 f1 f2 c0 c1 c2=false:=decide_eq_false h
theorem may_any (f0 f1 f2 c0 c1 c2:Int) (h0:I64 c0) (h1:I64 c1) (h2:I64 c2) (w:World) :
  Calls Tryz.prog 51 #[tv f0 f1 f2,tv c0 c1 c2] w (RetV (.bool (mayb f0 f1 f2 c0 c1 c2)) w):=by
 have B:Below w.heap.size w ((w.alloc (Obj.cells #[.int .i64 f0,.int .i64 f1,.int .i64 f2] 25)).alloc (Obj.cells #[.int .i64 c0,.int .i64 c1,.int .i64 c2] 25)):=b_alloc (b_alloc (Below.refl _ _))
 obtain ⟨u0,t0⟩:=h0
 obtain ⟨u1,t1⟩:=h1
 obtain ⟨u2,t2⟩:=h2
 obtain ⟨i0,i1,i2⟩:=ix_vec f0 f1 f2
 go_enter Tryz.func51,Tryz.ntmps51
 go_wp2
 refine wp_loop_rounds 4 ?_
 rw [rounds_succ]
 by_cases n0:f0<0
 ·have N0:=Lib.hid n0
  go_wp2
  go_ret
  exact ⟨by rw [mayb_no (fun h=>by have:=h.1; have:=N0.out; omega)]; rfl,B⟩
 have N0:=Lib.hid n0
 by_cases m0:c0<f0
 ·have M0:=Lib.hid m0
  go_wp2
  go_ret
  exact ⟨by rw [mayb_no (fun h=>by have:=h.1; have:=M0.out; omega)]; rfl,B⟩
 have M0:=Lib.hid m0
 by_cases e0:FitP c0
 rotate_left
 ·go_wp2_with fail
  refine (fits_any c0 u0 t0 _).mono ?_
  rintro x_ w0 ⟨rfl,rfl⟩
  rw [fitb_no e0]
  go_wp2
  go_ret
  exact ⟨by rw [mayb_no (fun h=>e0 ⟨by have:=h.1; omega,(h.1).2.2⟩)]; rfl,B⟩
 have E0:=Lib.hid e0
 go_wp2_with fail
 refine (fits_any c0 u0 t0 _).mono ?_
 rintro x_ w0 ⟨rfl,rfl⟩
 rw [fitb_yes e0]
 go_wp2
 clear e0
 rw [rounds_succ]
 by_cases n1:f1<0
 ·have N1:=Lib.hid n1
  go_wp2
  go_ret
  exact ⟨by rw [mayb_no (fun h=>by have:=h.2.1; have:=N1.out; omega)]; rfl,B⟩
 have N1:=Lib.hid n1
 by_cases m1:c1<f1
 ·have M1:=Lib.hid m1
  go_wp2
  go_ret
  exact ⟨by rw [mayb_no (fun h=>by have:=h.2.1; have:=M1.out; omega)]; rfl,B⟩
 have M1:=Lib.hid m1
 by_cases e1:FitP c1
 rotate_left
 ·go_wp2_with fail
  refine (fits_any c1 u1 t1 _).mono ?_
  rintro x_ w1 ⟨rfl,rfl⟩
  rw [fitb_no e1]
  go_wp2
  go_ret
  exact ⟨by rw [mayb_no (fun h=>e1 ⟨by have:=h.2.1; omega,(h.2.1).2.2⟩)]; rfl,B⟩
 have E1:=Lib.hid e1
 go_wp2_with fail
 refine (fits_any c1 u1 t1 _).mono ?_
 rintro x_ w1 ⟨rfl,rfl⟩
 rw [fitb_yes e1]
 go_wp2
 clear e1
 rw [rounds_succ]
 by_cases n2:f2<0
 ·have N2:=Lib.hid n2
  go_wp2
  go_ret
  exact ⟨by rw [mayb_no (fun h=>by have:=h.2.2; have:=N2.out; omega)]; rfl,B⟩
 have N2:=Lib.hid n2
 by_cases m2:c2<f2
 ·have M2:=Lib.hid m2
  go_wp2
  go_ret
  exact ⟨by rw [mayb_no (fun h=>by have:=h.2.2; have:=M2.out; omega)]; rfl,B⟩
 have M2:=Lib.hid m2
 by_cases e2:FitP c2
 rotate_left
 ·go_wp2_with fail
  refine (fits_any c2 u2 t2 _).mono ?_
  rintro x_ w2 ⟨rfl,rfl⟩
  rw [fitb_no e2]
  go_wp2
  go_ret
  exact ⟨by rw [mayb_no (fun h=>e2 ⟨by have:=h.2.2; omega,(h.2.2).2.2⟩)]; rfl,B⟩
 have E2:=Lib.hid e2
 go_wp2_with fail
 refine (fits_any c2 u2 t2 _).mono ?_
 rintro x_ w2 ⟨rfl,rfl⟩
 rw [fitb_yes e2]
 go_wp2
 clear e2
 rw [rounds_succ]
 go_wp2
 go_ret
 exact ⟨by rw [mayb_yes (by have:=N0.out; have:=N1.out; have:=N2.out; have:=M0.out; have:=M1.out; have:=M2.out; exact ⟨⟨by omega,by omega,E0.out.2⟩,⟨by omega,by omega,E1.out.2⟩,⟨by omega,by omega,E2.out.2⟩⟩)]; rfl,B⟩
end Go.Proofs.YthnofhjgfhapiaaGreatDoor
namespace Go.Proofs.YthnofhjgfhapiaaGreatDoor
open Go.RowKit Go.Shelf Go.Joins
abbrev cv (x:Nat→Int):Value:=.agg #[.int .i64 (x 0),.int .i64 (x 1),.int .i64 (x 2),.int .i64 (x 3),.int .i64 (x 4),.int .i64 (x 5),.int .i64 (x 6),.int .i64 (x 7),.int .i64 (x 8),.int .i64 (x 9),.int .i64 (x 10),.int .i64 (x 11),.int .i64 (x 12),.int .i64 (x 13),.int .i64 (x 14),.int .i64 (x 15),.int .i64 (x 16),.int .i64 (x 17),.int .i64 (x 18),.int .i64 (x 19),.int .i64 (x 20),.int .i64 (x 21),.int .i64 (x 22),.int .i64 (x 23),.int .i64 (x 24),.int .i64 (x 25),.int .i64 (x 26),.int .i64 (x 27),.int .i64 (x 28),.int .i64 (x 29),.int .i64 (x 30)]
abbrev CF (w:World) (b:Nat) (x:Nat→Int):Prop:=∀ i,i<31→w.cell? ⟨b,i,none⟩=some (.int .i64 (x i))
theorem cf_new {w:World} {b:Nat} {x:Nat→Int} {t:TypeId} (hn:b=w.heap.size):CF (w.alloc (Obj.cells #[.int .i64 (x 0),.int .i64 (x 1),.int .i64 (x 2),.int .i64 (x 3),.int .i64 (x 4),.int .i64 (x 5),.int .i64 (x 6),.int .i64 (x 7),.int .i64 (x 8),.int .i64 (x 9),.int .i64 (x 10),.int .i64 (x 11),.int .i64 (x 12),.int .i64 (x 13),.int .i64 (x 14),.int .i64 (x 15),.int .i64 (x 16),.int .i64 (x 17),.int .i64 (x 18),.int .i64 (x 19),.int .i64 (x 20),.int .i64 (x 21),.int .i64 (x 22),.int .i64 (x 23),.int .i64 (x 24),.int .i64 (x 25),.int .i64 (x 26),.int .i64 (x 27),.int .i64 (x 28),.int .i64 (x 29),.int .i64 (x 30)] t)) b x:=by
 subst hn
 intro i hi
 match i,hi with
 | 0,_=>simp [go_sem]
 | 1,_=>simp [go_sem]
 | 2,_=>simp [go_sem]
 | 3,_=>simp [go_sem]
 | 4,_=>simp [go_sem]
 | 5,_=>simp [go_sem]
 | 6,_=>simp [go_sem]
 | 7,_=>simp [go_sem]
 | 8,_=>simp [go_sem]
 | 9,_=>simp [go_sem]
 | 10,_=>simp [go_sem]
 | 11,_=>simp [go_sem]
 | 12,_=>simp [go_sem]
 | 13,_=>simp [go_sem]
 | 14,_=>simp [go_sem]
 | 15,_=>simp [go_sem]
 | 16,_=>simp [go_sem]
 | 17,_=>simp [go_sem]
 | 18,_=>simp [go_sem]
 | 19,_=>simp [go_sem]
 | 20,_=>simp [go_sem]
 | 21,_=>simp [go_sem]
 | 22,_=>simp [go_sem]
 | 23,_=>simp [go_sem]
 | 24,_=>simp [go_sem]
 | 25,_=>simp [go_sem]
 | 26,_=>simp [go_sem]
 | 27,_=>simp [go_sem]
 | 28,_=>simp [go_sem]
 | 29,_=>simp [go_sem]
 | 30,_=>simp [go_sem]
 | (n+31),h=>exact absurd h (by omega)
abbrev C64 (x:Nat→Int):Prop:=∀ i,i<31→I64 (x i)
def inb (x lo hi:Int):Bool:=decide (lo≤x) && decide (x≤hi)
theorem inb_iff {x lo hi:Int}:inb x lo hi=true↔lo≤x∧x≤hi:=by unfold inb; simp
theorem inb_no {x lo hi:Int}:inb x lo hi=false↔¬ (lo≤x∧x≤hi):=by
 rw [← inb_iff]
 cases inb x lo hi <;> simp
def b3 (v0 v1 v2 l0 l1 l2 h0 h1 h2:Int):Bool:=inb v0 l0 h0 && (inb v1 l1 h1 && inb v2 l2 h2)
def k1 (x:Nat→Int):Bool:=b3 (x 0) (x 1) (x 2) 0 0 0 1125899906842624 1125899906842624 1125899906842624
def k2 (x:Nat→Int):Bool:=b3 (x 3) (x 4) (x 5) (x 0) (x 1) (x 2) 1125899906842624 1125899906842624 1125899906842624
def k3 (x:Nat→Int):Bool:=inb (x 6) 274877906944 1125899906842624
def k4 (x:Nat→Int):Bool:=inb (x 7) (x 6) 1125899906842624
def k5 (x:Nat→Int):Bool:=mayb (x 11) (x 12) (x 13) (x 14) (x 15) (x 16) && b3 (x 14) (x 15) (x 16) (x 11) (x 12) (x 13) 72057594037927936 72057594037927936 72057594037927936
def k6 (x:Nat→Int):Bool:=b3 (x 8) (x 9) (x 10) (x 11) (x 12) (x 13) (x 14) (x 15) (x 16)
def k7 (x:Nat→Int):Bool:=b3 (x 17) (x 18) (x 19) 18014398509481984 0 0 72057594037927936 72057594037927936 72057594037927936
def k8 (x:Nat→Int):Bool:=inb (x 20) 1 1000
def k9 (x:Nat→Int):Bool:=b3 (x 21) (x 22) (x 23) 0 (-4398046511104) (-4398046511104) 1099511627776 4398046511104 4398046511104
def k10 (x:Nat→Int):Bool:=inb (x 24) 1 1099511627776
def k11 (x:Nat→Int):Bool:=inb (x 26) 1 131072 && inb (x 25) (1 - x 26) (x 26 - 1)
def k12 (x:Nat→Int):Bool:=inb (x 27) 0 1000
def k13 (x:Nat→Int):Bool:=inb (x 28) 1 (x 29) && decide (x 29≤100000)
def k14 (x:Nat→Int):Bool:=inb (x 30) 0 400000
def cks (x:Nat→Int):Int:=bif k1 x then (bif k2 x then (bif k3 x then (bif k4 x then (bif k5 x then (bif k6 x then (bif k7 x then (bif k8 x then (bif k9 x then (bif k10 x then (bif k11 x then (bif k12 x then (bif k13 x then (bif k14 x then 0 else 14) else 13) else 12) else 11) else 10) else 9) else 8) else 7) else 6) else 5) else 4) else 3) else 2) else 1
theorem conf_from (x lo hi:Int) (w:World):Calls Tryz.prog 48 #[.int .i64 x,.int .i64 lo,.int .i64 hi] w (RetV (.bool (inb x lo hi)) w):=by
 by_cases l:lo≤x
 ·go_enter Tryz.func48,Tryz.ntmps48
  go_wp2
  go_ret
  exact ⟨by rw [show inb x lo hi=decide (x≤hi) from by unfold inb; rw [decide_eq_true l,Bool.true_and]]; rfl,Below.refl _ _⟩
 ·go_enter Tryz.func48,Tryz.ntmps48
  go_wp2
  go_ret
  exact ⟨by rw [show inb x lo hi=false from by unfold inb; rw [decide_eq_false (by omega),Bool.false_and]]; rfl,Below.refl _ _⟩
theorem inside_any (n c:Int) (h1:1≤c) (h2:c≤131072) (w:World):Calls Tryz.prog 58 #[.int .i64 n,.int .i64 c] w (RetV (.bool (inb n (1 - c) (c - 1))) w):=by
 have hw:IntKind.i64.wrap (-c)=-c:=by rw [IntKind.wrap_i64]; omega
 by_cases l:-c<n
 ·go_enter Tryz.func58,Tryz.ntmps58
  go_wp2
  go_ret
  exact ⟨by rw [show inb n (1 - c) (c - 1)=decide (n<c) from by unfold inb; rw [show decide (1 - c≤n)=true from decide_eq_true (by omega),Bool.true_and]; exact decide_eq_decide.2 ⟨fun h=>by omega,fun h=>by omega⟩]; rfl,Below.refl _ _⟩
 ·go_enter Tryz.func58,Tryz.ntmps58
  go_wp2
  go_ret
  exact ⟨by rw [show inb n (1 - c) (c - 1)=false from inb_no.2 (fun h=>by omega)]; rfl,Below.refl _ _⟩
theorem same_any (x:Int) (w:World):Calls Tryz.prog 37 #[.int .i64 x] w (RetV (tv x x x) w):=by
 go_enter Tryz.func37,Tryz.ntmps37
 go_wp2
 exact bodyPost_ret (v:=tv x x x) (by simp [results,Tryz.results37,go_sem]) rfl ⟨rfl,b_alloc (Below.refl _ _)⟩
end Go.Proofs.YthnofhjgfhapiaaGreatDoor
namespace Go.Proofs.YthnofhjgfhapiaaGreatDoor
open Go.RowKit Go.Shelf
def mvn (i a:Nat):Int:=if a<i then 0 else if a=i then 32768 else if i+2≤a then -1 else if i=0 then 256 else -256
theorem mvn_bd (i a:Nat):-32768≤mvn i a∧mvn i a≤32768:=by
 unfold mvn
 repeat' split
 all_goals omega
def pln (a b:Nat):Nat:=if a=0 then (if b=0 then 0 else if b=1 then 1 else 2) else if a=1 then (if b=0 then 1 else if b=1 then 3 else 4) else (if b=0 then 2 else if b=1 then 4 else 5)
theorem pln_lt (a b:Nat):pln a b<6:=by
 unfold pln
 repeat' split
 all_goals omega
theorem pln_at {a b:Nat} (ha:a<3) (hb:b<3):At9 a b (pln a b):=by
 rcases (show a=0∨a=1∨a=2 by omega) with rfl | rfl | rfl <;> rcases (show b=0∨b=1∨b=2 by omega) with rfl | rfl | rfl <;> decide
theorem abs_mul {x y:Int} {A B:Nat} (hx:x.natAbs≤A) (hy:y.natAbs≤B):(x*y).natAbs≤A*B:=by rw [Int.natAbs_mul]; exact Nat.mul_le_mul hx hy
def tmn (m:Nat→Int) (i j k:Nat):Int:=mvn i (k / 3)*mvn j (k % 3)*m (pln (k / 3) (k % 3))
theorem tmn_eq (m:Nat→Int) (i j a b:Nat) (hb:b<3):tmn m i j (3*a+b)=mvn i a*mvn j b*m (pln a b):=by
 have h1:(3*a+b) / 3=a:=by omega
 have h2:(3*a+b) % 3=b:=by omega
 rw [tmn,h1,h2]
theorem tmn_bd {m:Nat→Int} (h:F6 m) (i j k:Nat):(tmn m i j k).natAbs≤309485009821345068724781056:=by
 have h1:=mvn_bd i (k / 3)
 have h2:=mvn_bd j (k % 3)
 have h3:=h (pln (k / 3) (k % 3)) (pln_lt _ _)
 exact abs_mul (A:=1073741824) (B:=288230376151711744) (abs_mul (A:=32768) (B:=32768) (by omega) (by omega)) (by omega)
def smT (T:Nat→Int) (l:List Nat):Int:=l.foldl (fun s k=>s+T k) 0
theorem smT_snoc (T:Nat→Int) (l:List Nat) (k:Nat):smT T (l ++ [k])=smT T l+T k:=by simp [smT]
theorem fold_bd {T:Nat→Int} {B:Nat} (h:∀ k,(T k).natAbs≤B) (l:List Nat):∀ s:Int,(l.foldl (fun s k=>s+T k) s).natAbs≤s.natAbs+l.length*B:=by
 induction l with
 | nil=>intro s; simp
 | cons k l ih =>
  intro s
  have h1:=ih (s+T k)
  have h2:=h k
  simp only [List.foldl_cons,List.length_cons,Nat.add_mul,Nat.one_mul]
  omega
theorem smT_bd {T:Nat→Int} {B:Nat} (h:∀ k,(T k).natAbs≤B) (l:List Nat):(smT T l).natAbs≤l.length*B:=by
 have:=fold_bd h l 0
 simpa [smT] using this
theorem smT_fits {T:Nat→Int} (h:∀ k,(T k).natAbs≤309485009821345068724781056) {l:List Nat} (hl:l.length≤9):Fits (smT T l):=by
 have:=smT_bd h l
 have:l.length*309485009821345068724781056≤9*309485009821345068724781056:=Nat.mul_le_mul_right _ hl
 exact ⟨by omega,by omega⟩
theorem term_fits {T:Nat→Int} (h:∀ k,(T k).natAbs≤309485009821345068724781056) (k:Nat):Fits (T k):=by
 have:=h k
 exact ⟨by omega,by omega⟩
def rwn (m:Nat→Int) (i j:Nat):Int:=smT (tmn m i j) (List.range 9)
abbrev wof (z:Int):Value:=wv (z / 18446744073709551616) (z % 18446744073709551616)
abbrev ML (w:World):Prop:=∀ i,i<3→∀ a,a<3→w.cell? ⟨3,i*3+a,none⟩=some (.int .i64 (mvn i a))
theorem ml_keep {w w':World} (hb:Below w.heap.size w w') (h:ML w):ML w':=fun i hi a ha=>cell_keep hb (h i hi a ha)
theorem ml_lt {w:World} (h:ML w):3<w.heap.size:=World.block_lt_of_cell? w _ (h 0 (by decide) 0 (by decide))
theorem pl_put {w:World} {b o:Nat} {v:Value} (h:PL w) (hb:0<b):PL (w.setCell ⟨b,o,none⟩ v):=by
 have n:b≠0:=by omega
 obtain ⟨a0,a1,a2,a3,a4,a5,a6,a7,a8⟩:=h
 have K:∀ i u,w.cell? ⟨0,i,none⟩=some u→(w.setCell ⟨b,o,none⟩ v).cell? ⟨0,i,none⟩=some u:=fun i u hu=>by rw [World.cell?_setCell_far _ _ _ _ n]; exact hu
 exact ⟨K _ _ a0,K _ _ a1,K _ _ a2,K _ _ a3,K _ _ a4,K _ _ a5,K _ _ a6,K _ _ a7,K _ _ a8⟩
theorem grown_of {W W':World} (h:Below W.heap.size W W'):W.grownBy W' none:=⟨h.os,h.tape,h.output,h.size,fun k hk _=>h.block k hk⟩
theorem ix_move (x y z:Int):(∀ w,(Instr.index 24 (tv x y z) (.int .i64 0)).run Tryz.prog w=.ok (.int .i64 x) w)∧(∀ w,(Instr.index 24 (tv x y z) (.int .i64 1)).run Tryz.prog w=.ok (.int .i64 y) w)∧(∀ w,(Instr.index 24 (tv x y z) (.int .i64 2)).run Tryz.prog w=.ok (.int .i64 z) w) :=
 ⟨fun _=>by kernel_rfl,fun _=>by kernel_rfl,fun _=>by kernel_rfl⟩
theorem ix_row (r:Nat→Int) {a:Nat} (ha:a<3) (w:World):(Instr.index 24 (tv (r 0) (r 1) (r 2)) (.int .i64 a)).run Tryz.prog w=.ok (.int .i64 (r a)) w:=by
 obtain ⟨h0,h1,h2⟩:=ix_move (r 0) (r 1) (r 2)
 match a,ha with
 | 0,_=>exact h0 w
 | 1,_=>exact h1 w
 | 2,_=>exact h2 w
end Go.Proofs.YthnofhjgfhapiaaGreatDoor
namespace Go.Proofs.YthnofhjgfhapiaaGreatDoor
open Go.RowKit Go.Shelf
theorem wp_part {P:Program} {s:Code} {Q:Exit→Act→World→Prop} {a:Act} {w:World} (R:Act→World→Prop) (rest:∀ a' w',R a' w'→Q .normal a' w') (first:∀ K:Act→World→Prop,(∀ a' w',R a' w'→K a' w')→s.wp P (Exit.then K fun _ _ _=>False) a w):s.wp P Q a w:=by
 refine wp_mono (first R fun _ _ q=>q) ?_
 intro e a' w' hq
 cases e with
 | normal=>exact rest _ _ hq
 | exit id=>exact hq.elim
 | goto l=>exact hq.elim
 | ret=>exact hq.elim
 | panic ch=>exact hq.elim
 | outgrown=>exact hq.elim
structure BM (W:World) (A B C D:Nat) (d0 d1 d2 f0 f1 f2 c0 c1 c2:Int) (U:World):Prop where
 b:Below W.heap.size W U
 ka:TC U A d0 d1 d2
 fa:TF U A
 kb:TC U B f0 f1 f2
 kc:TC U C c0 c1 c2
 kd:TC U D 0 0 0
 fd:TF U D
theorem bm_keep {W U U':World} {A B C D:Nat} {d0 d1 d2 f0 f1 f2 c0 c1 c2:Int} (h:BM W A B C D d0 d1 d2 f0 f1 f2 c0 c1 c2 U) (hb:Below U.heap.size U U'):BM W A B C D d0 d1 d2 f0 f1 f2 c0 c1 c2 U' :=
 ⟨b_trans h.b hb,tc_keep hb h.ka,tf_keep hb h.ka h.fa,tc_keep hb h.kb,tc_keep hb h.kc,tc_keep hb h.kd,tf_keep hb h.kd h.fd⟩
theorem bm_drew {W U:World} {A B C D:Nat} {d0 d1 d2 f0 f1 f2 c0 c1 c2:Int} (h:BM W A B C D d0 d1 d2 f0 f1 f2 c0 c1 c2 U):BM W A B C D d0 d1 d2 f0 f1 f2 c0 c1 c2 U.drew:=bm_keep h (b_drew (Below.refl _ _))
theorem tc_at0 {w:World} {b:Nat} {x y z v:Int} (c:TC w b x y z):TC (w.setCell ⟨b,0,none⟩ (.int .i64 v)) b v y z:=by
 obtain ⟨c0,c1,c2⟩:=c
 simp [TC,go_sem,c0,c1,c2]
theorem tc_at1 {w:World} {b:Nat} {x y z v:Int} (c:TC w b x y z):TC (w.setCell ⟨b,1,none⟩ (.int .i64 v)) b x v z:=by
 obtain ⟨c0,c1,c2⟩:=c
 simp [TC,go_sem,c0,c1,c2]
theorem tc_at2 {w:World} {b:Nat} {x y z v:Int} (c:TC w b x y z):TC (w.setCell ⟨b,2,none⟩ (.int .i64 v)) b x y v:=by
 obtain ⟨c0,c1,c2⟩:=c
 simp [TC,go_sem,c0,c1,c2]
theorem bm_put0 {W U:World} {A B C D:Nat} {d0 d1 d2 f0 f1 f2 c0 c1 c2 u:Int} (h:BM W A B C D d0 d1 d2 f0 f1 f2 c0 c1 c2 U) (qA:W.heap.size≤A) (nB:A≠B) (nC:A≠C) (nD:A≠D) :
  BM W A B C D u d1 d2 f0 f1 f2 c0 c1 c2 (U.setCell ⟨A,0,none⟩ (.int .i64 u)) :=
 ⟨b_set h.b qA,tc_at0 h.ka,tf_set h.fa,tc_set h.kb nB,tc_set h.kc nC,tc_set h.kd nD,tf_set h.fd⟩
theorem bm_put1 {W U:World} {A B C D:Nat} {d0 d1 d2 f0 f1 f2 c0 c1 c2 u:Int} (h:BM W A B C D d0 d1 d2 f0 f1 f2 c0 c1 c2 U) (qA:W.heap.size≤A) (nB:A≠B) (nC:A≠C) (nD:A≠D) :
  BM W A B C D d0 u d2 f0 f1 f2 c0 c1 c2 (U.setCell ⟨A,1,none⟩ (.int .i64 u)) :=
 ⟨b_set h.b qA,tc_at1 h.ka,tf_set h.fa,tc_set h.kb nB,tc_set h.kc nC,tc_set h.kd nD,tf_set h.fd⟩
theorem bm_put2 {W U:World} {A B C D:Nat} {d0 d1 d2 f0 f1 f2 c0 c1 c2 u:Int} (h:BM W A B C D d0 d1 d2 f0 f1 f2 c0 c1 c2 U) (qA:W.heap.size≤A) (nB:A≠B) (nC:A≠C) (nD:A≠D) :
  BM W A B C D d0 d1 u f0 f1 f2 c0 c1 c2 (U.setCell ⟨A,2,none⟩ (.int .i64 u)) :=
 ⟨b_set h.b qA,tc_at2 h.ka,tf_set h.fa,tc_set h.kb nB,tc_set h.kc nC,tc_set h.kd nD,tf_set h.fd⟩
theorem between_go (x0 x1 x2 f0 f1 f2 c0 c1 c2 u0 u1 u2 v0 v1 v2:Int)
  (mx0:(if x0<f0 then f0 else x0)=u0) (mn0:(if c0<u0 then c0 else u0)=v0)
  (mx1:(if x1<f1 then f1 else x1)=u1) (mn1:(if c1<u1 then c1 else u1)=v1)
  (mx2:(if x2<f2 then f2 else x2)=u2) (mn2:(if c2<u2 then c2 else u2)=v2) (w:World) :
  Calls Tryz.prog 136 #[tv x0 x1 x2,tv f0 f1 f2,tv c0 c1 c2] w (RetV (tv v0 v1 v2) w):=by
 have H0:=Lib.hid (And.intro mx0 mn0)
 have H1:=Lib.hid (And.intro mx1 mn1)
 have H2:=Lib.hid (And.intro mx2 mn2)
 clear mx0 mn0 mx1 mn1 mx2 mn2
 have s:BM w w.heap.size (w.heap.size+1) (w.heap.size+1+1) (w.heap.size+1+1+1) x0 x1 x2 f0 f1 f2 c0 c1 c2 ((((w.alloc (Obj.cells #[.int .i64 x0,.int .i64 x1,.int .i64 x2] 25)).alloc (Obj.cells #[.int .i64 f0,.int .i64 f1,.int .i64 f2] 25)).alloc (Obj.cells #[.int .i64 c0,.int .i64 c1,.int .i64 c2] 25)).alloc (Obj.cells #[.int .i64 0,.int .i64 0,.int .i64 0] 25)):=⟨b_alloc (b_alloc (b_alloc (b_alloc (Below.refl _ _)))),tc_alloc (tc_alloc (tc_alloc (tc_new rfl))),tf_keep (b_alloc (b_alloc (b_alloc (Below.refl _ _)))) (tc_new (w:=w) (t:=25) (x:=x0) (y:=x1) (z:=x2) rfl) (tf_new rfl),tc_alloc (tc_alloc (tc_new (by simp))),tc_alloc (tc_new (by simp)),tc_new (by simp),tf_new (by simp)⟩
 replace s:=Lib.hid s
 obtain ⟨i0,i1,i2⟩:=ix_vec x0 x1 x2
 have qA:w.heap.size≤w.heap.size:=Nat.le_refl _
 have nB:w.heap.size≠w.heap.size+1:=by omega
 have nC:w.heap.size≠w.heap.size+1+1:=by omega
 have nD:w.heap.size≠w.heap.size+1+1+1:=by omega
 go_enter Tryz.func136,Tryz.ntmps136
 go_wp2
 generalize ((((w.alloc (Obj.cells #[.int .i64 x0,.int .i64 x1,.int .i64 x2] 25)).alloc (Obj.cells #[.int .i64 f0,.int .i64 f1,.int .i64 f2] 25)).alloc (Obj.cells #[.int .i64 c0,.int .i64 c1,.int .i64 c2] 25)).alloc (Obj.cells #[.int .i64 0,.int .i64 0,.int .i64 0] 25))=y0 at *
 replace s:=s.out
 refine wp_loop_rounds 4 ?_
 rw [rounds_succ]
 obtain ⟨mx0,mn0⟩:=H0.out
 clear H0
 have ka:=s.ka
 go_wp2
 refine wp_part (fun a_ w_=>a_=⟨#[tv x0 x1 x2,tv f0 f1 f2,tv c0 c1 c2,.pointer (some ⟨w.heap.size,0,none⟩),.pointer (some ⟨w.heap.size+1,0,none⟩),.pointer (some ⟨w.heap.size+1+1,0,none⟩),.pointer (some ⟨w.heap.size+1+1+1,0,none⟩),.int .i64 0,.int .i64 x0,tv x0 x1 x2,.int .i64 0,.bool true,.int .i64 0,.int .i64 x0,.int .i64 0,.int .i64 x0,.int .i64 0,.pointer (some ⟨w.heap.size+1,0,none⟩),.int .i64 f0,.int .i64 u0,.int .i64 0,.pointer (some ⟨w.heap.size+1+1,0,none⟩),.int .i64 c0,.int .i64 v0,.pointer (some ⟨w.heap.size,0,none⟩),undef,undef],[]⟩∧BM w w.heap.size (w.heap.size+1) (w.heap.size+1+1) (w.heap.size+1+1+1) v0 x1 x2 f0 f1 f2 c0 c1 c2 w_) ?rest0 ?first0
 case first0 =>
  intro Q hQ
  have fa:=s.fa
  have kb:=s.kb
  have kc:=s.kc
  have K:=Lib.hid (bm_drew (bm_put0 (u:=v0) s qA nB nC nD))
  go_region
  exact hQ _ _ ⟨rfl,K.out⟩
 clear mx0 mn0 s ka
 rintro _ y1 ⟨rfl,s⟩
 go_wp2
 rw [rounds_succ]
 obtain ⟨mx1,mn1⟩:=H1.out
 clear H1
 have ka:=s.ka
 go_wp2
 refine wp_part (fun a_ w_=>a_=⟨#[tv x0 x1 x2,tv f0 f1 f2,tv c0 c1 c2,.pointer (some ⟨w.heap.size,0,none⟩),.pointer (some ⟨w.heap.size+1,0,none⟩),.pointer (some ⟨w.heap.size+1+1,0,none⟩),.pointer (some ⟨w.heap.size+1+1+1,0,none⟩),.int .i64 1,.int .i64 x1,tv x0 x1 x2,.int .i64 1,.bool true,.int .i64 1,.int .i64 x1,.int .i64 1,.int .i64 x1,.int .i64 1,.pointer (some ⟨w.heap.size+1,1,none⟩),.int .i64 f1,.int .i64 u1,.int .i64 1,.pointer (some ⟨w.heap.size+1+1,1,none⟩),.int .i64 c1,.int .i64 v1,.pointer (some ⟨w.heap.size,1,none⟩),.int .i64 1,undef],[]⟩∧BM w w.heap.size (w.heap.size+1) (w.heap.size+1+1) (w.heap.size+1+1+1) v0 v1 x2 f0 f1 f2 c0 c1 c2 w_) ?rest1 ?first1
 case first1 =>
  intro Q hQ
  have fa:=s.fa
  have kb:=s.kb
  have kc:=s.kc
  have K:=Lib.hid (bm_drew (bm_put1 (u:=v1) s qA nB nC nD))
  go_region
  exact hQ _ _ ⟨rfl,K.out⟩
 clear mx1 mn1 s ka
 rintro _ y2 ⟨rfl,s⟩
 go_wp2
 rw [rounds_succ]
 obtain ⟨mx2,mn2⟩:=H2.out
 clear H2
 have ka:=s.ka
 go_wp2
 refine wp_part (fun a_ w_=>a_=⟨#[tv x0 x1 x2,tv f0 f1 f2,tv c0 c1 c2,.pointer (some ⟨w.heap.size,0,none⟩),.pointer (some ⟨w.heap.size+1,0,none⟩),.pointer (some ⟨w.heap.size+1+1,0,none⟩),.pointer (some ⟨w.heap.size+1+1+1,0,none⟩),.int .i64 2,.int .i64 x2,tv x0 x1 x2,.int .i64 2,.bool true,.int .i64 2,.int .i64 x2,.int .i64 2,.int .i64 x2,.int .i64 2,.pointer (some ⟨w.heap.size+1,2,none⟩),.int .i64 f2,.int .i64 u2,.int .i64 2,.pointer (some ⟨w.heap.size+1+1,2,none⟩),.int .i64 c2,.int .i64 v2,.pointer (some ⟨w.heap.size,2,none⟩),.int .i64 2,undef],[]⟩∧BM w w.heap.size (w.heap.size+1) (w.heap.size+1+1) (w.heap.size+1+1+1) v0 v1 v2 f0 f1 f2 c0 c1 c2 w_) ?rest2 ?first2
 case first2 =>
  intro Q hQ
  have fa:=s.fa
  have kb:=s.kb
  have kc:=s.kc
  have K:=Lib.hid (bm_drew (bm_put2 (u:=v2) s qA nB nC nD))
  go_region
  exact hQ _ _ ⟨rfl,K.out⟩
 clear mx2 mn2 s ka
 rintro _ y3 ⟨rfl,s⟩
 go_wp2
 rw [rounds_succ]
 clear nB nC nD qA
 have ka:=s.ka
 have kd:=s.kd
 have fd:=s.fd
 have B9:=s.b
 clear s
 go_wp2
 obtain ⟨q0,q1,q2⟩:=kd
 refine bodyPost_ret (v:=tv v0 v1 v2) (by simp [results,Tryz.results136,go_sem,q0,q1,q2]) rfl ⟨rfl,?_⟩
 have q:w.heap.size≤w.heap.size+1+1+1:=by omega
 exact b_set (b_set (b_set B9 q) q) q
theorem between_tam (x0 x1 x2 f0 f1 f2 c0 c1 c2:Int) (w:World) :
  Calls Tryz.prog 136 #[tv x0 x1 x2,tv f0 f1 f2,tv c0 c1 c2] w (RetV (tv (tdg x0 f0 c0) (tdg x1 f1 c1) (tdg x2 f2 c2)) w) :=
 between_go x0 x1 x2 f0 f1 f2 c0 c1 c2 _ _ _ _ _ _ rfl rfl rfl rfl rfl rfl w
end Go.Proofs.YthnofhjgfhapiaaGreatDoor
namespace Go.Proofs.YthnofhjgfhapiaaGreatDoor
open Go.RowKit Go.Shelf
theorem add_any (ah al a bh bl b:Int) (x:IsW ah al a) (y:IsW bh bl b) (w:World) :
    Calls Tryz.prog 131 #[wv ah al,wv bh bl] w (RetWE (fz (a+b)) (fe (a+b)) w):=by
  have A1:=Lib.hid (add_yes x.fits y.fits)
  have A2:=Lib.hid (add_no x.fits y.fits)
  cases d1:decide (a<0) <;> cases d2:decide (b<0) <;> cases d3:decide (w128 (a+b)<0)
  all_goals
    have D:=Lib.hid (And.intro d1 (And.intro d2 d3))
    go_enter Tryz.func131,Tryz.ntmps131
    go_wp2_with (go_at_call 168; refine (plus_any _ _ _ _ _ _ x y _).mono ?_; rintro e w1 ⟨rh,rl,rfl,hr,hb⟩; have k:WC w1 w.heap.size ah al∧WC w1 (w.heap.size+1) bh bl:=wc_keep2 hb (by simp [WC,go_sem,World.cell?_alloc_past]))
    have r1:WC w1 (w.heap.size+1+1) 0 0:=wc_keep hb (by simp [WC,go_sem])
    have f1:WF w1 (w.heap.size+1+1):=wf_keep hb (h:=0) (l:=0) (by simp [WC,go_sem]) (by simp [WF,go_sem])
    have cN:=neg_any ah al a x
    rw [d1] at cN
    have cN1:=retV_regrown (w:=(w1.alloc (Obj.cells #[.int .i64 rh,.int .u64 rl] 96))) cN
    have cN:=neg_any bh bl b y
    rw [d2] at cN
    have cN2:=retV_regrown (w:=(w1.alloc (Obj.cells #[.int .i64 rh,.int .u64 rl] 96))) cN
    have cN:=neg_any rh rl _ hr
    rw [d3] at cN
    have cN3:=retV_regrown (w:=(w1.alloc (Obj.cells #[.int .i64 rh,.int .u64 rl] 96))) cN
    clear cN
    have g0:=wc_regrown (wc_alloc (o:=Obj.cells #[.int .i64 rh,.int .u64 rl] 96) k.1)
    have g1:=wc_regrown (wc_alloc (o:=Obj.cells #[.int .i64 rh,.int .u64 rl] 96) k.2)
    have g2:∀ d os,WC (Sort.grow (redrawn (w1.alloc (Obj.cells #[.int .i64 rh,.int .u64 rl] 96)) d) os) w1.heap.size rh rl:=wc_regrown (by simp [WC,go_sem])
    refine wp_region_quiet_below (by kernel_rfl) (by kernel_rfl) ?_
    repeat (quiet_step (first | exact cN1 _ _ | exact cN2 _ _ | exact cN3 _ _))
    refine wpQuiet_nil ?_
    intro _ hw'
    obtain ⟨⟨dq,osq⟩,hw''⟩:=hw'
    subst hw''
    have B2:Below w.heap.size w (w1.alloc (Obj.cells #[.int .i64 rh,.int .u64 rl] 96)):=b_alloc (b_trans (b_alloc (b_alloc (b_alloc (Below.refl _ _)))) hb)
    have B3:=b_trans B2 (below_regrown (w1.alloc (Obj.cells #[.int .i64 rh,.int .u64 rl] 96)) dq osq)
    have k2:=g2 dq osq
    have k3:=wc_keep (below_regrown (w1.alloc (Obj.cells #[.int .i64 rh,.int .u64 rl] 96)) dq osq) (wc_alloc r1)
    have k4:=wf_keep (below_regrown (w1.alloc (Obj.cells #[.int .i64 rh,.int .u64 rl] 96)) dq osq) (wc_alloc r1) (wf_keep (b_alloc (Below.refl _ _)) r1 f1)
    clear cN1 cN2 cN3 g0 g1 g2 B2
    generalize Sort.grow (redrawn (w1.alloc (Obj.cells #[.int .i64 rh,.int .u64 rl] 96)) dq) osq=w2 at *
    go_wp2
    first
      | (refine bodyPost_ret (v:=.tuple #[wv rh rl,.int .i64 0]) (by simp [results,Tryz.results131,go_sem,k3]) rfl ⟨rh,rl,?_,?_,b_set (b_set B3 (by simp; omega)) (by simp; omega)⟩
         · rw [(A1.out (by have:=D.out; simp at this; omega)).2]
         · rw [← (A1.out (by have:=D.out; simp at this; omega)).1]; exact hr)
      | (refine bodyPost_ret (v:=.tuple #[wv 0 0,.int .i64 3]) (by simp [results,Tryz.results131,go_sem,k3]) rfl ⟨0,0,?_,?_,b_set (b_set B3 (by simp; omega)) (by simp; omega)⟩
         · rw [(A2.out (by have:=D.out; simp at this; omega)).2]
         · rw [(A2.out (by have:=D.out; simp at this; omega)).1]; exact isW_zero)
end Go.Proofs.YthnofhjgfhapiaaGreatDoor
namespace Go.Proofs.YthnofhjgfhapiaaGreatDoor
open Go.RowKit Go.Shelf
theorem ge_ok {a b x:Int} (h:ge a b x=0):gz a b x=x∧FitP a∧FitP b∧FitP x:=by
 unfold ge at h
 by_cases c:FitP a∧FitP b
 ·rw [if_pos c] at h
  unfold ne at h
  by_cases d:FitP x
  ·exact ⟨by rw [(gz_of c x).1,(nz_of d).1],c.1,c.2,d⟩
  ·rw [if_neg d] at h; cases h
 ·rw [if_neg c] at h; cases h
end Go.Proofs.YthnofhjgfhapiaaGreatDoor
namespace Go.Proofs.YthnofhjgfhapiaaGreatDoor
open Go.RowKit Go.Shelf Go.Joins
theorem under_any (p:Int) (g:gd p=true) (w:World) (hT:TB w):Calls Tryz.prog 89 #[.int .i64 p] w (RetV (.int .i64 (un p)) w):=by
 have r:=gd_range g
 go_enter Tryz.func89,Tryz.ntmps89
 go_wp2
 go_loopw [3] (fun iv wr=>∃ k:Nat,k≤45∧iv=.int .i64 k∧p≤tb k∧Below w.heap.size w wr) (fun iv _=>46 - (intOf iv).toNat)
 case atStart=>exact ⟨0,Nat.zero_le _,rfl,r.2,Below.refl _ _⟩
 case round =>
  obtain ⟨k,hk,rfl,hp,E⟩:=hrel
  have c0:=tb_keep E hT (k+1) (by omega)
  have k0:(0:Int)≤(k:Int)+1:=by omega
  have k1:(k:Int)+1<47:=by omega
  have ws:IntKind.i64.wrap ((k:Int)+1)=(k:Int)+1:=by rw [IntKind.wrap_i64]; omega
  have hn:((k:Int)+1).toNat=k+1:=by omega
  by_cases c:p≤tb (k+1)
  ·have c2:=Lib.hid c
   have hx:k+1≤45:=by
    rcases Nat.lt_or_ge k 45 with h | h
    ·omega
    ·have:k=45:=by omega
     subst this
     have:tb (45+1)=86822:=rfl
     omega
   obtain ⟨t,ht⟩:∃ t,tb (k+1)=t:=⟨_,rfl⟩
   rw [ht] at c c0
   clear hT ht
   go_wp2
   refine ⟨⟨k+1,hx,rfl,c2.out,E⟩,?_⟩
   simp only [intOf]
   omega
  ·have hu:=Lib.hid (un_only g hk hp (by omega))
   generalize tb (k+1)=t at *
   clear hT
   go_wp2
   exact bodyPost_ret (v:=.int .i64 k) (by simp [results,Tryz.results89,go_sem]) rfl ⟨by rw [hu.out],E⟩
theorem height_any (i:Nat) (hi:i≤46) (w:World):Calls Tryz.prog 90 #[.int .i64 i] w (RetV (.int .i64 (ht i)) w):=by
 have w1:IntKind.i64.wrap (281474976710656*(i:Int))=281474976710656*(i:Int):=by rw [IntKind.wrap_i64]; omega
 have w2:IntKind.i64.wrap (-562949953421312+281474976710656*(i:Int))=ht i:=by unfold ht; rw [IntKind.wrap_i64]; omega
 go_enter Tryz.func90,Tryz.ntmps90
 go_wp2
 go_ret
 exact ⟨rfl,Below.refl _ _⟩
theorem altitude_bad (p:Int) (g:gd p=false) (w:World):Calls Tryz.prog 65 #[.int .i64 p] w (RetV (.tuple #[.int .i64 0,.int .i64 2]) w):=by
 have cg:=good_any p
 rw [g] at cg
 clear g
 go_enter Tryz.func65,Tryz.ntmps65
 go_wp2_with fail
 refine (cg _).mono ?_
 rintro e y0 ⟨rfl,E⟩
 clear cg
 go_wp2
 go_ret2
 exact ⟨rfl,E⟩
theorem altitude_ok (p:Int) (g:gd p=true) (w:World) (hT:TB w):Calls Tryz.prog 65 #[.int .i64 p] w (RetV (.tuple #[.int .i64 (al p),.int .i64 0]) w):=by
 have cg:=good_any p
 rw [g] at cg
 have gr:=gd_range g
 have cu:=under_any p g
 obtain ⟨u0,u1,u2⟩:=un_spec g
 obtain ⟨d0,d1,d2⟩:=dn_wd g
 have pr:=pt_range g
 have r0:=tb_range (i:=un p) (by omega)
 have r1:=tb_range (i:=un p+1) (by omega)
 have ch:=height_any (un p) (by omega)
 have eal:=Lib.hid (show al p=ht (un p)+pt p from rfl)
 have hh:ht (un p)=-562949953421312+281474976710656*(un p:Int):=rfl
 have wd1:IntKind.i64.wrap (tb (un p) - p)=dn p:=by unfold dn; rw [IntKind.wrap_i64]; omega
 have wd2:IntKind.i64.wrap (tb (un p) - tb (un p+1))=wd p:=by unfold wd; rw [IntKind.wrap_i64]; omega
 have wd3:IntKind.i64.wrap (281474976710656*dn p)=281474976710656*dn p:=by rw [IntKind.wrap_i64]; omega
 have wd4:(281474976710656*dn p).tdiv (wd p)=pt p:=by unfold pt; rw [Int.tdiv_eq_ediv_of_nonneg (by omega)]
 have wd5:IntKind.i64.wrap (pt p)=pt p:=by rw [IntKind.wrap_i64]; omega
 have wd6:IntKind.i64.wrap (ht (un p)+pt p)=ht (un p)+pt p:=by rw [IntKind.wrap_i64]; omega
 have wn:¬ wd p=0:=by omega
 have k0:(0:Int)≤(un p:Int)+1:=by omega
 have k1:(un p:Int)+1<47:=by omega
 have k2:(un p:Int)<47:=by omega
 have ws:IntKind.i64.wrap ((un p:Int)+1)=(un p:Int)+1:=by rw [IntKind.wrap_i64]; omega
 have hn:((un p:Int)+1).toNat=un p+1:=by omega
 have T0:=fun (w:World) (h:TB w)=>h (un p) (by omega)
 have T1:=fun (w:World) (h:TB w)=>h (un p+1) (by omega)
 clear g u0 u1 u2 d0 d1 d2 pr r0 r1 hh gr
 generalize ht (un p)=H at *
 generalize pt p=f at *
 generalize dn p=d at *
 generalize wd p=v at *
 generalize tb (un p+1)=t1 at *
 generalize tb (un p)=t0 at *
 generalize un p=i at *
 go_enter Tryz.func65,Tryz.ntmps65
 go_wp2_with fail
 refine (cg _).mono ?_
 rintro e y0 ⟨rfl,E⟩
 replace hT:=tb_keep E hT
 clear cg
 go_wp2_with fail
 refine (cu _ hT).mono ?_
 rintro e y1 ⟨rfl,hb⟩
 replace hT:=tb_keep hb hT
 replace E:=b_trans E hb
 clear cu hb
 have q0:=cell_regrown (T0 _ hT)
 have q1:=cell_regrown (T1 _ hT)
 clear T0 T1 hT
 go_wp2
 refine wp_region_quiet_below (by kernel_rfl) (by kernel_rfl) ?_
 repeat (with_reducible refine wpQuiet_step (fun KQ hKQ=>?_); go_simp; (with_reducible refine hKQ _ ?_; clear hKQ KQ))
 refine wpQuiet_nil ?_
 intro _ hw'
 obtain ⟨⟨dq,osq⟩,hw''⟩:=hw'
 subst hw''
 replace E:=b_trans E (below_regrown _ dq osq)
 clear q0 q1
 generalize Sort.grow (redrawn y1 dq) osq=y2 at *
 have c0:=retV_regrown (w:=y2) ch
 clear ch
 go_wp2
 refine wp_region_quiet_below (by kernel_rfl) (by kernel_rfl) ?_
 repeat (with_reducible refine wpQuiet_step (fun KQ hKQ=>?_); go_simp; first | (with_reducible refine hKQ _ ?_; clear hKQ KQ) | (apply Exists.intro; with_reducible refine ⟨fun _=>?_,hKQ _ ?_⟩; (with_reducible exact c0 _ _); clear hKQ KQ))
 refine wpQuiet_nil ?_
 intro _ hw'
 obtain ⟨⟨dq,osq⟩,hw''⟩:=hw'
 subst hw''
 replace E:=b_trans E (below_regrown y2 dq osq)
 clear c0
 generalize Sort.grow (redrawn y2 dq) osq=y3 at *
 go_wp2
 go_ret2
 refine ⟨?_,E⟩
 rw [eal.out]
 rfl
theorem altitude_any (p:Int) (w:World) (hT:TB w):Calls Tryz.prog 65 #[.int .i64 p] w (RetV (.tuple #[.int .i64 (az p),.int .i64 (ae p)]) w):=by
 cases g:gd p
 ·rw [az_bad g,ae_bad g]
  exact altitude_bad p g w
 ·rw [az_ok g,ae_ok g]
  exact altitude_ok p g w hT
end Go.Proofs.YthnofhjgfhapiaaGreatDoor

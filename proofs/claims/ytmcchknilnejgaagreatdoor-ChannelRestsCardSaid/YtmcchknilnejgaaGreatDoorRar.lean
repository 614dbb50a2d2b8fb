import Derived.DeepKeys
import Derived.Deep.RegionWith
import Derived.Deep.DeepCutAuto
import Derived.Deep.CutBlock
import Derived.LoopN
import Derived.BigRegion
import Derived.Deep.QuietTactic
import Derived.BigQuiet
import Derived.Lib.SmallJoins
import Derived.WalkMore
import Derived.StillTactics
import Derived.Laws.Pointers
import Derived.Deep.RegionHeld3
import Derived.RowKit3
import Derived.Lib.Hide
import Derived.Lib.QuietBelow
import Derived.Laws.Bits64b
import Derived.Test.YtmcchknilnejgaaGreatDoorProg
import Derived.Shelf.Spec.BitsCarry
import Derived.Shelf.Bits.Mul64
import Derived.WalkKit
import Derived.WalkSpells
import Derived.ScopeJumps
import Derived.Orders
import Derived.RegionTactic
import Derived.Below
import Derived.Deep.WholeRow
import Derived.Deep.LoopGhost
import Derived.Defers
import Derived.Tactics
import Derived.Laws.Cover1
import Derived.ChangeKeysEq
import Derived.RangeFuncNested
import Derived.RangeFuncLeaves
import Derived.RangeFuncCalls
import Derived.Shelf.Abstract
import Derived.OwnWalkIn
import Derived.TacticsInMore
import Derived.LoopNIn
import Derived.LoopIn
import Derived.Maps.AppendAt
import Derived.Laws.OwnMore
import Derived.Deep.AppendLies
import Derived.Test.YtmcchknilnejgaaGreatDoorKbg
import Derived.Test.YtmcchknilnejgaaGreatDoorRab
import Derived.Test.YtmcchknilnejgaaGreatDoorRai
import Derived.Test.YtmcchknilnejgaaGreatDoorKbf
import Derived.Test.YtmcchknilnejgaaGreatDoorKbe
import Derived.Test.YtmcchknilnejgaaGreatDoorKar
import Derived.Test.YtmcchknilnejgaaGreatDoorKao
import Derived.Test.YtmcchknilnejgaaGreatDoorKaj
import Derived.Test.YtmcchknilnejgaaGreatDoorKaf
import Derived.Test.YtmcchknilnejgaaGreatDoorRap
import Derived.Test.YtmcchknilnejgaaGreatDoorKag
import Derived.Test.YtmcchknilnejgaaGreatDoorKai
import Derived.Test.YtmcchknilnejgaaGreatDoorKah
import Derived.Test.YtmcchknilnejgaaGreatDoorKab
import Derived.Test.YtmcchknilnejgaaGreatDoorKaa
import Derived.Test.YtmcchknilnejgaaGreatDoorKad
import Derived.Test.YtmcchknilnejgaaGreatDoorKac
import Derived.Test.YtmcchknilnejgaaGreatDoorKae
import Derived.Test.YtmcchknilnejgaaGreatDoorRac
import Derived.Test.YtmcchknilnejgaaGreatDoorKak
import Derived.Test.YtmcchknilnejgaaGreatDoorRag
import Derived.Test.YtmcchknilnejgaaGreatDoorRaq
import Derived.Test.YtmcchknilnejgaaGreatDoorRaf
import Derived.Test.YtmcchknilnejgaaGreatDoorKan
import Derived.Test.YtmcchknilnejgaaGreatDoorKam
import Derived.Test.YtmcchknilnejgaaGreatDoorKal
import Derived.Test.YtmcchknilnejgaaGreatDoorKap
import Derived.Test.YtmcchknilnejgaaGreatDoorKaq
import Derived.Test.YtmcchknilnejgaaGreatDoorKas
import Derived.Test.YtmcchknilnejgaaGreatDoorKbd
import Derived.Test.YtmcchknilnejgaaGreatDoorKav
import Derived.Test.YtmcchknilnejgaaGreatDoorKau
import Derived.Test.YtmcchknilnejgaaGreatDoorKat
import Derived.Test.YtmcchknilnejgaaGreatDoorRad
import Derived.Test.YtmcchknilnejgaaGreatDoorKaw
import Derived.Test.YtmcchknilnejgaaGreatDoorKax
import Derived.Test.YtmcchknilnejgaaGreatDoorKay
import Derived.Test.YtmcchknilnejgaaGreatDoorKaz
import Derived.Test.YtmcchknilnejgaaGreatDoorKbc
import Derived.Test.YtmcchknilnejgaaGreatDoorKbb
import Derived.Test.YtmcchknilnejgaaGreatDoorKba
import Derived.Test.YtmcchknilnejgaaGreatDoorRah
import Derived.Test.YtmcchknilnejgaaGreatDoorRaa
import Derived.Test.YtmcchknilnejgaaGreatDoorRas
set_option maxHeartbeats 16000000
set_option maxRecDepth 20000
namespace Go.Proofs.YtmcchknilnejgaaGreatDoor
open Go.RowKit Go.Shelf Go.Joins
theorem mul8_in {x y X Y:Int} (hx:-X≤x∧x≤X) (hy:-Y≤y∧y≤Y):-(X*Y)≤x*y∧x*y≤X*Y:=by
 obtain ⟨x0,x1⟩:=hx
 obtain ⟨y0,y1⟩:=hy
 have h1:=Int.mul_nonneg (show 0≤X - x by omega) (show 0≤Y - y by omega)
 have h2:=Int.mul_nonneg (show 0≤X+x by omega) (show 0≤Y+y by omega)
 have h3:=Int.mul_nonneg (show 0≤X - x by omega) (show 0≤Y+y by omega)
 have h4:=Int.mul_nonneg (show 0≤X+x by omega) (show 0≤Y - y by omega)
 simp only [Int.sub_mul,Int.mul_sub,Int.add_mul,Int.mul_add] at h1 h2 h3 h4
 constructor <;> omega
theorem cut8_in {s x X:Int} (hs:0<s) (h:-(s*X)≤s*x∧s*x≤s*X):-X≤x∧x≤X:=by
 obtain ⟨h0,h1⟩:=h
 refine ⟨?_,Int.le_of_mul_le_mul_left h1 hs⟩
 rw [← Int.mul_neg] at h0
 exact Int.le_of_mul_le_mul_left h0 hs
theorem sq8_pos (z:Int):0≤z*z:=by
 by_cases c:0≤z
 ·exact Int.mul_nonneg c c
 ·have:=Int.mul_nonneg (show 0≤-z by omega) (show 0≤-z by omega)
  rwa [Int.neg_mul_neg] at this
theorem sq8_lt {x X:Int} (hX:0≤X) (h:X<x):X*X<x*x:=by
 have:=Int.mul_pos (show 0<x - X by omega) (show 0<x+X by omega)
 simp only [Int.sub_mul,Int.mul_add,Int.mul_comm X x] at this
 omega
theorem sq8_in {x X:Int} (hX:0≤X) (h:x*x≤X*X):-X≤x∧x≤X:=by
 constructor
 ·by_cases c:-X≤x
  ·exact c
  ·have:=sq8_lt hX (show X < -x by omega)
   rw [Int.neg_mul_neg] at this
   omega
 ·by_cases c:x≤X
  ·exact c
  ·have:=sq8_lt hX (show X<x by omega)
   omega
theorem gain8_in {A a s k:Int} (s0:274877906944≤s) (a1:a≤s - 274877906944) (hA:A*A≤a*72057594037927936) (hk:k=evn (A*1099511627776) s) :
  (-s≤2*(s*k - A*1099511627776)∧2*(s*k - A*1099511627776)≤s)∧-281474976710657≤k∧k≤281474976710657:=by
 have e:=evn_err (A*1099511627776) (show 0<s by omega)
 rw [← hk] at e
 refine ⟨e,?_⟩
 have q:=Int.mul_nonneg (show 0≤s - 274877906944 - a by omega) (show (0:Int)≤1099511627776 by decide)
 have r:0≤(s - 549755813888)*(s - 549755813888):=by
  exact sq8_pos _
 simp only [Int.sub_mul,Int.mul_sub] at r
 have hS:A*A≤(s*256)*(s*256):=by
  have e2:(s*256)*(s*256)=s*s*65536:=by rw [Int.mul_assoc,Int.mul_left_comm 256 s 256,← Int.mul_assoc]; rfl
  rw [e2]
  omega
 have hb:=sq8_in (show 0≤s*256 by omega) hS
 refine cut8_in (show 0<s by omega) ?_
 omega
theorem abs_le8 {s x X:Int} (hs:0≤s) (h:-X≤x∧x≤X):-(s*X)≤s*x∧s*x≤s*X:=by
 have h1:=Int.mul_le_mul_of_nonneg_left h.2 hs
 have h2:=Int.mul_le_mul_of_nonneg_left h.1 hs
 rw [Int.mul_neg] at h2
 exact ⟨h2,h1⟩
theorem pair8_in {A B a s k l T q v m:Int} (s0:274877906944≤s) (s1:s≤144115188075855872) (a1:a≤s - 274877906944) (bA:-72057594037927936≤A∧A≤72057594037927936) (bB:-72057594037927936≤B∧B≤72057594037927936)
  (hP:-(a*72057594037927936)≤A*B∧A*B≤a*72057594037927936) (he:-s≤2*(s*k - A*1099511627776)∧2*(s*k - A*1099511627776)≤s) (hf:-s≤2*(s*l - B*1099511627776)∧2*(s*l - B*1099511627776)≤s)
  (ht:T=evn (k*B+l*A) 1099511627776) (hq:q=evn (k*l) 1099511627776) (hv:v=evn (q*s) 1099511627776) (bm:-72057594037927936≤m∧m≤72057594037927936) :
  FitP T∧FitP (m - T)∧FitP q∧FitP v∧FitP (m - T+v):=by
 have et:=evn_err (k*B+l*A) (show (0:Int)<1099511627776 by decide)
 have eq:=evn_err (k*l) (show (0:Int)<1099511627776 by decide)
 have ev:=evn_err (q*s) (show (0:Int)<1099511627776 by decide)
 rw [← ht] at et
 rw [← hq] at eq
 rw [← hv] at ev
 clear ht hq hv
 obtain ⟨E,hE⟩:∃ E,E=s*k - A*1099511627776:=⟨_,rfl⟩
 obtain ⟨F,hF⟩:∃ F,F=s*l - B*1099511627776:=⟨_,rfl⟩
 rw [← hE] at he
 rw [← hF] at hf
 have kE:s*k=E+A*1099511627776:=by omega
 have lF:s*l=F+B*1099511627776:=by omega
 clear hE hF
 have sp:0≤s:=by omega
 have h1:s*(k*B)=E*B+1099511627776*(A*B):=by
  rw [← Int.mul_assoc,kE,Int.add_mul,Int.mul_comm A,Int.mul_assoc]
 have h2:s*(l*A)=F*A+1099511627776*(A*B):=by
  rw [← Int.mul_assoc,lF,Int.add_mul,Int.mul_comm B,Int.mul_assoc,Int.mul_comm B A]
 have bEB:=mul8_in he bB
 have bFA:=mul8_in hf bA
 rw [Int.mul_assoc] at bEB bFA
 have t1:=abs_le8 sp et
 have t2:s*(2*(1099511627776*T - (k*B+l*A)))=2*(1099511627776*(s*T)) - 2*(s*(k*B)) - 2*(s*(l*A)):=by
  rw [Int.mul_left_comm s 2,Int.mul_sub,Int.mul_left_comm s 1099511627776,Int.mul_add]
  omega
 rw [t2] at t1
 have h3:s*(s*(k*l))=E*F+1099511627776*(E*B)+1099511627776*(F*A)+1208925819614629174706176*(A*B):=by
  have e1:s*(s*(k*l))=(s*k)*(s*l):=by
   rw [Int.mul_assoc s k,Int.mul_left_comm k s l]
  rw [e1,kE,lF,Int.add_mul,Int.mul_add,Int.mul_add]
  have e2:E*(B*1099511627776)=1099511627776*(E*B):=by rw [← Int.mul_assoc,Int.mul_comm]
  have e3:A*1099511627776*F=1099511627776*(F*A):=by rw [Int.mul_comm A,Int.mul_assoc,Int.mul_comm A F]
  have e4:A*1099511627776*(B*1099511627776)=1208925819614629174706176*(A*B):=by
   rw [Int.mul_comm A,Int.mul_assoc,← Int.mul_assoc A B,Int.mul_comm (A*B),← Int.mul_assoc]
   rfl
  rw [e2,e3,e4]
  omega
 have bEF:=mul8_in he hf
 have e5:2*E*(2*F)=4*(E*F):=by rw [Int.mul_assoc,Int.mul_left_comm E 2 F,← Int.mul_assoc]; rfl
 rw [e5] at bEF
 have q1:=abs_le8 sp (abs_le8 sp eq)
 have q2:s*(s*(2*(1099511627776*q - k*l)))=2*(1099511627776*(s*(s*q))) - 2*(s*(s*(k*l))):=by
  rw [Int.mul_left_comm s 2,Int.mul_left_comm s 2,Int.mul_sub,Int.mul_sub,Int.mul_left_comm s 1099511627776,Int.mul_left_comm s 1099511627776]
  omega
 rw [q2] at q1
 have v1:=abs_le8 sp ev
 have v2:s*(2*(1099511627776*v - q*s))=2*(1099511627776*(s*v)) - 2*(s*(s*q)):=by
  rw [Int.mul_left_comm s 2,Int.mul_sub,Int.mul_left_comm s 1099511627776,Int.mul_comm q s]
  omega
 rw [v2] at v1
 have S1:s*s≤s*144115188075855872:=Int.mul_le_mul_of_nonneg_left s1 sp
 have S2:s*274877906944≤s*s:=Int.mul_le_mul_of_nonneg_left s0 sp
 have S3:0≤(s - 549755813888)*(s - 549755813888):=sq8_pos _
 simp only [Int.sub_mul,Int.mul_sub] at S3
 have e6:s*(s*1099511627776)=s*s*1099511627776:=(Int.mul_assoc _ _ _).symm
 rw [e6] at q1
 generalize s*(k*B)=X1 at *
 generalize s*(l*A)=X2 at *
 generalize s*(s*(k*l))=X3 at *
 generalize hST:s*T=ST at *
 generalize hSQ:s*(s*q)=SQ at *
 generalize hSV:s*v=SV at *
 generalize hSS:s*s=SS at *
 generalize A*B=P at *
 generalize E*B=EB at *
 generalize F*A=FA at *
 generalize E*F=EF at *
 have fT:-144115188075921409≤T∧T≤144115188075921409:=cut8_in (s:=s) (by omega) (by rw [hST]; omega)
 have fv:-72057594038059010≤v∧v≤72057594038059010:=cut8_in (s:=s) (by omega) (by rw [hSV]; omega)
 have fq:-144115188075855872≤q∧q≤144115188075855872:=by
  have h4:-(SS*144115188075855872)≤SS*q∧SS*q≤SS*144115188075855872:=by
   have e7:SS*q=SQ:=by rw [← hSS,Int.mul_assoc,hSQ]
   rw [e7]
   omega
  exact cut8_in (show 0<SS by omega) h4
 have fx:-144115188076118019≤m - T+v∧m - T+v≤144115188076118019:=by
  refine cut8_in (s:=s) (by omega) ?_
  have sm:=abs_le8 sp bm
  rw [Int.mul_add,Int.mul_sub,hST,hSV]
  omega
 refine ⟨⟨by omega,by omega⟩,⟨by omega,by omega⟩,⟨by omega,by omega⟩,⟨by omega,by omega⟩,by omega,by omega⟩
theorem prod8_in {A B X:Int} (hA:A*A≤X) (hB:B*B≤X):-X≤A*B∧A*B≤X:=by
 have h1:=sq8_pos (A - B)
 have h2:=sq8_pos (A+B)
 simp only [Int.sub_mul,Int.mul_sub,Int.add_mul,Int.mul_add,Int.mul_comm B A] at h1 h2
 constructor <;> omega
theorem ne8 {y:Int} (h:FitP y):ne y=0:=if_pos h
theorem nz8 {y:Int} (h:FitP y):nz y=y:=if_pos h
theorem ja8 {m k:Nat→Int} {s:Int} {i j g:Nat} (hT:FitP (jT m k i j)) (hL:FitP (m g - jT m k i j)) (hQ:FitP (evn (k i*k j) 1099511627776)) (hU:FitP (evn (evn (k i*k j) 1099511627776*s) 1099511627776)) (hX:FitP (m g - jT m k i j+evn (evn (k i*k j) 1099511627776*s) 1099511627776)):JA m k s i j g:=by
 have et:jt m k i j=jT m k i j:=nz8 hT
 have el:jl m k i j g=m g - jT m k i j:=by unfold jl; rw [et]; exact nz8 hL
 have eq:jq k i j=evn (k i*k j) 1099511627776:=nz8 hQ
 have eu:ju k s i j=evn (evn (k i*k j) 1099511627776*s) 1099511627776:=by unfold ju; rw [eq]; exact nz8 hU
 refine ⟨ne8 hT,?_,ne8 hQ,?_,?_⟩
 ·rw [et]; exact ne8 hL
 ·rw [eq]; exact ne8 hU
 ·rw [el,eu]; exact ne8 hX
theorem tm8 {x U:Nat→Int} (c:CN x) (t:TM x U):(0≤U 0∧U 0≤72057594037927936)∧(0≤U 3∧U 3≤72057594037927936)∧(0≤U 5∧U 5≤72057594037927936)∧(U 0*U 0≤U 0*72057594037927936∧U 1*U 1≤U 0*72057594037927936∧U 2*U 2≤U 0*72057594037927936)∧(-72057594037927936≤U 1∧U 1≤72057594037927936)∧(-72057594037927936≤U 2∧U 2≤72057594037927936)∧(-72057594037927936≤U 4∧U 4≤72057594037927936):=by
 obtain ⟨⟨t0,t3,t5⟩,_,g0,g3,g5,m1,m2,m4⟩:=t
 have f0:=c.f0.1
 have f1:=c.f1.1
 have f2:=c.f2.1
 have c0:=c.c0
 have c1:=c.c1
 have c2:=c.c2
 have M:∀ p q P Q:Int,0≤p→0≤q→p≤P→q≤Q→p*q≤P*Q:=fun p q P Q hp hq h1 h2=>Int.mul_le_mul h1 h2 hq (by omega)
 have a0:=M (U 0) (U 0) (U 0) 72057594037927936 (by omega) (by omega) (Int.le_refl _) (by omega)
 have a1:=M (U 3 - x 12) (U 0 - x 11) 72057594037927936 (U 0) (by omega) (by omega) (by omega) (by omega)
 have a2:=M (U 5 - x 13) (U 0 - x 11) 72057594037927936 (U 0) (by omega) (by omega) (by omega) (by omega)
 have a4:=M (U 5 - x 13) (U 3 - x 12) 72057594037927936 72057594037927936 (by omega) (by omega) (by omega) (by omega)
 have b0:U 0*72057594037927936≤72057594037927936*72057594037927936:=Int.mul_le_mul_of_nonneg_right (by omega) (by decide)
 have e1:U 1*U 1≤U 0*72057594037927936:=by omega
 have e2:U 2*U 2≤U 0*72057594037927936:=by omega
 exact ⟨⟨by omega,by omega⟩,⟨by omega,by omega⟩,⟨by omega,by omega⟩,⟨a0,e1,e2⟩,sq8_in (by decide) (Int.le_trans e1 b0),sq8_in (by decide) (Int.le_trans e2 b0),sq8_in (by decide) (Int.le_trans m4 a4)⟩
theorem rest8 {x U:Nat→Int} (c:CN x) (t:TM x U) {n s:Int} (n0:274877906944≤n) (n1:n≤1125899906842624) (hs:s=U 0+n):BK U s∧BF U s∧DA U (tri (bq U s 0) (bq U s 1) (bq U s 2)) s:=by
 obtain ⟨h0,h3,h5,⟨p0,p1,p2⟩,h1,h2,h4⟩:=tm8 c t
 have s0:274877906944≤s:=by omega
 have s1:s≤144115188075855872:=by omega
 have sa:U 0≤s - 274877906944:=by omega
 obtain ⟨e0,b0,c0⟩:=gain8_in s0 sa p0 (rfl:bq U s 0=_)
 obtain ⟨e1,b1,c1⟩:=gain8_in s0 sa p1 (rfl:bq U s 1=_)
 obtain ⟨e2,b2,c2⟩:=gain8_in s0 sa p2 (rfl:bq U s 2=_)
 have h0':-72057594037927936≤U 0∧U 0≤72057594037927936:=⟨by omega,h0.2⟩
 refine ⟨⟨t.2.1,⟨by omega,by omega⟩,by omega⟩,⟨⟨by omega,by omega⟩,⟨by omega,by omega⟩,by omega,by omega⟩,?_⟩
 have J:∀ i j g,JA U (tri (bq U s 0) (bq U s 1) (bq U s 2)) s i j g→jf U (tri (bq U s 0) (bq U s 1) (bq U s 2)) s i j g=0:=fun i j g h=>(j_yes h).2
 refine ⟨J _ _ _ ?_,J _ _ _ ?_,J _ _ _ ?_,J _ _ _ ?_,J _ _ _ ?_,J _ _ _ ?_⟩
 ·obtain ⟨q1,q2,q3,q4,q5⟩:=pair8_in (m:=U 0) s0 s1 sa h0' h0' (prod8_in p0 p0) e0 e0 rfl rfl rfl h0'
  exact ja8 q1 q2 q3 q4 q5
 ·obtain ⟨q1,q2,q3,q4,q5⟩:=pair8_in (m:=U 1) s0 s1 sa h1 h0' (prod8_in p1 p0) e1 e0 rfl rfl rfl h1
  exact ja8 q1 q2 q3 q4 q5
 ·obtain ⟨q1,q2,q3,q4,q5⟩:=pair8_in (m:=U 2) s0 s1 sa h2 h0' (prod8_in p2 p0) e2 e0 rfl rfl rfl h2
  exact ja8 q1 q2 q3 q4 q5
 ·obtain ⟨q1,q2,q3,q4,q5⟩:=pair8_in (m:=U 3) s0 s1 sa h1 h1 (prod8_in p1 p1) e1 e1 rfl rfl rfl ⟨by omega,h3.2⟩
  exact ja8 q1 q2 q3 q4 q5
 ·obtain ⟨q1,q2,q3,q4,q5⟩:=pair8_in (m:=U 4) s0 s1 sa h2 h1 (prod8_in p2 p1) e2 e1 rfl rfl rfl h4
  exact ja8 q1 q2 q3 q4 q5
 ·obtain ⟨q1,q2,q3,q4,q5⟩:=pair8_in (m:=U 5) s0 s1 sa h2 h2 (prod8_in p2 p2) e2 e2 rfl rfl rfl ⟨by omega,h5.2⟩
  exact ja8 q1 q2 q3 q4 q5
structure Rs (x:Nat→Int) (C:Cn) (p:Int):Prop where
 m:C.m=1
 g:C.g=p
 v:C.v=tri (az p) 0 0
 t:TM x C.u
theorem cl3_rest {x:Nat→Int} (c:CN x) (p:Int):cl3 x (tri (az p) 0 0)=tri (az p) 0 0:=by
 obtain ⟨h0,h1,h2⟩:=enter_in c p
 show tri (clz (az p) (x 17)) (clz 0 (x 18)) (clz 0 (x 19))=_
 rw [show clz (az p) (x 17)=az p from h0,show clz 0 (x 18)=0 from h1,show clz 0 (x 19)=0 from h2]
theorem mvd_rest {x:Nat→Int} (c:CN x) (p:Int):mvd x (tri (az p) 0 0) 0=tri (az p) 0 0:=by
 have b:=az_bd p
 have e0:mvh 0 (0 - 0)=0:=by decide
 have e1:mvs (0 - 0)=0:=by decide
 have ok:mok (tri (az p) 0 0) 0:=by
  refine ⟨⟨⟨?_,?_⟩,(show FitP 0 by decide),(show FitP 0 by decide)⟩,(show FitP 0 by decide),(show FitP (0 - 0) by decide),?_,?_⟩
  ·show _≤az p
   omega
  ·show az p≤_
   omega
  ·show FitP (az p+mvh 0 (0 - 0))
   rw [e0]
   exact ⟨by omega,by omega⟩
  ·show FitP (0+mvs (0 - 0))
   rw [e1]
   decide
 unfold mvd
 rw [if_pos ok]
 have e:mgo (tri (az p) 0 0) 0=tri (az p) 0 0:=by
  show tri (az p+mvh 0 (0 - 0)) (0+mvs (0 - 0)) 0=_
  rw [e0,e1,Int.add_zero,Int.add_zero]
 rw [e]
 exact cl3_rest c p
theorem tak_rest {x:Nat→Int} (c:CN x) {C:Cn} {p:Int} (gp:gd p=true) (hv:C.v=tri (az p) 0 0) (hg:C.g=p) (ht:TM x C.u):tak x C p false∧tG x C p=true∧jsz C.v (tK x C p false) (tY x C p)=tri (az p) 0 0:=by
 have gr:=gd_range gp
 have b:=az_bd p
 obtain ⟨u0,_⟩:=tm8 c ht
 have g0:=c.g
 have nn:nr p (bd (x 30)) p=true:=by
  have b0:0≤bd (x 30):=by unfold bd; split <;> omega
  unfold nr
  simp only [gp,Bool.true_and,Bool.and_eq_true,decide_eq_true_eq]
  omega
 have eL:tL x C p=az p:=by
  unfold tL lz
  rw [if_pos gp,hg,if_pos nn,az_ok gp]
  unfold mz
  split <;> rfl
 have eN:tN x C p=x 7:=by
  unfold tN ln
  rw [if_pos gp,hg,if_pos nn]
 have eG:tG x C p=true:=by
  unfold tG
  rw [hg]
  exact nn
 have f0:FitP (az p):=⟨by omega,by omega⟩
 have z0:FitP 0:=by decide
 have kb:lkb (az p) 0 0 C.u (az p) (x 7)=true:=by
  unfold lkb
  rw [f3b_yes ⟨f0,z0,z0⟩,f6b_yes ht.2.1,fitb_yes f0,fitb_yes (show FitP (x 7) from ⟨by omega,by omega⟩)]
  simp
  omega
 have kf:lkf (az p) C.u (az p) (x 7)=true:=by
  unfold lkf
  rw [fitb_yes (show FitP (az p - az p) from ⟨by omega,by omega⟩),fitb_yes (show FitP (C.u 0+x 7) from ⟨by omega,by omega⟩)]
  rfl
 obtain ⟨ky,ks,ke⟩:=lk_ok kb kf
 have eY:tY x C p=0:=by
  unfold tY
  rw [eL,eN,hv]
  show lky (az p) 0 0 C.u (az p) (x 7)=0
  rw [ky]
  omega
 have eS:tS x C p=C.u 0+x 7:=by
  unfold tS
  rw [eL,eN,hv]
  exact ks
 have eE:tE x C p=0:=by
  unfold tE
  rw [eL,eN,hv]
  exact ke
 obtain ⟨bk,bf,da⟩:=rest8 c ht (n:=x 7) (s:=C.u 0+x 7) g0.1 g0.2 rfl
 have eK:tK x C p false=tri (bq C.u (C.u 0+x 7) 0) (bq C.u (C.u 0+x 7) 1) (bq C.u (C.u 0+x 7) 2):=by
  have e:∀ y i,goz false C.u (C.u 0+x 7) (x 21) (x 22) (x 23) y i=bq C.u (C.u 0+x 7) i:=fun y i=>by
   unfold goz bz
   rw [if_neg (by decide),if_pos ⟨bk,bf⟩]
  unfold tK
  rw [eS,e,e,e]
 have jk:JSK C.v (tK x C p false) 0:=by
  rw [hv,eK]
  exact ⟨⟨f0,z0,z0⟩,bf,z0⟩
 have jd:∀ i,jsd (tK x C p false) 0 i=0:=fun i=>by
  unfold jsd
  rw [Int.mul_zero]
  decide
 have jf_:JSF C.v (tK x C p false) 0:=by
  rw [hv]
  refine ⟨?_,?_⟩
  ·rw [jd,jd,jd]
   exact ⟨z0,z0,z0⟩
  ·rw [jd,jd,jd]
   refine ⟨?_,(show FitP (0+0) by decide),(show FitP (0+0) by decide)⟩
   show FitP (az p+0)
   rw [Int.add_zero]
   exact f0
 refine ⟨⟨eE,?_,?_,?_,?_⟩,eG,?_⟩
 ·rw [eY,eS]
  show decide (PassP 0 (C.u 0+x 7) (x 20))=true
  refine decide_eq_true ⟨⟨z0,⟨by omega,by omega⟩,by omega⟩,?_⟩
  have q:=c.ga
  refine ⟨by omega,by omega,?_⟩
  have h1:=Int.mul_nonneg (show 0≤x 20 by omega) (show 0≤C.u 0+x 7 by omega)
  have h2:=Int.mul_nonneg h1 (show (0:Int)≤1099511627776 by decide)
  rw [Int.zero_mul]
  exact h2
 ·rw [eS]
  unfold goe be
  rw [if_neg (by decide),if_pos bk,if_pos bf]
 ·rw [eY]
  unfold jse
  rw [if_pos jk,if_pos jf_]
 ·rw [eS,eK]
  unfold dbe
  rw [if_pos ⟨ht.2.1,bf,⟨by omega,by omega⟩⟩,if_pos da]
 ·rw [eY]
  funext i
  unfold jsz
  rw [if_pos ⟨jk,jf_⟩,jd,Int.add_zero,hv]
theorem rs_stp {x:Nat→Int} (ck:cks x=0) {C:Cn} {p:Int} (gp:gd p=true) (k:Rs x C p):Rs x (stp x C (x 25) true p false).1 p∧(stp x C (x 25) true p false).2=⟨1,true,true,false,false,true,evn (az p) 16777216,0,0⟩:=by
 have c:=cn_of ck
 obtain ⟨th0,th1⟩:=thq_rest ck
 obtain ⟨e0,e1,e2,e3⟩:=a_ok th1 C.l C.r
 rw [th0] at e0
 have eb:br true p=true:=by simp [br,gp]
 obtain ⟨M,hM⟩:∃ M,M=mov x (fed x C (x 25)) 0 false:=⟨_,rfl⟩
 have mv_:M.v=tri (az p) 0 0:=by
  rw [hM]
  show mvd x C.v 0=_
  rw [k.v]
  exact mvd_rest c p
 have mu:TM x M.u:=by
  rw [hM]
  exact spd_tm c k.t false
 have mg:M.g=p:=by
  rw [hM]
  exact k.g
 have mm:M.m=1:=by
  rw [hM]
  exact k.m
 obtain ⟨tk_,tg,tj⟩:=tak_rest c gp mv_ mg mu
 have tg2:tG x (fed x C (x 25)) p=true:=by
  unfold tG at tg ⊢
  rw [mg] at tg
  show nr C.g _ _=true
  rw [k.g]
  exact tg
 have em:mid x (fed x C (x 25)) 0 false false true p false=(tkn x M p false,1,true,true):=by
  unfold mid
  rw [if_neg (by decide),if_neg (show ¬ sks (fed x C (x 25)).m=true by show ¬ sks C.m=true; rw [k.m]; decide),if_pos rfl,← hM,tg2]
  unfold tke
  rw [if_pos tk_]
 unfold stp
 rw [e0,e1,e3,eb,em]
 have vn:vld (tkn x M p false).m=true:=by
  show vld M.m=true
  rw [mm]
  rfl
 have cl:clk2 x (tkn x M p false) 1=(1,0):=nxt_take vn
 have hv:(trn x (tkn x M p false) 1).v=tri (az p) 0 0:=by
  show cl3 x (jsz M.v (tK x M p false) (tY x M p))=_
  rw [tj]
  exact cl3_rest c p
 have hm:(trn x (tkn x M p false) 1).m=1:=by
  show (clk2 x (tkn x M p false) 1).1=1
  rw [cl]
 refine ⟨⟨hm,mg,hv,tmd_tm c _⟩,?_⟩
 unfold fin tel
 dsimp only
 rw [hm,hv]
 rfl
end Go.Proofs.YtmcchknilnejgaaGreatDoor
namespace Go.Proofs.YtmcchknilnejgaaGreatDoor
open Go.RowKit Go.Shelf Go.Joins
theorem zsym_eq_self (x0 x1 x2 x3 x4 x5:Int) (w:World):(Op.equalIn 10000 40 (.agg #[.int .i64 x0,.int .i64 x1,.int .i64 x2,.int .i64 x3,.int .i64 x4,.int .i64 x5]) (.agg #[.int .i64 x0,.int .i64 x1,.int .i64 x2,.int .i64 x3,.int .i64 x4,.int .i64 x5])).run Tryz.prog w=.ok true w:=by
 have hs:(Tryz.prog.info? 2).isSome=true:=by kernel_rfl
 obtain ⟨i,hi⟩:=Option.isSome_iff_exists.1 hs
 have hc:Tryz.prog.cellsOf 2=1:=by kernel_rfl
 have hp:Tryz.prog.plainKey 2=true:=by kernel_rfl
 rw [run_equalIn_array w 9999 _ _ Tryz.underlying40 hi]
 rw [hc]
 have P:=fun (k:Nat) (v:Value) (h:(#[Value.int IntKind.i64 x0,Value.int IntKind.i64 x1,Value.int IntKind.i64 x2,Value.int IntKind.i64 x3,Value.int IntKind.i64 x4,Value.int IntKind.i64 x5]:Array Value)[k*1]?=some v) (w:World)=>run_part_plain w hp h
 have E:=fun (a:Int) (w:World)=>run_equalIn_int w 9998 2 .i64 .i64 a a Tryz.underlying2
 simp only [List.range,List.range.loop,Op.eqItems,Sem.run_bind,P 0 _ rfl,Result.andThen_ok]
 simp [P 1 _ rfl,P 2 _ rfl,P 3 _ rfl,P 4 _ rfl,P 5 _ rfl,E]
noncomputable def rst (x:Nat→Int) (p:Int) (k:Nat):Cn:=itr x (fun _=>x 25) (fun _=>p) (fun _=>true) (fun _=>false) k
theorem rst_lo {x:Nat→Int} (ck:cks x=0) {p:Int} (gp:gd p=true):∀ k,k≤15→Sk (rst x p k) k (fun _=>p)
 | 0,_=>sk_0 _
 | k+1,h=>(sk_gather (rst_lo ck gp k (by omega)) (by omega) false (thq_rest ck).2 gp).1
def Rq (x:Nat→Int) (p:Int) (i:Nat) (R:Cn × Td):Prop:=Rs x R.1 p∧R.2=⟨1,true,true,false,false,decide ((15:Int)<(i:Int)),evn (az p) 16777216,0,0⟩
theorem rst_hi {x:Nat→Int} (ck:cks x=0) {p:Int} (gp:gd p=true):∀ i,15≤i→Rq x p i (stp x (rst x p i) (x 25) true p false):=by
 have c:=cn_of ck
 have first:Rq x p 15 (stp x (rst x p 15) (x 25) true p false):=by
  have e:=sk_enter (rst_lo ck gp 15 (Nat.le_refl _)) (a:=x 25) false (thq_rest ck).2 gp
  have em:mv (fun _=>p) 16=p:=mv_const (by decide) gp (fun _ _=>rfl)
  rw [em] at e
  obtain ⟨q,e2⟩:=e
  exact ⟨⟨q.m,by rw [q.g]; exact (s_ok gp).1,q.v,by rw [q.u]; exact start_tm c⟩,e2⟩
 intro i hi
 induction i with
 | zero=>omega
 | succ k ih =>
  by_cases h:k=14
  ·subst h
   exact first
  ·have r:=ih (by omega)
   obtain ⟨k1,k2⟩:=rs_stp ck gp r.1
   refine ⟨k1,?_⟩
   have d:decide ((15:Int)<((k+1:Nat):Int))=true:=decide_eq_true (by omega)
   rw [d]
   exact k2
theorem zrow3 {w:World} {b:Nat} {t:TypeId} {c0 c1 c2:Value} (h:w.heap[b]?=some (.cells #[c0,c1,c2] t (0,0))):w.cell? ⟨b,0,none⟩=some c0∧w.cell? ⟨b,1,none⟩=some c1∧w.cell? ⟨b,2,none⟩=some c2:=⟨(cell_of_row _ _ 0 _ _ _ h).trans rfl,(cell_of_row _ _ 1 _ _ _ h).trans rfl,(cell_of_row _ _ 2 _ _ _ h).trans rfl⟩
theorem channelRests_any (x:Nat→Int) (hx:C64 x) (p n:Int) (hn:0≤n∧n≤65535) (w:World) (T:Tb3 w):Calls Tryz.prog 9 #[cv x,.int .i64 p,.int .u16 n] w (RetV (.bool true) w):=by
 have al_:=raltitude_any p
 by_cases ck:cks x=0
 rotate_left
 ·generalize ae p=av at *
  generalize az p=zz at *
  have cr:CR (w.alloc (Obj.cells #[.int .i64 (x 0),.int .i64 (x 1),.int .i64 (x 2),.int .i64 (x 3),.int .i64 (x 4),.int .i64 (x 5),.int .i64 (x 6),.int .i64 (x 7),.int .i64 (x 8),.int .i64 (x 9),.int .i64 (x 10),.int .i64 (x 11),.int .i64 (x 12),.int .i64 (x 13),.int .i64 (x 14),.int .i64 (x 15),.int .i64 (x 16),.int .i64 (x 17),.int .i64 (x 18),.int .i64 (x 19),.int .i64 (x 20),.int .i64 (x 21),.int .i64 (x 22),.int .i64 (x 23),.int .i64 (x 24),.int .i64 (x 25),.int .i64 (x 26),.int .i64 (x 27),.int .i64 (x 28),.int .i64 (x 29),.int .i64 (x 30)] 25)) w.heap.size x:=cr_new
  have E0:Below w.heap.size w (w.alloc (Obj.cells #[.int .i64 (x 0),.int .i64 (x 1),.int .i64 (x 2),.int .i64 (x 3),.int .i64 (x 4),.int .i64 (x 5),.int .i64 (x 6),.int .i64 (x 7),.int .i64 (x 8),.int .i64 (x 9),.int .i64 (x 10),.int .i64 (x 11),.int .i64 (x 12),.int .i64 (x 13),.int .i64 (x 14),.int .i64 (x 15),.int .i64 (x 16),.int .i64 (x 17),.int .i64 (x 18),.int .i64 (x 19),.int .i64 (x 20),.int .i64 (x 21),.int .i64 (x 22),.int .i64 (x 23),.int .i64 (x 24),.int .i64 (x 25),.int .i64 (x 26),.int .i64 (x 27),.int .i64 (x 28),.int .i64 (x 29),.int .i64 (x 30)] 25)):=b_alloc (Below.refl _ _)
  replace T:=t3_keep E0 T
  have cc:=check_any x hx
  go_enter Tryz.func9,Tryz.ntmps9
  go_wp2_with fail
  generalize (w.alloc (Obj.cells #[.int .i64 (x 0),.int .i64 (x 1),.int .i64 (x 2),.int .i64 (x 3),.int .i64 (x 4),.int .i64 (x 5),.int .i64 (x 6),.int .i64 (x 7),.int .i64 (x 8),.int .i64 (x 9),.int .i64 (x 10),.int .i64 (x 11),.int .i64 (x 12),.int .i64 (x 13),.int .i64 (x 14),.int .i64 (x 15),.int .i64 (x 16),.int .i64 (x 17),.int .i64 (x 18),.int .i64 (x 19),.int .i64 (x 20),.int .i64 (x 21),.int .i64 (x 22),.int .i64 (x 23),.int .i64 (x 24),.int .i64 (x 25),.int .i64 (x 26),.int .i64 (x 27),.int .i64 (x 28),.int .i64 (x 29),.int .i64 (x 30)] 25))=z0 at *
  refine (al_ _).mono ?_
  clear al_
  rintro e_ y1 ⟨rfl,hb1⟩
  replace T:=t3_keep hb1 T
  replace cr:=cr_keep hb1 cr
  replace E0:=b_trans E0 hb1
  clear hb1
  go_wp2_with (with_reducible refine stop_at (some 23) rfl ?_)
  refine unstop ?_
  refine wpList_load_row rfl 25 (.tmp 3) rfl w.heap.size rfl 25 _ (0,0) _ cr Tryz.underlying25 rfl (by kernel_rfl) ?_
  go_wp2_with fail
  refine (cc _).mono ?_
  clear cc
  rintro e_ y2 ⟨rfl,hb2⟩
  replace T:=t3_keep hb2 T
  replace cr:=cr_keep hb2 cr
  replace E0:=b_trans E0 hb2
  clear hb2
  generalize hce:cks x=ce at *
  have c1:(ce != 0)=true:=by simpa using ck
  clear hce ck
  go_wp2_with fail
  refine (fixed_cha _ T).mono ?_
  rintro e_ y9 ⟨rfl,hb9⟩
  go_wp2
  go_ret
  exact ⟨rfl,b_trans E0 hb9⟩
 by_cases gp:gd p=true
 rotate_left
 ·rw [ae_bad (by simpa using gp)] at al_
  generalize az p=zz at *
  have cr:CR (w.alloc (Obj.cells #[.int .i64 (x 0),.int .i64 (x 1),.int .i64 (x 2),.int .i64 (x 3),.int .i64 (x 4),.int .i64 (x 5),.int .i64 (x 6),.int .i64 (x 7),.int .i64 (x 8),.int .i64 (x 9),.int .i64 (x 10),.int .i64 (x 11),.int .i64 (x 12),.int .i64 (x 13),.int .i64 (x 14),.int .i64 (x 15),.int .i64 (x 16),.int .i64 (x 17),.int .i64 (x 18),.int .i64 (x 19),.int .i64 (x 20),.int .i64 (x 21),.int .i64 (x 22),.int .i64 (x 23),.int .i64 (x 24),.int .i64 (x 25),.int .i64 (x 26),.int .i64 (x 27),.int .i64 (x 28),.int .i64 (x 29),.int .i64 (x 30)] 25)) w.heap.size x:=cr_new
  have E0:Below w.heap.size w (w.alloc (Obj.cells #[.int .i64 (x 0),.int .i64 (x 1),.int .i64 (x 2),.int .i64 (x 3),.int .i64 (x 4),.int .i64 (x 5),.int .i64 (x 6),.int .i64 (x 7),.int .i64 (x 8),.int .i64 (x 9),.int .i64 (x 10),.int .i64 (x 11),.int .i64 (x 12),.int .i64 (x 13),.int .i64 (x 14),.int .i64 (x 15),.int .i64 (x 16),.int .i64 (x 17),.int .i64 (x 18),.int .i64 (x 19),.int .i64 (x 20),.int .i64 (x 21),.int .i64 (x 22),.int .i64 (x 23),.int .i64 (x 24),.int .i64 (x 25),.int .i64 (x 26),.int .i64 (x 27),.int .i64 (x 28),.int .i64 (x 29),.int .i64 (x 30)] 25)):=b_alloc (Below.refl _ _)
  replace T:=t3_keep E0 T
  have cc:=check_any x hx
  go_enter Tryz.func9,Tryz.ntmps9
  go_wp2_with fail
  generalize (w.alloc (Obj.cells #[.int .i64 (x 0),.int .i64 (x 1),.int .i64 (x 2),.int .i64 (x 3),.int .i64 (x 4),.int .i64 (x 5),.int .i64 (x 6),.int .i64 (x 7),.int .i64 (x 8),.int .i64 (x 9),.int .i64 (x 10),.int .i64 (x 11),.int .i64 (x 12),.int .i64 (x 13),.int .i64 (x 14),.int .i64 (x 15),.int .i64 (x 16),.int .i64 (x 17),.int .i64 (x 18),.int .i64 (x 19),.int .i64 (x 20),.int .i64 (x 21),.int .i64 (x 22),.int .i64 (x 23),.int .i64 (x 24),.int .i64 (x 25),.int .i64 (x 26),.int .i64 (x 27),.int .i64 (x 28),.int .i64 (x 29),.int .i64 (x 30)] 25))=z0 at *
  refine (al_ _).mono ?_
  clear al_
  rintro e_ y1 ⟨rfl,hb1⟩
  replace T:=t3_keep hb1 T
  replace cr:=cr_keep hb1 cr
  replace E0:=b_trans E0 hb1
  clear hb1
  go_wp2_with (with_reducible refine stop_at (some 23) rfl ?_)
  refine unstop ?_
  refine wpList_load_row rfl 25 (.tmp 3) rfl w.heap.size rfl 25 _ (0,0) _ cr Tryz.underlying25 rfl (by kernel_rfl) ?_
  go_wp2_with fail
  refine (cc _).mono ?_
  clear cc
  rintro e_ y2 ⟨rfl,hb2⟩
  replace T:=t3_keep hb2 T
  replace cr:=cr_keep hb2 cr
  replace E0:=b_trans E0 hb2
  clear hb2
  rw [ck]
  clear ck gp
  go_wp2_with fail
  refine (fixed_cha _ T).mono ?_
  rintro e_ y9 ⟨rfl,hb9⟩
  go_wp2
  go_ret
  exact ⟨rfl,b_trans E0 hb9⟩
 rw [ae_ok gp] at al_
 have zr:=az_bd p
 have pe:=Lib.hid (rst_hi (x:=x) ck gp)
 have oc:=Lib.hid (ok_itr hx ck (fun _=>x 25) (fun _=>p) (fun _=>true) (fun _=>false))
 have rr:=Lib.hid (itr_r x (fun _=>x 25) (fun _=>p) (fun _=>true) (fun _=>false))
 have cO:=fun u=>out_ref (az p) (by omega) (by omega) u
 have cT:∀ U:Nat→Int,TM x U→∀ u,Calls Tryz.prog 27 #[sv U,tv (x 11) (x 12) (x 13),tv (x 14) (x 15) (x 16)] u (RetV (.tuple #[sv U,.int .i64 0]) u):=fun U t u=>by
  have cn:=cn_of ck
  obtain ⟨qq,QR,_⟩:=tmd_ok cn U
  have q:=rtame_ok U (x 11) (x 12) (x 13) (x 14) (x 15) (x 16) _ _ _ (f6_i6 (tm_f6 t)) cn.f0 cn.f1 cn.f2 QR u
  have h:=(tmz_stays cn.f0 cn.f1 cn.f2 QR).2 t
  unfold sv at q ⊢
  rw [h 0 (by decide),h 1 (by decide),h 2 (by decide),h 3 (by decide),h 4 (by decide),h 5 (by decide)] at q
  exact q
 replace cT:=Lib.hid cT
 replace cO:=Lib.hid cO
 have wv:=evn24 (show I64 (az p) from ⟨by omega,by omega⟩)
 obtain ⟨z,hz⟩:∃ z,az p=z:=⟨_,rfl⟩
 obtain ⟨av,hav⟩:∃ q,evn z 16777216=q:=⟨_,rfl⟩
 have pe2:Hid (∀ i,15≤i→(∀ R,stp x (rst x p i) (x 25) true p false=R→R.1.v=tri z 0 0∧TM x R.1.u∧R.2=⟨1,true,true,false,false,decide ((15:Int)<(i:Int)),av,0,0⟩)):=Lib.hid (fun i hi R hR=>by
  have q:=pe.out i hi
  rw [hR] at q
  exact ⟨by rw [q.1.v,hz],q.1.t,by rw [q.2,hz,hav]⟩)
 rw [hz] at al_ cO wv
 rw [hav] at cO wv
 clear pe zr hz hav
 obtain ⟨N,hN⟩:∃ N:Nat,n.tmod 400=(N:Int):=⟨(n % 400).toNat,by rw [Int.tmod_eq_emod_of_nonneg hn.1]; omega⟩
 have N4:N<400:=by rw [Int.tmod_eq_emod_of_nonneg hn.1] at hN; omega
 have wn:IntKind.i64.wrap n=n:=by rw [IntKind.wrap_i64]; omega
 have wN:IntKind.i64.wrap (N:Int)=N:=by rw [IntKind.wrap_i64]; omega
 have cr:CR (w.alloc (Obj.cells #[.int .i64 (x 0),.int .i64 (x 1),.int .i64 (x 2),.int .i64 (x 3),.int .i64 (x 4),.int .i64 (x 5),.int .i64 (x 6),.int .i64 (x 7),.int .i64 (x 8),.int .i64 (x 9),.int .i64 (x 10),.int .i64 (x 11),.int .i64 (x 12),.int .i64 (x 13),.int .i64 (x 14),.int .i64 (x 15),.int .i64 (x 16),.int .i64 (x 17),.int .i64 (x 18),.int .i64 (x 19),.int .i64 (x 20),.int .i64 (x 21),.int .i64 (x 22),.int .i64 (x 23),.int .i64 (x 24),.int .i64 (x 25),.int .i64 (x 26),.int .i64 (x 27),.int .i64 (x 28),.int .i64 (x 29),.int .i64 (x 30)] 25)) w.heap.size x:=cr_new
 have E0:Below w.heap.size w (w.alloc (Obj.cells #[.int .i64 (x 0),.int .i64 (x 1),.int .i64 (x 2),.int .i64 (x 3),.int .i64 (x 4),.int .i64 (x 5),.int .i64 (x 6),.int .i64 (x 7),.int .i64 (x 8),.int .i64 (x 9),.int .i64 (x 10),.int .i64 (x 11),.int .i64 (x 12),.int .i64 (x 13),.int .i64 (x 14),.int .i64 (x 15),.int .i64 (x 16),.int .i64 (x 17),.int .i64 (x 18),.int .i64 (x 19),.int .i64 (x 20),.int .i64 (x 21),.int .i64 (x 22),.int .i64 (x 23),.int .i64 (x 24),.int .i64 (x 25),.int .i64 (x 26),.int .i64 (x 27),.int .i64 (x 28),.int .i64 (x 29),.int .i64 (x 30)] 25)):=b_alloc (Below.refl _ _)
 replace T:=t3_keep E0 T
 have cc:=check_any x hx
 go_enter Tryz.func9,Tryz.ntmps9
 go_wp2_with fail
 generalize (w.alloc (Obj.cells #[.int .i64 (x 0),.int .i64 (x 1),.int .i64 (x 2),.int .i64 (x 3),.int .i64 (x 4),.int .i64 (x 5),.int .i64 (x 6),.int .i64 (x 7),.int .i64 (x 8),.int .i64 (x 9),.int .i64 (x 10),.int .i64 (x 11),.int .i64 (x 12),.int .i64 (x 13),.int .i64 (x 14),.int .i64 (x 15),.int .i64 (x 16),.int .i64 (x 17),.int .i64 (x 18),.int .i64 (x 19),.int .i64 (x 20),.int .i64 (x 21),.int .i64 (x 22),.int .i64 (x 23),.int .i64 (x 24),.int .i64 (x 25),.int .i64 (x 26),.int .i64 (x 27),.int .i64 (x 28),.int .i64 (x 29),.int .i64 (x 30)] 25))=z0 at *
 refine (al_ _).mono ?_
 clear al_
 rintro e_ y1 ⟨rfl,hb1⟩
 replace T:=t3_keep hb1 T
 replace cr:=cr_keep hb1 cr
 replace E0:=b_trans E0 hb1
 clear hb1
 go_wp2_with (with_reducible refine stop_at (some 23) rfl ?_)
 refine unstop ?_
 refine wpList_load_row rfl 25 (.tmp 3) rfl w.heap.size rfl 25 _ (0,0) _ cr Tryz.underlying25 rfl (by kernel_rfl) ?_
 go_wp2_with fail
 refine (cc _).mono ?_
 clear cc
 rintro e_ y2 ⟨rfl,hb2⟩
 replace T:=t3_keep hb2 T
 replace cr:=cr_keep hb2 cr
 replace E0:=b_trans E0 hb2
 clear hb2
 rw [ck]
 replace ck:=Lib.hid ck
 go_wp2_with (with_reducible refine stop_at (some 32) rfl ?_)
 refine unstop ?_
 refine wpList_load_row rfl 25 (.tmp 3) rfl w.heap.size rfl 25 _ (0,0) _ cr Tryz.underlying25 rfl (by kernel_rfl) ?_
 go_wp2_with fail
 refine (chnew_ok x hx ck.out _ T).mono ?_
 rintro e_ y3 ⟨b,fb,gb,rfl,c0,h0,h1,h2_,hb3⟩
 have S:=Lib.hid (lc_new (Below.refl _ _) T c0 h0 h1 h2_ hb3)
 clear T c0 h0 h1 h2_ hb3
 replace cr:=Lib.hid cr
 replace E0:=Lib.hid E0
 go_wp2
 clear hN wn
 go_loopw [45] (fun iv wr=>∃ (i:Nat) (h1:Value),i≤N∧iv=.int .i64 i∧Hid (LC y2 b fb gb h1 x (rst x p i) wr)) (fun iv _=>N - (intOf iv).toNat)
 case atStart=>exact ⟨0,_,Nat.zero_le _,rfl,S⟩
 case round =>
  clear S
  obtain ⟨i,h1,hi,rfl,S⟩:=hrel
  by_cases hlt:i<N
  ·have x25:wr.cell? ⟨w.heap.size,25,none⟩=some (.int .i64 (x 25)):=(cell_of_row _ _ 25 _ _ _ (cr_keep S.out.b cr.out)).trans rfl
   have hlk:(i:Int)<N:=by omega
   have i0:(0:Int)≤i:=by omega
   have ws:IntKind.i64.wrap ((i:Int)+1)=(i:Int)+1:=by rw [IntKind.wrap_i64]; omega
   have ro:=rr.out i
   have ok:=oc.out i
   have cs:=step_any (b:=b) (fb:=fb) (gb:=gb) (hl:=h1) hx ck.out (C:=rst x p i) ok (by unfold rst; omega) (x 25) true p false wr S.out.c S.out.t
   obtain ⟨R,hR⟩:∃ R,stp x (rst x p i) (x 25) true p false=R:=⟨_,rfl⟩
   have eI:Hid (rst x p (i+1)=R.1):=Lib.hid (by rw [← hR]; rfl)
   rw [hR] at cs
   replace hlt:=Lib.hid hlt
   clear ro ok
   by_cases i15:i<15
   ·have j15:(i:Int)<15:=by omega
    clear hR
    go_wp2_with fail
    refine cs.mono ?_
    clear cs x25
    rintro e_ y5 ⟨rfl,h3,c3,q3,k3⟩
    have S3:=lc_step S.out c3 q3 k3
    clear c3 q3 k3 S
    have ZB:Below y5.heap.size y5 (y5.alloc (Obj.cells #[.int .i64 R.2.m,.bool R.2.vd,.bool R.2.ac,.bool R.2.rf,.bool R.2.hl,.bool R.2.gr,.int .i64 R.2.al,.int .i64 R.2.sp,.int .i64 R.2.bi] 51)):=b_alloc (Below.refl _ _)
    replace S3:=Lib.hid (lc_keep S3 ZB)
    clear ZB
    go_wp2
    refine ⟨⟨i+1,h3,hlt.out,by go_num,by rw [eI.out]; exact S3⟩,?_⟩
    simp only [intOf]
    have:=hlt.out
    omega
   ·have j15:¬ (i:Int)<15:=by omega
    obtain ⟨g1,hg1⟩:∃ q,decide ((15:Int)<(i:Int))=q:=⟨_,rfl⟩
    obtain ⟨rv,rt,r2⟩:=pe2.out i (by omega) R hR
    rw [hg1] at r2
    clear hR
    obtain ⟨R1,R2⟩:=R
    dsimp only at rv rt r2 cs eI
    subst r2
    have ct:=cT.out R1.u rt
    clear rt
    have tq:=fun u=>td_eq_self (m:=1) (vd:=true) (ac:=true) (rf:=false) (ho:=false) (gr:=g1) (al:=av) (sp:=0) (bi:=0) (by decide) wv (by decide) (by decide) u
    go_wp2_with fail
    refine cs.mono ?_
    clear cs x25
    rintro e_ y5 ⟨rfl,h3,c3,q3,k3⟩
    have S3:=lc_step S.out c3 q3 k3
    clear c3 q3 k3 S
    have dD:(y5.alloc (Obj.cells #[.int .i64 1,.bool true,.bool true,.bool false,.bool false,.bool g1,.int .i64 av,.int .i64 0,.int .i64 0] 51)).heap[y5.heap.size]?=some (.cells #[.int .i64 1,.bool true,.bool true,.bool false,.bool false,.bool g1,.int .i64 av,.int .i64 0,.int .i64 0] 51 (0,0)):=heap_alloc_last _ _
    have ZB:Below y5.heap.size y5 (y5.alloc (Obj.cells #[.int .i64 1,.bool true,.bool true,.bool false,.bool false,.bool g1,.int .i64 av,.int .i64 0,.int .i64 0] 51)):=b_alloc (Below.refl _ _)
    replace S3:=Lib.hid (lc_keep S3 ZB)
    clear ZB
    go_wp2_with fail
    generalize (y5.alloc (Obj.cells #[.int .i64 1,.bool true,.bool true,.bool false,.bool false,.bool g1,.int .i64 av,.int .i64 0,.int .i64 0] 51))=y6 at *
    generalize y5.heap.size=D at *
    have cst:=chstate_any b fb gb h3 x R1.m R1.s R1.v R1.u y6 S3.out.c.c
    rw [rv] at cst
    replace cst:Calls Tryz.prog 17 #[.pointer (some ⟨b,0,none⟩)] y6 (RetV (.tuple #[.agg #[.int .i64 z,.int .i64 0,.int .i64 0],sv R1.u]) y6):=cst
    clear rv
    generalize hU:R1.u=U at *
    replace hU:=Lib.hid hU
    refine cst.mono ?_
    clear cst
    rintro e_ y7 ⟨rfl,hb⟩
    replace S3:=Lib.hid (lc_keep S3.out hb)
    replace dD:=row_keep hb dD
    clear hb
    have b3:Below y7.heap.size y7 ((y7.alloc (Obj.cells #[.int .i64 z,.int .i64 0,.int .i64 0] 23)).alloc (Obj.cells #[.int .i64 (U 0),.int .i64 (U 1),.int .i64 (U 2),.int .i64 (U 3),.int .i64 (U 4),.int .i64 (U 5)] 40)):=b_alloc (b_alloc (Below.refl _ _))
    have kV:((y7.alloc (Obj.cells #[.int .i64 z,.int .i64 0,.int .i64 0] 23)).alloc (Obj.cells #[.int .i64 (U 0),.int .i64 (U 1),.int .i64 (U 2),.int .i64 (U 3),.int .i64 (U 4),.int .i64 (U 5)] 40)).heap[y7.heap.size]?=some (.cells #[.int .i64 z,.int .i64 0,.int .i64 0] 23 (0,0)):=lay_old _ _ _
    have kS:((y7.alloc (Obj.cells #[.int .i64 z,.int .i64 0,.int .i64 0] 23)).alloc (Obj.cells #[.int .i64 (U 0),.int .i64 (U 1),.int .i64 (U 2),.int .i64 (U 3),.int .i64 (U 4),.int .i64 (U 5)] 40)).heap[y7.heap.size+1]?=some (.cells #[.int .i64 (U 0),.int .i64 (U 1),.int .i64 (U 2),.int .i64 (U 3),.int .i64 (U 4),.int .i64 (U 5)] 40 (0,0)):=lay_new _ _ _
    replace S3:=Lib.hid (lc_keep S3.out b3)
    replace dD:=row_keep b3 dD
    clear b3
    have co:=cO.out
    go_wp2_with fail
    generalize ((y7.alloc (Obj.cells #[.int .i64 z,.int .i64 0,.int .i64 0] 23)).alloc (Obj.cells #[.int .i64 (U 0),.int .i64 (U 1),.int .i64 (U 2),.int .i64 (U 3),.int .i64 (U 4),.int .i64 (U 5)] 40))=y8 at *
    generalize y7.heap.size=V at *
    refine (co _).mono ?_
    clear co
    rintro e_ y9 ⟨rfl,hb⟩
    replace S3:=Lib.hid (lc_keep S3.out hb)
    replace dD:=row_keep hb dD
    replace kV:=row_keep hb kV
    replace kS:=row_keep hb kS
    clear hb
    have dW:(y9.alloc (Obj.cells #[.int .i64 1,.bool true,.bool true,.bool false,.bool false,.bool g1,.int .i64 av,.int .i64 0,.int .i64 0] 51)).heap[y9.heap.size]?=some (.cells #[.int .i64 1,.bool true,.bool true,.bool false,.bool false,.bool g1,.int .i64 av,.int .i64 0,.int .i64 0] 51 (0,0)):=heap_alloc_last _ _
    have ZB:Below y9.heap.size y9 (y9.alloc (Obj.cells #[.int .i64 1,.bool true,.bool true,.bool false,.bool false,.bool g1,.int .i64 av,.int .i64 0,.int .i64 0] 51)):=b_alloc (Below.refl _ _)
    replace S3:=Lib.hid (lc_keep S3.out ZB)
    replace dD:=row_keep ZB dD
    replace kV:=row_keep ZB kV
    replace kS:=row_keep ZB kS
    clear ZB
    have crq:=cr_keep S3.out.b cr.out
    have x11:(y9.alloc (Obj.cells #[.int .i64 1,.bool true,.bool true,.bool false,.bool false,.bool g1,.int .i64 av,.int .i64 0,.int .i64 0] 51)).cell? ⟨w.heap.size,11,none⟩=some (.int .i64 (x 11)):=(cell_of_row _ _ 11 _ _ _ crq).trans rfl
    have x12:(y9.alloc (Obj.cells #[.int .i64 1,.bool true,.bool true,.bool false,.bool false,.bool g1,.int .i64 av,.int .i64 0,.int .i64 0] 51)).cell? ⟨w.heap.size,12,none⟩=some (.int .i64 (x 12)):=(cell_of_row _ _ 12 _ _ _ crq).trans rfl
    have x13:(y9.alloc (Obj.cells #[.int .i64 1,.bool true,.bool true,.bool false,.bool false,.bool g1,.int .i64 av,.int .i64 0,.int .i64 0] 51)).cell? ⟨w.heap.size,13,none⟩=some (.int .i64 (x 13)):=(cell_of_row _ _ 13 _ _ _ crq).trans rfl
    have x14:(y9.alloc (Obj.cells #[.int .i64 1,.bool true,.bool true,.bool false,.bool false,.bool g1,.int .i64 av,.int .i64 0,.int .i64 0] 51)).cell? ⟨w.heap.size,14,none⟩=some (.int .i64 (x 14)):=(cell_of_row _ _ 14 _ _ _ crq).trans rfl
    have x15:(y9.alloc (Obj.cells #[.int .i64 1,.bool true,.bool true,.bool false,.bool false,.bool g1,.int .i64 av,.int .i64 0,.int .i64 0] 51)).cell? ⟨w.heap.size,15,none⟩=some (.int .i64 (x 15)):=(cell_of_row _ _ 15 _ _ _ crq).trans rfl
    have x16:(y9.alloc (Obj.cells #[.int .i64 1,.bool true,.bool true,.bool false,.bool false,.bool g1,.int .i64 av,.int .i64 0,.int .i64 0] 51)).cell? ⟨w.heap.size,16,none⟩=some (.int .i64 (x 16)):=(cell_of_row _ _ 16 _ _ _ crq).trans rfl
    clear crq
    obtain ⟨u0,u1,u2,u3,u4,u5⟩:=row6 kS
    go_wp2_with fail
    generalize (y9.alloc (Obj.cells #[.int .i64 1,.bool true,.bool true,.bool false,.bool false,.bool g1,.int .i64 av,.int .i64 0,.int .i64 0] 51))=ya at *
    generalize y9.heap.size=W9 at *
    refine (ct _).mono ?_
    clear ct x11 x12 x13 x14 x15 x16 u0 u1 u2 u3 u4 u5
    rintro e_ yb ⟨rfl,hb⟩
    replace S3:=Lib.hid (lc_keep S3.out hb)
    replace dD:=row_keep hb dD
    replace kV:=row_keep hb kV
    replace kS:=row_keep hb kS
    replace dW:=row_keep hb dW
    clear hb
    have kP:(yb.alloc (Obj.cells #[.int .i64 (U 0),.int .i64 (U 1),.int .i64 (U 2),.int .i64 (U 3),.int .i64 (U 4),.int .i64 (U 5)] 40)).heap[yb.heap.size]?=some (.cells #[.int .i64 (U 0),.int .i64 (U 1),.int .i64 (U 2),.int .i64 (U 3),.int .i64 (U 4),.int .i64 (U 5)] 40 (0,0)):=heap_alloc_last _ _
    have ZB:Below yb.heap.size yb (yb.alloc (Obj.cells #[.int .i64 (U 0),.int .i64 (U 1),.int .i64 (U 2),.int .i64 (U 3),.int .i64 (U 4),.int .i64 (U 5)] 40)):=b_alloc (Below.refl _ _)
    replace S3:=Lib.hid (lc_keep S3.out ZB)
    replace dD:=row_keep ZB dD
    replace kV:=row_keep ZB kV
    replace kS:=row_keep ZB kS
    replace dW:=row_keep ZB dW
    clear ZB
    obtain ⟨d0,d1,d2,d3,d4,d5,d6,d7,d8⟩:=row9 dD
    obtain ⟨w0,w1,w2,w3,w4,w5,w6,w7,w8⟩:=row9 dW
    obtain ⟨v0,v1,v2⟩:=zrow3 kV
    obtain ⟨u0,u1,u2,u3,u4,u5⟩:=row6 kS
    obtain ⟨p0,p1,p2,p3,p4,p5⟩:=row6 kP
    have ve:=vec_eq_self z 0 0
    have se:=zsym_eq_self (U 0) (U 1) (U 2) (U 3) (U 4) (U 5)
    clear dD dW kV kS kP
    go_wp2
    refine ⟨⟨i+1,h3,hlt.out,by go_num,by rw [eI.out]; exact S3⟩,?_⟩
    simp only [intOf]
    have:=hlt.out
    omega
  ·have hlk:¬ (i:Int)<N:=by omega
   have T9:=S.out.t
   have E9:=S.out.b
   clear S
   go_wp2_with fail
   refine (fixed_cha _ T9).mono ?_
   rintro e_ ye ⟨rfl,hb9⟩
   go_wp2
   go_ret
   exact ⟨rfl,b_trans E0.out (b_trans E9 hb9)⟩
end Go.Proofs.YtmcchknilnejgaaGreatDoor

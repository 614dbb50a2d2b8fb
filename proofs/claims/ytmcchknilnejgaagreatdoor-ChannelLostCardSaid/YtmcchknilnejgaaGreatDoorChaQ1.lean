import Derived.BigQuiet
import Derived.DeepKeys
import Derived.Lib.SmallJoins
import Derived.Deep.WholeRow
import Derived.StillTactics
import Derived.Laws.Pointers
import Derived.Deep.RegionHeld3
import Derived.Deep.QuietTactic
import Derived.RowKit3
import Derived.Lib.Hide
import Derived.Lib.QuietBelow
import Derived.Laws.Bits64b
import Derived.Test.YtmcchknilnejgaaGreatDoorProg
import Derived.Shelf.Spec.BitsCarry
import Derived.Shelf.Bits.Mul64
import Derived.WalkKit
import Derived.WalkSpells
import Derived.Orders
import Derived.RegionTactic
import Derived.Below
import Derived.ScopeJumps
import Derived.WalkMore
import Derived.Laws.AppendOwn
import Derived.OwnWalk
import Derived.Deep.DeepCutAuto
import Derived.Test.YtmcchknilnejgaaGreatDoorChaN1
import Derived.Test.YtmcchknilnejgaaGreatDoorKbg
import Derived.Test.YtmcchknilnejgaaGreatDoorKbj
import Derived.Test.YtmcchknilnejgaaGreatDoorKag
import Derived.Test.YtmcchknilnejgaaGreatDoorKab
import Derived.Test.YtmcchknilnejgaaGreatDoorKaa
import Derived.Test.YtmcchknilnejgaaGreatDoorKae
import Derived.Test.YtmcchknilnejgaaGreatDoorKad
import Derived.Test.YtmcchknilnejgaaGreatDoorKac
import Derived.Test.YtmcchknilnejgaaGreatDoorKbd
import Derived.Test.YtmcchknilnejgaaGreatDoorKan
import Derived.Test.YtmcchknilnejgaaGreatDoorKaq
import Derived.Test.YtmcchknilnejgaaGreatDoorKax
import Derived.Test.YtmcchknilnejgaaGreatDoorKak
import Derived.Test.YtmcchknilnejgaaGreatDoorKam
import Derived.Test.YtmcchknilnejgaaGreatDoorKbf
import Derived.Test.YtmcchknilnejgaaGreatDoorKbe
import Derived.Test.YtmcchknilnejgaaGreatDoorKaj
import Derived.Test.YtmcchknilnejgaaGreatDoorKap
set_option maxHeartbeats 16000000
set_option maxRecDepth 20000
namespace Go.Proofs.YtmcchknilnejgaaGreatDoor
open Go.RowKit Go.Shelf Go.Joins
structure Ls2 (x:Nat→Int) (C:Cn) (a:Int) (R:Cn × Td):Prop where
 q:aq x C.r a=true→R.2.m=3∧R.2.vd=false∧R.2.ac=false
 y:R.2.ac=true→R.2.rf=false∧R.2.m=1∧R.1.s=0
 n:R.2.ac=false→R.2.vd=true→vld C.m=true∧R.1.s=C.s+1
theorem msd_s {s co ou:Int} (h:vld (msd s co ou).1=true):(msd s co ou).2=s+1:=by
 unfold msd at *
 split
 ·rename_i h2
  rw [if_pos h2] at h
  exact absurd h (by decide)
 ·split <;> rfl
theorem ls2_stp {x:Nat→Int} {C:Cn} (hm:0≤C.m∧C.m≤3) (a:Int) (hh:Bool) (p:Int) (s:Bool):Ls2 x C a (stp x C a hh p s):=by
 unfold stp
 generalize ah x a=ho
 obtain ⟨lo,hlo⟩:∃ q,aq x C.r a=q:=⟨_,rfl⟩
 rw [hlo]
 generalize br hh p=b
 obtain ⟨F,hF⟩:∃ F,fed x C a=F:=⟨_,rfl⟩
 have fm:F.m=C.m:=by rw [← hF]; rfl
 have fs:F.s=C.s:=by rw [← hF]; rfl
 rw [hF]
 generalize ap x C.l a=l1
 clear hF
 rw [← fm] at hm
 unfold fin mid
 have NO:∀ (D:Cn) (k g hl2:Bool),D.m=F.m→D.s=F.s→(sks F.m=true∨vld F.m=true)→lo=false→Ls2 x C a (trn x D 2,tel (trn x D 2) (decide ((2:Int)=0∨(2:Int)=1)) (k && decide ((2:Int)=2)) hl2 g):=fun D k g hl2 e0 e1 e2 e3=>by
  refine ⟨fun q=>(by rw [hlo,e3] at q; cases q),fun q=>absurd (show decide ((2:Int)=0∨(2:Int)=1)=true from q) (by decide),fun _ q=>?_⟩
  replace q:vld (nxt (D.m,D.s) 2 (x 28) (x 29)).1=true:=q
  show vld C.m=true∧(nxt (D.m,D.s) 2 (x 28) (x 29)).2=C.s+1
  rw [e0,e1] at q ⊢
  rcases e2 with e2 | e2
  ·rw [nxt_seek e2 rfl,vld_no e2] at q
   cases q
  ·rw [nxt_miss e2] at q ⊢
   exact ⟨by rw [← fm]; exact e2,by rw [msd_s q,fs]⟩
 cases lo
 ·rw [if_neg (by decide)]
  by_cases sk:sks F.m=true
  ·rw [if_pos sk]
   cases b
   ·rw [if_neg (by decide)]
    exact NO F false false ho rfl rfl (Or.inl sk) rfl
   ·rw [if_pos rfl]
    unfold gat
    by_cases n:F.n+1<16
    ·rw [if_pos n]
     exact NO { F with n:=F.n+1,z:=more F.z F.n p } false false ho rfl rfl (Or.inl sk) rfl
    ·rw [if_neg n]
     have e:nxt ((ent x F p).m,(ent x F p).s) 0 (x 28) (x 29)=(1,0):=nxt_in sk
     refine ⟨fun q=>(by rw [hlo] at q; cases q),fun _=>⟨rfl,?_,?_⟩,fun q=>absurd (show decide ((0:Int)=0∨(0:Int)=1)=false from q) (by decide)⟩
     ·show (nxt ((ent x F p).m,(ent x F p).s) 0 (x 28) (x 29)).1=1
      rw [e]
     ·show (nxt ((ent x F p).m,(ent x F p).s) 0 (x 28) (x 29)).2=0
      rw [e]
  ·rw [if_neg sk]
   have vl:=vld_of hm sk
   cases b
   ·rw [if_neg (by decide)]
    exact NO (mov x F l1 ho) false false ho rfl rfl (Or.inr vl) rfl
   ·rw [if_pos rfl]
    unfold tke
    by_cases tk:tak x (mov x F l1 ho) p s
    ·rw [if_pos tk]
     have e:nxt ((tkn x (mov x F l1 ho) p s).m,(tkn x (mov x F l1 ho) p s).s) 1 (x 28) (x 29)=(1,0):=nxt_take vl
     refine ⟨fun q=>(by rw [hlo] at q; cases q),fun _=>⟨rfl,?_,?_⟩,fun q=>absurd (show decide ((1:Int)=0∨(1:Int)=1)=false from q) (by decide)⟩
     ·show (nxt ((tkn x (mov x F l1 ho) p s).m,(tkn x (mov x F l1 ho) p s).s) 1 (x 28) (x 29)).1=1
      rw [e]
     ·show (nxt ((tkn x (mov x F l1 ho) p s).m,(tkn x (mov x F l1 ho) p s).s) 1 (x 28) (x 29)).2=0
      rw [e]
    ·rw [if_neg tk]
     exact NO (mov x F l1 ho) true (tG x F p) ho rfl rfl (Or.inr vl) rfl
 ·rw [if_pos rfl]
  have e:nxt (F.m,F.s) 3 (x 28) (x 29)=(3,0):=nxt_lost hm
  have e1:(trn x F 3).m=3:=by
   show (nxt (F.m,F.s) 3 (x 28) (x 29)).1=3
   rw [e]
  refine ⟨fun _=>⟨e1,?_,rfl⟩,fun q=>absurd (show decide ((3:Int)=0∨(3:Int)=1)=true from q) (by decide),fun _ q=>?_⟩
  ·show vld (trn x F 3).m=false
   rw [e1]
   rfl
  ·replace q:vld (trn x F 3).m=true:=q
   rw [e1] at q
   exact absurd q (by decide)
noncomputable def las (x a p:Nat→Int) (h s:Nat→Bool):Nat→Int
 | 0=>-1
 | k+1=>if (otr x a p h s k).ac then (k:Int) else las x a p h s k
theorem las_bd (x a p:Nat→Int) (h s:Nat→Bool):∀ k:Nat,-1≤las x a p h s k∧las x a p h s k<k
 | 0=>⟨(show (-1:Int)≤-1 by decide),(show (-1:Int)<0 by decide)⟩
 | k+1=>by
  have i:=las_bd x a p h s k
  show -1≤(if (otr x a p h s k).ac then (k:Int) else las x a p h s k)∧(if (otr x a p h s k).ac then (k:Int) else las x a p h s k)<((k+1:Nat):Int)
  split <;> exact ⟨by omega,by omega⟩
theorem las_s (x a p:Nat→Int) (h s:Nat→Bool):∀ k:Nat,vld (itr x a p h s k).m=true→0≤las x a p h s k∧(itr x a p h s k).s=k - 1 - las x a p h s k
 | 0=>fun q=>absurd (show vld 0=true from q) (by decide)
 | k+1=>fun q=>by
  have L:=ls2_stp (x:=x) (itr_m x a p h s k) (a k) (h k) (p k) (s k)
  have i:=las_s x a p h s k
  have b:=las_bd x a p h s k
  show 0≤(if (otr x a p h s k).ac then (k:Int) else las x a p h s k)∧(stp x (itr x a p h s k) (a k) (h k) (p k) (s k)).1.s=((k+1:Nat):Int) - 1 - (if (otr x a p h s k).ac then (k:Int) else las x a p h s k)
  by_cases c:(otr x a p h s k).ac=true
  ·rw [if_pos c,(L.y c).2.2]
   exact ⟨by omega,by omega⟩
  ·rw [if_neg c]
   replace c:(otr x a p h s k).ac=false:=by simpa using c
   obtain ⟨c1,c2⟩:=L.n c q
   obtain ⟨i0,i1⟩:=i c1
   exact ⟨i0,by rw [c2,i1]; omega⟩
theorem in_clip {x:Nat→Int} (ck:cks x=0) (n:Int):the x n=0↔-x 26<n∧n<x 26:=by
 unfold the
 rw [if_pos ck]
 by_cases i:inb n (1 - x 26) (x 26 - 1)=true
 ·rw [if_pos i]
  have:=inb_iff.1 i
  exact ⟨fun _=>⟨by omega,by omega⟩,fun _=>rfl⟩
 ·rw [if_neg i]
  refine ⟨fun h=>absurd h (by decide),fun h=>absurd (inb_iff.2 ⟨by omega,by omega⟩) i⟩
theorem channelLost_any (x:Nat→Int) (hx:C64 x) (a p:Nat→Int) (h s:Nat→Bool) (sa:Option Addr) (len cap:Nat) (hm:cap≤9223372036854775807) (hl:len≤cap) (w:World) (hc:∀ k,k<len→∃ g off,sa=some ⟨g,off,none⟩∧TW w g (off+k*4) (a k) (h k) (p k) (s k)) (T:Tb3 w):Calls Tryz.prog 7 #[cv x,.slice sa len cap] w (RetV (.bool true) w):=by
 by_cases hl2:len≤1000
 rotate_left
 ·have h2:(1000:Int)<(len:Int):=by omega
  have E0:Below w.heap.size w (w.alloc (Obj.cells #[.int .i64 (x 0),.int .i64 (x 1),.int .i64 (x 2),.int .i64 (x 3),.int .i64 (x 4),.int .i64 (x 5),.int .i64 (x 6),.int .i64 (x 7),.int .i64 (x 8),.int .i64 (x 9),.int .i64 (x 10),.int .i64 (x 11),.int .i64 (x 12),.int .i64 (x 13),.int .i64 (x 14),.int .i64 (x 15),.int .i64 (x 16),.int .i64 (x 17),.int .i64 (x 18),.int .i64 (x 19),.int .i64 (x 20),.int .i64 (x 21),.int .i64 (x 22),.int .i64 (x 23),.int .i64 (x 24),.int .i64 (x 25),.int .i64 (x 26),.int .i64 (x 27),.int .i64 (x 28),.int .i64 (x 29),.int .i64 (x 30)] 25)):=b_alloc (Below.refl _ _)
  replace T:=t3_keep E0 T
  go_enter Tryz.func7,Tryz.ntmps7
  go_wp2_with fail
  generalize (w.alloc (Obj.cells #[.int .i64 (x 0),.int .i64 (x 1),.int .i64 (x 2),.int .i64 (x 3),.int .i64 (x 4),.int .i64 (x 5),.int .i64 (x 6),.int .i64 (x 7),.int .i64 (x 8),.int .i64 (x 9),.int .i64 (x 10),.int .i64 (x 11),.int .i64 (x 12),.int .i64 (x 13),.int .i64 (x 14),.int .i64 (x 15),.int .i64 (x 16),.int .i64 (x 17),.int .i64 (x 18),.int .i64 (x 19),.int .i64 (x 20),.int .i64 (x 21),.int .i64 (x 22),.int .i64 (x 23),.int .i64 (x 24),.int .i64 (x 25),.int .i64 (x 26),.int .i64 (x 27),.int .i64 (x 28),.int .i64 (x 29),.int .i64 (x 30)] 25))=z0 at *
  refine (fixed_cha _ T).mono ?_
  rintro e_ y9 ⟨rfl,hb9⟩
  go_wp2
  go_ret
  exact ⟨rfl,b_trans E0 hb9⟩
 have h2:¬ (1000:Int)<(len:Int):=by omega
 have cr:CR (w.alloc (Obj.cells #[.int .i64 (x 0),.int .i64 (x 1),.int .i64 (x 2),.int .i64 (x 3),.int .i64 (x 4),.int .i64 (x 5),.int .i64 (x 6),.int .i64 (x 7),.int .i64 (x 8),.int .i64 (x 9),.int .i64 (x 10),.int .i64 (x 11),.int .i64 (x 12),.int .i64 (x 13),.int .i64 (x 14),.int .i64 (x 15),.int .i64 (x 16),.int .i64 (x 17),.int .i64 (x 18),.int .i64 (x 19),.int .i64 (x 20),.int .i64 (x 21),.int .i64 (x 22),.int .i64 (x 23),.int .i64 (x 24),.int .i64 (x 25),.int .i64 (x 26),.int .i64 (x 27),.int .i64 (x 28),.int .i64 (x 29),.int .i64 (x 30)] 25)) w.heap.size x:=cr_new
 have E0:Below w.heap.size w (w.alloc (Obj.cells #[.int .i64 (x 0),.int .i64 (x 1),.int .i64 (x 2),.int .i64 (x 3),.int .i64 (x 4),.int .i64 (x 5),.int .i64 (x 6),.int .i64 (x 7),.int .i64 (x 8),.int .i64 (x 9),.int .i64 (x 10),.int .i64 (x 11),.int .i64 (x 12),.int .i64 (x 13),.int .i64 (x 14),.int .i64 (x 15),.int .i64 (x 16),.int .i64 (x 17),.int .i64 (x 18),.int .i64 (x 19),.int .i64 (x 20),.int .i64 (x 21),.int .i64 (x 22),.int .i64 (x 23),.int .i64 (x 24),.int .i64 (x 25),.int .i64 (x 26),.int .i64 (x 27),.int .i64 (x 28),.int .i64 (x 29),.int .i64 (x 30)] 25)):=b_alloc (Below.refl _ _)
 replace T:=t3_keep E0 T
 go_enter Tryz.func7,Tryz.ntmps7
 go_wp2_with (with_reducible refine stop_at (some 15) rfl ?_)
 generalize (w.alloc (Obj.cells #[.int .i64 (x 0),.int .i64 (x 1),.int .i64 (x 2),.int .i64 (x 3),.int .i64 (x 4),.int .i64 (x 5),.int .i64 (x 6),.int .i64 (x 7),.int .i64 (x 8),.int .i64 (x 9),.int .i64 (x 10),.int .i64 (x 11),.int .i64 (x 12),.int .i64 (x 13),.int .i64 (x 14),.int .i64 (x 15),.int .i64 (x 16),.int .i64 (x 17),.int .i64 (x 18),.int .i64 (x 19),.int .i64 (x 20),.int .i64 (x 21),.int .i64 (x 22),.int .i64 (x 23),.int .i64 (x 24),.int .i64 (x 25),.int .i64 (x 26),.int .i64 (x 27),.int .i64 (x 28),.int .i64 (x 29),.int .i64 (x 30)] 25))=z0 at *
 refine unstop ?_
 refine wpList_load_part rfl 25 (.tmp 2) rfl w.heap.size 0 rfl 25 _ _ (0,0) _ cr whole_31 Tryz.underlying25 rfl (by kernel_rfl) ?_
 go_wp2_with fail
 have cc:=check_any x hx
 obtain ⟨ce,hce⟩:∃ q,cks x=q:=⟨_,rfl⟩
 rw [hce] at cc
 refine (cc _).mono ?_
 rintro e_ y1 ⟨rfl,hb1⟩
 clear cc
 replace T:=t3_keep hb1 T
 replace cr:=cr_keep hb1 cr
 replace E0:=b_trans E0 hb1
 clear hb1
 by_cases ck:ce=0
 rotate_left
 ·have c1:(ce != 0)=true:=by simpa using ck
  clear hce ck
  go_wp2_with fail
  refine (fixed_cha _ T).mono ?_
  rintro e_ y9 ⟨rfl,hb9⟩
  go_wp2
  go_ret
  exact ⟨rfl,b_trans E0 hb9⟩
 subst ck
 have ck:=hce
 clear hce
 replace ck:=Lib.hid ck
 go_wp2_with (with_reducible refine stop_at (some 21) rfl ?_)
 refine unstop ?_
 refine wpList_load_row rfl 25 (.tmp 2) rfl w.heap.size rfl 25 _ (0,0) _ cr Tryz.underlying25 rfl (by kernel_rfl) ?_
 go_wp2_with fail
 refine (chrun_ok x hx ck.out a p h s sa len cap hm hl (by omega) _ (fun j hj=>by
  obtain ⟨g,off,e,t⟩:=hc j hj
  exact ⟨g,off,e,tw_keep E0 t⟩) T).mono ?_
 rintro e_ y2 ⟨gg,rfl,R1,hb2⟩
 replace T:=Lib.hid (t3_keep hb2 T)
 replace cr:=Lib.hid (cr_keep hb2 cr)
 replace E0:=Lib.hid (b_trans E0 hb2)
 replace R1:=Lib.hid R1
 clear hb2 h2
 go_wp2
 go_loopw [7,8,37] (fun rv lv iv wr=>∃ k:Nat,k≤len∧iv=.int .i64 k∧rv=.int .i64 (itr x a p h s k).r∧lv=.int .i64 (las x a p h s k)∧Hid (Below y2.heap.size y2 wr)) (fun _ _ iv _=>len - (intOf iv).toNat)
 case atStart=>exact ⟨0,Nat.zero_le _,rfl,rfl,rfl,Lib.hid (Below.refl _ _)⟩
 case round =>
  obtain ⟨k,hk,rfl,rfl,rfl,HE⟩:=hrel
  by_cases hlt:k<len
  ·obtain ⟨gs,off,rfl,tw⟩:=hc k hlt
   have gl:gs<w.heap.size:=World.block_lt_of_cell? w _ tw.1
   replace tw:=tw_keep (b_trans E0.out HE.out) tw
   have hlk:(k:Int)<len:=by omega
   have hk0:(0:Int)≤k:=by omega
   have hk1:(0:Int)≤(k:Int)+1:=by omega
   have hk2:(k:Int)+1≤cap:=by omega
   have ws:IntKind.i64.wrap ((k:Int)+1)=(k:Int)+1:=by rw [IntKind.wrap_i64]; omega
   have tn:((k:Int)+1).toNat=k+1:=by omega
   have cn:=cn_of ck.out
   have kp:=kept_of ck.out
   have ro:=itr_r x a p h s k
   have r0:=(ok_itr hx ck.out a p h s k).r
   have L2:=ls2_stp (x:=x) (itr_m x a p h s k) (a k) (h k) (p k) (s k)
   have er:(itr x a p h s (k+1)).r=ar x (itr x a p h s k).r (a k):=stp_r x _ _ _ _ _
   have lb:=las_bd x a p h s k
   have ls1:=las_s x a p h s (k+1)
   have vt1:=vt_itr cn a p h s (k+1)
   have ic:=in_clip ck.out (a k)
   have ev:vld (itr x a p h s (k+1)).m=(otr x a p h s k).vd:=rfl
   have el:las x a p h s (k+1)=(if (otr x a p h s k).ac then (k:Int) else las x a p h s k):=rfl
   have so:vld (itr x a p h s (k+1)).m=true→(itr x a p h s (k+1)).s≤x 29:=fun q=>(vt1 q).s
   clear vt1
   replace L2:Ls2 x (itr x a p h s k) (a k) ((itr x a p h s (k+1)),(otr x a p h s k)):=L2
   have Lq:=L2.q
   have Ly:=L2.y
   clear L2
   dsimp only at Lq Ly
   unfold aq ah at Lq
   have ho:=cn.ho
   have ou:=cn.co
   have cc:=kp.c1
   have c2:=kp.c2
   obtain ⟨C1,hC1⟩:∃ q,(itr x a p h s (k+1))=q:=⟨_,rfl⟩
   rw [hC1] at er ls1 ev so
   have e9:(itr x a p h s (k+1)).r=C1.r:=by rw [hC1]
   obtain ⟨l1,hl1⟩:∃ q,las x a p h s (k+1)=q:=⟨_,rfl⟩
   rw [hl1] at ls1 el
   generalize las x a p h s k=l0 at *
   generalize (itr x a p h s k).r=r9 at *
   obtain ⟨d0,d1,d2,d3,d4,d5,d6,d7,d8⟩:=tr9_cells (tr9_keep HE.out R1.out) hlt
   obtain ⟨O9,hO9⟩:∃ q,(otr x a p h s k)=q:=⟨_,rfl⟩
   rw [hO9] at d0 d1 d2 d3 d4 d5 d6 d7 d8 Ly Lq ev el
   clear hO9
   obtain ⟨m9,vd,ac,rf,ho9,gr,al,sp,bi⟩:=O9
   dsimp only at d0 d1 d2 d3 d4 d5 d6 d7 d8 Ly Lq ev el
   clear d4 d5 d6 d7 d8
   have cr1:=cr_keep HE.out cr.out
   have x26:wr.cell? ⟨w.heap.size,26,none⟩=some (.int .i64 (x 26)):=(cell_of_row _ _ 26 _ _ _ cr1).trans rfl
   have x27:wr.cell? ⟨w.heap.size,27,none⟩=some (.int .i64 (x 27)):=(cell_of_row _ _ 27 _ _ _ cr1).trans rfl
   have x29:wr.cell? ⟨w.heap.size,29,none⟩=some (.int .i64 (x 29)):=(cell_of_row _ _ 29 _ _ _ cr1).trans rfl
   clear cr1
   have wr1:IntKind.i64.wrap (r9+1)=r9+1:=by rw [IntKind.wrap_i64]; omega
   have wn:IntKind.i64.wrap (-x 26)=-x 26:=by rw [IntKind.wrap_i64]; omega
   have lW:w.heap.size<wr.heap.size:=World.block_lt_of_cell? wr _ x26
   have lG:gg<wr.heap.size:=World.block_lt_of_cell? wr _ d0
   have ZB:Below wr.heap.size wr (wr.alloc (Obj.cells #[.int .i64 (a k),.bool (h k),.int .i64 (p k),.bool (s k)] 49)):=b_alloc (Below.refl _ _)
   have HE2:=Lib.hid (b_trans HE.out ZB)
   have kT:(wr.alloc (Obj.cells #[.int .i64 (a k),.bool (h k),.int .i64 (p k),.bool (s k)] 49)).heap[wr.heap.size]?=some (.cells #[.int .i64 (a k),.bool (h k),.int .i64 (p k),.bool (s k)] 49 (0,0)):=heap_alloc_last _ _
   have g0:=(cell_of_row _ _ 0 _ _ _ kT).trans rfl
   have D0:=cell_keep ZB d0
   have D1:=cell_keep ZB d1
   have D2:=cell_keep ZB d2
   have D3:=cell_keep ZB d3
   have X26:=cell_keep ZB x26
   have X27:=cell_keep ZB x27
   have X29:=cell_keep ZB x29
   clear ZB kT x26 x27 x29 kp HE
   obtain ⟨t0,t1,t2,t3⟩:=tw
   have hltH:=Lib.hid hlt
   generalize hZ:wr.alloc (Obj.cells #[.int .i64 (a k),.bool (h k),.int .i64 (p k),.bool (s k)] 49)=y3 at D0 D1 D2 D3 X26 X27 X29 g0 HE2
   have HZ:=Lib.hid hZ
   clear hZ
   have E9:=Lib.hid e9
   have EC:=Lib.hid er
   have HL:=Lib.hid hl1
   clear e9 er hl1
   go_upto_region 11 with fail
   have hZ:=HZ.out
   subst hZ
   clear HZ
   generalize wr.alloc (Obj.cells #[.int .i64 (a k),.bool (h k),.int .i64 (p k),.bool (s k)] 49)=y3 at *
   clear t0 t1 t2 t3
   obtain ⟨b0,hb0⟩:∃ q,decide (the x (a k)=0)=q:=⟨_,rfl⟩
   go_cut [56] (fun s_ wx=>s_=.bool b0∧wx=y3)
   case first =>
    by_cases i1:-x 26<a k
    ·by_cases i2:a k<x 26
     ·obtain rfl:true=b0:=by rw [← hb0]; exact (decide_eq_true (ic.2 ⟨i1,i2⟩)).symm
      clear Lq Ly ls1 so ev el ic hb0
      go_wp2_with fail
      go_meet
      exact ⟨rfl,rfl⟩
     ·obtain rfl:false=b0:=by rw [← hb0]; exact (decide_eq_false (fun q=>i2 (ic.1 q).2)).symm
      clear Lq Ly ls1 so ev el ic hb0
      go_wp2_with fail
      go_meet
      exact ⟨rfl,rfl⟩
    ·obtain rfl:false=b0:=by rw [← hb0]; exact (decide_eq_false (fun q=>i1 (ic.1 q).1)).symm
     clear Lq Ly ls1 so ev el ic hb0
     go_wp2_with fail
     go_meet
     exact ⟨rfl,rfl⟩
   case rest =>
    obtain ⟨rfl,rfl⟩:=hcut
    by_cases c:the x (a k)=0
    ·obtain rfl:true=b0:=by rw [← hb0]; exact (decide_eq_true c).symm
     clear hb0
     have ER:Hid (C1.r=0):=Lib.hid (EC.out.trans (if_pos c))
     have q1:¬ x 27<0:=by omega
     cases ac
     ·have EL:Hid (las x a p h s (k+1)=l0):=Lib.hid (HL.out.trans (el.trans (if_neg (by decide))))
      replace el:l1=l0:=el.trans (if_neg (by decide))
      subst el
      cases vd
      ·clear Ly ls1 so ev Lq ic c HL lb
       go_upto_region 15 with fail
       dsimp only [List.append]
       go_wp2_with fail
       refine ⟨⟨k+1,by have:=hltH.out; omega,by go_num,by rw [E9.out,ER.out],by rw [EL.out],HE2⟩,?_⟩
       simp only [intOf]
       have:=hltH.out
       omega
      ·obtain ⟨s0,s1⟩:=ls1 ev
       have s2:=so ev
       have dl:¬ l1<0:=by omega
       obtain ⟨dd,hdd⟩:∃ q,(k:Int) - l1=q:=⟨_,rfl⟩
       have ow:IntKind.i64.wrap ((k:Int) - l1)=dd:=by rw [IntKind.wrap_i64]; omega
       have do_:¬ x 29<dd:=by omega
       clear Ly ls1 so ev Lq ic c HL lb hdd s0 s1 s2
       go_upto_region 15 with fail
       dsimp only [List.append]
       go_wp2_with fail
       refine ⟨⟨k+1,by have:=hltH.out; omega,by go_num,by rw [E9.out,ER.out],by rw [EL.out],HE2⟩,?_⟩
       simp only [intOf]
       have:=hltH.out
       omega
     ·obtain ⟨rfl,rfl,_⟩:=Ly rfl
      have EL:Hid (las x a p h s (k+1)=(k:Int)):=Lib.hid (HL.out.trans (el.trans (if_pos rfl)))
      have dl:¬ (k:Int)<0:=by omega
      have ow:IntKind.i64.wrap ((k:Int) - (k:Int))=0:=by rw [IntKind.wrap_i64]; omega
      have do_:¬ x 29<0:=by omega
      clear Ly ls1 so ev Lq ic c HL lb el
      cases vd
      ·go_upto_region 15 with fail
       dsimp only [List.append]
       go_wp2_with fail
       refine ⟨⟨k+1,by have:=hltH.out; omega,by go_num,by rw [E9.out,ER.out],by rw [EL.out],HE2⟩,?_⟩
       simp only [intOf]
       have:=hltH.out
       omega
      ·go_upto_region 15 with fail
       dsimp only [List.append]
       go_wp2_with fail
       refine ⟨⟨k+1,by have:=hltH.out; omega,by go_num,by rw [E9.out,ER.out],by rw [EL.out],HE2⟩,?_⟩
       simp only [intOf]
       have:=hltH.out
       omega
    obtain rfl:false=b0:=by rw [← hb0]; exact (decide_eq_false c).symm
    clear hb0
    have ER:Hid (C1.r=r9+1):=Lib.hid (EC.out.trans (if_neg c))
    by_cases q:x 27<r9+1
    ·obtain ⟨rfl,rfl,rfl⟩:=Lq (by simp [c,q])
     have EL:Hid (las x a p h s (k+1)=l0):=Lib.hid (HL.out.trans (el.trans (if_neg (by decide))))
     have q1:x 27<r9+1:=q
     clear Ly ls1 so ev Lq ic c HL lb q el
     go_upto_region 15 with fail
     dsimp only [List.append]
     go_wp2_with fail
     refine ⟨⟨k+1,by have:=hltH.out; omega,by go_num,by rw [E9.out,ER.out],by rw [EL.out],HE2⟩,?_⟩
     simp only [intOf]
     have:=hltH.out
     omega
    have q1:¬ x 27<r9+1:=q
    clear q
    cases ac
    ·have EL:Hid (las x a p h s (k+1)=l0):=Lib.hid (HL.out.trans (el.trans (if_neg (by decide))))
     replace el:l1=l0:=el.trans (if_neg (by decide))
     subst el
     cases vd
     ·clear Ly ls1 so ev Lq ic c HL lb
      go_upto_region 15 with fail
      dsimp only [List.append]
      go_wp2_with fail
      refine ⟨⟨k+1,by have:=hltH.out; omega,by go_num,by rw [E9.out,ER.out],by rw [EL.out],HE2⟩,?_⟩
      simp only [intOf]
      have:=hltH.out
      omega
     ·obtain ⟨s0,s1⟩:=ls1 ev
      have s2:=so ev
      have dl:¬ l1<0:=by omega
      obtain ⟨dd,hdd⟩:∃ q,(k:Int) - l1=q:=⟨_,rfl⟩
      have ow:IntKind.i64.wrap ((k:Int) - l1)=dd:=by rw [IntKind.wrap_i64]; omega
      have do_:¬ x 29<dd:=by omega
      clear Ly ls1 so ev Lq ic c HL lb hdd s0 s1 s2
      go_upto_region 15 with fail
      dsimp only [List.append]
      go_wp2_with fail
      refine ⟨⟨k+1,by have:=hltH.out; omega,by go_num,by rw [E9.out,ER.out],by rw [EL.out],HE2⟩,?_⟩
      simp only [intOf]
      have:=hltH.out
      omega
    ·obtain ⟨rfl,rfl,_⟩:=Ly rfl
     have EL:Hid (las x a p h s (k+1)=(k:Int)):=Lib.hid (HL.out.trans (el.trans (if_pos rfl)))
     have dl:¬ (k:Int)<0:=by omega
     have ow:IntKind.i64.wrap ((k:Int) - (k:Int))=0:=by rw [IntKind.wrap_i64]; omega
     have do_:¬ x 29<0:=by omega
     clear Ly ls1 so ev Lq ic c HL lb el
     cases vd
     ·go_upto_region 15 with fail
      dsimp only [List.append]
      go_wp2_with fail
      refine ⟨⟨k+1,by have:=hltH.out; omega,by go_num,by rw [E9.out,ER.out],by rw [EL.out],HE2⟩,?_⟩
      simp only [intOf]
      have:=hltH.out
      omega
     ·go_upto_region 15 with fail
      dsimp only [List.append]
      go_wp2_with fail
      refine ⟨⟨k+1,by have:=hltH.out; omega,by go_num,by rw [E9.out,ER.out],by rw [EL.out],HE2⟩,?_⟩
      simp only [intOf]
      have:=hltH.out
      omega
  ·have hlk:¬ (k:Int)<len:=by omega
   obtain rfl:k=len:=by omega
   have T4:=t3_keep HE.out T.out
   go_wp2_with fail
   refine (fixed_cha _ T4).mono ?_
   rintro e_ y9 ⟨rfl,hb9⟩
   go_wp2
   go_ret
   exact ⟨rfl,b_trans (b_trans E0.out HE.out) hb9⟩
end Go.Proofs.YtmcchknilnejgaaGreatDoor

import Derived.BigQuiet
import Derived.Deep.DeepCutAuto
import Derived.Test.YtmcchknilnejgaaGreatDoorChaN1
import Derived.Test.YtmcchknilnejgaaGreatDoorChaQ1
import Derived.Test.YtmcchknilnejgaaGreatDoorKak
import Derived.Test.YtmcchknilnejgaaGreatDoorKaa
import Derived.Test.YtmcchknilnejgaaGreatDoorKbd
import Derived.Test.YtmcchknilnejgaaGreatDoorKaq
import Derived.Test.YtmcchknilnejgaaGreatDoorKam
import Derived.Test.YtmcchknilnejgaaGreatDoorKan
import Derived.Test.YtmcchknilnejgaaGreatDoorKax
import Derived.Test.YtmcchknilnejgaaGreatDoorKbg
import Derived.Test.YtmcchknilnejgaaGreatDoorKbj
import Derived.Test.YtmcchknilnejgaaGreatDoorKag
import Derived.Test.YtmcchknilnejgaaGreatDoorKaj
import Derived.Test.YtmcchknilnejgaaGreatDoorKad
import Derived.Test.YtmcchknilnejgaaGreatDoorKab
import Derived.Test.YtmcchknilnejgaaGreatDoorKbh
import Derived.Test.YtmcchknilnejgaaGreatDoorKbb
import Derived.Test.YtmcchknilnejgaaGreatDoorKat
import Derived.Test.YtmcchknilnejgaaGreatDoorKau
import Derived.Test.YtmcchknilnejgaaGreatDoorKae
import Derived.Test.YtmcchknilnejgaaGreatDoorKah
import Derived.Test.YtmcchknilnejgaaGreatDoorKbe
import Derived.Test.YtmcchknilnejgaaGreatDoorKbf
import Derived.Test.YtmcchknilnejgaaGreatDoorKap
set_option maxHeartbeats 16000000
set_option maxRecDepth 20000
namespace Go.Proofs.YtmcchknilnejgaaGreatDoor
open Go.RowKit Go.Shelf Go.Joins
def lq (x:Nat→Int):Nat→Int:=fun i=>if i=3 then x 0 else if i=4 then x 1 else if i=5 then x 2 else x i
theorem lq64 {x:Nat→Int} (hx:C64 x):C64 (lq x):=fun i hi=>by
 unfold lq
 split
 ·exact hx 0 (by decide)
 ·split
  ·exact hx 1 (by decide)
  ·split
   ·exact hx 2 (by decide)
   ·exact hx i hi
structure Sm (x:Nat→Int):Prop where
 a:x 3=x 0
 b:x 4=x 1
 c:x 5=x 2
theorem sm_lq (x:Nat→Int):Sm (lq x):=⟨rfl,rfl,rfl⟩
def re (C:Cn) (q:Int):Cn:={ C with r:=q }
def noh (t:Td):Td:={ t with hl:=false }
theorem spd_sm {x:Nat→Int} (m:Sm x) (u:Nat→Int) (h:Bool):spd x u h=spd x u false:=by
 have e:adn x h=adn x false:=by
  cases h
  ·rfl
  ·show tri (x 3) (x 4) (x 5)=tri (x 0) (x 1) (x 2)
   rw [m.a,m.b,m.c]
 unfold spd
 rw [e]
theorem gat_re (x:Nat→Int) (F:Cn) (q p:Int):gat x (re F q) p=(re (gat x F p).1 q,(gat x F p).2):=by
 unfold gat
 by_cases n:F.n+1<16
 ·rw [if_pos n]
  exact if_pos n
 ·rw [if_neg n]
  exact if_neg n
theorem tke_re (x:Nat→Int) (F:Cn) (q p:Int) (s:Bool):tke x (re F q) p s=(re (tke x F p s).1 q,(tke x F p s).2):=by
 unfold tke
 by_cases k:tak x F p s
 ·rw [if_pos k]
  exact if_pos k
 ·rw [if_neg k]
  exact if_neg k
theorem mid_sm {x:Nat→Int} (m:Sm x) (F:Cn) (q t:Int) (hl lo b:Bool) (p:Int) (s:Bool):mid x (re F q) t false lo b p s=(re (mid x F t hl lo b p s).1 q,(mid x F t hl lo b p s).2):=by
 have e:mov x F t hl=mov x F t false:=by
  unfold mov
  rw [spd_sm m]
 have e2:mov x (re F q) t false=re (mov x F t false) q:=rfl
 have rm:(re F q).m=F.m:=rfl
 unfold mid
 rw [e,e2,rm,gat_re,tke_re]
 cases lo
 ·cases k:sks F.m
  ·cases b <;> rfl
  ·cases b <;> rfl
 ·rfl
theorem stp_sm {x:Nat→Int} (m:Sm x) (C:Cn) (q a b:Int) (h:Bool) (p:Int) (s:Bool) (hq:aq x C.r a=false) (hb:the x b=0) (hl:ap x C.l a=thv x b) :
  stp x (re C q) b h p s=(re (stp x C a h p s).1 0,noh (stp x C a h p s).2):=by
 obtain ⟨e1,e2,e3,e4⟩:=a_ok hb C.l q
 have f:fed x (re C q) b=re (fed x C a) 0:=by
  show ({ C with l:=ap x C.l b,r:=ar x q b }:Cn) = { C with l:=ap x C.l a,r:=0 }
  rw [e1,e3,hl]
 have eb:stp x (re C q) b h p s=fin x (mid x (re (fed x C a) 0) (thv x b) false false (br h p) p s) false:=by
  show fin x (mid x (fed x (re C q) b) (ap x C.l b) (ah x b) (aq x q b) (br h p) p s) (ah x b)=_
  rw [f,e1,e2,e4]
 rw [eb,mid_sm m (fed x C a) 0 (thv x b) (ah x a) false]
 unfold stp
 rw [hq,hl]
 generalize mid x (fed x C a) (thv x b) (ah x a) false (br h p) p s=M
 rfl
theorem thq_rest {x:Nat→Int} (h:cks x=0):thv x (x 25)=0∧the x (x 25)=0:=by
 have k:=kept_of h
 obtain ⟨e1,e2⟩:=th_ok h (inb_iff.2 ⟨k.r1,k.r2⟩)
 exact ⟨by rw [e1,Int.sub_self,Int.zero_mul],e2⟩
def ltk (x a:Nat→Int):Nat→Int
 | 0=>x 25
 | k+1=>if the x (a k)=0 then a k else ltk x a k
theorem ltk_ok {x:Nat→Int} (ck:cks x=0) (a:Nat→Int):∀ k,the x (ltk x a k)=0
 | 0=>(thq_rest ck).2
 | k+1=>by
  show the x (if the x (a k)=0 then a k else ltk x a k)=0
  split
  ·assumption
  ·exact ltk_ok ck a k
theorem ltk_l {x:Nat→Int} (ck:cks x=0) (a p:Nat→Int) (h s:Nat→Bool):∀ k,(itr x a p h s k).l=thv x (ltk x a k)
 | 0=>(thq_rest ck).1.symm
 | k+1=>by
  show (stp x (itr x a p h s k) (a k) (h k) (p k) (s k)).1.l=thv x (if the x (a k)=0 then a k else ltk x a k)
  rw [stp_l]
  unfold ap
  by_cases e:the x (a k)=0
  ·rw [if_pos e,if_pos e]
  ·rw [if_neg e,if_neg e]
   exact ltk_l ck a p h s k
theorem itr_sm {x:Nat→Int} (ck:cks x=0) (m:Sm x) (a p:Nat→Int) (h s:Nat→Bool):∀ k,(∀ j,j<k→aq x (itr x a p h s j).r (a j)=false) →
  (∃ q,itr x (fun k=>ltk x a (k+1)) p h s k=re (itr x a p h s k) q)∧∀ j,j<k→otr x (fun k=>ltk x a (k+1)) p h s j=noh (otr x a p h s j)
 | 0=>fun _=>⟨⟨0,rfl⟩,fun j hj=>absurd hj (Nat.not_lt_zero j)⟩
 | k+1=>fun H=>by
  obtain ⟨⟨q,e⟩,o⟩:=itr_sm ck m a p h s k (fun j hj=>H j (by omega))
  have st:=stp_sm m (itr x a p h s k) q (a k) (ltk x a (k+1)) (h k) (p k) (s k) (H k (by omega)) (ltk_ok ck a (k+1)) (by rw [← stp_l x _ (a k) (h k) (p k) (s k)]; exact ltk_l ck a p h s (k+1))
  have e1:stp x (itr x (fun k=>ltk x a (k+1)) p h s k) (ltk x a (k+1)) (h k) (p k) (s k)=(re (stp x (itr x a p h s k) (a k) (h k) (p k) (s k)).1 0,noh (stp x (itr x a p h s k) (a k) (h k) (p k) (s k)).2):=by rw [e]; exact st
  refine ⟨⟨0,congrArg Prod.fst e1⟩,fun j hj=>?_⟩
  by_cases jk:j=k
  ·subst jk
   exact congrArg Prod.snd e1
  ·exact o j (by omega)
def TRg (w:World) (g j k:Nat) (O:Nat→Td):Prop:=∃ cur,w.heap[g]?=some (.cells cur 51 (0,0))∧∀ i,j≤i→i<k→∀ q,q<9→cur[i*9+q]?=(tdl (O i))[q]?
theorem trg_own {w:World} {g k:Nat} {O:Nat→Td} (o:w.ownsRow 0 51 9 (.slice (some ⟨g,0,none⟩) k k) k (trow O k)):TRg w g 0 k O:=by
 have t:=tr9_own o
 rcases o.2 with ⟨e,_⟩ | ⟨g',cap,cur,e,hB,hg,hc,hm,hs,ht⟩
 ·cases e
 ·cases e
  exact ⟨cur,hg,fun i _ hi q hq=>by rw [← cell_of_row _ _ _ _ _ _ hg]; exact t i hi q hq⟩
theorem trg_chs {S:Nat→Prop} {w w':World} {g j k:Nat} {O:Nat→Td} (h:Chs S w w') (n:¬ S g):TRg w g j k O→TRg w' g j k O
 | ⟨cur,e,c⟩=>⟨cur,chs_row h n e,c⟩
theorem trg_step {w:World} {g j k:Nat} {O:Nat→Td} (v:Value):TRg w g j k O→TRg (w.setCell ⟨g,j*9+4,none⟩ v) g (j+1) k O
 | ⟨cur,e,c⟩=>⟨_,heap_setCell_same _ g (j*9+4) _ _ _ e,fun i hj hi q hq=>by
  rw [Array.getElem?_setIfInBounds,if_neg (by omega)]
  exact c i (by omega) hi q hq⟩
theorem trg_cells {w:World} {g j k:Nat} {O:Nat→Td} (hj:j<k):TRg w g j k O→w.frozen? ⟨g,j*9+4,none⟩=false∧∀ q,q<9→w.cell? ⟨g,j*9+q,none⟩=(tdl (O j))[q]?
 | ⟨cur,e,c⟩=>⟨frozen_of_row _ _ _ _ _ e,fun q hq=>by rw [cell_of_row _ _ _ _ _ _ e]; exact c j (Nat.le_refl _) hj q hq⟩
theorem trg_cells2 {w:World} {g j k:Nat} {O:Nat→Td} (hj:j<k):TRg w g j k O→∀ q,q<9→(w.setCell ⟨g,j*9+4,none⟩ (.bool false)).cell? ⟨g,j*9+q,none⟩=(tdl (noh (O j)))[q]?
 | ⟨cur,e,c⟩=>fun q hq=>by
  rw [cell_of_row _ _ _ _ _ _ (heap_setCell_same _ g (j*9+4) _ _ _ e),Array.getElem?_setIfInBounds]
  have c4:=c j (Nat.le_refl _) hj 4 (by decide)
  have l4:j*9+4<cur.size:=by
   rcases Nat.lt_or_ge (j*9+4) cur.size with h | h
   ·exact h
   ·rw [Array.getElem?_eq_none h] at c4
    cases c4
  by_cases e4:q=4
  ·subst e4
   rw [if_pos rfl,if_pos l4]
   rfl
  ·rw [if_neg (by omega),c j (Nat.le_refl _) hj q hq]
   match q,hq,e4 with
   | 0,_,_ | 1,_,_ | 2,_,_ | 3,_,_ | 5,_,_ | 6,_,_ | 7,_,_ | 8,_,_=>rfl
theorem trg_at {w:World} {g j0 j k:Nat} {O:Nat→Td} (h0:j0≤j) (hj:j<k):TRg w g j0 k O→∀ q,q<9→w.cell? ⟨g,j*9+q,none⟩=(tdl (O j))[q]?
 | ⟨cur,e,c⟩=>fun q hq=>by rw [cell_of_row _ _ _ _ _ _ e]; exact c j h0 hj q hq
theorem nine {w:World} {g j:Nat} {X:Td} (C:∀ q,q<9→w.cell? ⟨g,j*9+q,none⟩=(tdl X)[q]?):w.cell? ⟨g,j*9,none⟩=some (.int .i64 X.m)∧w.cell? ⟨g,j*9+1,none⟩=some (.bool X.vd)∧w.cell? ⟨g,j*9+2,none⟩=some (.bool X.ac)∧w.cell? ⟨g,j*9+3,none⟩=some (.bool X.rf)∧w.cell? ⟨g,j*9+4,none⟩=some (.bool X.hl)∧w.cell? ⟨g,j*9+5,none⟩=some (.bool X.gr)∧w.cell? ⟨g,j*9+6,none⟩=some (.int .i64 X.al)∧w.cell? ⟨g,j*9+7,none⟩=some (.int .i64 X.sp)∧w.cell? ⟨g,j*9+8,none⟩=some (.int .i64 X.bi):=⟨C 0 (by decide),C 1 (by decide),C 2 (by decide),C 3 (by decide),C 4 (by decide),C 5 (by decide),C 6 (by decide),C 7 (by decide),C 8 (by decide)⟩
theorem channelHeld_any (x:Nat→Int) (hx:C64 x) (a p:Nat→Int) (h s:Nat→Bool) (sa:Option Addr) (len cap:Nat) (hm:cap≤9223372036854775807) (hl:len≤cap) (w:World) (hc:∀ k,k<len→∃ g off,sa=some ⟨g,off,none⟩∧TW w g (off+k*4) (a k) (h k) (p k) (s k)) (T:Tb3 w):Calls Tryz.prog 6 #[cv x,.slice sa len cap] w (RetV (.bool true) w):=by
 have cr:CR (w.alloc (Obj.cells #[.int .i64 (x 0),.int .i64 (x 1),.int .i64 (x 2),.int .i64 (x 3),.int .i64 (x 4),.int .i64 (x 5),.int .i64 (x 6),.int .i64 (x 7),.int .i64 (x 8),.int .i64 (x 9),.int .i64 (x 10),.int .i64 (x 11),.int .i64 (x 12),.int .i64 (x 13),.int .i64 (x 14),.int .i64 (x 15),.int .i64 (x 16),.int .i64 (x 17),.int .i64 (x 18),.int .i64 (x 19),.int .i64 (x 20),.int .i64 (x 21),.int .i64 (x 22),.int .i64 (x 23),.int .i64 (x 24),.int .i64 (x 25),.int .i64 (x 26),.int .i64 (x 27),.int .i64 (x 28),.int .i64 (x 29),.int .i64 (x 30)] 25)) w.heap.size x:=cr_new
 have v0:(w.alloc (Obj.cells #[.int .i64 (x 0),.int .i64 (x 1),.int .i64 (x 2),.int .i64 (x 3),.int .i64 (x 4),.int .i64 (x 5),.int .i64 (x 6),.int .i64 (x 7),.int .i64 (x 8),.int .i64 (x 9),.int .i64 (x 10),.int .i64 (x 11),.int .i64 (x 12),.int .i64 (x 13),.int .i64 (x 14),.int .i64 (x 15),.int .i64 (x 16),.int .i64 (x 17),.int .i64 (x 18),.int .i64 (x 19),.int .i64 (x 20),.int .i64 (x 21),.int .i64 (x 22),.int .i64 (x 23),.int .i64 (x 24),.int .i64 (x 25),.int .i64 (x 26),.int .i64 (x 27),.int .i64 (x 28),.int .i64 (x 29),.int .i64 (x 30)] 25)).cell? ⟨w.heap.size,0,none⟩=some (.int .i64 (x 0)):=(cell_of_row _ _ 0 _ _ _ cr).trans rfl
 have v1:(w.alloc (Obj.cells #[.int .i64 (x 0),.int .i64 (x 1),.int .i64 (x 2),.int .i64 (x 3),.int .i64 (x 4),.int .i64 (x 5),.int .i64 (x 6),.int .i64 (x 7),.int .i64 (x 8),.int .i64 (x 9),.int .i64 (x 10),.int .i64 (x 11),.int .i64 (x 12),.int .i64 (x 13),.int .i64 (x 14),.int .i64 (x 15),.int .i64 (x 16),.int .i64 (x 17),.int .i64 (x 18),.int .i64 (x 19),.int .i64 (x 20),.int .i64 (x 21),.int .i64 (x 22),.int .i64 (x 23),.int .i64 (x 24),.int .i64 (x 25),.int .i64 (x 26),.int .i64 (x 27),.int .i64 (x 28),.int .i64 (x 29),.int .i64 (x 30)] 25)).cell? ⟨w.heap.size,1,none⟩=some (.int .i64 (x 1)):=(cell_of_row _ _ 1 _ _ _ cr).trans rfl
 have v2:(w.alloc (Obj.cells #[.int .i64 (x 0),.int .i64 (x 1),.int .i64 (x 2),.int .i64 (x 3),.int .i64 (x 4),.int .i64 (x 5),.int .i64 (x 6),.int .i64 (x 7),.int .i64 (x 8),.int .i64 (x 9),.int .i64 (x 10),.int .i64 (x 11),.int .i64 (x 12),.int .i64 (x 13),.int .i64 (x 14),.int .i64 (x 15),.int .i64 (x 16),.int .i64 (x 17),.int .i64 (x 18),.int .i64 (x 19),.int .i64 (x 20),.int .i64 (x 21),.int .i64 (x 22),.int .i64 (x 23),.int .i64 (x 24),.int .i64 (x 25),.int .i64 (x 26),.int .i64 (x 27),.int .i64 (x 28),.int .i64 (x 29),.int .i64 (x 30)] 25)).cell? ⟨w.heap.size,2,none⟩=some (.int .i64 (x 2)):=(cell_of_row _ _ 2 _ _ _ cr).trans rfl
 have f3:=frozen_of_row _ _ 3 _ _ cr
 have f4:=frozen_of_row _ _ 4 _ _ cr
 have f5:=frozen_of_row _ _ 5 _ _ cr
 have cq:CR (w.alloc (Obj.cells #[.int .i64 (x 0),.int .i64 (x 1),.int .i64 (x 2),.int .i64 (x 0),.int .i64 (x 1),.int .i64 (x 2),.int .i64 (x 6),.int .i64 (x 7),.int .i64 (x 8),.int .i64 (x 9),.int .i64 (x 10),.int .i64 (x 11),.int .i64 (x 12),.int .i64 (x 13),.int .i64 (x 14),.int .i64 (x 15),.int .i64 (x 16),.int .i64 (x 17),.int .i64 (x 18),.int .i64 (x 19),.int .i64 (x 20),.int .i64 (x 21),.int .i64 (x 22),.int .i64 (x 23),.int .i64 (x 24),.int .i64 (x 25),.int .i64 (x 26),.int .i64 (x 27),.int .i64 (x 28),.int .i64 (x 29),.int .i64 (x 30)] 25)) w.heap.size (lq x):=cr_new (x:=lq x)
 have hy:=lq64 hx
 have sm:=sm_lq x
 have E0:Below w.heap.size w (w.alloc (Obj.cells #[.int .i64 (x 0),.int .i64 (x 1),.int .i64 (x 2),.int .i64 (x 0),.int .i64 (x 1),.int .i64 (x 2),.int .i64 (x 6),.int .i64 (x 7),.int .i64 (x 8),.int .i64 (x 9),.int .i64 (x 10),.int .i64 (x 11),.int .i64 (x 12),.int .i64 (x 13),.int .i64 (x 14),.int .i64 (x 15),.int .i64 (x 16),.int .i64 (x 17),.int .i64 (x 18),.int .i64 (x 19),.int .i64 (x 20),.int .i64 (x 21),.int .i64 (x 22),.int .i64 (x 23),.int .i64 (x 24),.int .i64 (x 25),.int .i64 (x 26),.int .i64 (x 27),.int .i64 (x 28),.int .i64 (x 29),.int .i64 (x 30)] 25)):=b_alloc (Below.refl _ _)
 have T0:=Lib.hid T
 replace T:=t3_keep E0 T
 obtain ⟨i0,hi,hz0,hz1,hz2⟩:=info_parts info_tick
 go_enter Tryz.func6,Tryz.ntmps6
 go_wp2_with (with_reducible refine stop_at (some 19) rfl ?_)
 generalize (w.alloc (Obj.cells #[.int .i64 (x 0),.int .i64 (x 1),.int .i64 (x 2),.int .i64 (x 0),.int .i64 (x 1),.int .i64 (x 2),.int .i64 (x 6),.int .i64 (x 7),.int .i64 (x 8),.int .i64 (x 9),.int .i64 (x 10),.int .i64 (x 11),.int .i64 (x 12),.int .i64 (x 13),.int .i64 (x 14),.int .i64 (x 15),.int .i64 (x 16),.int .i64 (x 17),.int .i64 (x 18),.int .i64 (x 19),.int .i64 (x 20),.int .i64 (x 21),.int .i64 (x 22),.int .i64 (x 23),.int .i64 (x 24),.int .i64 (x 25),.int .i64 (x 26),.int .i64 (x 27),.int .i64 (x 28),.int .i64 (x 29),.int .i64 (x 30)] 25))=z0 at *
 clear v0 v1 v2 f3 f4 f5 cr
 generalize lq x=y at *
 rename CR z0 w.heap.size y=>cr
 refine unstop ?_
 by_cases hl2:len≤1000
 rotate_left
 ·have h2:(1000:Int)<(len:Int):=by omega
  go_wp2_with fail
  refine (fixed_cha _ T).mono ?_
  rintro e_ y9 ⟨rfl,hb9⟩
  go_wp2
  go_ret
  exact ⟨rfl,b_trans E0 hb9⟩
 have h2:¬ (1000:Int)<(len:Int):=by omega
 go_wp2_with (with_reducible refine stop_at (some 22) rfl ?_)
 refine unstop ?_
 refine wpList_load_part rfl 25 (.tmp 2) rfl w.heap.size 0 rfl 25 _ _ (0,0) _ cr whole_31 Tryz.underlying25 rfl (by kernel_rfl) ?_
 go_wp2_with fail
 have cc:=check_any y hy
 obtain ⟨ce,hce⟩:∃ q,cks y=q:=⟨_,rfl⟩
 rw [hce] at cc
 refine (cc _).mono ?_
 rintro e_ y1 ⟨rfl,hb1⟩
 clear cc
 replace T:=t3_keep hb1 T
 replace cr:=cr_keep hb1 cr
 replace E0:=b_trans E0 hb1
 clear hb1
 by_cases ck:ce=0
 rotate_left
 ·have c1:(ce != 0)=true:=by simpa using ck
  clear hce ck
  go_wp2_with fail
  refine (fixed_cha _ T).mono ?_
  rintro e_ y9 ⟨rfl,hb9⟩
  go_wp2
  go_ret
  exact ⟨rfl,b_trans E0 hb9⟩
 subst ck
 have ck:=Lib.hid hce
 clear hce h2
 have x25:y1.cell? ⟨w.heap.size,25,none⟩=some (.int .i64 (y 25)):=(cell_of_row _ _ 25 _ _ _ cr).trans rfl
 replace cr:=Lib.hid cr
 replace E0:=Lib.hid E0
 replace T:=Lib.hid T
 go_wp2
 clear x25
 go_loopw [5,6,7,31] (fun lv rv tv_ iv wr=>∃ (k:Nat) (ov:Value),k≤len∧iv=.int .i64 k∧lv=.int .i64 (ltk y a k)∧rv=.int .i64 (itr y a p h s k).r∧tv_=ov∧Hid (wr.ownsRow y1.heap.size 49 4 ov k (krow (fun k=>ltk y a (k+1)) p h s k))∧Hid (Below y1.heap.size y1 wr)∧Hid (∀ j,j<k→aq y (itr y a p h s j).r (a j)=false)) (fun _ _ _ iv _=>len - (intOf iv).toNat)
 case atStart=>exact ⟨0,_,Nat.zero_le _,rfl,rfl,rfl,rfl,Lib.hid ⟨rfl,Or.inl ⟨rfl,rfl⟩⟩,Lib.hid (Below.refl _ _),Lib.hid (fun j hj=>absurd hj (Nat.not_lt_zero j))⟩
 case round =>
  obtain ⟨k,ov,hk,rfl,rfl,rfl,rfl,HO,HE,HA⟩:=hrel
  by_cases hlt:k<len
  ·obtain ⟨gs,off,rfl,tw⟩:=hc k hlt
   have gl:gs<w.heap.size:=World.block_lt_of_cell? w _ tw.1
   replace tw:=tw_keep (b_trans E0.out HE.out) tw
   have hlk:(k:Int)<len:=by omega
   have hk0:(0:Int)≤k:=by omega
   have hk1:(0:Int)≤(k:Int)+1:=by omega
   have hk2:(k:Int)+1≤cap:=by omega
   have ws:IntKind.i64.wrap ((k:Int)+1)=(k:Int)+1:=by rw [IntKind.wrap_i64]; omega
   have tn:((k:Int)+1).toNat=k+1:=by omega
   have cn:=cn_of ck.out
   have kp:=kept_of ck.out
   have ro:=itr_r y a p h s k
   have r0:=(ok_itr hy ck.out a p h s k).r
   have er:(itr y a p h s (k+1)).r=ar y (itr y a p h s k).r (a k):=stp_r y _ _ _ _ _
   have el:ltk y a (k+1)=if the y (a k)=0 then a k else ltk y a k:=rfl
   have ic:=in_clip ck.out (a k)
   have ho:=cn.ho
   have cc:=kp.c1
   have c2:=kp.c2
   have eK:krow (fun k=>ltk y a (k+1)) p h s (k+1)=krow (fun k=>ltk y a (k+1)) p h s k ++ tkl (ltk y a (k+1)) (h k) (p k) (s k):=rfl
   obtain ⟨l1,hl1⟩:∃ q,ltk y a (k+1)=q:=⟨_,rfl⟩
   rw [hl1] at eK el
   replace eK:=Lib.hid eK
   replace hl1:=Lib.hid hl1
   replace er:=Lib.hid er
   generalize krow (fun k=>ltk y a (k+1)) p h s k=xs at *
   generalize ltk y a k=l0 at *
   obtain ⟨r9,e9⟩:∃ q,(itr y a p h s k).r=q:=⟨_,rfl⟩
   rw [e9] at ro r0 ⊢
   replace e9:=Lib.hid e9
   have cr1:=cr_keep HE.out cr.out
   have x26:wr.cell? ⟨w.heap.size,26,none⟩=some (.int .i64 (y 26)):=(cell_of_row _ _ 26 _ _ _ cr1).trans rfl
   have x27:wr.cell? ⟨w.heap.size,27,none⟩=some (.int .i64 (y 27)):=(cell_of_row _ _ 27 _ _ _ cr1).trans rfl
   clear cr1
   have wr1:IntKind.i64.wrap (r9+1)=r9+1:=by rw [IntKind.wrap_i64]; omega
   have wn:IntKind.i64.wrap (-y 26)=-y 26:=by rw [IntKind.wrap_i64]; omega
   have lW:=HE.out.size
   have ZB:Below wr.heap.size wr (wr.alloc (Obj.cells #[.int .i64 (a k),.bool (h k),.int .i64 (p k),.bool (s k)] 49)):=b_alloc (Below.refl _ _)
   have nV0:=Lib.hid (fun q hq=>Nat.ne_of_lt (HO.out.lt q hq).2)
   have kT:(wr.alloc (Obj.cells #[.int .i64 (a k),.bool (h k),.int .i64 (p k),.bool (s k)] 49)).heap[wr.heap.size]?=some (.cells #[.int .i64 (a k),.bool (h k),.int .i64 (p k),.bool (s k)] 49 (0,0)):=heap_alloc_last _ _
   have g0:=(cell_of_row _ _ 0 _ _ _ kT).trans rfl
   replace HO:=Lib.hid (own_chs (S:=fun _=>False) (chs_below ZB) (fun _ _ q=>q) HO.out)
   replace HE:=Lib.hid (b_trans HE.out ZB)
   have X26:=cell_keep ZB x26
   have X27:=cell_keep ZB x27
   clear ZB x26 x27 kp
   obtain ⟨t0,t1,t2,t3⟩:=tw
   replace hlt:=Lib.hid hlt
   go_upto_region 10 with fail
   generalize wr.alloc (Obj.cells #[.int .i64 (a k),.bool (h k),.int .i64 (p k),.bool (s k)] 49)=y3 at *
   generalize wr.heap.size=V at *
   clear t0 t1 t2 t3
   obtain ⟨b0,hb0⟩:∃ q,decide (the y (a k)=0)=q:=⟨_,rfl⟩
   go_cut [49] (fun s_ wx=>s_=.bool b0∧wx=y3)
   case first =>
    by_cases i1:-y 26<a k
    ·by_cases i2:a k<y 26
     ·obtain rfl:true=b0:=by rw [← hb0]; exact (decide_eq_true (ic.2 ⟨i1,i2⟩)).symm
      clear el ic hb0
      go_wp2_with fail
      go_meet
      exact ⟨rfl,rfl⟩
     ·obtain rfl:false=b0:=by rw [← hb0]; exact (decide_eq_false (fun q=>i2 (ic.1 q).2)).symm
      clear el ic hb0
      go_wp2_with fail
      go_meet
      exact ⟨rfl,rfl⟩
    ·obtain rfl:false=b0:=by rw [← hb0]; exact (decide_eq_false (fun q=>i1 (ic.1 q).1)).symm
     clear el ic hb0
     go_wp2_with fail
     go_meet
     exact ⟨rfl,rfl⟩
   case rest =>
    obtain ⟨rfl,e3⟩:=hcut
    have e4:=e3.symm
    clear e3
    subst e4
    by_cases c:the y (a k)=0
    ·obtain rfl:true=b0:=by rw [← hb0]; exact (decide_eq_true c).symm
     clear hb0 ic
     replace el:=el.trans (if_pos c)
     subst el
     have EA:Hid (ar y r9 (a k)=0):=Lib.hid (if_pos c)
     have QK:=Lib.hid (a_ok c 0 r9).2.2.2
     have q1:¬ y 27<0:=by omega
     clear c
     have f0:=frozen_of_row _ _ 0 _ _ kT
     have kT2:(y3.setCell ⟨V,0,none⟩ (.int .i64 (a k))).heap[V]?=some (.cells #[.int .i64 (a k),.bool (h k),.int .i64 (p k),.bool (s k)] 49 (0,0)):=(heap_setCell_same _ V 0 _ _ _ kT).trans rfl
     obtain ⟨u0,u1,u2,u3⟩:=row4 kT2
     have kb:But V y3 (y3.setCell ⟨V,0,none⟩ (.int .i64 (a k))):=but_set
     replace HO:=Lib.hid (own_chs (S:=fun q=>q=V) (chs_of_but kb rfl) nV0.out HO.out)
     replace HE:=Lib.hid (below_but HE.out lW kb)
     clear kT kT2 kb nV0
     go_wp2_with (with_reducible refine stop_at (some 62) rfl ?_)
     have hz:(y3.setCell ⟨V,0,none⟩ (.int .i64 (a k))).heap.size=y3.heap.size:=by simp
     generalize (y3.setCell ⟨V,0,none⟩ (.int .i64 (a k)))=y4 at *
     try rw [← hz]
     clear hz f0 u0 u1 u2 u3 g0 X26 X27
     refine unstop ?_
     refine wpList_append_own _ rfl (.tmp 59) (.tmp 61) 26 rfl y1.heap.size 49 i0 (tk 0 false 0 false) 4 32 Tryz.underlying26 hi hz0 hz1 hz2 rfl (by decide) _ _ _ rfl (HO.out.alloc _) ⟨y4.heap.size,0,none⟩ 1 1 (tkl (a k) (h k) (p k) (s k)) rfl rfl (tk_new _ _ _ _ _ _) (fun u hu=>by simp at hu; rcases hu with rfl | rfl | rfl | rfl <;> rfl) (by unfold maxLen; have:=hlt.out; omega) (by have:=hlt.out; omega) (by have:=HE.out.size; simp; omega) ?_
     intro v5 y5 ho hg _
     have HE5:=Lib.hid (below_grown (b_alloc HE.out) hg (fun q hq=>(HO.out.lt q hq).1))
     have HO5:=Lib.hid ho
     clear ho hg HO HE
     go_wp2
     refine ⟨⟨k+1,v5,by have:=hlt.out; omega,by go_num,by rw [hl1.out],by rw [er.out,e9.out,EA.out],rfl,by rw [eK.out]; exact HO5,HE5,Lib.hid (fun j hj=>?_)⟩,?_⟩
     ·by_cases jk:j=k
      ·subst jk
       rw [e9.out]
       exact QK.out
      ·exact HA.out j (by omega)
     simp only [intOf]
     have:=hlt.out
     omega
    obtain rfl:false=b0:=by rw [← hb0]; exact (decide_eq_false c).symm
    clear hb0 ic
    replace el:=el.trans (if_neg c)
    subst el
    have EA:Hid (ar y r9 (a k)=r9+1):=Lib.hid (if_neg c)
    by_cases q:y 27<r9+1
    ·clear c
     have T4:=t3_keep HE.out T.out
     go_wp2_with fail
     refine (fixed_cha _ T4).mono ?_
     rintro e_ y9 ⟨rfl,hb9⟩
     go_wp2
     go_ret
     exact ⟨rfl,b_trans (b_trans E0.out HE.out) hb9⟩
    have QK:Hid (aq y r9 (a k)=false):=Lib.hid (by unfold aq; rw [decide_eq_false q,Bool.and_false])
    clear c
    have f0:=frozen_of_row _ _ 0 _ _ kT
    have kT2:(y3.setCell ⟨V,0,none⟩ (.int .i64 (l1))).heap[V]?=some (.cells #[.int .i64 (l1),.bool (h k),.int .i64 (p k),.bool (s k)] 49 (0,0)):=(heap_setCell_same _ V 0 _ _ _ kT).trans rfl
    obtain ⟨u0,u1,u2,u3⟩:=row4 kT2
    have kb:But V y3 (y3.setCell ⟨V,0,none⟩ (.int .i64 (l1))):=but_set
    replace HO:=Lib.hid (own_chs (S:=fun q=>q=V) (chs_of_but kb rfl) nV0.out HO.out)
    replace HE:=Lib.hid (below_but HE.out lW kb)
    clear kT kT2 kb nV0
    go_wp2_with (with_reducible refine stop_at (some 62) rfl ?_)
    have hz:(y3.setCell ⟨V,0,none⟩ (.int .i64 (l1))).heap.size=y3.heap.size:=by simp
    generalize (y3.setCell ⟨V,0,none⟩ (.int .i64 (l1)))=y4 at *
    try rw [← hz]
    clear hz f0 u0 u1 u2 u3 g0 X26 X27
    refine unstop ?_
    refine wpList_append_own _ rfl (.tmp 59) (.tmp 61) 26 rfl y1.heap.size 49 i0 (tk 0 false 0 false) 4 32 Tryz.underlying26 hi hz0 hz1 hz2 rfl (by decide) _ _ _ rfl (HO.out.alloc _) ⟨y4.heap.size,0,none⟩ 1 1 (tkl (l1) (h k) (p k) (s k)) rfl rfl (tk_new _ _ _ _ _ _) (fun u hu=>by simp at hu; rcases hu with rfl | rfl | rfl | rfl <;> rfl) (by unfold maxLen; have:=hlt.out; omega) (by have:=hlt.out; omega) (by have:=HE.out.size; simp; omega) ?_
    intro v5 y5 ho hg _
    have HE5:=Lib.hid (below_grown (b_alloc HE.out) hg (fun q hq=>(HO.out.lt q hq).1))
    have HO5:=Lib.hid ho
    clear ho hg HO HE
    go_wp2
    refine ⟨⟨k+1,v5,by have:=hlt.out; omega,by go_num,by rw [hl1.out],by rw [er.out,e9.out,EA.out],rfl,by rw [eK.out]; exact HO5,HE5,Lib.hid (fun j hj=>?_)⟩,?_⟩
    ·by_cases jk:j=k
     ·subst jk
      rw [e9.out]
      exact QK.out
     ·exact HA.out j (by omega)
    simp only [intOf]
    have:=hlt.out
    omega
  ·have hlk:¬ (k:Int)<len:=by omega
   obtain rfl:k=len:=by omega
   obtain ⟨sb,cap2,rfl,m2,l2,hc2⟩:=ticks_own HO.out
   replace hc2:=Lib.hid hc2
   clear HO hlt hk
   have sj:=(itr_sm ck.out sm a p h s k HA.out).2
   replace sj:=Lib.hid sj
   clear HA
   have hcA:∀ j,j<k→∃ g off,sa=some ⟨g,off,none⟩∧TW wr g (off+j*4) (a j) (h j) (p j) (s j):=fun j hj=>by
    obtain ⟨g,off,e,t⟩:=hc j hj
    exact ⟨g,off,e,tw_keep (b_trans E0.out HE.out) t⟩
   replace hcA:=Lib.hid hcA
   have T1:=t3_keep HE.out T.out
   have cr1:=cr_keep HE.out cr.out
   clear T
   generalize ltk y a k=l0 at *
   generalize (itr y a p h s k).r=r9 at *
   go_wp2_with (with_reducible refine stop_at (some 65) rfl ?_)
   refine unstop ?_
   refine wpList_load_row rfl 25 (.tmp 2) rfl w.heap.size rfl 25 _ (0,0) _ cr1 Tryz.underlying25 rfl (by kernel_rfl) ?_
   go_wp2_with fail
   refine (chrun_own y hy ck.out a p h s sa k cap hm hl (by omega) _ hcA.out T1).mono ?_
   rintro e_ y2 ⟨g1,rfl,_,hb1,lg1,O1⟩
   replace O1:=Lib.hid (trg_own O1)
   have lg:w.heap.size<g1:=by
    have q1:=(Array.getElem?_eq_some_iff.1 cr.out).1
    have q2:=HE.out.size
    omega
   have g1l:g1<y2.heap.size:=by
    obtain ⟨c1,e1,_⟩:=O1.out
    exact (Array.getElem?_eq_some_iff.1 e1).1
   replace cr1:=cr_keep hb1 cr1
   have T2:=t3_keep hb1 T1
   go_wp2_with (with_reducible refine stop_at (some 71) rfl ?_)
   refine unstop ?_
   refine wpList_load_row rfl 25 (.tmp 2) rfl w.heap.size rfl 25 _ (0,0) _ cr1 Tryz.underlying25 rfl (by kernel_rfl) ?_
   go_wp2_with fail
   refine (chrun_own y hy ck.out (fun k=>ltk y a (k+1)) p h s sb k cap2 m2 l2 (by omega) _ (fun j hj=>by
   obtain ⟨g,off,e,t⟩:=hc2.out j hj
   exact ⟨g,off,e,tw_keep hb1 t⟩) T2).mono ?_
   rintro e_ y4 ⟨g2,rfl,_,hb2,lg2,O2⟩
   replace O2:=Lib.hid (trg_own O2)
   replace O1:=Lib.hid (trg_chs (S:=fun _=>False) (chs_below hb2) (fun q=>q) O1.out)
   have g12:g2≠g1:=by omega
   have E3:=Lib.hid (b_trans (b_trans (b_trans E0.out HE.out) hb1) hb2)
   replace cr1:=Lib.hid (cr_keep hb2 cr1)
   have kp:=kept_of ck.out
   have cc:=kp.c1
   have c2:=kp.c2
   clear kp
   have wn:IntKind.i64.wrap (-y 26)=-y 26:=by rw [IntKind.wrap_i64]; omega
   have tws:=tw_otr hy ck.out a p h s
   have oh:∀ j,(otr y a p h s j).hl=ah y (a j):=fun _=>rfl
   have ic:=fun j=>in_clip ck.out (a j)
   obtain ⟨O,hO⟩:∃ O,otr y a p h s=O:=⟨_,rfl⟩
   rw [hO] at tws oh O1 sj
   clear hO
   obtain ⟨Ob,hO⟩:∃ O,otr y (fun k=>ltk y a (k+1)) p h s=O:=⟨_,rfl⟩
   rw [hO] at O2 sj
   clear hO
   replace tws:=Lib.hid tws
   replace oh:=Lib.hid oh
   replace ic:=Lib.hid ic
   replace lg:=Lib.hid lg
   replace g12:=Lib.hid g12
   clear hb1 hb2 T1 T2 hcA hc2 E0 HE cr lg1 lg2 g1l hl2
   go_wp2
   go_loopw [98] (fun iv wq=>∃ j:Nat,j≤k∧iv=.int .i64 j∧Hid (Chs (fun q=>q=g1) y4 wq)∧Hid (TRg wq g1 j k O)) (fun iv _=>k - (intOf iv).toNat)
   case atStart=>exact ⟨0,Nat.zero_le _,rfl,Lib.hid (chs_refl _ _),O1⟩
   case round =>
    obtain ⟨j,hj,rfl,HQ,HR⟩:=hrel
    have EQ:=below_chs E3.out HQ.out (fun q hq=>by have:=lg.out; omega)
    by_cases jl:j<k
    ·obtain ⟨gs,off,rfl,tw⟩:=hc j jl
     replace tw:=tw_keep EQ tw
     have jlk:(j:Int)<k:=by omega
     have j0:(0:Int)≤j:=by omega
     have jlc:(j:Int)<cap:=by omega
     have ws:IntKind.i64.wrap ((j:Int)+1)=(j:Int)+1:=by rw [IntKind.wrap_i64]; omega
     have t:=tws.out j
     have te:=fun w=>td_eq_self (m:=(noh (O j)).m) (vd:=(noh (O j)).vd) (ac:=(noh (O j)).ac) (rf:=(noh (O j)).rf) (ho:=(noh (O j)).hl) (gr:=(noh (O j)).gr) (al:=(noh (O j)).al) (sp:=(noh (O j)).sp) (bi:=(noh (O j)).bi) t.m t.a t.s t.b w
     clear t
     have cq:=chs_row HQ.out (show ¬ w.heap.size=g1 by have:=lg.out; omega) cr1.out
     have x26:wr.cell? ⟨w.heap.size,26,none⟩=some (.int .i64 (y 26)):=(cell_of_row _ _ 26 _ _ _ cq).trans rfl
     clear cq
     have R2:=trg_chs HQ.out g12.out O2.out
     have hoj:=oh.out j
     have ic1:=ic.out j
     have sjj:=sj.out j jl
     obtain ⟨b1,hb1⟩:∃ q,(O j).hl=q:=⟨_,rfl⟩
     have c4:=(nine (trg_cells jl HR.out).2).2.2.2.2.1
     rw [hb1] at c4
     have d4:=(nine (trg_at (Nat.zero_le _) jl R2)).2.2.2.2.1
     rw [sjj] at d4
     replace d4:wr.cell? ⟨g2,j*9+4,none⟩=some (.bool false):=d4
     replace R2:=Lib.hid R2
     have lWQ:=Lib.hid EQ
     clear EQ
     have hbo:=Lib.hid hb1
     rw [hoj] at hb1
     clear hoj
     replace jl:=Lib.hid jl
     replace sjj:=Lib.hid sjj
     obtain ⟨t0,t1,t2,t3⟩:=tw
     clear t1 t2 t3
     replace te:=Lib.hid te
     go_upto_region 24 with fail
     go_cut [132] (fun s_ wx=>s_=.bool false∧Hid (Below wr.heap.size wr wx))
     case first =>
      by_cases i1:a j≤-y 26
      ·obtain rfl:true=b1:=by rw [← hb1]; unfold ah; rw [decide_eq_false (fun q=>by have:=ic1.1 q; omega)]; rfl
       clear hb1 ic1
       replace d4:=cell_regrown d4
       replace c4:=cell_regrown c4
       replace t0:=cell_regrown t0
       replace x26:=cell_regrown x26
       refine wp_region_quiet_below (by kernel_rfl) (by kernel_rfl) ?_
       repeat (first | go_big_quiet_skip | (go_big_quiet_want; go_big_quiet_op; first | go_big_quiet_on))
       refine wpQuiet_nil ?_
       intro _ hw'
       obtain ⟨⟨dq,osq⟩,hw''⟩:=hw'
       subst hw''
       have S3:=Lib.hid (below_regrown wr dq osq)
       generalize Sort.grow (redrawn _ dq) osq=y8 at *
       go_wp2_with fail
       go_meet
       exact ⟨rfl,S3⟩
      ·by_cases i2:y 26≤a j
       ·obtain rfl:true=b1:=by rw [← hb1]; unfold ah; rw [decide_eq_false (fun q=>by have:=ic1.1 q; omega)]; rfl
        clear hb1 ic1
        replace d4:=cell_regrown d4
        replace c4:=cell_regrown c4
        replace t0:=cell_regrown t0
        replace x26:=cell_regrown x26
        refine wp_region_quiet_below (by kernel_rfl) (by kernel_rfl) ?_
        repeat (first | go_big_quiet_skip | (go_big_quiet_want; go_big_quiet_op; first | go_big_quiet_on))
        refine wpQuiet_nil ?_
        intro _ hw'
        obtain ⟨⟨dq,osq⟩,hw''⟩:=hw'
        subst hw''
        have S3:=Lib.hid (below_regrown wr dq osq)
        generalize Sort.grow (redrawn _ dq) osq=y8 at *
        go_wp2_with fail
        go_meet
        exact ⟨rfl,S3⟩
       ·obtain rfl:false=b1:=by rw [← hb1]; unfold ah; rw [decide_eq_true (ic1.2 ⟨by omega,by omega⟩)]; rfl
        clear hb1 ic1
        replace d4:=cell_regrown d4
        replace c4:=cell_regrown c4
        replace t0:=cell_regrown t0
        replace x26:=cell_regrown x26
        refine wp_region_quiet_below (by kernel_rfl) (by kernel_rfl) ?_
        repeat (first | go_big_quiet_skip | (go_big_quiet_want; go_big_quiet_op; first | go_big_quiet_on))
        refine wpQuiet_nil ?_
        intro _ hw'
        obtain ⟨⟨dq,osq⟩,hw''⟩:=hw'
        subst hw''
        have S3:=Lib.hid (below_regrown wr dq osq)
        generalize Sort.grow (redrawn _ dq) osq=y8 at *
        go_wp2_with fail
        go_meet
        exact ⟨rfl,S3⟩
     case rest =>
      obtain ⟨rfl,HB⟩:=hcut
      clear hb1 ic1 t0 x26 c4 d4
      have HQ2:=chs_trans HQ.out (chs_below HB.out)
      have R1:=trg_chs (S:=fun _=>False) (chs_below HB.out) (fun q=>q) HR.out
      replace R2:=trg_chs (S:=fun _=>False) (chs_below HB.out) (fun q=>q) R2.out
      obtain ⟨fr,C⟩:=trg_cells jl.out R1
      have c4:=(nine C).2.2.2.2.1
      rw [hbo.out] at c4
      clear C
      have N1:=Lib.hid (trg_step (.bool false) R1)
      obtain ⟨c0,c1,c2_,c3,c4_,c5,c6,c7,c8⟩:=nine (trg_cells2 jl.out R1)
      have kb:But g1 wc (wc.setCell ⟨g1,j*9+4,none⟩ (.bool false)):=but_set
      have HQ3:=Lib.hid (chs_trans HQ2 (chs_of_but kb rfl))
      have D:=trg_at (Nat.zero_le j) jl.out (trg_chs (S:=fun q=>q=g1) (chs_of_but kb rfl) g12.out R2)
      rw [sjj.out] at D
      obtain ⟨d0,d1,d2,d3,d4,d5,d6,d7,d8⟩:=nine D
      clear D kb HQ HQ2 HR R1 R2 HB sjj hbo
      replace te:=te.out
      generalize noh (O j)=Oj at *
      go_upto_region 27 with fail
      generalize (wc.setCell ⟨g1,j*9+4,none⟩ (.bool false))=y5 at *
      clear fr c4
      replace c0:=cell_regrown c0
      replace c1:=cell_regrown c1
      replace c2_:=cell_regrown c2_
      replace c3:=cell_regrown c3
      replace c4_:=cell_regrown c4_
      replace c5:=cell_regrown c5
      replace c6:=cell_regrown c6
      replace c7:=cell_regrown c7
      replace c8:=cell_regrown c8
      replace d0:=cell_regrown d0
      replace d1:=cell_regrown d1
      replace d2:=cell_regrown d2
      replace d3:=cell_regrown d3
      replace d4:=cell_regrown d4
      replace d5:=cell_regrown d5
      replace d6:=cell_regrown d6
      replace d7:=cell_regrown d7
      replace d8:=cell_regrown d8
      refine wp_region_quiet_below (by kernel_rfl) (by kernel_rfl) ?_
      repeat (first | go_big_quiet_skip | (go_big_quiet_want; go_big_quiet_op; first | go_big_quiet_on))
      refine wpQuiet_nil ?_
      intro _ hw'
      obtain ⟨⟨dq,osq⟩,hw''⟩:=hw'
      subst hw''
      have S3:=Lib.hid (chs_trans HQ3.out (chs_below (below_regrown y5 dq osq)))
      have N3:=Lib.hid (trg_chs (S:=fun _=>False) (chs_below (below_regrown y5 dq osq)) (fun q=>q) N1.out)
      clear HQ3 N1 c0 c1 c2_ c3 c4_ c5 c6 c7 c8 d0 d1 d2 d3 d4 d5 d6 d7 d8
      generalize Sort.grow (redrawn _ dq) osq=y8 at *
      go_wp2
      refine ⟨⟨j+1,by have:=jl.out; omega,by go_num,S3,N3⟩,?_⟩
      simp only [intOf]
      have:=jl.out
      omega
    ·have jlk:¬ (j:Int)<k:=by omega
     have T4:=t3_keep EQ T0.out
     go_wp2_with fail
     refine (fixed_cha _ T4).mono ?_
     rintro e_ y9 ⟨rfl,hb9⟩
     go_wp2
     go_ret
     exact ⟨rfl,b_trans EQ hb9⟩
end Go.Proofs.YtmcchknilnejgaaGreatDoor

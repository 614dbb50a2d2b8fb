import Derived.Test.YthnofhjgfhapiaaGreatDoorWaq
import Derived.Test.YthnofhjgfhapiaaGreatDoorWar
import Derived.Test.YthnofhjgfhapiaaGreatDoorWbd
import Derived.Test.YthnofhjgfhapiaaGreatDoorWaj
import Derived.Test.YthnofhjgfhapiaaGreatDoorWag
import Derived.Test.YthnofhjgfhapiaaGreatDoorWaw
import Derived.Test.YthnofhjgfhapiaaGreatDoorWae
import Derived.Test.YthnofhjgfhapiaaGreatDoorWaf
import Derived.Test.YthnofhjgfhapiaaGreatDoorWaa
import Derived.Test.YthnofhjgfhapiaaGreatDoorWau
import Derived.Test.YthnofhjgfhapiaaGreatDoorWan
import Derived.Test.YthnofhjgfhapiaaGreatDoorWac
import Derived.Test.YthnofhjgfhapiaaGreatDoorWai
import Derived.Test.YthnofhjgfhapiaaGreatDoorWaz
import Derived.Test.YthnofhjgfhapiaaGreatDoorWam
import Derived.Test.YthnofhjgfhapiaaGreatDoorWak
import Derived.Test.YthnofhjgfhapiaaGreatDoorWao
import Derived.Test.YthnofhjgfhapiaaGreatDoorWax
import Derived.Test.YthnofhjgfhapiaaGreatDoorWay
import Derived.Test.YthnofhjgfhapiaaGreatDoorWbb
import Derived.Test.YthnofhjgfhapiaaGreatDoorWba
import Derived.Test.YthnofhjgfhapiaaGreatDoorWap
import Derived.Test.YthnofhjgfhapiaaGreatDoorWas
import Derived.Test.YthnofhjgfhapiaaGreatDoorWad
namespace Go.Proofs.YthnofhjgfhapiaaGreatDoor
open Go.RowKit Go.Shelf Go.Joins
theorem cks_all {x:Nat→Int} (h:cks x=0):k1 x=true∧k2 x=true∧k3 x=true∧k4 x=true∧k5 x=true∧k6 x=true∧k7 x=true∧k8 x=true∧k9 x=true∧k12 x=true∧k13 x=true∧k14 x=true:=by
 unfold cks at h
 obtain ⟨h1,h⟩:=bif_zero (by decide) h
 obtain ⟨h2,h⟩:=bif_zero (by decide) h
 obtain ⟨h3,h⟩:=bif_zero (by decide) h
 obtain ⟨h4,h⟩:=bif_zero (by decide) h
 obtain ⟨h5,h⟩:=bif_zero (by decide) h
 obtain ⟨h6,h⟩:=bif_zero (by decide) h
 obtain ⟨h7,h⟩:=bif_zero (by decide) h
 obtain ⟨h8,h⟩:=bif_zero (by decide) h
 obtain ⟨h9,h⟩:=bif_zero (by decide) h
 obtain ⟨_,h⟩:=bif_zero (by decide) h
 obtain ⟨_,h⟩:=bif_zero (by decide) h
 obtain ⟨h12,h⟩:=bif_zero (by decide) h
 obtain ⟨h13,h⟩:=bif_zero (by decide) h
 obtain ⟨h14,h⟩:=bif_zero (by decide) h
 exact ⟨h1,h2,h3,h4,h5,h6,h7,h8,h9,h12,h13,h14⟩
theorem b3_iff {a b c d e f g h i:Int} (k:b3 a b c d e f g h i=true):(d≤a∧a≤g)∧(e≤b∧b≤h)∧(f≤c∧c≤i):=by
 unfold b3 at k
 rw [Bool.and_eq_true,Bool.and_eq_true] at k
 exact ⟨inb_iff.1 k.1,inb_iff.1 k.2.1,inb_iff.1 k.2.2⟩
structure CN (x:Nat→Int):Prop where
 f0:FB (x 11) (x 14)
 f1:FB (x 12) (x 15)
 f2:FB (x 13) (x 16)
 c0:x 14≤72057594037927936
 c1:x 15≤72057594037927936
 c2:x 16≤72057594037927936
 s0:x 11≤x 8∧x 8≤x 14
 s1:x 12≤x 9∧x 9≤x 15
 s2:x 13≤x 10∧x 10≤x 16
 r:274877906944≤x 6∧x 6≤1125899906842624
 g:274877906944≤x 7∧x 7≤1125899906842624
 b0:18014398509481984≤x 17∧x 17≤72057594037927936
 b1:0≤x 18∧x 18≤72057594037927936
 b2:0≤x 19∧x 19≤72057594037927936
 ga:1≤x 20∧x 20≤1000
 ho:0≤x 27
 co:1≤x 28∧x 28≤x 29∧x 29≤100000
theorem cn_of {x:Nat→Int} (h:cks x=0):CN x:=by
 obtain ⟨_,_,h3,h4,h5,h6,h7,h8,_,h12,h13,_⟩:=cks_all h
 unfold k5 at h5
 rw [Bool.and_eq_true] at h5
 have F:FB3 (x 11) (x 12) (x 13) (x 14) (x 15) (x 16):=of_decide_eq_true h5.1
 obtain ⟨⟨_,a1⟩,⟨_,a2⟩,⟨_,a3⟩⟩:=b3_iff h5.2
 obtain ⟨s0,s1,s2⟩:=b3_iff h6
 obtain ⟨b0,b1,b2⟩:=b3_iff h7
 have r:=inb_iff.1 h3
 have g:=inb_iff.1 h4
 have ga:=inb_iff.1 h8
 have ho:=inb_iff.1 h12
 unfold k13 at h13
 rw [Bool.and_eq_true] at h13
 have co:=inb_iff.1 h13.1
 have cu:=of_decide_eq_true h13.2
 exact ⟨F.1,F.2.1,F.2.2,a1,a2,a3,s0,s1,s2,r,⟨by omega,g.2⟩,b0,b1,b2,ga,ho.1,co.1,co.2,cu⟩
theorem tmd_ok {x:Nat→Int} (c:CN x) (m:Nat→Int):∃ q,TRx x m q∧tmd x m=tmx x m q:=by
 have h:∃ q,TRx x m q:=by
  obtain ⟨a,b,e,R⟩:=tr_some m c.f0 c.f1 c.f2
  exact ⟨(a,b,e),R⟩
 exact ⟨h.choose,h.choose_spec,dif_pos h⟩
theorem f6_i6 {m:Nat→Int} (h:F6 m):I6 m:=fun i hi=>fit_i64 (h i hi)
def TM (x u:Nat→Int):Prop:=(u 0≤x 14∧u 3≤x 15∧u 5≤x 16)∧Snd u (x 11) (x 12) (x 13)
theorem tmd_tm {x:Nat→Int} (c:CN x) (m:Nat→Int):TM x (tmd x m):=by
 obtain ⟨q,R,e⟩:=tmd_ok c m
 rw [e]
 obtain ⟨e0,_,_,e3,_,e5⟩:=tmz_lits m (x 11) (x 12) (x 13) (x 14) (x 15) (x 16) q.1 q.2.1 q.2.2
 refine ⟨⟨?_,?_,?_⟩,tmz_snd c.f0 c.f1 c.f2 R⟩
 ·unfold tmx; rw [e0]; exact (tdg_in c.f0.2.1).2
 ·unfold tmx; rw [e3]; exact (tdg_in c.f1.2.1).2
 ·unfold tmx; rw [e5]; exact (tdg_in c.f2.2.1).2
theorem tm_f6 {x u:Nat→Int} (h:TM x u):F6 u:=h.2.1
theorem tmd_i6 {x:Nat→Int} (c:CN x) (m:Nat→Int):I6 (tmd x m):=f6_i6 (tm_f6 (tmd_tm c m))
theorem tame_x {x m:Nat→Int} (c:CN x) (hm:I6 m) (w:World) (hp:PL w):Calls Tryz.prog 100 #[sv m,tv (x 11) (x 12) (x 13),tv (x 14) (x 15) (x 16)] w (RetV (.tuple #[sv (tmd x m),.int .i64 0]) w):=by
 obtain ⟨q,R,e⟩:=tmd_ok c m
 rw [e]
 exact tame_ok m _ _ _ _ _ _ _ _ _ hm c.f0 c.f1 c.f2 R w hp
theorem cl3_bd {x:Nat→Int} (c:CN x) (v:Nat→Int):(-x 17≤cl3 x v 0∧cl3 x v 0≤x 17)∧(-x 18≤cl3 x v 1∧cl3 x v 1≤x 18)∧(-x 19≤cl3 x v 2∧cl3 x v 2≤x 19) :=
 ⟨clz_bd (show 0≤x 17 by have:=c.b0; omega),clz_bd c.b1.1,clz_bd c.b2.1⟩
theorem three_i {P:Nat→Prop} (h0:P 0) (h1:P 1) (h2:P 2):∀ i,i<3→P i:=fun i hi=>by
 rcases (show i=0∨i=1∨i=2 by omega) with rfl | rfl | rfl
 ·exact h0
 ·exact h1
 ·exact h2
theorem cl3_i64 {x:Nat→Int} (c:CN x) (v:Nat→Int):∀ i,i<3→I64 (cl3 x v i):=by
 obtain ⟨h0,h1,h2⟩:=cl3_bd c v
 have k0:=c.b0
 have k1:=c.b1
 have k2:=c.b2
 exact three_i ⟨by omega,by omega⟩ ⟨by omega,by omega⟩ ⟨by omega,by omega⟩
theorem mvd_i64 {x v:Nat→Int} (c:CN x) (hv:∀ i,i<3→I64 (v i)) (t:Int):∀ i,i<3→I64 (mvd x v t i):=by
 unfold mvd
 split
 ·exact cl3_i64 c _
 ·exact hv
theorem onz_i6 (m:Nat→Int) (d0 d1 d2:Int):I6 (onz m d0 d1 d2):=by
 have z:I6 (fun _=>0):=fun i _=>(show I64 0 by decide)
 unfold onz
 split
 ·split
  ·unfold sumz
   split
   ·unfold sz
    split
    ·rename_i h
     intro i hi
     exact fit_i64 (by have:=ge_ok (se_zero h i hi); dsimp only; rw [this.1]; exact this.2.2.2)
    ·exact z
   ·exact z
  ·exact z
 ·exact z
theorem spd_i6 {x u:Nat→Int} (c:CN x) (hu:I6 u) (h:Bool):I6 (spd x u h):=by
 unfold spd
 split
 ·exact tmd_i6 c _
 ·exact hu
theorem mot_no {v:Nat→Int} {t:Int} (hv:∀ i,i<3→I64 (v i)) (ht:I64 t) (h:¬ mok v t):∃ y0 y1 y2 e:Int,¬ e=0∧I64 y0∧I64 y1∧I64 y2 ∧
  ∀ w,Calls Tryz.prog 68 #[tv (v 0) (v 1) (v 2),.int .i64 t] w (RetV (.tuple #[tv y0 y1 y2,.int .i64 e]) w):=by
 have h0:=hv 0 (by decide)
 have h1:=hv 1 (by decide)
 have h2:=hv 2 (by decide)
 have z:I64 0:=by decide
 by_cases c:F3 (v 0) (v 1) (v 2)
 ·by_cases ct:FitP t
  ·by_cases cd:FitP (t - v 2)
   ·have k:=on_mot_ok (v 0) (v 1) (v 2) t h0 h1 h2 ht c ct cd
    have n:¬ (ne (v 0+mvh (v 1) (t - v 2))=0∧ne (v 1+mvs (t - v 2))=0):=fun q=>h ⟨c,ct,cd,ne_zero q.1,ne_zero q.2⟩
    refine ⟨0,0,0,3,by decide,z,z,z,fun w=>?_⟩
    have k:=k w
    rwa [(oz_no n _).1,(oz_no n _).1,(oz_no n _).1,(oz_no n 0).2] at k
   ·refine ⟨0,0,0,3,by decide,z,z,z,on_mot_sub (v 0) (v 1) (v 2) t 0 3 h0 h1 h2 ht c rfl fun w=>?_⟩
    have k:=sub_fix t (v 2) ht.1 ht.2 h2.1 h2.2 w
    rwa [(gz_of ⟨ct,c.2.2⟩ _).1,(gz_of ⟨ct,c.2.2⟩ _).2,(nz_no cd).1,(nz_no cd).2] at k
  ·refine ⟨0,0,0,1,by decide,z,z,z,on_mot_sub (v 0) (v 1) (v 2) t 0 1 h0 h1 h2 ht c rfl fun w=>?_⟩
   have k:=sub_fix t (v 2) ht.1 ht.2 h2.1 h2.2 w
   rwa [(gz_no (fun h=>ct h.1) _).1,(gz_no (fun h=>ct h.1) _).2] at k
 ·exact ⟨0,0,0,1,by decide,z,z,z,on_mot_bad (v 0) (v 1) (v 2) t h0 h1 h2 ht c⟩
theorem mot_yes {v:Nat→Int} {t:Int} (h:mok v t) (w:World):Calls Tryz.prog 68 #[tv (v 0) (v 1) (v 2),.int .i64 t] w (RetV (.tuple #[tv (mgo v t 0) (mgo v t 1) (mgo v t 2),.int .i64 0]) w):=by
 have k:=on_mot_ok (v 0) (v 1) (v 2) t (fit_i64 h.1.1) (fit_i64 h.1.2.1) (fit_i64 h.1.2.2) (fit_i64 h.2.1) h.1 h.2.1 h.2.2.1 w
 rwa [(nz_of h.2.2.2.1).1,(nz_of h.2.2.2.1).2,(nz_of h.2.2.2.2).1,(nz_of h.2.2.2.2).2,(oz_yes _).1,(oz_yes _).1,(oz_yes _).1,(oz_yes 0).2] at k
structure CH (w:World) (b fb gb:Nat) (hl:Value) (x:Nat→Int) (C:Cn):Prop where
 c:CB w b fb gb hl x C.m C.s C.v C.u
 f:FR w fb x C.l C.r
 g:GR w gb C.g (bd (x 30)) (x 6) (x 7)
 h:HS w hl C.n C.z
 nf:fb≠b
 ng:gb≠b
 nfg:fb≠gb
 nh:∀ k,hl.ownBlock=some k→k≠b∧k≠fb∧k≠gb
 up:∀ k,Ow b fb gb hl k→Up k
section
variable {w w':World} {b fb gb:Nat} {hl:Value} {x:Nat→Int} {C:Cn}
theorem ch_chs {S:Nat→Prop} (h:CH w b fb gb hl x C) (k:Chs S w w') (hn:∀ q,Ow b fb gb hl q→¬ S q):CH w' b fb gb hl x C :=
 ⟨chs_row k (hn _ (Or.inl rfl)) h.c,chs_row k (hn _ (Or.inr (Or.inl rfl))) h.f,chs_row k (hn _ (Or.inr (Or.inr (Or.inl rfl)))) h.g,hs_chs k (fun q hq=>hn q (Or.inr (Or.inr (Or.inr hq)))) h.h,h.nf,h.ng,h.nfg,h.nh,h.up⟩
theorem ch_keep (h:CH w b fb gb hl x C) (k:Below w.heap.size w w'):CH w' b fb gb hl x C:=ch_chs (S:=fun _=>False) h (chs_below k) (fun _ _ q=>q)
theorem ch_own (h:CH w b fb gb hl x C) (q:Nat) (hq:Ow b fb gb hl q):q<w.heap.size:=by
 rcases hq with rfl | rfl | rfl | hq
 ·exact cb_lt h.c
 ·exact (Array.getElem?_eq_some_iff.1 h.f).1
 ·exact (Array.getElem?_eq_some_iff.1 h.g).1
 ·exact hs_lt h.h q hq
theorem ch_but (h:CH w b fb gb hl x C) (k:But b w w') {D:Cn} (hc:CB w' b fb gb hl x D.m D.s D.v D.u) (e:D.l=C.l∧D.r=C.r∧D.g=C.g∧D.n=C.n∧D.z=C.z):CH w' b fb gb hl x D:=by
 obtain ⟨e0,e1,e2,e3,e4⟩:=e
 exact ⟨hc,by rw [e0,e1]; exact but_row k h.nf h.f,by rw [e2]; exact but_row k h.ng h.g,by rw [e3,e4]; exact hs_but k (fun q hq=>(h.nh q hq).1) h.h,h.nf,h.ng,h.nfg,h.nh,h.up⟩
end
structure Okc (C:Cn):Prop where
 v:∀ i,i<3→I64 (C.v i)
 u:I6 C.u
 l:I64 C.l
 r:0≤C.r
 g:GK C.g
 n:C.n≤15
 z:∀ k,k<C.n→gd (C.z k)=true
 s:0≤C.s
theorem add_x {x:Nat→Int} {b:Nat} {l r:Int} {w:World} (q:Bool) (h:FR w b x l r):Calls Tryz.prog 71 #[.pointer (some ⟨b,0,none⟩),.bool q] w (RetV (tv (adn x q 0) (adn x q 1) (adn x q 2)) w):=by
 cases q
 ·exact add_not b x l r w h
 ·exact add_held b x l r w h
theorem adn_i64 {x:Nat→Int} (hx:C64 x) (q:Bool):∀ i,i<3→I64 (adn x q i):=by
 cases q
 ·exact three_i (hx 0 (by decide)) (hx 1 (by decide)) (hx 2 (by decide))
 ·exact three_i (hx 3 (by decide)) (hx 4 (by decide)) (hx 5 (by decide))
theorem tamed_x {x:Nat→Int} (c:CN x) {b fb gb:Nat} {hl:Value} {m s:Int} {a u p:Nat→Int} (hp:I6 p) (w:World) (h:CB w b fb gb hl x m s a u) (k:PL w) :
  Calls Tryz.prog 72 #[.pointer (some ⟨b,0,none⟩),sv p] w (RetV (sv (tmd x p)) w) :=
 tamed_go b fb gb hl x m s a u p (tmd x p) (fun w k=>tame_x c hp w k) w h k
theorem kept_x {x:Nat→Int} (hx:C64 x) {y:Nat→Int} (hy:∀ i,i<3→I64 (y i)) (w:World):Calls Tryz.prog 69 #[tv (y 0) (y 1) (y 2),tv (x 17) (x 18) (x 19)] w (RetV (tv (cl3 x y 0) (cl3 x y 1) (cl3 x y 2)) w) :=
 kept_mot _ _ _ _ _ _ (hy 0 (by decide)) (hy 1 (by decide)) (hy 2 (by decide)) (hx 17 (by decide)) (hx 18 (by decide)) (hx 19 (by decide)) w
theorem moveOn_any {b fb gb:Nat} {hl:Value} {x:Nat→Int} {C:Cn} (hx:C64 x) (c:CN x) (k:Okc C) (t:Int) (ht:I64 t) (q:Bool) (w:World) (H:CH w b fb gb hl x C) (T:Tb3 w) :
  Calls Tryz.prog 25 #[.pointer (some ⟨b,0,none⟩),.int .i64 t,.bool q] w fun e w'=>e=.returned (.tuple #[])∧CH w' b fb gb hl x (mov x C t q)∧But b w w':=by
 have ia:=adn_i64 hx q
 have hU:Hid ((one C.u (adn x q 0) (adn x q 1) (adn x q 2)=0→spd x C.u q=tmd x (onz C.u (adn x q 0) (adn x q 1) (adn x q 2)))∧(¬ one C.u (adn x q 0) (adn x q 1) (adn x q 2)=0→spd x C.u q=C.u)):=Lib.hid ⟨fun h=>if_pos h,fun h=>if_neg h⟩
 have go:=fun (e:Int) (z kk a':Nat→Int) hA cM cK=>moveOn_go b fb gb hl x C.m C.s C.v C.u C.l C.r t e (one C.u (adn x q 0) (adn x q 1) (adn x q 2)) q z kk (adn x q) (onz C.u (adn x q 0) (adn x q 1) (adn x q 2)) (tmd x (onz C.u (adn x q 0) (adn x q 1) (adn x q 2))) a' (spd x C.u q) hA hU cM cK (fun w h=>add_x q h)
  (fun w hl hp=>on_spr C.u _ _ _ k.u (ia 0 (by decide)) (ia 1 (by decide)) (ia 2 (by decide)) w hl hp) (fun a w h hp=>tamed_x c (onz_i6 _ _ _ _) w h hp) w H.c H.f T H.nf (H.up b (Or.inl rfl))
 by_cases m:mok C.v t
 ·have e:mvd x C.v t=cl3 x (mgo C.v t):=if_pos m
  have im:∀ i,i<3→I64 (mgo C.v t i):=three_i (fit_i64 m.2.2.2.1) (fit_i64 m.2.2.2.2) (fit_i64 m.1.2.2)
  refine (go 0 (mgo C.v t) (cl3 x (mgo C.v t)) (mvd x C.v t) (Lib.hid ⟨fun _=>e,fun h=>absurd rfl h⟩) (fun w=>mot_yes m w) (fun w=>kept_x hx im w)).mono ?_
  rintro e_ w' ⟨rfl,h,hb⟩
  exact ⟨rfl,ch_but H hb h ⟨rfl,rfl,rfl,rfl,rfl⟩,hb⟩
 ·have e:mvd x C.v t=C.v:=if_neg m
  obtain ⟨y0,y1,y2,f,hf,i0,i1,i2,cM⟩:=mot_no k.v ht m
  refine (go f (tri y0 y1 y2) (cl3 x (tri y0 y1 y2)) (mvd x C.v t) (Lib.hid ⟨fun h=>absurd h hf,fun _=>e⟩) cM (fun w=>kept_x hx (y:=tri y0 y1 y2) (three_i i0 i1 i2) w)).mono ?_
  rintro e_ w' ⟨rfl,h,hb⟩
  exact ⟨rfl,ch_but H hb h ⟨rfl,rfl,rfl,rfl,rfl⟩,hb⟩
theorem lk_fits {x0 x1 x2:Int} {m:Nat→Int} {a n:Int}:FitP (lky x0 x1 x2 m a n)∧FitP (lks x0 x1 x2 m a n):=by
 have z:FitP 0:=by decide
 unfold lky lks
 by_cases h:lke x0 x1 x2 m a n=0
 ·rw [if_pos h,if_pos h]
  unfold lke at h
  by_cases b:lkb x0 x1 x2 m a n=true
  ·rw [if_pos b] at h
   by_cases f:lkf x0 m a n=true
   ·unfold lkf at f
    rw [Bool.and_eq_true] at f
    have dec:∀ {q:Int},fitb q=true→FitP q:=fun {q} hq=>Classical.byContradiction fun c=>by rw [fitb_no c] at hq; cases hq
    exact ⟨dec f.1,dec f.2⟩
   ·rw [if_neg f] at h; cases h
  ·rw [if_neg b] at h; cases h
 ·rw [if_neg h,if_neg h]
  exact ⟨z,z⟩
theorem bz_i64 (m:Nat→Int) (s:Int):∀ i,i<3→I64 (bz m s i):=by
 by_cases k:BK m s
 ·by_cases f:BF m s
  ·rw [(b_ok k f).1]
   exact three_i (fit_i64 f.1) (fit_i64 f.2.1) (fit_i64 f.2.2)
  ·rw [(b_wide k f).1]
   exact fun _ _=>(show I64 0 by decide)
 ·rw [(b_wrong k).1]
  exact fun _ _=>(show I64 0 by decide)
theorem tK_i64 {x:Nat→Int} (hx:C64 x) (C:Cn) (p:Int) (sh:Bool):∀ i,i<3→I64 (tK x C p sh i):=by
 have G:∀ (y:Int) (i:Nat),I64 y→i<3→I64 (goz sh C.u (tS x C p) (x 21) (x 22) (x 23) y i):=fun y i hy hi=>by
  unfold goz
  split
  ·split
   ·exact hy
   ·exact (show I64 0 by decide)
  ·exact bz_i64 _ _ i hi
 exact three_i (G _ _ (hx 21 (by decide)) (by decide)) (G _ _ (hx 22 (by decide)) (by decide)) (G _ _ (hx 23 (by decide)) (by decide))
theorem jsz_i64 (v k:Nat→Int) (y:Int):∀ i,i<3→I64 (jsz v k y i):=by
 by_cases h:JSK v k y
 ·by_cases f:JSF v k y
  ·rw [(js_ok h f).1]
   exact three_i (fit_i64 f.2.1) (fit_i64 f.2.2.1) (fit_i64 f.2.2.2)
  ·rw [(js_far h f).1]
   exact fun _ _=>(show I64 0 by decide)
 ·rw [(js_bad h).1]
  exact fun _ _=>(show I64 0 by decide)
theorem jy_i64 (m k:Nat→Int) (s:Int) (i j g:Nat):I64 (jy m k s i j g):=by
 unfold jy
 split
 ·exact fit_i64 (nz_fit _)
 ·exact (show I64 0 by decide)
theorem dbv_i6 (m k:Nat→Int) (s:Int):I6 (dbv m k s):=by
 by_cases h:DK m k s
 ·by_cases a:DA m k s
  ·rw [(d_ok h a).1]
   exact six (P:=fun i=>I64 (dby m k s i)) (jy_i64 _ _ _ _ _ _) (jy_i64 _ _ _ _ _ _) (jy_i64 _ _ _ _ _ _) (jy_i64 _ _ _ _ _ _) (jy_i64 _ _ _ _ _ _) (jy_i64 _ _ _ _ _ _)
  ·rw [(d_far h a).1]
   exact fun _ _=>(show I64 0 by decide)
 ·rw [(d_wrong h).1]
  exact fun _ _=>(show I64 0 by decide)
theorem mz_i64 {a b:Int} (ha:I64 a) (hb:I64 b):I64 (mz a b):=by
 unfold mz
 split
 ·exact hb
 ·exact ha
theorem tL_i64 (x:Nat→Int) {C:Cn} (hg:GK C.g) {p:Int} (g:gd p=true):I64 (tL x C p):=by
 have h:=al_range g
 have ip:I64 (al p):=⟨by omega,by omega⟩
 unfold tL
 by_cases n:nr C.g (bd (x 30)) p=true
 ·have cg:gd C.g=true:=gk_good hg (fun e=>by rw [e] at n; simp [nr] at n)
  have h2:=al_range cg
  rw [(l_near (n:=x 6) (r:=x 7) g n).1]
  exact mz_i64 ip ⟨by omega,by omega⟩
 ·rw [(l_far (n:=x 6) (r:=x 7) g (by simpa using n)).1]
  exact ip
theorem tN_i64 {x:Nat→Int} (hx:C64 x) (C:Cn) {p:Int} (g:gd p=true):I64 (tN x C p):=by
 unfold tN
 by_cases n:nr C.g (bd (x 30)) p=true
 ·rw [(l_near g n).2]; exact hx 7 (by decide)
 ·rw [(l_far g (by simpa using n)).2]; exact hx 6 (by decide)
theorem take_any {b fb gb:Nat} {hl:Value} {x:Nat→Int} {C:Cn} (hx:C64 x) (c:CN x) (k:Okc C) {p:Int} (g:gd p=true) (sh:Bool) (w:World) (H:CH w b fb gb hl x C) (T:Tb3 w) :
  Calls Tryz.prog 26 #[.pointer (some ⟨b,0,none⟩),.int .i64 p,.bool sh] w fun e w'=>e=.returned (.tuple #[.int .i64 (tke x C p sh).2,.bool (tG x C p)])∧CH w' b fb gb hl x (tke x C p sh).1∧But b w w':=by
 have iY:=fit_i64 (lk_fits (x0:=C.v 0) (x1:=C.v 1) (x2:=C.v 2) (m:=C.u) (a:=tL x C p) (n:=tN x C p)).1
 have iS:=fit_i64 (lk_fits (x0:=C.v 0) (x1:=C.v 1) (x2:=C.v 2) (m:=C.u) (a:=tL x C p) (n:=tN x C p)).2
 have iK:=tK_i64 hx C p sh
 have br:=bd_range (hx 30 (by decide)).2
 have no:¬ tak x C p sh→(tke x C p sh).2=2∧(tke x C p sh).1.v=C.v∧(tke x C p sh).1.u=C.u:=fun h=>by
  rw [show tke x C p sh=(C,2) from if_neg h]
  exact ⟨rfl,rfl,rfl⟩
 refine (take_go b fb gb hl x C.m C.s C.v C.u C.g (bd (x 30)) (x 6) (x 7) p (tL x C p) (tN x C p) (tY x C p) (tS x C p) (tE x C p) (goe sh C.u (tS x C p) (x 21) (x 22) (x 23)) (jse C.v (tK x C p sh) (tY x C p)) (dbe C.u (tK x C p sh) (tS x C p)) (tke x C p sh).2
  sh (tG x C p) (pas (tY x C p) (tS x C p) (x 20)) (tK x C p sh) (jsz C.v (tK x C p sh) (tY x C p)) (dbv C.u (tK x C p sh) (tS x C p)) (cl3 x (jsz C.v (tK x C p sh) (tY x C p))) (tmd x (dbv C.u (tK x C p sh) (tS x C p))) (tke x C p sh).1.v (tke x C p sh).1.u
  (fun h1 h2 h3 h4 h5=>by rw [show tke x C p sh=(tkn x C p sh,1) from if_pos ⟨h1,h2,h3,h4,h5⟩]; exact ⟨rfl,rfl,rfl⟩)
  (fun h=>no fun q=>h q.1) (fun h=>no fun q=>h q.2.1) (fun h=>no fun q=>h q.2.2.1) (fun h=>no fun q=>h q.2.2.2.1) (fun h=>no fun q=>h q.2.2.2.2)
  (fun w ht hg=>by have q:=Level_any gb C.g (bd (x 30)) (x 6) (x 7) p k.g br.1 br.2 w ht hg; rwa [ae_ok g] at q)
  (fun w hp=>lookg_any (C.v 0) (C.v 1) (C.v 2) C.u (tL x C p) (tN x C p) (k.v 0 (by decide)) (k.v 1 (by decide)) (k.v 2 (by decide)) k.u (tL_i64 x k.g g) (tN_i64 hx C g) w hp)
  (fun w=>pass_any _ _ _ iY iS w)
  (fun w hp=>of_all C.u (tS x C p) sh (x 21) (x 22) (x 23) k.u iS (hx 21 (by decide)) (hx 22 (by decide)) (hx 23 (by decide)) w hp)
  (fun w=>state_any C.v (tK x C p sh) (tY x C p) (k.v 0 (by decide)) (k.v 1 (by decide)) (k.v 2 (by decide)) (iK 0 (by decide)) (iK 1 (by decide)) (iK 2 (by decide)) iY w)
  (fun w hp=>doubt_any C.u (tK x C p sh) (tS x C p) k.u (iK 0 (by decide)) (iK 1 (by decide)) (iK 2 (by decide)) iS w hp)
  (fun w=>kept_x hx (jsz_i64 _ _ _) w) (fun w h hp=>tamed_x c (dbv_i6 _ _ _) w h hp) w H.c H.g T (H.up b (Or.inl rfl))).mono ?_
 rintro e_ w' ⟨rfl,h,hb⟩
 refine ⟨rfl,ch_but H hb ?_ ?_,hb⟩
 ·by_cases q:tak x C p sh
  ·rw [show tke x C p sh=(tkn x C p sh,1) from if_pos q] at h ⊢
   exact h
  ·rw [show tke x C p sh=(C,2) from if_neg q] at h ⊢
   exact h
 ·by_cases q:tak x C p sh
  ·rw [show tke x C p sh=(tkn x C p sh,1) from if_pos q]
   exact ⟨rfl,rfl,rfl,rfl,rfl⟩
  ·rw [show tke x C p sh=(C,2) from if_neg q]
   exact ⟨rfl,rfl,rfl,rfl,rfl⟩
theorem ow_new {w:World} {b fb gb:Nat} {hl h1:Value} {x:Nat→Int} {C:Cn} (H:CH w b fb gb hl x C) (q:∀ k,h1.ownBlock=some k→hl.ownBlock=some k∨w.heap.size≤k) :
  (∀ k,h1.ownBlock=some k→k≠b∧k≠fb∧k≠gb)∧∀ k,Ow b fb gb h1 k→Up k:=by
 have lb:=ch_own H b (Or.inl rfl)
 have lf:=ch_own H fb (Or.inr (Or.inl rfl))
 have lg:=ch_own H gb (Or.inr (Or.inr (Or.inl rfl)))
 refine ⟨fun k hk=>?_,fun k hk=>?_⟩
 ·rcases q k hk with h | h
  ·exact H.nh k h
  ·exact ⟨by omega,by omega,by omega⟩
 ·rcases hk with rfl | rfl | rfl | hk
  ·exact H.up _ (Or.inl rfl)
  ·exact H.up _ (Or.inr (Or.inl rfl))
  ·exact H.up _ (Or.inr (Or.inr (Or.inl rfl)))
  ·rcases q k hk with h | h
   ·exact H.up k (Or.inr (Or.inr (Or.inr h)))
   ·exact up_le (H.up b (Or.inl rfl)) (by omega)
theorem gather_any {b fb gb:Nat} {hl:Value} {x:Nat→Int} {C:Cn} (k:Okc C) (p:Int) (w:World) (H:CH w b fb gb hl x C) (T:Tb3 w) :
  Calls Tryz.prog 24 #[.pointer (some ⟨b,0,none⟩),.int .i64 p] w fun e w'=>e=.returned (.int .i64 (gat x C p).2)∧∃ h1,CH w' b fb gb h1 x (gat x C p).1∧(∀ k,h1.ownBlock=some k→hl.ownBlock=some k∨w.heap.size≤k)∧Chs (Ow b fb gb hl) w w':=by
 have nb:∀ k,hl.ownBlock=some k→k≠b∧k≠gb:=fun k hk=>⟨(H.nh k hk).1,(H.nh k hk).2.2⟩
 have nu:∀ k,hl.ownBlock=some k→Up k:=fun k hk=>H.up k (Or.inr (Or.inr (Or.inr hk)))
 have nf:¬ Og b gb hl fb:=fun h=>by
  rcases h with h | h | h
  ·exact H.nf h
  ·exact H.nfg h
  ·exact (H.nh fb h).2.1 rfl
 have og:∀ k,Og b gb hl k→Ow b fb gb hl k:=fun k h=>by
  rcases h with h | h | h
  ·exact Or.inl h
  ·exact Or.inr (Or.inr (Or.inl h))
  ·exact Or.inr (Or.inr (Or.inr h))
 by_cases n:C.n<15
 ·rw [show gat x C p=({ C with n:=C.n+1,z:=more C.z C.n p },2) from if_pos (by omega)]
  refine (gather_lo b fb gb hl x C.m C.s C.v C.u C.n C.z p C.g (bd (x 30)) (x 6) (x 7) n w H.c H.h H.g T nb nu H.ng (H.up b (Or.inl rfl))).mono ?_
  rintro e_ w' ⟨rfl,h1,c1,s1,g1,q1,B⟩
  obtain ⟨a1,a2⟩:=ow_new H q1
  exact ⟨rfl,h1,⟨c1,chs_row B nf H.f,g1,s1,H.nf,H.ng,H.nfg,a1,a2⟩,q1,chs_less (fun k _=>og k) B⟩
 ·rw [show gat x C p=(ent x C p,0) from if_neg (by omega)]
  have e15:C.n=15:=by have:=k.n; omega
  refine (gather_hi b fb gb hl x C.m C.s C.v C.u C.n C.z p C.g (bd (x 30)) (x 6) (x 7) _ e15 rfl w H.c H.h H.g T nb nu H.ng (H.up b (Or.inl rfl))).mono ?_
  rintro e_ w' ⟨rfl,h1,c1,s1,g1,q1,B⟩
  obtain ⟨a1,a2⟩:=ow_new H q1
  exact ⟨rfl,h1,⟨c1,chs_row B nf H.f,g1,s1,H.nf,H.ng,H.nfg,a1,a2⟩,q1,chs_less (fun k _=>og k) B⟩
theorem nxt_s {m s e co ou:Int} (hs:0≤s):0≤(nxt (m,s) e co ou).2:=by
 unfold nxt msd
 dsimp only
 repeat' split
 all_goals first | exact hs | (show (0:Int)≤0; decide) | (show 0≤s+1; omega)
theorem turnc_any {b fb gb:Nat} {hl:Value} {x:Nat→Int} {C:Cn} (hx:C64 x) (hs:0≤C.s) (e:Int) (w:World) (H:CH w b fb gb hl x C) :
  Calls Tryz.prog 27 #[.pointer (some ⟨b,0,none⟩),.int .i64 e] w fun e_ w'=>e_=.returned (.tuple #[])∧∃ h1,CH w' b fb gb h1 x (trn x C e)∧(∀ k,h1.ownBlock=some k→hl.ownBlock=some k)∧But b w w':=by
 have i29:=hx 29 (by decide)
 have go:=fun (h1:Value) hY hX=>turn_go b fb gb hl x C.m C.s C.v C.u e (clk2 x C e).1 (clk2 x C e).2 h1 hY hX (fun w=>on_clock C.m C.s e (x 28) (x 29) (by omega) i29.2 w) w H.c
 by_cases c:e=0∨e=3∨(sks (clk2 x C e).1=true∧sks C.m=false)
 ·have ec:trn x C e = { C with m:=(clk2 x C e).1,s:=(clk2 x C e).2,n:=0 }:=by unfold trn; rw [if_pos c]
  rw [ec]
  refine (go (.slice none 0 0) (fun _=>rfl) (fun h=>absurd c h)).mono ?_
  rintro e_ w' ⟨rfl,h,hb⟩
  refine ⟨rfl,_,⟨h,but_row hb H.nf H.f,but_row hb H.ng H.g,hs_nil,H.nf,H.ng,H.nfg,fun k hk=>(by cases hk),fun k hk=>?_⟩,fun k hk=>(by cases hk),hb⟩
  rcases hk with rfl | rfl | rfl | hk
  ·exact H.up _ (Or.inl rfl)
  ·exact H.up _ (Or.inr (Or.inl rfl))
  ·exact H.up _ (Or.inr (Or.inr (Or.inl rfl)))
  ·cases hk
 ·have ec:trn x C e = { C with m:=(clk2 x C e).1,s:=(clk2 x C e).2 }:=by unfold trn; rw [if_neg c]
  rw [ec]
  refine (go hl (fun h=>absurd h c) (fun _=>rfl)).mono ?_
  rintro e_ w' ⟨rfl,h,hb⟩
  exact ⟨rfl,hl,ch_but (D:={ C with m:=(clk2 x C e).1,s:=(clk2 x C e).2 }) H hb h ⟨rfl,rfl,rfl,rfl,rfl⟩,fun _ hk=>hk,hb⟩
abbrev tdw (t:Td):Value:=tdv t.m t.vd t.ac t.rf t.hl t.gr t.al t.sp t.bi
theorem tell_any {b fb gb:Nat} {hl:Value} {x:Nat→Int} {C:Cn} (hv:∀ i,i<3→I64 (C.v i)) (m0:Int) (vd ac rf ho gr:Bool) (w:World) (H:CH w b fb gb hl x C) :
  Calls Tryz.prog 28 #[.pointer (some ⟨b,0,none⟩),tdv m0 vd ac rf ho gr 0 0 0] w (RetV (tdw (tel C ac rf ho gr)) w):=by
 refine tell_go b fb gb hl x C.m C.s C.v C.u hv m0 (tel C ac rf ho gr).al (tel C ac rf ho gr).sp (tel C ac rf ho gr).bi vd ac rf ho gr (fun h=>?_) (fun h=>?_) w H.c
 ·simp [tel,h]
 ·simp [tel,h]
end Go.Proofs.YthnofhjgfhapiaaGreatDoor

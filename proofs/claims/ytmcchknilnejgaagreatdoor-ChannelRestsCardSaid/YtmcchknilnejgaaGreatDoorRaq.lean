import Derived.Deep.QuietTactic
import Derived.BigQuiet
import Derived.Laws.AppendOwn
import Derived.OwnWalk
import Derived.Lib.SmallJoins
import Derived.StillTactics
import Derived.Laws.Pointers
import Derived.Deep.RegionHeld3
import Derived.RowKit3
import Derived.Lib.Hide
import Derived.Lib.QuietBelow
import Derived.Laws.Bits64b
import Derived.Test.YtmcchknilnejgaaGreatDoorProg
import Derived.Shelf.Spec.BitsCarry
import Derived.Shelf.Bits.Mul64
import Derived.WalkKit
import Derived.WalkSpells
import Derived.Orders
import Derived.RegionTactic
import Derived.Below
import Derived.Test.YtmcchknilnejgaaGreatDoorRaf
import Derived.Test.YtmcchknilnejgaaGreatDoorKag
import Derived.Test.YtmcchknilnejgaaGreatDoorRae
import Derived.Test.YtmcchknilnejgaaGreatDoorRad
import Derived.Test.YtmcchknilnejgaaGreatDoorRac
import Derived.Test.YtmcchknilnejgaaGreatDoorKab
import Derived.Test.YtmcchknilnejgaaGreatDoorKaa
import Derived.Test.YtmcchknilnejgaaGreatDoorKae
import Derived.Deep.LoopGhost
import Derived.Test.YtmcchknilnejgaaGreatDoorRag
import Derived.Test.YtmcchknilnejgaaGreatDoorRap
import Derived.Test.YtmcchknilnejgaaGreatDoorKan
import Derived.Test.YtmcchknilnejgaaGreatDoorKak
import Derived.Test.YtmcchknilnejgaaGreatDoorKah
import Derived.WalkMore
import Derived.ScopeJumps
import Derived.Test.YtmcchknilnejgaaGreatDoorKad
import Derived.Test.YtmcchknilnejgaaGreatDoorKac
import Derived.Test.YtmcchknilnejgaaGreatDoorRaa
import Derived.Test.YtmcchknilnejgaaGreatDoorKaf
import Derived.Test.YtmcchknilnejgaaGreatDoorKap
set_option maxHeartbeats 4000000
set_option maxRecDepth 10000
namespace Go.Proofs.YtmcchknilnejgaaGreatDoor
open Go.RowKit Go.Shelf Go.Joins
def qd (x y:Int):Int:=if y<0 then -x / -y else x / y
theorem div_big (va vb:Value) (x y:Int) (w:World) (hx:BG w va x) (hy:BG w vb y) (y0:y≠0) (tx:Tiny x) (ty:Tiny y) :
  Calls Tryz.prog 60 #[va,vb] w (RetB (qd x y) w):=by
 obtain ⟨n1,aa,ka,ca,rfl⟩:=bg_form hx
 obtain ⟨n2,ab,b,cb,e,_,db,nb,lb,hz,_,_⟩:=bg_open hy
 subst e
 have ng:=(sgn_neg db nb lb).1
 rw [← hz] at ng
 clear db nb lb hz
 generalize b.length=kb at *
 cases n2
 ·have yp:¬ y<0:=fun h=>by have:=ng.1 h; cases this
  unfold qd
  rw [if_neg yp]
  go_enter Tryz.func60,Tryz.ntmps60
  go_wp2_with fail
  have B1:Below w.heap.size w (((w.alloc (Obj.cells #[.bool n1,.slice aa ka ca] 122)).alloc (Obj.cells #[.bool false,.slice ab kb cb] 122)).alloc (Obj.cells #[.bool false,.slice none 0 0] 122)):=b_alloc (b_alloc (b_alloc (Below.refl _ _)))
  have k1:BC (((w.alloc (Obj.cells #[.bool n1,.slice aa ka ca] 122)).alloc (Obj.cells #[.bool false,.slice ab kb cb] 122)).alloc (Obj.cells #[.bool false,.slice none 0 0] 122)) w.heap.size n1 (.slice aa ka ca):=by simp [BC,go_sem,World.cell?_alloc_past]
  have k2:BC (((w.alloc (Obj.cells #[.bool n1,.slice aa ka ca] 122)).alloc (Obj.cells #[.bool false,.slice ab kb cb] 122)).alloc (Obj.cells #[.bool false,.slice none 0 0] 122)) (w.heap.size+1) false (.slice ab kb cb):=by simp [BC,go_sem,World.cell?_alloc_past]
  have r1:BV (((w.alloc (Obj.cells #[.bool n1,.slice aa ka ca] 122)).alloc (Obj.cells #[.bool false,.slice ab kb cb] 122)).alloc (Obj.cells #[.bool false,.slice none 0 0] 122)) (w.heap.size+1+1):=bv_new _ _ _ _ (by simp)
  have g1:=bg_keep hx B1
  have g2:=bg_keep hy B1
  clear hx hy
  refine (down_big _ _ x y _ g1 g2 (by omega) tx ty).mono ?_
  rintro e w2 ⟨bv,rfl,hR,hb2⟩
  obtain ⟨n9,a9,k9,c9,rfl⟩:=bg_form hR
  have r2:=bv_keep hb2 r1
  obtain ⟨n',a',k',c'',r3,f3⟩:=bv_use r2
  have B3:Below w.heap.size w w2:=b_trans B1 hb2
  have HB:=Lib.hid (And.intro r2 hR)
  clear hb2 hR r2
  go_wp2
  exact bodyPost_ret (v:=.agg #[.bool n9,.slice a9 k9 c9]) (by simp [results,Tryz.results60,go_sem,r3]) rfl ⟨_,rfl,bg_store HB.out.1 HB.out.2,b_set (b_set B3 (by simp; omega)) (by simp; omega)⟩
 ·have yn:y<0:=ng.2 rfl
  unfold qd
  rw [if_pos yn]
  go_enter Tryz.func60,Tryz.ntmps60
  go_wp2_with fail
  have B1:Below w.heap.size w (((w.alloc (Obj.cells #[.bool n1,.slice aa ka ca] 122)).alloc (Obj.cells #[.bool true,.slice ab kb cb] 122)).alloc (Obj.cells #[.bool false,.slice none 0 0] 122)):=b_alloc (b_alloc (b_alloc (Below.refl _ _)))
  have k1:BC (((w.alloc (Obj.cells #[.bool n1,.slice aa ka ca] 122)).alloc (Obj.cells #[.bool true,.slice ab kb cb] 122)).alloc (Obj.cells #[.bool false,.slice none 0 0] 122)) w.heap.size n1 (.slice aa ka ca):=by simp [BC,go_sem,World.cell?_alloc_past]
  have k2:BC (((w.alloc (Obj.cells #[.bool n1,.slice aa ka ca] 122)).alloc (Obj.cells #[.bool true,.slice ab kb cb] 122)).alloc (Obj.cells #[.bool false,.slice none 0 0] 122)) (w.heap.size+1) true (.slice ab kb cb):=by simp [BC,go_sem,World.cell?_alloc_past]
  have r1:BV (((w.alloc (Obj.cells #[.bool n1,.slice aa ka ca] 122)).alloc (Obj.cells #[.bool true,.slice ab kb cb] 122)).alloc (Obj.cells #[.bool false,.slice none 0 0] 122)) (w.heap.size+1+1):=bv_new _ _ _ _ (by simp)
  have g1:=bg_keep hx B1
  have g2:=bg_keep hy B1
  clear hx hy
  generalize (((w.alloc (Obj.cells #[.bool n1,.slice aa ka ca] 122)).alloc (Obj.cells #[.bool true,.slice ab kb cb] 122)).alloc (Obj.cells #[.bool false,.slice none 0 0] 122))=W0 at *
  refine region_each [7,8,9,10,11] (fun i X_ U_=>match i with | 0=>X_=.agg #[.bool n1,.slice aa ka ca] | 1=>BG U_ X_ (-x) | 2=>X_=.agg #[.bool true,.slice ab kb cb] | 3=>BG U_ X_ (-y) | 4=>BG U_ X_ (-x / -y) | _=>True) (fun i=>false) (by kernel_rfl) (by kernel_rfl) (by kernel_rfl) (by kernel_rfl) (by kernel_rfl) ?_ ?_ ?_ ?_
  ·intro i x w w' hi h hb
   match i,hi with
   | 0,_=>exact h
   | 1,_=>exact bg_keep h hb
   | 2,_=>exact h
   | 3,_=>exact bg_keep h hb
   | 4,_=>exact bg_keep h hb
   | k+5,hk=>exact absurd hk (by simp)
  ·intro i x w hi ha h
   cases ha
  ·intro i hi v f w' hb hv hB hd
   match i,hi with
   | 0,_ =>
    have b2:f.tmps[2]?=some (.pointer (some ⟨w.heap.size,0,none⟩)):=(hb 2 (by decide)).trans rfl
    clear hb hv hd
    have c:=bc_keep hB k1
    refine wpOp_step rfl (fun K hK=>?_)
    go_simp
    exact hK _ _ ⟨_,rfl,Below.refl _ _,rfl,fun h=>absurd h (by decide)⟩
   | 1,_ =>
    have h0:(v 0)=.agg #[.bool n1,.slice aa ka ca]:=hd 0 (by kernel_rfl)
    have d0:f.tmps[7]?=some (.agg #[.bool n1,.slice aa ka ca]):=(hv 0 7 rfl).trans (congrArg some h0)
    clear h0
    clear hb hv hd
    refine wpOp_step rfl (fun K hK=>?_)
    go_simp
    refine (turn_any _ x _ (bg_keep g1 hB)).mono ?_
    rintro e w5 ⟨v5,rfl,h5,hb5⟩
    exact hK _ _ ⟨_,rfl,hb5,h5,fun h=>absurd h (by decide)⟩
   | 2,_ =>
    have b3:f.tmps[3]?=some (.pointer (some ⟨w.heap.size+1,0,none⟩)):=(hb 3 (by decide)).trans rfl
    clear hb hv hd
    have c:=bc_keep hB k2
    refine wpOp_step rfl (fun K hK=>?_)
    go_simp
    exact hK _ _ ⟨_,rfl,Below.refl _ _,rfl,fun h=>absurd h (by decide)⟩
   | 3,_ =>
    have h2:(v 2)=.agg #[.bool true,.slice ab kb cb]:=hd 2 (by kernel_rfl)
    have d2:f.tmps[9]?=some (.agg #[.bool true,.slice ab kb cb]):=(hv 2 9 rfl).trans (congrArg some h2)
    clear h2
    clear hb hv hd
    refine wpOp_step rfl (fun K hK=>?_)
    go_simp
    refine (turn_any _ y _ (bg_keep g2 hB)).mono ?_
    rintro e w5 ⟨v5,rfl,h5,hb5⟩
    exact hK _ _ ⟨_,rfl,hb5,h5,fun h=>absurd h (by decide)⟩
   | 4,_ =>
    have h1:BG w' (v 1) (-x):=hd 1 (by kernel_rfl)
    have d1:f.tmps[8]?=some (v 1):=hv 1 8 rfl
    have h3:BG w' (v 3) (-y):=hd 3 (by kernel_rfl)
    have d3:f.tmps[10]?=some (v 3):=hv 3 10 rfl
    clear hb hv hd
    refine wpOp_step rfl (fun K hK=>?_)
    go_simp
    refine (down_big _ _ (-x) (-y) _ h1 h3 (by omega) (tiny_neg tx) (tiny_neg ty)).mono ?_
    rintro e w5 ⟨v5,rfl,h5,hb5⟩
    exact hK _ _ ⟨_,rfl,hb5,h5,fun h=>absurd h (by decide)⟩
   | k+5,hk=>exact absurd hk (by simp)
  ·intro v w' hB hF hD
   have F0:(v 0)=.agg #[.bool n1,.slice aa ka ca]:=hF 0 (by simp)
   have F1:BG w' (v 1) (-x):=hF 1 (by simp)
   have F2:(v 2)=.agg #[.bool true,.slice ab kb cb]:=hF 2 (by simp)
   have F3:BG w' (v 3) (-y):=hF 3 (by simp)
   have F4:BG w' (v 4) (-x / -y):=hF 4 (by simp)
   clear hF
   obtain ⟨n1_,a1_,k1_,c1_,e1⟩:=bg_form F1
   obtain ⟨n3_,a3_,k3_,c3_,e3⟩:=bg_form F3
   obtain ⟨n4_,a4_,k4_,c4_,e4⟩:=bg_form F4
   rw [e4] at F4
   simp only [frOf,frGo,Nat.zero_add,Nat.reduceAdd,F0,e1,F2,e3,e4]
   have r9:=bv_keep hB r1
   have B9:=b_trans B1 hB
   obtain ⟨n'',a'',k'',c'',r8,f8⟩:=bv_use r9
   have HB:=Lib.hid (And.intro r9 F4)
   clear hB hD r9 F0 F1 F2 F3 F4
   go_wp2
   exact bodyPost_ret (v:=.agg #[.bool n4_,.slice a4_ k4_ c4_]) (by simp [results,Tryz.results60,go_sem,r8]) rfl ⟨_,rfl,bg_store HB.out.1 HB.out.2,b_set (b_set B9 (by simp; omega)) (by simp; omega)⟩
theorem power_64 (w:World):Calls Tryz.prog 55 #[.int .i64 64] w (RetB 18446744073709551616 w):=by
 have:=power_any 64 (by decide) w
 rwa [show (2:Int) ^ 64=18446744073709551616 by decide] at this
end Go.Proofs.YtmcchknilnejgaaGreatDoor
namespace Go.Proofs.YtmcchknilnejgaaGreatDoor
open Go.RowKit Go.Shelf Go.Joins
structure SqR (w:World) (B L:Nat) (z l h:Int) (wr:World):Prop where
 hA:VB wr B z
 hR:BV wr (B+1)
 hL:VB wr L l
 hH:VB wr (L+1) h
 hB:Below w.heap.size w wr
theorem sr_keep {w wr w':World} {B L:Nat} {z l h:Int} (s:SqR w B L z l h wr) (hb:Below wr.heap.size wr w'):SqR w B L z l h w' :=
 ⟨vb_keep s.hA hb,bv_keep hb s.hR,vb_keep s.hL hb,vb_keep s.hH hb,b_trans s.hB hb⟩
theorem sr_low {w wr:World} {B L:Nat} {z l h l':Int} {n:Bool} {x:Option Addr} {k c:Nat} (s:SqR w B L z l h wr) (hw:w.heap.size≤B) (hL:B+1<L) (hv:BG wr (.agg #[.bool n,.slice x k c]) l') :
  SqR w B L z l' h ((wr.setCell ⟨L,0,none⟩ (.bool n)).setCell ⟨L,1,none⟩ (.slice x k c)):=by
 have b:=vb_bv s.hL
 exact ⟨vb_other b s.hA (by omega),bv_other s.hR (by omega),vb_store b hv,vb_other b s.hH (by omega),b_set (b_set s.hB (by show _≤L; omega)) (by show _≤L; omega)⟩
theorem sr_high {w wr:World} {B L:Nat} {z l h h':Int} {n:Bool} {x:Option Addr} {k c:Nat} (s:SqR w B L z l h wr) (hw:w.heap.size≤B) (hL:B+1<L) (hv:BG wr (.agg #[.bool n,.slice x k c]) h') :
  SqR w B L z l h' ((wr.setCell ⟨L+1,0,none⟩ (.bool n)).setCell ⟨L+1,1,none⟩ (.slice x k c)):=by
 have b:=vb_bv s.hH
 exact ⟨vb_other b s.hA (by omega),bv_other s.hR (by omega),vb_other b s.hL (by omega),vb_store b hv,b_set (b_set s.hB (by show _≤L+1; omega)) (by show _≤L+1; omega)⟩
theorem ref_root (va:Value) (z r:Int) (w:World) (hv:BG w va z) (z0:0≤z) (z1:z<340282366920938463463374607431768211456) (R:IsRoot z r) :
  Calls Tryz.prog 138 #[va] w (RetB r w):=by
 obtain ⟨nb,ab,kb,cb,rfl⟩:=bg_form hv
 have A0:=vb_keep (vb_new rfl hv) (b_alloc (o:=Obj.cells #[.bool false,.slice none 0 0] 122) (Below.refl _ _))
 have R0:=bv_new (w:=w.alloc (Obj.cells #[.bool nb,.slice ab kb cb] 122)) (b:=w.heap.size+1) false none 0 0 (by simp)
 have B0:Below w.heap.size w ((w.alloc (Obj.cells #[.bool nb,.slice ab kb cb] 122)).alloc (Obj.cells #[.bool false,.slice none 0 0] 122)):=b_alloc (b_alloc (Below.refl _ _))
 clear hv
 go_enter Tryz.func138,Tryz.ntmps138
 go_wp2_with fail
 refine (of_big 0 (by decide) (by decide) _).mono ?_
 rintro e w1 ⟨v1,rfl,h1,hb1⟩
 obtain ⟨n1,a1,k1,c1,rfl⟩:=bg_form h1
 replace A0:=vb_keep A0 hb1
 replace R0:=bv_keep hb1 R0
 replace B0:=b_trans B0 hb1
 clear hb1
 go_wp2_with fail
 refine (power_64 _).mono ?_
 rintro e w2 ⟨v2,rfl,h2,hb2⟩
 obtain ⟨n2,a2,k2,c2,rfl⟩:=bg_form h2
 replace A0:=vb_keep A0 hb2
 replace R0:=bv_keep hb2 R0
 replace B0:=b_trans B0 hb2
 replace h1:=bg_keep h1 hb2
 clear hb2
 have hL:w.heap.size+1<w2.heap.size:=bv_lt R0
 have S0:SqR w w.heap.size w2.heap.size z 0 18446744073709551616 ((w2.alloc (Obj.cells #[.bool n1,.slice a1 k1 c1] 122)).alloc (Obj.cells #[.bool n2,.slice a2 k2 c2] 122)) :=
  have b:=b_alloc (o:=Obj.cells #[.bool n2,.slice a2 k2 c2] 122) (b_alloc (o:=Obj.cells #[.bool n1,.slice a1 k1 c1] 122) (Below.refl w2.heap.size w2))
  ⟨vb_keep A0 b,bv_keep b R0,vb_keep (vb_new rfl h1) (b_alloc (Below.refl _ _)),vb_new (by simp) (bg_keep h2 (b_alloc (Below.refl _ _))),b_trans B0 b⟩
 clear A0 R0 B0 h1 h2
 go_wp2
 generalize ((w2.alloc (Obj.cells #[.bool n1,.slice a1 k1 c1] 122)).alloc (Obj.cells #[.bool n2,.slice a2 k2 c2] 122))=W0 at *
 generalize w2.heap.size=L at *
 go_loopg [5] 18446744073709551616 (fun g mv wr=>∃ l h:Int,0≤l∧l<h∧h≤18446744073709551616∧l*l≤z∧z<h*h∧g=(h - l).toNat∧SqR w w.heap.size L z l h wr)
 case atStart=>exact ⟨0,18446744073709551616,by decide,by decide,by decide,by omega,by omega,by decide,S0⟩
 case round =>
  clear S0
  obtain ⟨l,h,l0,lh,h1,hl,hh,hg,D⟩:=hrel
  obtain ⟨nl,al,kl,cl,ql,fl,gl⟩:=vb_use D.hL
  obtain ⟨nh,ah,kh,ch,qh,fh,gh⟩:=vb_use D.hH
  have HL:=Lib.hid hl
  have HH:=Lib.hid hh
  have HG:=Lib.hid hg
  clear hl hh hg
  go_wp2_with fail
  refine (sub_big _ _ h l _ gh gl (small_of (by omega) (by omega)) (small_of (by omega) (by omega))).mono ?_
  rintro e w3 ⟨v3,rfl,h3,hb3⟩
  obtain ⟨n3,a3,k3,c3,rfl⟩:=bg_form h3
  replace D:=sr_keep D hb3
  clear hb3 ql fl gl qh fh gh
  go_wp2_with fail
  refine (of_big 1 (by decide) (by decide) _).mono ?_
  rintro e w4 ⟨v4,rfl,h4,hb4⟩
  obtain ⟨n4,a4,k4,c4,rfl⟩:=bg_form h4
  replace D:=sr_keep D hb4
  replace h3:=bg_keep h3 hb4
  clear hb4
  go_wp2_with fail
  refine (cmp_big _ _ (h - l) 1 _ h3 h4 (small_of (by omega) (by omega)) (small_of (by omega) (by omega))).mono ?_
  rintro e w5 ⟨rfl,hb5⟩
  replace D:=sr_keep D hb5
  clear hb5 h3 h4
  by_cases d:1<h - l
  ·rw [cmp3_gt d]
   obtain ⟨nl,al,kl,cl,ql,fl,gl⟩:=vb_use D.hL
   obtain ⟨nh,ah,kh,ch,qh,fh,gh⟩:=vb_use D.hH
   go_wp2_with fail
   refine (add_big _ _ l h _ gl gh (small_of (by omega) (by omega)) (small_of (by omega) (by omega))).mono ?_
   rintro e w3 ⟨v3,rfl,h3,hb3⟩
   obtain ⟨n3,a3,k3,c3,rfl⟩:=bg_form h3
   replace D:=sr_keep D hb3
   clear hb3 ql fl gl qh fh gh
   go_wp2_with fail
   refine (of_big 2 (by decide) (by decide) _).mono ?_
   rintro e w4 ⟨v4,rfl,h4,hb4⟩
   obtain ⟨n4,a4,k4,c4,rfl⟩:=bg_form h4
   replace D:=sr_keep D hb4
   replace h3:=bg_keep h3 hb4
   clear hb4
   go_wp2_with fail
   refine (div_big _ _ (l+h) 2 _ h3 h4 (by decide) ⟨by omega,by omega⟩ ⟨by omega,by omega⟩).mono ?_
   rw [show qd (l+h) 2=(l+h) / 2 by unfold qd; rw [if_neg (by decide)]]
   rintro e w5 ⟨v5,rfl,h5,hb5⟩
   obtain ⟨nm,am,km,cm,rfl⟩:=bg_form h5
   replace D:=sr_keep D hb5
   clear hb5 h3 h4
   have HB:=half_between d
   generalize hm:(l+h) / 2=m at *
   replace hm:=Lib.hid hm
   have VM:=vb_new (b:=w5.heap.size) rfl h5
   have hM:L+1<w5.heap.size:=bv_lt (vb_bv D.hH)
   have qm:BC (w5.alloc (Obj.cells #[.bool nm,.slice am km cm] 122)) w5.heap.size nm (.slice am km cm):=by simp [BC,go_sem]
   have gm:=bg_keep h5 (b_alloc (o:=Obj.cells #[.bool nm,.slice am km cm] 122) (Below.refl _ _))
   replace D:=sr_keep D (b_alloc (o:=Obj.cells #[.bool nm,.slice am km cm] 122) (Below.refl _ _))
   clear h5
   go_wp2
   generalize (w5.alloc (Obj.cells #[.bool nm,.slice am km cm] 122))=W6 at *
   generalize w5.heap.size=M at *
   obtain ⟨na,aa,ka,ca,qa,fa,ga⟩:=vb_use D.hA
   have sm:Small m:=small_of (by omega) (by omega)
   have smm:Small (m*m):=by
    have t0:0≤m*m:=Int.mul_nonneg (by omega) (by omega)
    have t1:m*m≤18446744073709551616*18446744073709551616:=Int.mul_le_mul (by omega) (by omega) (by omega) (by decide)
    exact small_of (by omega) (by omega)
   have sz:Small z:=small_of (by omega) (by omega)
   generalize hq:cmp3 (m*m) z=q
   replace hq:=Lib.hid hq
   refine region_each [19,20,21,22,23,24] (fun i X_ U_=>match i with | 0=>X_=.agg #[.bool nm,.slice am km cm] | 1=>X_=.agg #[.bool nm,.slice am km cm] | 2=>BG U_ X_ (m*m) | 3=>X_=.agg #[.bool na,.slice aa ka ca] | 4=>X_=.int .i64 q | 5=>X_=.bool (decide (0<q)) | _=>True) (fun i=>false) (by kernel_rfl) (by kernel_rfl) (by kernel_rfl) (by kernel_rfl) (by kernel_rfl) ?_ ?_ ?_ ?_
   ·intro i x w w' hi h hb
    match i,hi with
    | 0,_=>exact h
    | 1,_=>exact h
    | 2,_=>exact bg_keep h hb
    | 3,_=>exact h
    | 4,_=>exact h
    | 5,_=>exact h
    | k+6,hk=>exact absurd hk (by simp)
   ·intro i x w hi ha h
    cases ha
   ·intro i hi v f w' hb hv hB hd
    match i,hi with
    | 0,_ =>
     have b5:f.tmps[5]?=some (.pointer (some ⟨M,0,none⟩)):=(hb 5 (by decide)).trans rfl
     clear hb hv hd
     have c:=bc_keep hB qm
     refine wpOp_step rfl (fun K hK=>?_)
     go_simp
     exact hK _ _ ⟨_,rfl,Below.refl _ _,rfl,fun h=>absurd h (by decide)⟩
    | 1,_ =>
     have b5:f.tmps[5]?=some (.pointer (some ⟨M,0,none⟩)):=(hb 5 (by decide)).trans rfl
     clear hb hv hd
     have c:=bc_keep hB qm
     refine wpOp_step rfl (fun K hK=>?_)
     go_simp
     exact hK _ _ ⟨_,rfl,Below.refl _ _,rfl,fun h=>absurd h (by decide)⟩
    | 2,_ =>
     have h0:(v 0)=.agg #[.bool nm,.slice am km cm]:=hd 0 (by kernel_rfl)
     have d0:f.tmps[19]?=some (.agg #[.bool nm,.slice am km cm]):=(hv 0 19 rfl).trans (congrArg some h0)
     clear h0
     have h1:(v 1)=.agg #[.bool nm,.slice am km cm]:=hd 1 (by kernel_rfl)
     have d1:f.tmps[20]?=some (.agg #[.bool nm,.slice am km cm]):=(hv 1 20 rfl).trans (congrArg some h1)
     clear h1
     clear hb hv hd
     refine wpOp_step rfl (fun K hK=>?_)
     go_simp
     refine (mul_big _ _ m m _ (bg_keep gm hB) (bg_keep gm hB) sm sm).mono ?_
     rintro e w5 ⟨v5,rfl,h5,hb5⟩
     exact hK _ _ ⟨_,rfl,hb5,h5,fun h=>absurd h (by decide)⟩
    | 3,_ =>
     have b1:f.tmps[1]?=some (.pointer (some ⟨w.heap.size,0,none⟩)):=(hb 1 (by decide)).trans rfl
     clear hb hv hd
     have c:=bc_keep hB qa
     refine wpOp_step rfl (fun K hK=>?_)
     go_simp
     exact hK _ _ ⟨_,rfl,Below.refl _ _,rfl,fun h=>absurd h (by decide)⟩
    | 4,_ =>
     have h2:BG w' (v 2) (m*m):=hd 2 (by kernel_rfl)
     have d2:f.tmps[21]?=some (v 2):=hv 2 21 rfl
     have h3:(v 3)=.agg #[.bool na,.slice aa ka ca]:=hd 3 (by kernel_rfl)
     have d3:f.tmps[22]?=some (.agg #[.bool na,.slice aa ka ca]):=(hv 3 22 rfl).trans (congrArg some h3)
     clear h3
     clear hb hv hd
     refine wpOp_step rfl (fun K hK=>?_)
     go_simp
     refine (cmp_big _ _ (m*m) z _ h2 (bg_keep ga hB) smm sz).mono ?_
     rw [hq.out]
     rintro e w5 ⟨rfl,hb5⟩
     exact hK _ _ ⟨_,rfl,hb5,rfl,fun h=>absurd h (by decide)⟩
    | 5,_ =>
     have h4:(v 4)=.int .i64 q:=hd 4 (by kernel_rfl)
     have d4:f.tmps[23]?=some (.int .i64 q):=(hv 4 23 rfl).trans (congrArg some h4)
     clear h4
     clear hb hv hd
     refine wpOp_step rfl (fun K hK=>?_)
     go_simp
     exact hK _ _ ⟨_,rfl,Below.refl _ _,rfl,fun h=>absurd h (by decide)⟩
    | k+6,hk=>exact absurd hk (by simp)
   ·intro v w' hB hF hD
    have F0:(v 0)=.agg #[.bool nm,.slice am km cm]:=hF 0 (by simp)
    have F1:(v 1)=.agg #[.bool nm,.slice am km cm]:=hF 1 (by simp)
    have F2:BG w' (v 2) (m*m):=hF 2 (by simp)
    have F3:(v 3)=.agg #[.bool na,.slice aa ka ca]:=hF 3 (by simp)
    have F4:(v 4)=.int .i64 q:=hF 4 (by simp)
    have F5:(v 5)=.bool (decide (0<q)):=hF 5 (by simp)
    clear hF
    obtain ⟨n2',a2',k2',c2',e2⟩:=bg_form F2
    clear F2
    simp only [frOf,frGo,Nat.zero_add,Nat.reduceAdd,F0,F1,e2,F3,F4,F5]
    refine wpList_none rfl ?_
    clear F0 F1 e2 F3 F4 F5 hD ga gm qm sm smm sz
    replace D:=sr_keep D hB
    replace VM:=vb_keep VM hB
    clear hB qa fa
    obtain ⟨nm',am',km',cm',qm,fm,gm⟩:=vb_use VM
    by_cases lt:z<m*m
    ·obtain rfl:q=1:=by rw [← hq.out]; exact cmp3_gt lt
     obtain ⟨nh,ah,kh,ch,qh,fh,gh⟩:=vb_use D.hH
     have D2:=sr_high D (Nat.le_refl _) hL gm
     have HD:=Lib.hid (And.intro lt D2)
     clear D D2 VM gh gm lt
     go_wp2
     go_roundg (m - l).toNat
     case measure=>have:=HG.out; omega
     case rel=>exact ⟨l,m,l0,by omega,by omega,HL.out,HD.out.1,rfl,HD.out.2⟩
    ·have qq:¬ 0<q:=by rw [← hq.out]; unfold cmp3; split <;> omega
     obtain ⟨nh,ah,kh,ch,qh,fh,gh⟩:=vb_use D.hL
     have D2:=sr_low D (Nat.le_refl _) hL gm
     have HD:=Lib.hid (And.intro lt D2)
     clear D D2 VM gh gm lt
     go_wp2
     go_roundg (h - m).toNat
     case measure=>have:=HG.out; omega
     case rel=>exact ⟨m,h,by omega,by omega,by omega,by have:=HD.out.1; omega,HH.out,rfl,HD.out.2⟩
  ·rw [show h - l=1 by omega,cmp3_eq]
   obtain rfl:r=l:=IsRoot.uniq R (root_ends l0 (by omega) HL.out HH.out (by omega))
   obtain ⟨nl,al,kl,cl,ql,fl,gl⟩:=vb_use D.hL
   obtain ⟨nr,ar,kr,cr,qr,fr⟩:=bv_use D.hR
   have HD:=Lib.hid (And.intro D gl)
   clear D gl
   go_wp2
   exact bodyPost_ret (v:=.agg #[.bool nl,.slice al kl cl]) (by simp [results,Tryz.results138,go_sem,qr]) rfl ⟨_,rfl,bg_store HD.out.1.hR HD.out.2,b_set (b_set HD.out.1.hB (by simp)) (by simp)⟩
end Go.Proofs.YtmcchknilnejgaaGreatDoor
namespace Go.Proofs.YtmcchknilnejgaaGreatDoor
open Go.RowKit Go.Shelf
theorem refmean_of (x y r:Int) (x0:0≤x) (x1:x≤9223372036854775807) (y0:0≤y) (y1:y≤9223372036854775807) (R:IsRoot (x*y) r) (w:World) :
  Calls Tryz.prog 64 #[.int .i64 x,.int .i64 y] w (RetV (.int .i64 r) w):=by
 have r0:=R.r0
 have r1:=root_i64 x0 y0 x1 y1 R
 have M:=mul_fits (by omega) x1 (by omega) y1
 have m0:=Int.mul_nonneg x0 y0
 have m1:=M.hi
 have E:=Lib.hid (iz_of (z:=r) ⟨by omega,r1⟩)
 have c:¬ x<0:=by omega
 have d:¬ y<0:=by omega
 go_enter Tryz.func64,Tryz.ntmps64
 go_wp2_with fail
 refine (of_big x (by omega) x1 _).mono ?_
 rintro e w1 ⟨v1,rfl,h1,hb1⟩
 obtain ⟨n1,a1,k1,c1,rfl⟩:=bg_form h1
 go_wp2_with fail
 refine (of_big y (by omega) y1 _).mono ?_
 rintro e w2 ⟨v2,rfl,h2,hb2⟩
 obtain ⟨n2,a2,k2,c2,rfl⟩:=bg_form h2
 replace h1:=bg_keep h1 hb2
 have B:=b_trans hb1 hb2
 clear hb1 hb2
 go_wp2_with fail
 refine (mul_big _ _ x y _ h1 h2 (small_of (by omega) (by omega)) (small_of (by omega) (by omega))).mono ?_
 rintro e w3 ⟨v3,rfl,h3,hb3⟩
 obtain ⟨n3,a3,k3,c3,rfl⟩:=bg_form h3
 replace B:=b_trans B hb3
 clear hb3 h1 h2
 go_wp2_with fail
 refine (ref_root _ (x*y) r _ h3 m0 (by omega) R).mono ?_
 rintro e w4 ⟨v4,rfl,h4,hb4⟩
 obtain ⟨n4,a4,k4,c4,rfl⟩:=bg_form h4
 replace B:=b_trans B hb4
 clear hb4 h3
 go_wp2_with fail
 refine (int_big _ r _ h4 ⟨by omega,by omega⟩).mono ?_
 rintro e w5 ⟨rfl,hb5⟩
 rw [E.out.1,E.out.2]
 replace B:=b_trans B hb5
 clear hb5 h4 R M m0 m1
 go_wp2
 go_ret
 exact ⟨rfl,B⟩
end Go.Proofs.YtmcchknilnejgaaGreatDoor
namespace Go.Proofs.YtmcchknilnejgaaGreatDoor
open Go.RowKit Go.Shelf Go.Joins
theorem rpower_40 (w:World):Calls Tryz.prog 55 #[.int .i64 40] w (RetB 1099511627776 w):=by
 have:=power_any 40 (by decide) w
 rwa [show (2:Int) ^ 40=1099511627776 by decide] at this
def RetTab (w:World) (e:Ending) (w':World):Prop:=∃ b,e=.returned (.slice (some ⟨b,0,none⟩) 47 47)∧(∀ k,k<47→w'.cell? ⟨b,k,none⟩=some (.int .i64 (tb k)))∧Below w.heap.size w w'
theorem tbl_cells (k:Nat) (h:k<47):(tbl.map fun n=>Value.int .i64 n).toArray[k]?=some (.int .i64 (tb k)):=by
 have hl:k<tbl.length:=h
 simp [tb,hl]
theorem rtable_any (w:World):Calls Tryz.prog 58 #[] w (RetTab w):=by
 have hc:∀ k,k<47→(w.alloc (Obj.cells (tbl.map fun n=>Value.int .i64 n).toArray 2)).cell? ⟨w.heap.size,k,none⟩=some (.int .i64 (tb k)):=fun k hk=>by
  rw [cell_of_row _ _ k _ _ _ (heap_alloc_last w _)]
  exact tbl_cells k hk
 have HC:=Lib.hid hc
 clear hc
 go_enter Tryz.func58,Tryz.ntmps58
 go_wp2
 go_ret
 exact ⟨_,rfl,HC.out,b_alloc (Below.refl _ _)⟩
theorem rheight_any (i:Nat) (hi:i≤46) (w:World):Calls Tryz.prog 61 #[.int .i64 i] w (RetV (.int .i64 (ht i)) w):=by
 have w1:IntKind.i64.wrap (256*(i:Int))=256*(i:Int):=by rw [IntKind.wrap_i64]; omega
 have w2:IntKind.i64.wrap (256*(i:Int) - 512)=256*(i:Int) - 512:=by rw [IntKind.wrap_i64]; omega
 have w3:IntKind.i64.wrap ((256*(i:Int) - 512)*1099511627776)=ht i:=by unfold ht; rw [IntKind.wrap_i64]; omega
 go_enter Tryz.func61,Tryz.ntmps61
 go_wp2
 go_ret
 exact ⟨rfl,Below.refl _ _⟩
theorem raltitude_bad (p:Int) (g:gd p=false) (w:World):Calls Tryz.prog 26 #[.int .i64 p] w (RetV (.tuple #[.int .i64 0,.int .i64 2]) w):=by
 have cg:=rgood_any p
 rw [g] at cg
 clear g
 go_enter Tryz.func26,Tryz.ntmps26
 go_wp2_with fail
 refine (cg _).mono ?_
 rintro e y0 ⟨rfl,E⟩
 clear cg
 go_wp2
 go_ret2
 exact ⟨rfl,E⟩
theorem raltitude_ok (p:Int) (g:gd p=true) (w:World):Calls Tryz.prog 26 #[.int .i64 p] w (RetV (.tuple #[.int .i64 (al p),.int .i64 0]) w):=by
 have cg:=rgood_any p
 rw [g] at cg
 have gr:=gd_range g
 go_enter Tryz.func26,Tryz.ntmps26
 go_wp2_with fail
 refine (cg _).mono ?_
 rintro e y0 ⟨rfl,E⟩
 clear cg
 go_wp2_with fail
 refine (rtable_any _).mono ?_
 rintro e y1 ⟨b,rfl,hc,hb⟩
 replace E:=b_trans E hb
 clear hb
 go_wp2
 go_loopw [5,6] (fun lv iv wr=>∃ k:Nat,k≤47∧iv=.int .i64 k∧lv=.int .i64 (lat p (k - 1):Nat)∧Below y1.heap.size y1 wr) (fun _ iv _=>47 - (intOf iv).toNat)
 case atStart=>exact ⟨0,Nat.zero_le _,rfl,rfl,Below.refl _ _⟩
 case round =>
  obtain ⟨k,hk,rfl,rfl,hb⟩:=hrel
  by_cases hlt:k<47
  ·have c0:=cell_keep hb (hc k hlt)
   have hlk:(k:Int)<47:=by omega
   have hk0:(0:Int)≤k:=by omega
   have ws:IntKind.i64.wrap ((k:Int)+1)=(k:Int)+1:=by rw [IntKind.wrap_i64]; omega
   have hk2:k+1≤47:=by omega
   by_cases c:p≤tb k
   ·have e1:Hid (lat p k=k):=Lib.hid (by
     cases k with
     | zero=>rfl
     | succ j=>exact lat_yes c)
    generalize tb k=t at *
    generalize lat p (k - 1)=m at *
    clear g hc gr E
    go_wp2
    refine ⟨⟨k+1,hk2,rfl,by rw [Nat.add_sub_cancel,e1.out],hb⟩,?_⟩
    simp only [intOf]
    omega
   ·have e1:Hid (lat p k=lat p (k - 1)):=Lib.hid (by
     cases k with
     | zero=>exact absurd gr.2 c
     | succ j=>exact lat_no c)
    generalize tb k=t at *
    obtain ⟨m,hm⟩:∃ m,lat p (k - 1)=m:=⟨_,rfl⟩
    rw [hm] at e1
    rw [hm]
    clear g hc gr hm E
    go_wp2
    refine ⟨⟨k+1,hk2,rfl,by rw [Nat.add_sub_cancel,e1.out],hb⟩,?_⟩
    simp only [intOf]
    omega
  ·have hlk:¬ (k:Int)<47:=by omega
   have e:k=47:=by omega
   subst e
   replace E:=b_trans E hb
   obtain ⟨u0,u1,u2⟩:=un_spec g
   have q0:=cell_keep hb (hc (un p) (by omega))
   have q1:=cell_keep hb (hc (un p+1) (by omega))
   obtain ⟨d0,d1,d2⟩:=dn_wd g
   have pr:=pt_range g
   have r0:=tb_range (i:=un p) (by omega)
   have r1:=tb_range (i:=un p+1) (by omega)
   have ch:=rheight_any (un p) (by omega)
   have eal:=Lib.hid (show al p=ht (un p)+pt p from rfl)
   have hh:ht (un p)=-562949953421312+281474976710656*(un p:Int):=rfl
   have hq:Hid (qd (256*dn p*1099511627776) (wd p)=pt p):=Lib.hid (by
    unfold qd pt
    rw [if_neg (by omega),show 256*dn p*1099511627776=281474976710656*dn p by omega])
   have wd1:IntKind.i64.wrap (tb (un p) - p)=dn p:=by unfold dn; rw [IntKind.wrap_i64]; omega
   have wd2:IntKind.i64.wrap (tb (un p) - tb (un p+1))=wd p:=by unfold wd; rw [IntKind.wrap_i64]; omega
   have wd3:IntKind.i64.wrap (256*dn p)=256*dn p:=by rw [IntKind.wrap_i64]; omega
   have wd6:IntKind.i64.wrap (ht (un p)+pt p)=ht (un p)+pt p:=by rw [IntKind.wrap_i64]; omega
   have hI:∀ v w,BG w v (pt p)→Calls Tryz.prog 52 #[v] w (RetV (.tuple #[.int .i64 (pt p),.int .i64 0]) w):=fun v w h=>by
    have:=int_big v (pt p) w h ⟨by omega,by omega⟩
    rwa [(iz_of ⟨by omega,by omega⟩).1,(iz_of ⟨by omega,by omega⟩).2] at this
   have su:Small (256*dn p):=small_of (by omega) (by omega)
   have tU:Tiny (256*dn p*1099511627776):=⟨by omega,by omega⟩
   have tv:Tiny (wd p):=⟨by omega,by omega⟩
   have nv:wd p≠0:=by omega
   have uu0:-9223372036854775808≤256*dn p:=by omega
   have uu1:256*dn p≤9223372036854775807:=by omega
   have v0:-9223372036854775808≤wd p:=by omega
   have v1:wd p≤9223372036854775807:=by omega
   have k0:(0:Int)≤(un p:Int)+1:=by omega
   have k1:(un p:Int)+1<47:=by omega
   have k2:(un p:Int)<47:=by omega
   have k3:(0:Int)≤(un p:Int):=by omega
   have ws:IntKind.i64.wrap ((un p:Int)+1)=(un p:Int)+1:=by rw [IntKind.wrap_i64]; omega
   have hn:((un p:Int)+1).toNat=un p+1:=by omega
   have hi:lat p (47 - 1)=un p:=rfl
   rw [hi]
   clear hi hc hlt hk g u0 u1 u2 d0 d1 d2 pr r0 r1 hh gr hb
   generalize ht (un p)=H at *
   generalize pt p=fp at *
   generalize dn p=d at *
   generalize wd p=wv at *
   generalize tb (un p+1)=t1 at *
   generalize tb (un p)=t0 at *
   generalize un p=i at *
   have ou:=of_big (256*d) uu0 uu1
   have ov:=of_big wv v0 v1
   have B0:=E
   go_wp2_with fail
   refine (ou _).mono ?_
   rintro e w1 ⟨v1,rfl,g1,hb9⟩
   obtain ⟨n1,a1,k1,c1,rfl⟩:=bg_form g1
   replace B0:=b_trans B0 hb9
   replace q0:=cell_keep hb9 q0
   replace q1:=cell_keep hb9 q1
   clear hb9 ou
   go_wp2_with fail
   refine (rpower_40 _).mono ?_
   rintro e w2 ⟨v2,rfl,g2,hb9⟩
   obtain ⟨n2,a2,k2,c2,rfl⟩:=bg_form g2
   replace g1:=bg_keep g1 hb9
   replace B0:=b_trans B0 hb9
   replace q0:=cell_keep hb9 q0
   replace q1:=cell_keep hb9 q1
   clear hb9
   go_wp2_with fail
   refine (mul_big _ _ (256*d) 1099511627776 _ g1 g2 su (small_of (by decide) (by decide))).mono ?_
   rintro e w3 ⟨v3,rfl,g3,hb9⟩
   obtain ⟨n3,a3,k3,c3,rfl⟩:=bg_form g3
   replace B0:=b_trans B0 hb9
   replace q0:=cell_keep hb9 q0
   replace q1:=cell_keep hb9 q1
   clear hb9 g1 g2
   have kg:BG (w3.alloc (Obj.cells #[.bool n3,.slice a3 k3 c3] 122)) (.agg #[.bool n3,.slice a3 k3 c3]) (256*d*1099511627776):=bg_keep g3 (b_alloc (Below.refl _ _))
   have kc:BC (w3.alloc (Obj.cells #[.bool n3,.slice a3 k3 c3] 122)) w3.heap.size n3 (.slice a3 k3 c3):=by simp [BC,go_sem]
   replace q0:=cell_keep (b_alloc (o:=(Obj.cells #[.bool n3,.slice a3 k3 c3] 122)) (Below.refl w3.heap.size w3)) q0
   replace q1:=cell_keep (b_alloc (o:=(Obj.cells #[.bool n3,.slice a3 k3 c3] 122)) (Below.refl w3.heap.size w3)) q1
   replace B0:=b_alloc (o:=(Obj.cells #[.bool n3,.slice a3 k3 c3] 122)) B0
   clear g3 E
   go_wp2
   refine region_late [38,39,40,41,42,43,44,45,46,47,48,49,50,51,37,52,53] 16 (fun i_ X_ U_=>match i_ with | 0=>X_=.agg #[.bool n3,.slice a3 k3 c3] | 1=>X_=.slice (some ⟨b,0,none⟩) 47 47 | 2=>X_=.int .i64 i | 3=>X_=.pointer (some ⟨b,i,none⟩) | 4=>X_=.int .i64 t0 | 5=>X_=.slice (some ⟨b,0,none⟩) 47 47 | 6=>X_=.int .i64 i | 7=>X_=.int .i64 ((i:Int)+1) | 8=>X_=.pointer (some ⟨b,i+1,none⟩) | 9=>X_=.int .i64 t1 | 10=>X_=.int .i64 wv | 11=>BG U_ X_ (wv) | 12=>BG U_ X_ (fp) | 13=>X_=.tuple #[.int .i64 fp,.int .i64 0] | 14=>X_=.tuple #[.int .i64 fp,.int .i64 0] | 15=>X_=.int .i64 fp | 16=>X_=.int .i64 0 | _=>True) (fun i_=>false) (by kernel_rfl) (by kernel_rfl) (by kernel_rfl) (by kernel_rfl) ?_ (fun i x w hi ha h=>by cases ha) ?_ ?_ ?_
   ·refine swp (upS (upS (upS (upS (upS (upS (upS (upS (upS (upS (upS (upS (upS (upS (upS (upS (upS up0 ?_) ?_) ?_) ?_) ?_) ?_) ?_) ?_) ?_) ?_) ?_) ?_) ?_) ?_) ?_) ?_) ?_)
    ·exact fun _ _ _ h _=>h
    ·exact fun _ _ _ h _=>h
    ·exact fun _ _ _ h _=>h
    ·exact fun _ _ _ h _=>h
    ·exact fun _ _ _ h _=>h
    ·exact fun _ _ _ h _=>h
    ·exact fun _ _ _ h _=>h
    ·exact fun _ _ _ h _=>h
    ·exact fun _ _ _ h _=>h
    ·exact fun _ _ _ h _=>h
    ·exact fun _ _ _ h _=>h
    ·intro x w w' h hb; exact bg_keep h hb
    ·intro x w w' h hb; exact bg_keep h hb
    ·exact fun _ _ _ h _=>h
    ·exact fun _ _ _ h _=>h
    ·exact fun _ _ _ h _=>h
    ·exact fun _ _ _ h _=>h
   ·refine upS (upS (upS (upS (upS (upS (upS (upS (upS (upS (upS (upS (upS (upS (upS (upS (upS up0 ?_) ?_) ?_) ?_) ?_) ?_) ?_) ?_) ?_) ?_) ?_) ?_) ?_) ?_) ?_) ?_) ?_
    all_goals intro v f w' hb hv hB hd
    ·have b7:f.tmps[7]?=some (.pointer (some ⟨w3.heap.size,0,none⟩)):=(hb 7 (by decide)).trans rfl
     clear hb hv hd
     have c_:=bc_keep hB kc
     refine wpOp_step rfl fun K hK=>?_
     go_simp
     exact hK _ _ ⟨_,rfl,Below.refl _ _,rfl,fun h=>absurd h (by decide)⟩
    ·have b4:f.tmps[4]?=some (.slice (some ⟨b,0,none⟩) 47 47):=(hb 4 (by decide)).trans rfl
     clear hb hv hd
     refine wpOp_step rfl fun K hK=>?_
     go_simp
     exact hK _ _ ⟨_,rfl,Below.refl _ _,rfl,fun h=>absurd h (by decide)⟩
    ·have b5:f.tmps[5]?=some (.int .i64 i):=(hb 5 (by decide)).trans rfl
     clear hb hv hd
     refine wpOp_step rfl fun K hK=>?_
     go_simp
     exact hK _ _ ⟨_,rfl,Below.refl _ _,rfl,fun h=>absurd h (by decide)⟩
    ·have d1:=got (hv 1 39 rfl) (hd 1 (by kernel_rfl))
     have d2:=got (hv 2 40 rfl) (hd 2 (by kernel_rfl))
     clear hb hv hd
     refine wpOp_step rfl fun K hK=>?_
     go_simp
     exact hK _ _ ⟨_,rfl,Below.refl _ _,rfl,fun h=>absurd h (by decide)⟩
    ·have d3:=got (hv 3 41 rfl) (hd 3 (by kernel_rfl))
     clear hb hv hd
     have c_:=cell_keep hB q0
     refine wpOp_step rfl fun K hK=>?_
     go_simp
     exact hK _ _ ⟨_,rfl,Below.refl _ _,rfl,fun h=>absurd h (by decide)⟩
    ·have b4:f.tmps[4]?=some (.slice (some ⟨b,0,none⟩) 47 47):=(hb 4 (by decide)).trans rfl
     clear hb hv hd
     refine wpOp_step rfl fun K hK=>?_
     go_simp
     exact hK _ _ ⟨_,rfl,Below.refl _ _,rfl,fun h=>absurd h (by decide)⟩
    ·have b5:f.tmps[5]?=some (.int .i64 i):=(hb 5 (by decide)).trans rfl
     clear hb hv hd
     refine wpOp_step rfl fun K hK=>?_
     go_simp
     exact hK _ _ ⟨_,rfl,Below.refl _ _,rfl,fun h=>absurd h (by decide)⟩
    ·have d6:=got (hv 6 44 rfl) (hd 6 (by kernel_rfl))
     clear hb hv hd
     refine wpOp_step rfl fun K hK=>?_
     go_simp
     exact hK _ _ ⟨_,rfl,Below.refl _ _,rfl,fun h=>absurd h (by decide)⟩
    ·have d5:=got (hv 5 43 rfl) (hd 5 (by kernel_rfl))
     have d7:=got (hv 7 45 rfl) (hd 7 (by kernel_rfl))
     clear hb hv hd
     refine wpOp_step rfl fun K hK=>?_
     go_simp
     exact hK _ _ ⟨_,rfl,Below.refl _ _,rfl,fun h=>absurd h (by decide)⟩
    ·have d8:=got (hv 8 46 rfl) (hd 8 (by kernel_rfl))
     clear hb hv hd
     have c_:=cell_keep hB q1
     refine wpOp_step rfl fun K hK=>?_
     go_simp
     exact hK _ _ ⟨_,rfl,Below.refl _ _,rfl,fun h=>absurd h (by decide)⟩
    ·have d4:=got (hv 4 42 rfl) (hd 4 (by kernel_rfl))
     have d9:=got (hv 9 47 rfl) (hd 9 (by kernel_rfl))
     clear hb hv hd
     refine wpOp_step rfl fun K hK=>?_
     go_simp
     exact hK _ _ ⟨_,rfl,Below.refl _ _,rfl,fun h=>absurd h (by decide)⟩
    ·have d10:=got (hv 10 48 rfl) (hd 10 (by kernel_rfl))
     clear hb hv hd
     refine wpOp_call rfl Tryz.call54 (args1 (eval_tmp d10)) (ov _) ?_
     rintro e w5 ⟨v5,rfl,h5,hb5⟩
     exact ⟨_,rfl,_,rfl,hb5,h5,fun h=>absurd h (by decide)⟩
    ·have d0:=got (hv 0 38 rfl) (hd 0 (by kernel_rfl))
     have h11:BG w' (v 11) (wv):=hd 11 (by kernel_rfl)
     have d11:f.tmps[49]?=some (v 11):=hv 11 49 rfl
     clear hb hv hd
     refine wpOp_call rfl Tryz.call60 (args2 (eval_tmp d0) (eval_tmp d11)) (div_big _ _ (256*d*1099511627776) wv _ (bg_keep kg hB) h11 nv tU tv) ?_
     rintro e w5 ⟨v5,rfl,h5,hb5⟩
     exact ⟨_,rfl,_,rfl,hb5,by rwa [hq.out] at h5,fun h=>absurd h (by decide)⟩
    ·have h12:BG w' (v 12) (fp):=hd 12 (by kernel_rfl)
     have d12:f.tmps[50]?=some (v 12):=hv 12 50 rfl
     clear hb hv hd
     refine wpOp_call rfl Tryz.call52 (args1 (eval_tmp d12)) (hI _ _ h12) ?_
     rintro e5 w5 ⟨rfl,hb5⟩
     exact ⟨_,rfl,_,rfl,hb5,rfl,fun h=>absurd h (by decide)⟩
    ·have d13:=got (hv 13 51 rfl) (hd 13 (by kernel_rfl))
     clear hb hv hd
     refine wpOp_step rfl fun K hK=>?_
     go_simp
     exact hK _ _ ⟨_,rfl,Below.refl _ _,rfl,fun h=>absurd h (by decide)⟩
    ·have d14:=got (hv 14 37 rfl) (hd 14 (by kernel_rfl))
     clear hb hv hd
     refine wpOp_step rfl fun K hK=>?_
     go_simp
     exact hK _ _ ⟨_,rfl,Below.refl _ _,rfl,fun h=>absurd h (by decide)⟩
    ·have d14:=got (hv 14 37 rfl) (hd 14 (by kernel_rfl))
     clear hb hv hd
     refine wpOp_step rfl fun K hK=>?_
     go_simp
     exact hK _ _ ⟨_,rfl,Below.refl _ _,rfl,fun h=>absurd h (by decide)⟩
   ·intro v w' hB hF hD
    have F0:v 0=_:=hF 0 (by simp)
    have F1:v 1=_:=hF 1 (by simp)
    have F2:v 2=_:=hF 2 (by simp)
    have F3:v 3=_:=hF 3 (by simp)
    have F4:v 4=_:=hF 4 (by simp)
    have F5:v 5=_:=hF 5 (by simp)
    have F6:v 6=_:=hF 6 (by simp)
    have F7:v 7=_:=hF 7 (by simp)
    have F8:v 8=_:=hF 8 (by simp)
    have F9:v 9=_:=hF 9 (by simp)
    have F10:v 10=_:=hF 10 (by simp)
    have F11:BG w' (v 11) (wv):=hF 11 (by simp)
    have F12:BG w' (v 12) (fp):=hF 12 (by simp)
    have F13:v 13=_:=hF 13 (by simp)
    have F14:v 14=_:=hF 14 (by simp)
    have F15:v 15=_:=hF 15 (by simp)
    have F16:v 16=_:=hF 16 (by simp)
    clear hF
    obtain ⟨n11_,a11_,k11_,c11_,e11⟩:=bg_form F11
    obtain ⟨n12_,a12_,k12_,c12_,e12⟩:=bg_form F12
    simp only [frOf,frGo,Nat.zero_add,Nat.reduceAdd,F0,F1,F2,F3,F4,F5,F6,F7,F8,F9,F10,e11,e12,F13,F14,F15,F16]
    replace B0:=b_trans B0 hB
    clear hB hD F0 F1 F2 F3 F4 F5 F6 F7 F8 F9 F10 F11 F12 F13 F14 F15 F16 e11 e12 kg kc ov hq tU tv q0 q1 hI
    go_wp2_with fail
    refine (ch _).mono ?_
    rintro e w9 ⟨rfl,hb⟩
    replace B0:=b_trans B0 hb
    clear hb ch
    go_wp2
    exact bodyPost_ret (v:=.tuple #[.int .i64 (H+fp),.int .i64 0]) (by simp [results,Tryz.results26,go_sem]) rfl ⟨by rw [eal.out],B0⟩
   ·intro v w' hB hF hD
    have F0:v 0=_:=hF 0 (by simp) (by decide)
    have F1:v 1=_:=hF 1 (by simp) (by decide)
    have F2:v 2=_:=hF 2 (by simp) (by decide)
    have F3:v 3=_:=hF 3 (by simp) (by decide)
    have F4:v 4=_:=hF 4 (by simp) (by decide)
    have F5:v 5=_:=hF 5 (by simp) (by decide)
    have F6:v 6=_:=hF 6 (by simp) (by decide)
    have F7:v 7=_:=hF 7 (by simp) (by decide)
    have F8:v 8=_:=hF 8 (by simp) (by decide)
    have F9:v 9=_:=hF 9 (by simp) (by decide)
    have F10:v 10=_:=hF 10 (by simp) (by decide)
    have F11:BG w' (v 11) (wv):=hF 11 (by simp) (by decide)
    have F12:BG w' (v 12) (fp):=hF 12 (by simp) (by decide)
    have F13:v 13=_:=hF 13 (by simp) (by decide)
    have F14:v 14=_:=hF 14 (by simp) (by decide)
    have F15:v 15=_:=hF 15 (by simp) (by decide)
    clear hF
    obtain ⟨n11_,a11_,k11_,c11_,e11⟩:=bg_form F11
    obtain ⟨n12_,a12_,k12_,c12_,e12⟩:=bg_form F12
    simp only [frOf,frGo,Nat.zero_add,Nat.reduceAdd,F0,F1,F2,F3,F4,F5,F6,F7,F8,F9,F10,e11,e12,F13,F14,F15]
    replace B0:=b_trans B0 hB
    clear hB hD F0 F1 F2 F3 F4 F5 F6 F7 F8 F9 F10 F11 F12 F13 F14 F15 e11 e12 kg kc ov hq tU tv q0 q1 hI
    refine wpOp_step rfl (fun K hK=>?_)
    go_simp
    refine hK _ _ ?_
    clear hK K
    refine wpOp_step rfl (fun K hK=>?_)
    go_simp
    refine hK _ _ ?_
    clear hK K
    go_wp2_with fail
    refine (ch _).mono ?_
    rintro e w9 ⟨rfl,hb⟩
    replace B0:=b_trans B0 hb
    clear hb ch
    go_wp2
    exact bodyPost_ret (v:=.tuple #[.int .i64 (H+fp),.int .i64 0]) (by simp [results,Tryz.results26,go_sem]) rfl ⟨by rw [eal.out],B0⟩
theorem raltitude_any (p:Int) (w:World):Calls Tryz.prog 26 #[.int .i64 p] w (RetV (.tuple #[.int .i64 (az p),.int .i64 (ae p)]) w):=by
 cases g:gd p
 ·rw [az_bad g,ae_bad g]
  exact raltitude_bad p g w
 ·rw [az_ok g,ae_ok g]
  exact raltitude_ok p g w
end Go.Proofs.YtmcchknilnejgaaGreatDoor

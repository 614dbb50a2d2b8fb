import Derived.ScopeJumps
import Derived.WalkMore
import Derived.StillTactics
import Derived.Laws.Pointers
import Derived.Deep.RegionHeld3
import Derived.Deep.QuietTactic
import Derived.BigQuiet
import Derived.RowKit3
import Derived.Lib.Hide
import Derived.Lib.QuietBelow
import Derived.Laws.Bits64b
import Derived.Test.YtjifkmldigemkaaGreatDoorProg
import Derived.Shelf.Spec.BitsCarry
import Derived.Shelf.Bits.Mul64
import Derived.WalkKit
import Derived.WalkSpells
import Derived.Orders
import Derived.RegionTactic
import Derived.Below
import Derived.Test.YtjifkmldigemkaaGreatDoorTbv
import Derived.Test.YtjifkmldigemkaaGreatDoorTae
import Derived.Test.YtjifkmldigemkaaGreatDoorTad
import Derived.Test.YtjifkmldigemkaaGreatDoorTac
import Derived.Test.YtjifkmldigemkaaGreatDoorTaa
import Derived.Test.YtjifkmldigemkaaGreatDoorTab
import Derived.Test.YtjifkmldigemkaaGreatDoorTbo
import Derived.Test.YtjifkmldigemkaaGreatDoorTbp
import Derived.Test.YtjifkmldigemkaaGreatDoorTbs
import Derived.Test.YtjifkmldigemkaaGreatDoorTag
import Derived.Test.YtjifkmldigemkaaGreatDoorTbq
import Derived.Test.YtjifkmldigemkaaGreatDoorTbu
import Derived.Test.YtjifkmldigemkaaGreatDoorTaf
import Derived.Test.YtjifkmldigemkaaGreatDoorTbt
import Derived.Test.YtjifkmldigemkaaGreatDoorTan
import Derived.Test.YtjifkmldigemkaaGreatDoorTak
import Derived.Test.YtjifkmldigemkaaGreatDoorTau
set_option maxHeartbeats 16000000
set_option maxRecDepth 10000
namespace Go.Proofs.YtjifkmldigemkaaGreatDoor
open Go.RowKit Go.Shelf Go.Joins
theorem big_len {w:World} {n:Bool} {a:Option Addr} {k c:Nat} {z:Int} (h:BG w (.agg #[.bool n,.slice a k c]) z):(z<0↔n=true)∧(k=0↔z=0)∧(k:Int)≤9223372036854775807∧c≤9223372036854775807:=by
 obtain ⟨n',a',l,c',e,hD,hd,hn,hl,hz,h1,h2⟩:=bg_open h
 simp at e
 obtain ⟨rfl,rfl,rfl,rfl⟩:=e
 obtain ⟨q1,q2,_⟩:=sgn_neg hd hn hl
 rw [← hz] at q1 q2
 unfold maxLen at h2
 refine ⟨q1,?_,by omega,by omega⟩
 rw [q2]
 exact List.length_eq_zero_iff
theorem odd_use {w:World} {n:Bool} {a:Option Addr} {k c:Nat} {z:Int} (h:BG w (.agg #[.bool n,.slice a k c]) z) :
  (k=0∧z=0)∨∃ g d,a=some ⟨g,0,none⟩∧0<k∧w.cell? ⟨g,0,none⟩=some (.int .u64 d)∧0≤d∧d≤65535∧z % 2=d % 2:=by
 obtain ⟨n',a',l,c',e,hD,hd,hn,hl,hz,h1,h2⟩:=bg_open h
 simp at e
 obtain ⟨rfl,rfl,rfl,rfl⟩:=e
 cases l with
 | nil=>exact Or.inl ⟨rfl,by rw [hz]; unfold sgn val; split <;> rfl⟩
 | cons d l =>
  right
  obtain ⟨g,cap,e,_,_,hc⟩:=dg_cell hD 0 (by simp)
  simp at e
  obtain ⟨rfl,rfl⟩:=e
  have:=hd d (by simp)
  refine ⟨g,d,rfl,by simp,hc,this.1,this.2,?_⟩
  rw [hz]
  unfold sgn val
  split <;> omega
theorem div_tiny {X Y:Int} (y1:1≤Y) (tX:Tiny X):-2037035976334486086268445688409378161051468393665936250636140449354381299763336706183397376≤X / Y∧X / Y≤2037035976334486086268445688409378161051468393665936250636140449354381299763336706183397376∧X / Y*Y=X - X % Y∧0≤X % Y∧X % Y<Y:=by
 obtain ⟨a,b⟩:=tX
 have e:=Int.mul_ediv_add_emod X Y
 have r0:=Int.emod_nonneg X (show Y≠0 by omega)
 have r1:=Int.emod_lt_of_pos X (show 0<Y by omega)
 have c:X / Y*Y=Y*(X / Y):=Int.mul_comm _ _
 refine ⟨?_,?_,by omega,r0,r1⟩
 ·apply Int.le_ediv_of_mul_le (by omega)
  omega
 ·by_cases h:X<0
  ·have:=Int.ediv_neg_of_neg_of_pos h (show 0<Y by omega)
   omega
  ·exact Int.le_trans (Int.ediv_le_self _ (by omega)) b
theorem even_up (va vb:Value) (x y:Int) (w:World) (hx:BG w va x) (hy:BG w vb y) (y1:1≤y) (tX:Tiny x) (tY:Tiny y) :
  Calls Tryz.prog 87 #[va,vb] w (RetB (near (x / y) (2*(x % y) - y)) w):=by
 obtain ⟨n1,aa,ka,ca,rfl⟩:=bg_form hx
 obtain ⟨n2,ab,kb,cb,rfl⟩:=bg_form hy
 obtain rfl:n2=false:=by
  cases n2
  ·rfl
  ·have:=(big_len hy).1.2 rfl
   omega
 go_enter Tryz.func87,Tryz.ntmps87
 go_wp2_with fail
 have B1:Below w.heap.size w (((w.alloc (Obj.cells #[.bool n1,.slice aa ka ca] 116)).alloc (Obj.cells #[.bool false,.slice ab kb cb] 116)).alloc (Obj.cells #[.bool false,.slice none 0 0] 116)):=b_alloc (b_alloc (b_alloc (Below.refl _ _)))
 have vA:VB (((w.alloc (Obj.cells #[.bool n1,.slice aa ka ca] 116)).alloc (Obj.cells #[.bool false,.slice ab kb cb] 116)).alloc (Obj.cells #[.bool false,.slice none 0 0] 116)) (w.heap.size) x:=vb_keep (vb_new rfl hx) (b_alloc (b_alloc (Below.refl _ _)))
 have vB:VB (((w.alloc (Obj.cells #[.bool n1,.slice aa ka ca] 116)).alloc (Obj.cells #[.bool false,.slice ab kb cb] 116)).alloc (Obj.cells #[.bool false,.slice none 0 0] 116)) (w.heap.size+1) y:=vb_keep (vb_new (by simp) (bg_keep hy (b_alloc (Below.refl _ _)))) (b_alloc (Below.refl _ _))
 have r1:BV (((w.alloc (Obj.cells #[.bool n1,.slice aa ka ca] 116)).alloc (Obj.cells #[.bool false,.slice ab kb cb] 116)).alloc (Obj.cells #[.bool false,.slice none 0 0] 116)) (w.heap.size+1+1):=bv_new _ _ _ _ (by simp)
 have gX:=bg_keep hx B1
 have gY:=bg_keep hy B1
 clear hx hy
 refine (down_big _ _ x y _ gX gY y1 tX tY).mono ?_
 rintro e w1 ⟨v1,rfl,h1,hb1⟩
 obtain ⟨n9,a9,k9,c9,rfl⟩:=bg_form h1
 obtain ⟨q0,q1,qe,qr0,qr1⟩:=div_tiny y1 tX
 generalize x / y=q at *
 generalize x % y=R at *
 generalize hans:near q (2*R - y)=ans at *
 have NA:=Lib.hid hans
 clear hans
 have QE:=Lib.hid qe
 clear qe
 have tX0:=tX.1
 have tX1:=tX.2
 have tY0:=tY.1
 have tY1:=tY.2
 replace vA:=vb_keep vA hb1
 replace vB:=vb_keep vB hb1
 replace r1:=bv_keep hb1 r1
 replace B1:=b_trans B1 hb1
 clear hb1 gX gY
 go_wp2_with fail
 have al:Below w1.heap.size w1 (w1.alloc (Obj.cells #[.bool n9,.slice a9 k9 c9] 116)):=b_alloc (Below.refl _ _)
 have vQ:VB (w1.alloc (Obj.cells #[.bool n9,.slice a9 k9 c9] 116)) w1.heap.size q:=vb_new rfl h1
 replace vA:=vb_keep vA al
 replace vB:=vb_keep vB al
 have r4:=bv_keep al r1
 have B4:=b_trans B1 al
 clear al r1 B1 h1
 generalize w1.alloc (Obj.cells #[.bool n9,.slice a9 k9 c9] 116)=W4 at *
 generalize w1.heap.size=gq at *
 obtain ⟨nX,aX,kX,cX,bX,_,gX⟩:=vb_use vA
 obtain ⟨nY,aY,kY,cY,bY,_,gY⟩:=vb_use vB
 obtain ⟨nq,aq,kq,cq,bq,_,gQ⟩:=vb_use vQ
 clear vA vB
 refine region_each [17,18,19,20,21,22,23,24,25,6] (fun i X_ U_=>match i with | 0=>BG U_ X_ (2) | 1=>X_=.agg #[.bool nX,.slice aX kX cX] | 2=>X_=.agg #[.bool nq,.slice aq kq cq] | 3=>X_=.agg #[.bool nY,.slice aY kY cY] | 4=>BG U_ X_ (x - R) | 5=>BG U_ X_ (R) | 6=>BG U_ X_ (2*R) | 7=>X_=.agg #[.bool nY,.slice aY kY cY] | 8=>BG U_ X_ (2*R - y) | 9=>∃ g,X_=.pointer (some ⟨g,0,none⟩)∧W4.heap.size≤g∧BV U_ g∧True | _=>True) (fun i=>i == 9) (by kernel_rfl) (by kernel_rfl) (by kernel_rfl) (by kernel_rfl) (by kernel_rfl) ?_ ?_ ?_ ?_
 ·refine swp (upS (upS (upS (upS (upS (upS (upS (upS (upS (upS up0 ?_) ?_) ?_) ?_) ?_) ?_) ?_) ?_) ?_) ?_)
  ·intro x w w' h hb; exact bg_keep h hb
  ·exact fun _ _ _ h _=>h
  ·exact fun _ _ _ h _=>h
  ·exact fun _ _ _ h _=>h
  ·intro x w w' h hb; exact bg_keep h hb
  ·intro x w w' h hb; exact bg_keep h hb
  ·intro x w w' h hb; exact bg_keep h hb
  ·exact fun _ _ _ h _=>h
  ·intro x w w' h hb; exact bg_keep h hb
  ·intro x w w' h hb; obtain ⟨g,e,hg,hc,_⟩:=h; exact ⟨g,e,hg,bv_keep hb hc,trivial⟩
 ·refine swa (upS (upS (upS (upS (upS (upS (upS (upS (upS (upS up0 ?_) ?_) ?_) ?_) ?_) ?_) ?_) ?_) ?_) ?_)
  ·exact fun _ _ ha=>absurd ha (by decide)
  ·exact fun _ _ ha=>absurd ha (by decide)
  ·exact fun _ _ ha=>absurd ha (by decide)
  ·exact fun _ _ ha=>absurd ha (by decide)
  ·exact fun _ _ ha=>absurd ha (by decide)
  ·exact fun _ _ ha=>absurd ha (by decide)
  ·exact fun _ _ ha=>absurd ha (by decide)
  ·exact fun _ _ ha=>absurd ha (by decide)
  ·exact fun _ _ ha=>absurd ha (by decide)
  ·intro x w ha h; obtain ⟨g,rfl,_,hg,_⟩:=h; exact bv_lt hg
 ·refine upS (upS (upS (upS (upS (upS (upS (upS (upS (upS up0 ?_) ?_) ?_) ?_) ?_) ?_) ?_) ?_) ?_) ?_
  all_goals intro v f w' hb hv hB hd
  ·clear hb hv hd
   refine wpOp_call rfl (fun _ _=>by go_simp) (by simp [Act.eval]) (of_big 2 (by decide) (by decide) _) ?_
   rintro e w5 ⟨v5,rfl,h5,hb5⟩
   exact ⟨_,rfl,_,rfl,hb5,h5,fun h=>absurd h (by decide)⟩
  ·have b2:f.tmps[2]?=some (.pointer (some ⟨w.heap.size,0,none⟩)):=(hb 2 (by decide)).trans rfl
   clear hb hv hd
   have c:=bc_keep hB bX
   refine wpOp_step rfl (fun K hK=>?_)
   go_simp
   exact hK _ _ ⟨_,rfl,Below.refl _ _,rfl,fun h=>absurd h (by decide)⟩
  ·have b5:f.tmps[5]?=some (.pointer (some ⟨gq,0,none⟩)):=(hb 5 (by decide)).trans rfl
   clear hb hv hd
   have c:=bc_keep hB bq
   refine wpOp_step rfl (fun K hK=>?_)
   go_simp
   exact hK _ _ ⟨_,rfl,Below.refl _ _,rfl,fun h=>absurd h (by decide)⟩
  ·have b3:f.tmps[3]?=some (.pointer (some ⟨w.heap.size+1,0,none⟩)):=(hb 3 (by decide)).trans rfl
   clear hb hv hd
   have c:=bc_keep hB bY
   refine wpOp_step rfl (fun K hK=>?_)
   go_simp
   exact hK _ _ ⟨_,rfl,Below.refl _ _,rfl,fun h=>absurd h (by decide)⟩
  ·have h2:(v 2)=.agg #[.bool nq,.slice aq kq cq]:=hd 2 (by kernel_rfl)
   have d2:f.tmps[19]?=some (.agg #[.bool nq,.slice aq kq cq]):=(hv 2 19 rfl).trans (congrArg some h2)
   clear h2
   have h3:(v 3)=.agg #[.bool nY,.slice aY kY cY]:=hd 3 (by kernel_rfl)
   have d3:f.tmps[20]?=some (.agg #[.bool nY,.slice aY kY cY]):=(hv 3 20 rfl).trans (congrArg some h3)
   clear h3
   clear hb hv hd
   refine wpOp_call rfl (fun _ _=>by go_simp) (by simp [Act.eval,d2,d3]) (mul_big _ _ q y _ (bg_keep gQ hB) (bg_keep gY hB) (small_of (by omega) (by omega)) (small_of (by omega) (by omega))) ?_
   rintro e w5 ⟨v5,rfl,h5,hb5⟩
   exact ⟨_,rfl,_,rfl,hb5,by rwa [QE.out] at h5,fun h=>absurd h (by decide)⟩
  ·have h1:(v 1)=.agg #[.bool nX,.slice aX kX cX]:=hd 1 (by kernel_rfl)
   have d1:f.tmps[18]?=some (.agg #[.bool nX,.slice aX kX cX]):=(hv 1 18 rfl).trans (congrArg some h1)
   clear h1
   have h4:BG w' (v 4) (x - R):=hd 4 (by kernel_rfl)
   have d4:f.tmps[21]?=some (v 4):=hv 4 21 rfl
   clear hb hv hd
   refine wpOp_call rfl (fun _ _=>by go_simp) (by simp [Act.eval,d1,d4]) (sub_big _ _ x (x - R) _ (bg_keep gX hB) h4 (small_of (by omega) (by omega)) (small_of (by omega) (by omega))) ?_
   rintro e w5 ⟨v5,rfl,h5,hb5⟩
   exact ⟨_,rfl,_,rfl,hb5,by rwa [show x - (x - R)=R by omega] at h5,fun h=>absurd h (by decide)⟩
  ·have h0:BG w' (v 0) (2):=hd 0 (by kernel_rfl)
   have d0:f.tmps[17]?=some (v 0):=hv 0 17 rfl
   have h5:BG w' (v 5) (R):=hd 5 (by kernel_rfl)
   have d5:f.tmps[22]?=some (v 5):=hv 5 22 rfl
   clear hb hv hd
   refine wpOp_call rfl (fun _ _=>by go_simp) (by simp [Act.eval,d0,d5]) (mul_big _ _ 2 R _ h0 h5 (small_of (by omega) (by omega)) (small_of (by omega) (by omega))) ?_
   rintro e w5 ⟨v5,rfl,h5,hb5⟩
   exact ⟨_,rfl,_,rfl,hb5,h5,fun h=>absurd h (by decide)⟩
  ·have b3:f.tmps[3]?=some (.pointer (some ⟨w.heap.size+1,0,none⟩)):=(hb 3 (by decide)).trans rfl
   clear hb hv hd
   have c:=bc_keep hB bY
   refine wpOp_step rfl (fun K hK=>?_)
   go_simp
   exact hK _ _ ⟨_,rfl,Below.refl _ _,rfl,fun h=>absurd h (by decide)⟩
  ·have h6:BG w' (v 6) (2*R):=hd 6 (by kernel_rfl)
   have d6:f.tmps[23]?=some (v 6):=hv 6 23 rfl
   have h7:(v 7)=.agg #[.bool nY,.slice aY kY cY]:=hd 7 (by kernel_rfl)
   have d7:f.tmps[24]?=some (.agg #[.bool nY,.slice aY kY cY]):=(hv 7 24 rfl).trans (congrArg some h7)
   clear h7
   clear hb hv hd
   refine wpOp_call rfl (fun _ _=>by go_simp) (by simp [Act.eval,d6,d7]) (sub_big _ _ (2*R) y _ h6 (bg_keep gY hB) (small_of (by omega) (by omega)) (small_of (by omega) (by omega))) ?_
   rintro e w5 ⟨v5,rfl,h5,hb5⟩
   exact ⟨_,rfl,_,rfl,hb5,h5,fun h=>absurd h (by decide)⟩
  ·clear hb hv hd
   refine wpOp_step rfl (fun K hK=>?_)
   go_simp
   exact hK _ _ ⟨_,rfl,b_alloc (Below.refl _ _),⟨_,rfl,hB.size,bv_new _ _ _ _ rfl,trivial⟩,fun _=>Nat.le_refl _⟩
 ·intro v w' hB hF hD
  have F0:BG w' (v 0) (2):=hF 0 (by simp)
  have F1:(v 1)=.agg #[.bool nX,.slice aX kX cX]:=hF 1 (by simp)
  have F2:(v 2)=.agg #[.bool nq,.slice aq kq cq]:=hF 2 (by simp)
  have F3:(v 3)=.agg #[.bool nY,.slice aY kY cY]:=hF 3 (by simp)
  have F4:BG w' (v 4) (x - R):=hF 4 (by simp)
  have F5:BG w' (v 5) (R):=hF 5 (by simp)
  have F6:BG w' (v 6) (2*R):=hF 6 (by simp)
  have F7:(v 7)=.agg #[.bool nY,.slice aY kY cY]:=hF 7 (by simp)
  have F8:BG w' (v 8) (2*R - y):=hF 8 (by simp)
  have F9:∃ g,(v 9)=.pointer (some ⟨g,0,none⟩)∧W4.heap.size≤g∧BV w' g∧True:=hF 9 (by simp)
  clear hF
  obtain ⟨n0_,a0_,k0_,c0_,e0⟩:=bg_form F0
  obtain ⟨n4_,a4_,k4_,c4_,e4⟩:=bg_form F4
  obtain ⟨n5_,a5_,k5_,c5_,e5⟩:=bg_form F5
  obtain ⟨n6_,a6_,k6_,c6_,e6⟩:=bg_form F6
  obtain ⟨n8_,a8_,k8_,c8_,e8⟩:=bg_form F8
  obtain ⟨gt,e9,pt,vt,_⟩:=F9
  rw [e8] at F8
  simp only [frOf,frGo,Nat.zero_add,Nat.reduceAdd,e0,F1,F2,F3,e4,e5,e6,F7,e8,e9]
  have l1:=bv_lt (vb_bv vQ)
  have l2:=bv_lt r4
  have l3:=B4.size
  have vT:=vb_store vt F8
  have vQ:=vb_other (u:=.bool n8_) (u':=.slice a8_ k8_ c8_) vt (vb_keep vQ hB) (by omega)
  have r5:=bv_other (b:=gt) (u:=.bool n8_) (u':=.slice a8_ k8_ c8_) (bv_keep hB r4) (by omega)
  have B5:=b_set (p:=⟨gt,1,none⟩) (v:=.slice a8_ k8_ c8_) (b_set (p:=⟨gt,0,none⟩) (v:=.bool n8_) (b_trans B4 hB) (by show _≤gt; omega)) (by show _≤gt; omega)
  obtain ⟨_,_,_,_,u1,u2⟩:=bv_use vt
  clear F0 F1 F2 F3 F4 F5 F6 F7 F8 e0 e4 e5 e6 e8 e9 hB hD B4 r4 vt v bX bY bq gX gY gQ l1 l2 l3 pt
  go_step
  go_step
  clear u1 u2
  generalize ((w'.setCell ⟨gt,0,none⟩ (.bool n8_)).setCell ⟨gt,1,none⟩ (.slice a8_ k8_ c8_))=U1 at *
  obtain ⟨nq,aq,kq,cq,bq,fq,gQ⟩:=vb_use vQ
  obtain ⟨nT,aT,kT,cT,bT,fT,gT⟩:=vb_use vT
  obtain ⟨q1,q2,q3,q4⟩:=big_len gQ
  obtain ⟨t1,t2,t3,t4⟩:=big_len gT
  have od:=odd_use gQ
  clear vQ vT gT QE
  rcases od with ⟨k0,q0⟩ | ⟨g0,d0,rfl,k0,hc,d00,d01,par⟩
  ·have kn:¬ (0:Int)<(kq:Int):=by omega
   have par:q % 2=0:=by omega
   clear k0 q0 q2 q1
   cases nT
   ·by_cases tk:kT=0
    ·have tz:2*R - y=0:=t2.1 tk
     have tn:¬ (0:Int)<(kT:Int):=by omega
     clear tk
     have NS:=Lib.hid (show ans=q by rw [← NA.out]; exact near_stay (by omega))
     clear t1 t2 tz NA
     try clear po
     try clear par
     obtain ⟨n'',a'',k'',c'',r8,f8⟩:=bv_use r5
     have HB:=Lib.hid (And.intro r5 gQ)
     clear gQ r5
     go_wp2
     exact bodyPost_ret (v:=.agg #[.bool nq,.slice aq kq cq]) (by simp [results,Tryz.results87,go_sem,r8]) rfl ⟨_,rfl,by rw [NS.out]; exact bg_store HB.out.1 HB.out.2,b_set (b_set B5 (by simp; omega)) (by simp; omega)⟩
    ·have tz:0<2*R - y:=by
      have h1:¬ 2*R - y=0:=fun h=>tk (t2.2 h)
      have h2:¬ 2*R - y<0:=fun h=>by have:=t1.1 h; cases this
      omega
     have tn:(0:Int)<(kT:Int):=by omega
     clear tk
     have NU:=Lib.hid (show ans=q+1 by rw [← NA.out]; exact near_up (by omega))
     clear t1 t2 tz NA
     try clear po
     try clear par
     go_wp2_with fail
     refine region_each [50,51,52] (fun i X_ U_=>match i with | 0=>X_=.agg #[.bool nq,.slice aq kq cq] | 1=>BG U_ X_ (1) | 2=>BG U_ X_ (q+1) | _=>True) (fun i=>false) (by kernel_rfl) (by kernel_rfl) (by kernel_rfl) (by kernel_rfl) (by kernel_rfl) ?_ ?_ ?_ ?_
     ·refine swp (upS (upS (upS up0 ?_) ?_) ?_)
      ·exact fun _ _ _ h _=>h
      ·intro x w w' h hb; exact bg_keep h hb
      ·intro x w w' h hb; exact bg_keep h hb
     ·intro i x w hi ha h
      cases ha
     ·refine upS (upS (upS up0 ?_) ?_) ?_
      all_goals intro v f w' hb hv hB hd
      ·have b5:f.tmps[5]?=some (.pointer (some ⟨gq,0,none⟩)):=(hb 5 (by decide)).trans rfl
       clear hb hv hd
       have c:=bc_keep hB bq
       refine wpOp_step rfl (fun K hK=>?_)
       go_simp
       exact hK _ _ ⟨_,rfl,Below.refl _ _,rfl,fun h=>absurd h (by decide)⟩
      ·clear hb hv hd
       refine wpOp_call rfl (fun _ _=>by go_simp) (by simp [Act.eval]) (of_big 1 (by decide) (by decide) _) ?_
       rintro e w5 ⟨v5,rfl,h5,hb5⟩
       exact ⟨_,rfl,_,rfl,hb5,h5,fun h=>absurd h (by decide)⟩
      ·have h0:(v 0)=.agg #[.bool nq,.slice aq kq cq]:=hd 0 (by kernel_rfl)
       have d0:f.tmps[50]?=some (.agg #[.bool nq,.slice aq kq cq]):=(hv 0 50 rfl).trans (congrArg some h0)
       clear h0
       have h1:BG w' (v 1) (1):=hd 1 (by kernel_rfl)
       have d1:f.tmps[51]?=some (v 1):=hv 1 51 rfl
       clear hb hv hd
       refine wpOp_call rfl (fun _ _=>by go_simp) (by simp [Act.eval,d0,d1]) (add_big _ _ q 1 _ (bg_keep gQ hB) h1 (small_of (by omega) (by omega)) (small_of (by omega) (by omega))) ?_
       rintro e w5 ⟨v5,rfl,h5,hb5⟩
       exact ⟨_,rfl,_,rfl,hb5,h5,fun h=>absurd h (by decide)⟩
     ·intro v w' hB hF hD
      have F0:(v 0)=.agg #[.bool nq,.slice aq kq cq]:=hF 0 (by simp)
      have F1:BG w' (v 1) (1):=hF 1 (by simp)
      have F2:BG w' (v 2) (q+1):=hF 2 (by simp)
      clear hF
      obtain ⟨n1_,a1_,k1_,c1_,e1⟩:=bg_form F1
      obtain ⟨n2_,a2_,k2_,c2_,e2⟩:=bg_form F2
      rw [e2] at F2
      simp only [frOf,frGo,Nat.zero_add,Nat.reduceAdd,F0,e1,e2]
      have r9:=bv_keep hB r5
      have B9:=b_trans B5 hB
      obtain ⟨n'',a'',k'',c'',r8,f8⟩:=bv_use r9
      have HB:=Lib.hid (And.intro r9 F2)
      clear hB hD r9 F0 F1 F2
      go_wp2
      exact bodyPost_ret (v:=.agg #[.bool n2_,.slice a2_ k2_ c2_]) (by simp [results,Tryz.results87,go_sem,r8]) rfl ⟨_,rfl,by rw [NU.out]; exact bg_store HB.out.1 HB.out.2,b_set (b_set B9 (by simp; omega)) (by simp; omega)⟩
   ·have tz:2*R - y<0:=t1.2 rfl
    have NS:=Lib.hid (show ans=q by rw [← NA.out]; exact near_stay (by omega))
    clear t1 t2 tz NA
    try clear po
    try clear par
    obtain ⟨n'',a'',k'',c'',r8,f8⟩:=bv_use r5
    have HB:=Lib.hid (And.intro r5 gQ)
    clear gQ r5
    go_wp2
    exact bodyPost_ret (v:=.agg #[.bool nq,.slice aq kq cq]) (by simp [results,Tryz.results87,go_sem,r8]) rfl ⟨_,rfl,by rw [NS.out]; exact bg_store HB.out.1 HB.out.2,b_set (b_set B5 (by simp; omega)) (by simp; omega)⟩
  ·have kn:(0:Int)<(kq:Int):=by omega
   clear q1 q2
   cases nT
   ·by_cases tk:kT=0
    ·have tz:2*R - y=0:=t2.1 tk
     have tn:¬ (0:Int)<(kT:Int):=by omega
     clear tk
     by_cases pd:d0 % 2=1
     ·have po:q % 2=1:=by omega
      have NU:=Lib.hid (show ans=q+1 by rw [← NA.out]; exact near_up (by omega))
      clear t1 t2 tz NA
      try clear po
      try clear par
      go_wp2_with fail
      refine region_each [50,51,52] (fun i X_ U_=>match i with | 0=>X_=.agg #[.bool nq,.slice (some ⟨g0,0,none⟩) kq cq] | 1=>BG U_ X_ (1) | 2=>BG U_ X_ (q+1) | _=>True) (fun i=>false) (by kernel_rfl) (by kernel_rfl) (by kernel_rfl) (by kernel_rfl) (by kernel_rfl) ?_ ?_ ?_ ?_
      ·refine swp (upS (upS (upS up0 ?_) ?_) ?_)
       ·exact fun _ _ _ h _=>h
       ·intro x w w' h hb; exact bg_keep h hb
       ·intro x w w' h hb; exact bg_keep h hb
      ·intro i x w hi ha h
       cases ha
      ·refine upS (upS (upS up0 ?_) ?_) ?_
       all_goals intro v f w' hb hv hB hd
       ·have b5:f.tmps[5]?=some (.pointer (some ⟨gq,0,none⟩)):=(hb 5 (by decide)).trans rfl
        clear hb hv hd
        have c:=bc_keep hB bq
        refine wpOp_step rfl (fun K hK=>?_)
        go_simp
        exact hK _ _ ⟨_,rfl,Below.refl _ _,rfl,fun h=>absurd h (by decide)⟩
       ·clear hb hv hd
        refine wpOp_call rfl (fun _ _=>by go_simp) (by simp [Act.eval]) (of_big 1 (by decide) (by decide) _) ?_
        rintro e w5 ⟨v5,rfl,h5,hb5⟩
        exact ⟨_,rfl,_,rfl,hb5,h5,fun h=>absurd h (by decide)⟩
       ·have h0:(v 0)=.agg #[.bool nq,.slice (some ⟨g0,0,none⟩) kq cq]:=hd 0 (by kernel_rfl)
        have d0:f.tmps[50]?=some (.agg #[.bool nq,.slice (some ⟨g0,0,none⟩) kq cq]):=(hv 0 50 rfl).trans (congrArg some h0)
        clear h0
        have h1:BG w' (v 1) (1):=hd 1 (by kernel_rfl)
        have d1:f.tmps[51]?=some (v 1):=hv 1 51 rfl
        clear hb hv hd
        refine wpOp_call rfl (fun _ _=>by go_simp) (by simp [Act.eval,d0,d1]) (add_big _ _ q 1 _ (bg_keep gQ hB) h1 (small_of (by omega) (by omega)) (small_of (by omega) (by omega))) ?_
        rintro e w5 ⟨v5,rfl,h5,hb5⟩
        exact ⟨_,rfl,_,rfl,hb5,h5,fun h=>absurd h (by decide)⟩
      ·intro v w' hB hF hD
       have F0:(v 0)=.agg #[.bool nq,.slice (some ⟨g0,0,none⟩) kq cq]:=hF 0 (by simp)
       have F1:BG w' (v 1) (1):=hF 1 (by simp)
       have F2:BG w' (v 2) (q+1):=hF 2 (by simp)
       clear hF
       obtain ⟨n1_,a1_,k1_,c1_,e1⟩:=bg_form F1
       obtain ⟨n2_,a2_,k2_,c2_,e2⟩:=bg_form F2
       rw [e2] at F2
       simp only [frOf,frGo,Nat.zero_add,Nat.reduceAdd,F0,e1,e2]
       have r9:=bv_keep hB r5
       have B9:=b_trans B5 hB
       obtain ⟨n'',a'',k'',c'',r8,f8⟩:=bv_use r9
       have HB:=Lib.hid (And.intro r9 F2)
       clear hB hD r9 F0 F1 F2
       go_wp2
       exact bodyPost_ret (v:=.agg #[.bool n2_,.slice a2_ k2_ c2_]) (by simp [results,Tryz.results87,go_sem,r8]) rfl ⟨_,rfl,by rw [NU.out]; exact bg_store HB.out.1 HB.out.2,b_set (b_set B9 (by simp; omega)) (by simp; omega)⟩
     ·have po:q % 2=0:=by omega
      have NS:=Lib.hid (show ans=q by rw [← NA.out]; exact near_stay (by omega))
      clear t1 t2 tz NA
      try clear po
      try clear par
      obtain ⟨n'',a'',k'',c'',r8,f8⟩:=bv_use r5
      have HB:=Lib.hid (And.intro r5 gQ)
      clear gQ r5
      go_wp2
      exact bodyPost_ret (v:=.agg #[.bool nq,.slice (some ⟨g0,0,none⟩) kq cq]) (by simp [results,Tryz.results87,go_sem,r8]) rfl ⟨_,rfl,by rw [NS.out]; exact bg_store HB.out.1 HB.out.2,b_set (b_set B5 (by simp; omega)) (by simp; omega)⟩
    ·have tz:0<2*R - y:=by
      have h1:¬ 2*R - y=0:=fun h=>tk (t2.2 h)
      have h2:¬ 2*R - y<0:=fun h=>by have:=t1.1 h; cases this
      omega
     have tn:(0:Int)<(kT:Int):=by omega
     clear tk
     have NU:=Lib.hid (show ans=q+1 by rw [← NA.out]; exact near_up (by omega))
     clear t1 t2 tz NA
     try clear po
     try clear par
     go_wp2_with fail
     refine region_each [50,51,52] (fun i X_ U_=>match i with | 0=>X_=.agg #[.bool nq,.slice (some ⟨g0,0,none⟩) kq cq] | 1=>BG U_ X_ (1) | 2=>BG U_ X_ (q+1) | _=>True) (fun i=>false) (by kernel_rfl) (by kernel_rfl) (by kernel_rfl) (by kernel_rfl) (by kernel_rfl) ?_ ?_ ?_ ?_
     ·refine swp (upS (upS (upS up0 ?_) ?_) ?_)
      ·exact fun _ _ _ h _=>h
      ·intro x w w' h hb; exact bg_keep h hb
      ·intro x w w' h hb; exact bg_keep h hb
     ·intro i x w hi ha h
      cases ha
     ·refine upS (upS (upS up0 ?_) ?_) ?_
      all_goals intro v f w' hb hv hB hd
      ·have b5:f.tmps[5]?=some (.pointer (some ⟨gq,0,none⟩)):=(hb 5 (by decide)).trans rfl
       clear hb hv hd
       have c:=bc_keep hB bq
       refine wpOp_step rfl (fun K hK=>?_)
       go_simp
       exact hK _ _ ⟨_,rfl,Below.refl _ _,rfl,fun h=>absurd h (by decide)⟩
      ·clear hb hv hd
       refine wpOp_call rfl (fun _ _=>by go_simp) (by simp [Act.eval]) (of_big 1 (by decide) (by decide) _) ?_
       rintro e w5 ⟨v5,rfl,h5,hb5⟩
       exact ⟨_,rfl,_,rfl,hb5,h5,fun h=>absurd h (by decide)⟩
      ·have h0:(v 0)=.agg #[.bool nq,.slice (some ⟨g0,0,none⟩) kq cq]:=hd 0 (by kernel_rfl)
       have d0:f.tmps[50]?=some (.agg #[.bool nq,.slice (some ⟨g0,0,none⟩) kq cq]):=(hv 0 50 rfl).trans (congrArg some h0)
       clear h0
       have h1:BG w' (v 1) (1):=hd 1 (by kernel_rfl)
       have d1:f.tmps[51]?=some (v 1):=hv 1 51 rfl
       clear hb hv hd
       refine wpOp_call rfl (fun _ _=>by go_simp) (by simp [Act.eval,d0,d1]) (add_big _ _ q 1 _ (bg_keep gQ hB) h1 (small_of (by omega) (by omega)) (small_of (by omega) (by omega))) ?_
       rintro e w5 ⟨v5,rfl,h5,hb5⟩
       exact ⟨_,rfl,_,rfl,hb5,h5,fun h=>absurd h (by decide)⟩
     ·intro v w' hB hF hD
      have F0:(v 0)=.agg #[.bool nq,.slice (some ⟨g0,0,none⟩) kq cq]:=hF 0 (by simp)
      have F1:BG w' (v 1) (1):=hF 1 (by simp)
      have F2:BG w' (v 2) (q+1):=hF 2 (by simp)
      clear hF
      obtain ⟨n1_,a1_,k1_,c1_,e1⟩:=bg_form F1
      obtain ⟨n2_,a2_,k2_,c2_,e2⟩:=bg_form F2
      rw [e2] at F2
      simp only [frOf,frGo,Nat.zero_add,Nat.reduceAdd,F0,e1,e2]
      have r9:=bv_keep hB r5
      have B9:=b_trans B5 hB
      obtain ⟨n'',a'',k'',c'',r8,f8⟩:=bv_use r9
      have HB:=Lib.hid (And.intro r9 F2)
      clear hB hD r9 F0 F1 F2
      go_wp2
      exact bodyPost_ret (v:=.agg #[.bool n2_,.slice a2_ k2_ c2_]) (by simp [results,Tryz.results87,go_sem,r8]) rfl ⟨_,rfl,by rw [NU.out]; exact bg_store HB.out.1 HB.out.2,b_set (b_set B9 (by simp; omega)) (by simp; omega)⟩
   ·have tz:2*R - y<0:=t1.2 rfl
    have NS:=Lib.hid (show ans=q by rw [← NA.out]; exact near_stay (by omega))
    clear t1 t2 tz NA
    try clear po
    try clear par
    obtain ⟨n'',a'',k'',c'',r8,f8⟩:=bv_use r5
    have HB:=Lib.hid (And.intro r5 gQ)
    clear gQ r5
    go_wp2
    exact bodyPost_ret (v:=.agg #[.bool nq,.slice (some ⟨g0,0,none⟩) kq cq]) (by simp [results,Tryz.results87,go_sem,r8]) rfl ⟨_,rfl,by rw [NS.out]; exact bg_store HB.out.1 HB.out.2,b_set (b_set B5 (by simp; omega)) (by simp; omega)⟩
theorem even_down (va vb:Value) (x y X Y:Int) (ex:-x=X) (ey:-y=Y) (w:World) (hx:BG w va x) (hy:BG w vb y) (y1:1≤Y) (tX:Tiny X) (tY:Tiny Y) :
  Calls Tryz.prog 87 #[va,vb] w (RetB (near (X / Y) (2*(X % Y) - Y)) w):=by
 obtain ⟨n1,aa,ka,ca,rfl⟩:=bg_form hx
 obtain ⟨n2,ab,kb,cb,rfl⟩:=bg_form hy
 obtain rfl:n2=true:=(big_len hy).1.1 (by omega)
 have EX:=Lib.hid ex
 have EY:=Lib.hid ey
 clear ex ey
 go_enter Tryz.func87,Tryz.ntmps87
 go_wp2_with fail
 have B1:Below w.heap.size w (((w.alloc (Obj.cells #[.bool n1,.slice aa ka ca] 116)).alloc (Obj.cells #[.bool true,.slice ab kb cb] 116)).alloc (Obj.cells #[.bool false,.slice none 0 0] 116)):=b_alloc (b_alloc (b_alloc (Below.refl _ _)))
 have vA:VB (((w.alloc (Obj.cells #[.bool n1,.slice aa ka ca] 116)).alloc (Obj.cells #[.bool true,.slice ab kb cb] 116)).alloc (Obj.cells #[.bool false,.slice none 0 0] 116)) (w.heap.size) x:=vb_keep (vb_new rfl hx) (b_alloc (b_alloc (Below.refl _ _)))
 have vB:VB (((w.alloc (Obj.cells #[.bool n1,.slice aa ka ca] 116)).alloc (Obj.cells #[.bool true,.slice ab kb cb] 116)).alloc (Obj.cells #[.bool false,.slice none 0 0] 116)) (w.heap.size+1) y:=vb_keep (vb_new (by simp) (bg_keep hy (b_alloc (Below.refl _ _)))) (b_alloc (Below.refl _ _))
 have r1:BV (((w.alloc (Obj.cells #[.bool n1,.slice aa ka ca] 116)).alloc (Obj.cells #[.bool true,.slice ab kb cb] 116)).alloc (Obj.cells #[.bool false,.slice none 0 0] 116)) (w.heap.size+1+1):=bv_new _ _ _ _ (by simp)
 have k1:BC (((w.alloc (Obj.cells #[.bool n1,.slice aa ka ca] 116)).alloc (Obj.cells #[.bool true,.slice ab kb cb] 116)).alloc (Obj.cells #[.bool false,.slice none 0 0] 116)) w.heap.size n1 (.slice aa ka ca):=by simp [BC,go_sem,World.cell?_alloc_past]
 have k2:BC (((w.alloc (Obj.cells #[.bool n1,.slice aa ka ca] 116)).alloc (Obj.cells #[.bool true,.slice ab kb cb] 116)).alloc (Obj.cells #[.bool false,.slice none 0 0] 116)) (w.heap.size+1) true (.slice ab kb cb):=by simp [BC,go_sem,World.cell?_alloc_past]
 have g1:=bg_keep hx B1
 have g2:=bg_keep hy B1
 clear hx hy
 generalize (((w.alloc (Obj.cells #[.bool n1,.slice aa ka ca] 116)).alloc (Obj.cells #[.bool true,.slice ab kb cb] 116)).alloc (Obj.cells #[.bool false,.slice none 0 0] 116))=W0 at *
 refine region_each [10,11,12,13] (fun i X_ U_=>match i with | 0=>X_=.agg #[.bool n1,.slice aa ka ca] | 1=>BG U_ X_ (X) | 2=>X_=.agg #[.bool true,.slice ab kb cb] | 3=>BG U_ X_ (Y) | _=>True) (fun i=>false) (by kernel_rfl) (by kernel_rfl) (by kernel_rfl) (by kernel_rfl) (by kernel_rfl) ?_ ?_ ?_ ?_
 ·refine swp (upS (upS (upS (upS up0 ?_) ?_) ?_) ?_)
  ·exact fun _ _ _ h _=>h
  ·intro x w w' h hb; exact bg_keep h hb
  ·exact fun _ _ _ h _=>h
  ·intro x w w' h hb; exact bg_keep h hb
 ·intro i x w hi ha h
  cases ha
 ·refine upS (upS (upS (upS up0 ?_) ?_) ?_) ?_
  all_goals intro v f w' hb hv hB hd
  ·have b2:f.tmps[2]?=some (.pointer (some ⟨w.heap.size,0,none⟩)):=(hb 2 (by decide)).trans rfl
   clear hb hv hd
   have c:=bc_keep hB k1
   refine wpOp_step rfl (fun K hK=>?_)
   go_simp
   exact hK _ _ ⟨_,rfl,Below.refl _ _,rfl,fun h=>absurd h (by decide)⟩
  ·have h0:(v 0)=.agg #[.bool n1,.slice aa ka ca]:=hd 0 (by kernel_rfl)
   have d0:f.tmps[10]?=some (.agg #[.bool n1,.slice aa ka ca]):=(hv 0 10 rfl).trans (congrArg some h0)
   clear h0
   clear hb hv hd
   refine wpOp_call rfl (fun _ _=>by go_simp) (by simp [Act.eval,d0]) (turn_any _ x _ (bg_keep g1 hB)) ?_
   rintro e w5 ⟨v5,rfl,h5,hb5⟩
   exact ⟨_,rfl,_,rfl,hb5,by rwa [EX.out] at h5,fun h=>absurd h (by decide)⟩
  ·have b3:f.tmps[3]?=some (.pointer (some ⟨w.heap.size+1,0,none⟩)):=(hb 3 (by decide)).trans rfl
   clear hb hv hd
   have c:=bc_keep hB k2
   refine wpOp_step rfl (fun K hK=>?_)
   go_simp
   exact hK _ _ ⟨_,rfl,Below.refl _ _,rfl,fun h=>absurd h (by decide)⟩
  ·have h2:(v 2)=.agg #[.bool true,.slice ab kb cb]:=hd 2 (by kernel_rfl)
   have d2:f.tmps[12]?=some (.agg #[.bool true,.slice ab kb cb]):=(hv 2 12 rfl).trans (congrArg some h2)
   clear h2
   clear hb hv hd
   refine wpOp_call rfl (fun _ _=>by go_simp) (by simp [Act.eval,d2]) (turn_any _ y _ (bg_keep g2 hB)) ?_
   rintro e w5 ⟨v5,rfl,h5,hb5⟩
   exact ⟨_,rfl,_,rfl,hb5,by rwa [EY.out] at h5,fun h=>absurd h (by decide)⟩
 ·intro v w' hB hF hD
  have F0:(v 0)=.agg #[.bool n1,.slice aa ka ca]:=hF 0 (by simp)
  have F1:BG w' (v 1) (X):=hF 1 (by simp)
  have F2:(v 2)=.agg #[.bool true,.slice ab kb cb]:=hF 2 (by simp)
  have F3:BG w' (v 3) (Y):=hF 3 (by simp)
  clear hF
  obtain ⟨n1_,a1_,k1_,c1_,e1⟩:=bg_form F1
  obtain ⟨n3_,a3_,k3_,c3_,e3⟩:=bg_form F3
  rw [e1] at F1
  rw [e3] at F3
  simp only [frOf,frGo,Nat.zero_add,Nat.reduceAdd,F0,e1,F2,e3]
  have p1:=vb_bv (vb_keep vA hB)
  have p2:=vb_bv (vb_keep vB hB)
  have p3:=bv_keep hB r1
  obtain ⟨_,_,_,_,u1,u2⟩:=bv_use p1
  obtain ⟨_,_,_,_,u3,u4⟩:=bv_use p2
  have p2':=bv_other (b:=w.heap.size) (u:=.bool n1_) (u':=.slice a1_ k1_ c1_) p2 (by omega)
  have vA:=vb_other (u:=.bool n3_) (u':=.slice a3_ k3_ c3_) p2' (vb_store p1 F1) (by omega)
  have vB:=vb_store p2' (bg_store (u:=.bool n1_) (u':=.slice a1_ k1_ c1_) p1 F3)
  have r1:=bv_other (b:=w.heap.size+1) (u:=.bool n3_) (u':=.slice a3_ k3_ c3_) (bv_other (b:=w.heap.size) (u:=.bool n1_) (u':=.slice a1_ k1_ c1_) p3 (by omega)) (by omega)
  have B1:=b_set (p:=⟨w.heap.size+1,1,none⟩) (v:=.slice a3_ k3_ c3_) (b_set (p:=⟨w.heap.size+1,0,none⟩) (v:=.bool n3_) (b_set (p:=⟨w.heap.size,1,none⟩) (v:=.slice a1_ k1_ c1_) (b_set (p:=⟨w.heap.size,0,none⟩) (v:=.bool n1_) (b_trans B1 hB) (by simp)) (by simp)) (by simp)) (by simp)
  clear F0 F1 F2 F3 e1 e3 hB hD k1 k2 g1 g2 p1 p2 p3 p2' v
  obtain ⟨nX,aX,kX,cX,bX,fX,gX⟩:=vb_use vA
  obtain ⟨nY,aY,kY,cY,bY,fY,gY⟩:=vb_use vB
  clear fX fY
  go_wp2_with fail
  refine (down_big _ _ X Y _ gX gY y1 tX tY).mono ?_
  rintro e w1 ⟨v1,rfl,h1,hb1⟩
  obtain ⟨n9,a9,k9,c9,rfl⟩:=bg_form h1
  obtain ⟨q0,q1,qe,qr0,qr1⟩:=div_tiny y1 tX
  generalize X / Y=q at *
  generalize X % Y=R at *
  generalize hans:near q (2*R - Y)=ans at *
  have NA:=Lib.hid hans
  clear hans
  have QE:=Lib.hid qe
  clear qe
  have tX0:=tX.1
  have tX1:=tX.2
  have tY0:=tY.1
  have tY1:=tY.2
  replace vA:=vb_keep vA hb1
  replace vB:=vb_keep vB hb1
  replace r1:=bv_keep hb1 r1
  replace B1:=b_trans B1 hb1
  clear hb1 bX bY gX gY u1 u2 u3 u4
  go_wp2_with fail
  have al:Below w1.heap.size w1 (w1.alloc (Obj.cells #[.bool n9,.slice a9 k9 c9] 116)):=b_alloc (Below.refl _ _)
  have vQ:VB (w1.alloc (Obj.cells #[.bool n9,.slice a9 k9 c9] 116)) w1.heap.size q:=vb_new rfl h1
  replace vA:=vb_keep vA al
  replace vB:=vb_keep vB al
  have r4:=bv_keep al r1
  have B4:=b_trans B1 al
  clear al r1 B1 h1
  generalize w1.alloc (Obj.cells #[.bool n9,.slice a9 k9 c9] 116)=W4 at *
  generalize w1.heap.size=gq at *
  obtain ⟨nX,aX,kX,cX,bX,_,gX⟩:=vb_use vA
  obtain ⟨nY,aY,kY,cY,bY,_,gY⟩:=vb_use vB
  obtain ⟨nq,aq,kq,cq,bq,_,gQ⟩:=vb_use vQ
  clear vA vB
  refine region_each [17,18,19,20,21,22,23,24,25,6] (fun i X_ U_=>match i with | 0=>BG U_ X_ (2) | 1=>X_=.agg #[.bool nX,.slice aX kX cX] | 2=>X_=.agg #[.bool nq,.slice aq kq cq] | 3=>X_=.agg #[.bool nY,.slice aY kY cY] | 4=>BG U_ X_ (X - R) | 5=>BG U_ X_ (R) | 6=>BG U_ X_ (2*R) | 7=>X_=.agg #[.bool nY,.slice aY kY cY] | 8=>BG U_ X_ (2*R - Y) | 9=>∃ g,X_=.pointer (some ⟨g,0,none⟩)∧W4.heap.size≤g∧BV U_ g∧True | _=>True) (fun i=>i == 9) (by kernel_rfl) (by kernel_rfl) (by kernel_rfl) (by kernel_rfl) (by kernel_rfl) ?_ ?_ ?_ ?_
  ·refine swp (upS (upS (upS (upS (upS (upS (upS (upS (upS (upS up0 ?_) ?_) ?_) ?_) ?_) ?_) ?_) ?_) ?_) ?_)
   ·intro x w w' h hb; exact bg_keep h hb
   ·exact fun _ _ _ h _=>h
   ·exact fun _ _ _ h _=>h
   ·exact fun _ _ _ h _=>h
   ·intro x w w' h hb; exact bg_keep h hb
   ·intro x w w' h hb; exact bg_keep h hb
   ·intro x w w' h hb; exact bg_keep h hb
   ·exact fun _ _ _ h _=>h
   ·intro x w w' h hb; exact bg_keep h hb
   ·intro x w w' h hb; obtain ⟨g,e,hg,hc,_⟩:=h; exact ⟨g,e,hg,bv_keep hb hc,trivial⟩
  ·refine swa (upS (upS (upS (upS (upS (upS (upS (upS (upS (upS up0 ?_) ?_) ?_) ?_) ?_) ?_) ?_) ?_) ?_) ?_)
   ·exact fun _ _ ha=>absurd ha (by decide)
   ·exact fun _ _ ha=>absurd ha (by decide)
   ·exact fun _ _ ha=>absurd ha (by decide)
   ·exact fun _ _ ha=>absurd ha (by decide)
   ·exact fun _ _ ha=>absurd ha (by decide)
   ·exact fun _ _ ha=>absurd ha (by decide)
   ·exact fun _ _ ha=>absurd ha (by decide)
   ·exact fun _ _ ha=>absurd ha (by decide)
   ·exact fun _ _ ha=>absurd ha (by decide)
   ·intro x w ha h; obtain ⟨g,rfl,_,hg,_⟩:=h; exact bv_lt hg
  ·refine upS (upS (upS (upS (upS (upS (upS (upS (upS (upS up0 ?_) ?_) ?_) ?_) ?_) ?_) ?_) ?_) ?_) ?_
   all_goals intro v f w' hb hv hB hd
   ·clear hb hv hd
    refine wpOp_call rfl (fun _ _=>by go_simp) (by simp [Act.eval]) (of_big 2 (by decide) (by decide) _) ?_
    rintro e w5 ⟨v5,rfl,h5,hb5⟩
    exact ⟨_,rfl,_,rfl,hb5,h5,fun h=>absurd h (by decide)⟩
   ·have b2:f.tmps[2]?=some (.pointer (some ⟨w.heap.size,0,none⟩)):=(hb 2 (by decide)).trans rfl
    clear hb hv hd
    have c:=bc_keep hB bX
    refine wpOp_step rfl (fun K hK=>?_)
    go_simp
    exact hK _ _ ⟨_,rfl,Below.refl _ _,rfl,fun h=>absurd h (by decide)⟩
   ·have b5:f.tmps[5]?=some (.pointer (some ⟨gq,0,none⟩)):=(hb 5 (by decide)).trans rfl
    clear hb hv hd
    have c:=bc_keep hB bq
    refine wpOp_step rfl (fun K hK=>?_)
    go_simp
    exact hK _ _ ⟨_,rfl,Below.refl _ _,rfl,fun h=>absurd h (by decide)⟩
   ·have b3:f.tmps[3]?=some (.pointer (some ⟨w.heap.size+1,0,none⟩)):=(hb 3 (by decide)).trans rfl
    clear hb hv hd
    have c:=bc_keep hB bY
    refine wpOp_step rfl (fun K hK=>?_)
    go_simp
    exact hK _ _ ⟨_,rfl,Below.refl _ _,rfl,fun h=>absurd h (by decide)⟩
   ·have h2:(v 2)=.agg #[.bool nq,.slice aq kq cq]:=hd 2 (by kernel_rfl)
    have d2:f.tmps[19]?=some (.agg #[.bool nq,.slice aq kq cq]):=(hv 2 19 rfl).trans (congrArg some h2)
    clear h2
    have h3:(v 3)=.agg #[.bool nY,.slice aY kY cY]:=hd 3 (by kernel_rfl)
    have d3:f.tmps[20]?=some (.agg #[.bool nY,.slice aY kY cY]):=(hv 3 20 rfl).trans (congrArg some h3)
    clear h3
    clear hb hv hd
    refine wpOp_call rfl (fun _ _=>by go_simp) (by simp [Act.eval,d2,d3]) (mul_big _ _ q Y _ (bg_keep gQ hB) (bg_keep gY hB) (small_of (by omega) (by omega)) (small_of (by omega) (by omega))) ?_
    rintro e w5 ⟨v5,rfl,h5,hb5⟩
    exact ⟨_,rfl,_,rfl,hb5,by rwa [QE.out] at h5,fun h=>absurd h (by decide)⟩
   ·have h1:(v 1)=.agg #[.bool nX,.slice aX kX cX]:=hd 1 (by kernel_rfl)
    have d1:f.tmps[18]?=some (.agg #[.bool nX,.slice aX kX cX]):=(hv 1 18 rfl).trans (congrArg some h1)
    clear h1
    have h4:BG w' (v 4) (X - R):=hd 4 (by kernel_rfl)
    have d4:f.tmps[21]?=some (v 4):=hv 4 21 rfl
    clear hb hv hd
    refine wpOp_call rfl (fun _ _=>by go_simp) (by simp [Act.eval,d1,d4]) (sub_big _ _ X (X - R) _ (bg_keep gX hB) h4 (small_of (by omega) (by omega)) (small_of (by omega) (by omega))) ?_
    rintro e w5 ⟨v5,rfl,h5,hb5⟩
    exact ⟨_,rfl,_,rfl,hb5,by rwa [show X - (X - R)=R by omega] at h5,fun h=>absurd h (by decide)⟩
   ·have h0:BG w' (v 0) (2):=hd 0 (by kernel_rfl)
    have d0:f.tmps[17]?=some (v 0):=hv 0 17 rfl
    have h5:BG w' (v 5) (R):=hd 5 (by kernel_rfl)
    have d5:f.tmps[22]?=some (v 5):=hv 5 22 rfl
    clear hb hv hd
    refine wpOp_call rfl (fun _ _=>by go_simp) (by simp [Act.eval,d0,d5]) (mul_big _ _ 2 R _ h0 h5 (small_of (by omega) (by omega)) (small_of (by omega) (by omega))) ?_
    rintro e w5 ⟨v5,rfl,h5,hb5⟩
    exact ⟨_,rfl,_,rfl,hb5,h5,fun h=>absurd h (by decide)⟩
   ·have b3:f.tmps[3]?=some (.pointer (some ⟨w.heap.size+1,0,none⟩)):=(hb 3 (by decide)).trans rfl
    clear hb hv hd
    have c:=bc_keep hB bY
    refine wpOp_step rfl (fun K hK=>?_)
    go_simp
    exact hK _ _ ⟨_,rfl,Below.refl _ _,rfl,fun h=>absurd h (by decide)⟩
   ·have h6:BG w' (v 6) (2*R):=hd 6 (by kernel_rfl)
    have d6:f.tmps[23]?=some (v 6):=hv 6 23 rfl
    have h7:(v 7)=.agg #[.bool nY,.slice aY kY cY]:=hd 7 (by kernel_rfl)
    have d7:f.tmps[24]?=some (.agg #[.bool nY,.slice aY kY cY]):=(hv 7 24 rfl).trans (congrArg some h7)
    clear h7
    clear hb hv hd
    refine wpOp_call rfl (fun _ _=>by go_simp) (by simp [Act.eval,d6,d7]) (sub_big _ _ (2*R) Y _ h6 (bg_keep gY hB) (small_of (by omega) (by omega)) (small_of (by omega) (by omega))) ?_
    rintro e w5 ⟨v5,rfl,h5,hb5⟩
    exact ⟨_,rfl,_,rfl,hb5,h5,fun h=>absurd h (by decide)⟩
   ·clear hb hv hd
    refine wpOp_step rfl (fun K hK=>?_)
    go_simp
    exact hK _ _ ⟨_,rfl,b_alloc (Below.refl _ _),⟨_,rfl,hB.size,bv_new _ _ _ _ rfl,trivial⟩,fun _=>Nat.le_refl _⟩
  ·intro v w' hB hF hD
   have F0:BG w' (v 0) (2):=hF 0 (by simp)
   have F1:(v 1)=.agg #[.bool nX,.slice aX kX cX]:=hF 1 (by simp)
   have F2:(v 2)=.agg #[.bool nq,.slice aq kq cq]:=hF 2 (by simp)
   have F3:(v 3)=.agg #[.bool nY,.slice aY kY cY]:=hF 3 (by simp)
   have F4:BG w' (v 4) (X - R):=hF 4 (by simp)
   have F5:BG w' (v 5) (R):=hF 5 (by simp)
   have F6:BG w' (v 6) (2*R):=hF 6 (by simp)
   have F7:(v 7)=.agg #[.bool nY,.slice aY kY cY]:=hF 7 (by simp)
   have F8:BG w' (v 8) (2*R - Y):=hF 8 (by simp)
   have F9:∃ g,(v 9)=.pointer (some ⟨g,0,none⟩)∧W4.heap.size≤g∧BV w' g∧True:=hF 9 (by simp)
   clear hF
   obtain ⟨n0_,a0_,k0_,c0_,e0⟩:=bg_form F0
   obtain ⟨n4_,a4_,k4_,c4_,e4⟩:=bg_form F4
   obtain ⟨n5_,a5_,k5_,c5_,e5⟩:=bg_form F5
   obtain ⟨n6_,a6_,k6_,c6_,e6⟩:=bg_form F6
   obtain ⟨n8_,a8_,k8_,c8_,e8⟩:=bg_form F8
   obtain ⟨gt,e9,pt,vt,_⟩:=F9
   rw [e8] at F8
   simp only [frOf,frGo,Nat.zero_add,Nat.reduceAdd,e0,F1,F2,F3,e4,e5,e6,F7,e8,e9]
   have l1:=bv_lt (vb_bv vQ)
   have l2:=bv_lt r4
   have l3:=B4.size
   have vT:=vb_store vt F8
   have vQ:=vb_other (u:=.bool n8_) (u':=.slice a8_ k8_ c8_) vt (vb_keep vQ hB) (by omega)
   have r5:=bv_other (b:=gt) (u:=.bool n8_) (u':=.slice a8_ k8_ c8_) (bv_keep hB r4) (by omega)
   have B5:=b_set (p:=⟨gt,1,none⟩) (v:=.slice a8_ k8_ c8_) (b_set (p:=⟨gt,0,none⟩) (v:=.bool n8_) (b_trans B4 hB) (by show _≤gt; omega)) (by show _≤gt; omega)
   obtain ⟨_,_,_,_,u1,u2⟩:=bv_use vt
   clear F0 F1 F2 F3 F4 F5 F6 F7 F8 e0 e4 e5 e6 e8 e9 hB hD B4 r4 vt v bX bY bq gX gY gQ l1 l2 l3 pt
   go_step
   go_step
   clear u1 u2
   generalize ((w'.setCell ⟨gt,0,none⟩ (.bool n8_)).setCell ⟨gt,1,none⟩ (.slice a8_ k8_ c8_))=U1 at *
   obtain ⟨nq,aq,kq,cq,bq,fq,gQ⟩:=vb_use vQ
   obtain ⟨nT,aT,kT,cT,bT,fT,gT⟩:=vb_use vT
   obtain ⟨q1,q2,q3,q4⟩:=big_len gQ
   obtain ⟨t1,t2,t3,t4⟩:=big_len gT
   have od:=odd_use gQ
   clear vQ vT gT QE
   rcases od with ⟨k0,q0⟩ | ⟨g0,d0,rfl,k0,hc,d00,d01,par⟩
   ·have kn:¬ (0:Int)<(kq:Int):=by omega
    have par:q % 2=0:=by omega
    clear k0 q0 q2 q1
    cases nT
    ·by_cases tk:kT=0
     ·have tz:2*R - Y=0:=t2.1 tk
      have tn:¬ (0:Int)<(kT:Int):=by omega
      clear tk
      have NS:=Lib.hid (show ans=q by rw [← NA.out]; exact near_stay (by omega))
      clear t1 t2 tz NA
      try clear po
      try clear par
      obtain ⟨n'',a'',k'',c'',r8,f8⟩:=bv_use r5
      have HB:=Lib.hid (And.intro r5 gQ)
      clear gQ r5
      go_wp2
      exact bodyPost_ret (v:=.agg #[.bool nq,.slice aq kq cq]) (by simp [results,Tryz.results87,go_sem,r8]) rfl ⟨_,rfl,by rw [NS.out]; exact bg_store HB.out.1 HB.out.2,b_set (b_set B5 (by simp; omega)) (by simp; omega)⟩
     ·have tz:0<2*R - Y:=by
       have h1:¬ 2*R - Y=0:=fun h=>tk (t2.2 h)
       have h2:¬ 2*R - Y<0:=fun h=>by have:=t1.1 h; cases this
       omega
      have tn:(0:Int)<(kT:Int):=by omega
      clear tk
      have NU:=Lib.hid (show ans=q+1 by rw [← NA.out]; exact near_up (by omega))
      clear t1 t2 tz NA
      try clear po
      try clear par
      go_wp2_with fail
      refine region_each [50,51,52] (fun i X_ U_=>match i with | 0=>X_=.agg #[.bool nq,.slice aq kq cq] | 1=>BG U_ X_ (1) | 2=>BG U_ X_ (q+1) | _=>True) (fun i=>false) (by kernel_rfl) (by kernel_rfl) (by kernel_rfl) (by kernel_rfl) (by kernel_rfl) ?_ ?_ ?_ ?_
      ·refine swp (upS (upS (upS up0 ?_) ?_) ?_)
       ·exact fun _ _ _ h _=>h
       ·intro x w w' h hb; exact bg_keep h hb
       ·intro x w w' h hb; exact bg_keep h hb
      ·intro i x w hi ha h
       cases ha
      ·refine upS (upS (upS up0 ?_) ?_) ?_
       all_goals intro v f w' hb hv hB hd
       ·have b5:f.tmps[5]?=some (.pointer (some ⟨gq,0,none⟩)):=(hb 5 (by decide)).trans rfl
        clear hb hv hd
        have c:=bc_keep hB bq
        refine wpOp_step rfl (fun K hK=>?_)
        go_simp
        exact hK _ _ ⟨_,rfl,Below.refl _ _,rfl,fun h=>absurd h (by decide)⟩
       ·clear hb hv hd
        refine wpOp_call rfl (fun _ _=>by go_simp) (by simp [Act.eval]) (of_big 1 (by decide) (by decide) _) ?_
        rintro e w5 ⟨v5,rfl,h5,hb5⟩
        exact ⟨_,rfl,_,rfl,hb5,h5,fun h=>absurd h (by decide)⟩
       ·have h0:(v 0)=.agg #[.bool nq,.slice aq kq cq]:=hd 0 (by kernel_rfl)
        have d0:f.tmps[50]?=some (.agg #[.bool nq,.slice aq kq cq]):=(hv 0 50 rfl).trans (congrArg some h0)
        clear h0
        have h1:BG w' (v 1) (1):=hd 1 (by kernel_rfl)
        have d1:f.tmps[51]?=some (v 1):=hv 1 51 rfl
        clear hb hv hd
        refine wpOp_call rfl (fun _ _=>by go_simp) (by simp [Act.eval,d0,d1]) (add_big _ _ q 1 _ (bg_keep gQ hB) h1 (small_of (by omega) (by omega)) (small_of (by omega) (by omega))) ?_
        rintro e w5 ⟨v5,rfl,h5,hb5⟩
        exact ⟨_,rfl,_,rfl,hb5,h5,fun h=>absurd h (by decide)⟩
      ·intro v w' hB hF hD
       have F0:(v 0)=.agg #[.bool nq,.slice aq kq cq]:=hF 0 (by simp)
       have F1:BG w' (v 1) (1):=hF 1 (by simp)
       have F2:BG w' (v 2) (q+1):=hF 2 (by simp)
       clear hF
       obtain ⟨n1_,a1_,k1_,c1_,e1⟩:=bg_form F1
       obtain ⟨n2_,a2_,k2_,c2_,e2⟩:=bg_form F2
       rw [e2] at F2
       simp only [frOf,frGo,Nat.zero_add,Nat.reduceAdd,F0,e1,e2]
       have r9:=bv_keep hB r5
       have B9:=b_trans B5 hB
       obtain ⟨n'',a'',k'',c'',r8,f8⟩:=bv_use r9
       have HB:=Lib.hid (And.intro r9 F2)
       clear hB hD r9 F0 F1 F2
       go_wp2
       exact bodyPost_ret (v:=.agg #[.bool n2_,.slice a2_ k2_ c2_]) (by simp [results,Tryz.results87,go_sem,r8]) rfl ⟨_,rfl,by rw [NU.out]; exact bg_store HB.out.1 HB.out.2,b_set (b_set B9 (by simp; omega)) (by simp; omega)⟩
    ·have tz:2*R - Y<0:=t1.2 rfl
     have NS:=Lib.hid (show ans=q by rw [← NA.out]; exact near_stay (by omega))
     clear t1 t2 tz NA
     try clear po
     try clear par
     obtain ⟨n'',a'',k'',c'',r8,f8⟩:=bv_use r5
     have HB:=Lib.hid (And.intro r5 gQ)
     clear gQ r5
     go_wp2
     exact bodyPost_ret (v:=.agg #[.bool nq,.slice aq kq cq]) (by simp [results,Tryz.results87,go_sem,r8]) rfl ⟨_,rfl,by rw [NS.out]; exact bg_store HB.out.1 HB.out.2,b_set (b_set B5 (by simp; omega)) (by simp; omega)⟩
   ·have kn:(0:Int)<(kq:Int):=by omega
    clear q1 q2
    cases nT
    ·by_cases tk:kT=0
     ·have tz:2*R - Y=0:=t2.1 tk
      have tn:¬ (0:Int)<(kT:Int):=by omega
      clear tk
      by_cases pd:d0 % 2=1
      ·have po:q % 2=1:=by omega
       have NU:=Lib.hid (show ans=q+1 by rw [← NA.out]; exact near_up (by omega))
       clear t1 t2 tz NA
       try clear po
       try clear par
       go_wp2_with fail
       refine region_each [50,51,52] (fun i X_ U_=>match i with | 0=>X_=.agg #[.bool nq,.slice (some ⟨g0,0,none⟩) kq cq] | 1=>BG U_ X_ (1) | 2=>BG U_ X_ (q+1) | _=>True) (fun i=>false) (by kernel_rfl) (by kernel_rfl) (by kernel_rfl) (by kernel_rfl) (by kernel_rfl) ?_ ?_ ?_ ?_
       ·refine swp (upS (upS (upS up0 ?_) ?_) ?_)
        ·exact fun _ _ _ h _=>h
        ·intro x w w' h hb; exact bg_keep h hb
        ·intro x w w' h hb; exact bg_keep h hb
       ·intro i x w hi ha h
        cases ha
       ·refine upS (upS (upS up0 ?_) ?_) ?_
        all_goals intro v f w' hb hv hB hd
        ·have b5:f.tmps[5]?=some (.pointer (some ⟨gq,0,none⟩)):=(hb 5 (by decide)).trans rfl
         clear hb hv hd
         have c:=bc_keep hB bq
         refine wpOp_step rfl (fun K hK=>?_)
         go_simp
         exact hK _ _ ⟨_,rfl,Below.refl _ _,rfl,fun h=>absurd h (by decide)⟩
        ·clear hb hv hd
         refine wpOp_call rfl (fun _ _=>by go_simp) (by simp [Act.eval]) (of_big 1 (by decide) (by decide) _) ?_
         rintro e w5 ⟨v5,rfl,h5,hb5⟩
         exact ⟨_,rfl,_,rfl,hb5,h5,fun h=>absurd h (by decide)⟩
        ·have h0:(v 0)=.agg #[.bool nq,.slice (some ⟨g0,0,none⟩) kq cq]:=hd 0 (by kernel_rfl)
         have d0:f.tmps[50]?=some (.agg #[.bool nq,.slice (some ⟨g0,0,none⟩) kq cq]):=(hv 0 50 rfl).trans (congrArg some h0)
         clear h0
         have h1:BG w' (v 1) (1):=hd 1 (by kernel_rfl)
         have d1:f.tmps[51]?=some (v 1):=hv 1 51 rfl
         clear hb hv hd
         refine wpOp_call rfl (fun _ _=>by go_simp) (by simp [Act.eval,d0,d1]) (add_big _ _ q 1 _ (bg_keep gQ hB) h1 (small_of (by omega) (by omega)) (small_of (by omega) (by omega))) ?_
         rintro e w5 ⟨v5,rfl,h5,hb5⟩
         exact ⟨_,rfl,_,rfl,hb5,h5,fun h=>absurd h (by decide)⟩
       ·intro v w' hB hF hD
        have F0:(v 0)=.agg #[.bool nq,.slice (some ⟨g0,0,none⟩) kq cq]:=hF 0 (by simp)
        have F1:BG w' (v 1) (1):=hF 1 (by simp)
        have F2:BG w' (v 2) (q+1):=hF 2 (by simp)
        clear hF
        obtain ⟨n1_,a1_,k1_,c1_,e1⟩:=bg_form F1
        obtain ⟨n2_,a2_,k2_,c2_,e2⟩:=bg_form F2
        rw [e2] at F2
        simp only [frOf,frGo,Nat.zero_add,Nat.reduceAdd,F0,e1,e2]
        have r9:=bv_keep hB r5
        have B9:=b_trans B5 hB
        obtain ⟨n'',a'',k'',c'',r8,f8⟩:=bv_use r9
        have HB:=Lib.hid (And.intro r9 F2)
        clear hB hD r9 F0 F1 F2
        go_wp2
        exact bodyPost_ret (v:=.agg #[.bool n2_,.slice a2_ k2_ c2_]) (by simp [results,Tryz.results87,go_sem,r8]) rfl ⟨_,rfl,by rw [NU.out]; exact bg_store HB.out.1 HB.out.2,b_set (b_set B9 (by simp; omega)) (by simp; omega)⟩
      ·have po:q % 2=0:=by omega
       have NS:=Lib.hid (show ans=q by rw [← NA.out]; exact near_stay (by omega))
       clear t1 t2 tz NA
       try clear po
       try clear par
       obtain ⟨n'',a'',k'',c'',r8,f8⟩:=bv_use r5
       have HB:=Lib.hid (And.intro r5 gQ)
       clear gQ r5
       go_wp2
       exact bodyPost_ret (v:=.agg #[.bool nq,.slice (some ⟨g0,0,none⟩) kq cq]) (by simp [results,Tryz.results87,go_sem,r8]) rfl ⟨_,rfl,by rw [NS.out]; exact bg_store HB.out.1 HB.out.2,b_set (b_set B5 (by simp; omega)) (by simp; omega)⟩
     ·have tz:0<2*R - Y:=by
       have h1:¬ 2*R - Y=0:=fun h=>tk (t2.2 h)
       have h2:¬ 2*R - Y<0:=fun h=>by have:=t1.1 h; cases this
       omega
      have tn:(0:Int)<(kT:Int):=by omega
      clear tk
      have NU:=Lib.hid (show ans=q+1 by rw [← NA.out]; exact near_up (by omega))
      clear t1 t2 tz NA
      try clear po
      try clear par
      go_wp2_with fail
      refine region_each [50,51,52] (fun i X_ U_=>match i with | 0=>X_=.agg #[.bool nq,.slice (some ⟨g0,0,none⟩) kq cq] | 1=>BG U_ X_ (1) | 2=>BG U_ X_ (q+1) | _=>True) (fun i=>false) (by kernel_rfl) (by kernel_rfl) (by kernel_rfl) (by kernel_rfl) (by kernel_rfl) ?_ ?_ ?_ ?_
      ·refine swp (upS (upS (upS up0 ?_) ?_) ?_)
       ·exact fun _ _ _ h _=>h
       ·intro x w w' h hb; exact bg_keep h hb
       ·intro x w w' h hb; exact bg_keep h hb
      ·intro i x w hi ha h
       cases ha
      ·refine upS (upS (upS up0 ?_) ?_) ?_
       all_goals intro v f w' hb hv hB hd
       ·have b5:f.tmps[5]?=some (.pointer (some ⟨gq,0,none⟩)):=(hb 5 (by decide)).trans rfl
        clear hb hv hd
        have c:=bc_keep hB bq
        refine wpOp_step rfl (fun K hK=>?_)
        go_simp
        exact hK _ _ ⟨_,rfl,Below.refl _ _,rfl,fun h=>absurd h (by decide)⟩
       ·clear hb hv hd
        refine wpOp_call rfl (fun _ _=>by go_simp) (by simp [Act.eval]) (of_big 1 (by decide) (by decide) _) ?_
        rintro e w5 ⟨v5,rfl,h5,hb5⟩
        exact ⟨_,rfl,_,rfl,hb5,h5,fun h=>absurd h (by decide)⟩
       ·have h0:(v 0)=.agg #[.bool nq,.slice (some ⟨g0,0,none⟩) kq cq]:=hd 0 (by kernel_rfl)
        have d0:f.tmps[50]?=some (.agg #[.bool nq,.slice (some ⟨g0,0,none⟩) kq cq]):=(hv 0 50 rfl).trans (congrArg some h0)
        clear h0
        have h1:BG w' (v 1) (1):=hd 1 (by kernel_rfl)
        have d1:f.tmps[51]?=some (v 1):=hv 1 51 rfl
        clear hb hv hd
        refine wpOp_call rfl (fun _ _=>by go_simp) (by simp [Act.eval,d0,d1]) (add_big _ _ q 1 _ (bg_keep gQ hB) h1 (small_of (by omega) (by omega)) (small_of (by omega) (by omega))) ?_
        rintro e w5 ⟨v5,rfl,h5,hb5⟩
        exact ⟨_,rfl,_,rfl,hb5,h5,fun h=>absurd h (by decide)⟩
      ·intro v w' hB hF hD
       have F0:(v 0)=.agg #[.bool nq,.slice (some ⟨g0,0,none⟩) kq cq]:=hF 0 (by simp)
       have F1:BG w' (v 1) (1):=hF 1 (by simp)
       have F2:BG w' (v 2) (q+1):=hF 2 (by simp)
       clear hF
       obtain ⟨n1_,a1_,k1_,c1_,e1⟩:=bg_form F1
       obtain ⟨n2_,a2_,k2_,c2_,e2⟩:=bg_form F2
       rw [e2] at F2
       simp only [frOf,frGo,Nat.zero_add,Nat.reduceAdd,F0,e1,e2]
       have r9:=bv_keep hB r5
       have B9:=b_trans B5 hB
       obtain ⟨n'',a'',k'',c'',r8,f8⟩:=bv_use r9
       have HB:=Lib.hid (And.intro r9 F2)
       clear hB hD r9 F0 F1 F2
       go_wp2
       exact bodyPost_ret (v:=.agg #[.bool n2_,.slice a2_ k2_ c2_]) (by simp [results,Tryz.results87,go_sem,r8]) rfl ⟨_,rfl,by rw [NU.out]; exact bg_store HB.out.1 HB.out.2,b_set (b_set B9 (by simp; omega)) (by simp; omega)⟩
    ·have tz:2*R - Y<0:=t1.2 rfl
     have NS:=Lib.hid (show ans=q by rw [← NA.out]; exact near_stay (by omega))
     clear t1 t2 tz NA
     try clear po
     try clear par
     obtain ⟨n'',a'',k'',c'',r8,f8⟩:=bv_use r5
     have HB:=Lib.hid (And.intro r5 gQ)
     clear gQ r5
     go_wp2
     exact bodyPost_ret (v:=.agg #[.bool nq,.slice (some ⟨g0,0,none⟩) kq cq]) (by simp [results,Tryz.results87,go_sem,r8]) rfl ⟨_,rfl,by rw [NS.out]; exact bg_store HB.out.1 HB.out.2,b_set (b_set B5 (by simp; omega)) (by simp; omega)⟩
theorem even_big (va vb:Value) (x y:Int) (w:World) (hx:BG w va x) (hy:BG w vb y) (y0:y≠0) (tX:Tiny x) (tY:Tiny y) :
  Calls Tryz.prog 87 #[va,vb] w (RetB (ef x y) w):=by
 unfold ef qf rf sg
 by_cases c:y<0
 ·rw [if_pos c,show (y.natAbs:Int)=-y by omega]
  exact even_down va vb x y (-x) (-y) rfl rfl w hx hy (by omega) (tiny_neg tX) (tiny_neg tY)
 ·rw [if_neg c,show (y.natAbs:Int)=y by omega]
  exact even_up va vb x y w hx hy (by omega) tX tY
theorem ef_pos (x:Int) {y:Int} (h:0<y):ef x y=evn x y:=by
 unfold ef qf rf sg evn
 rw [if_neg (by omega),show (y.natAbs:Int)=y by omega]
end Go.Proofs.YtjifkmldigemkaaGreatDoor

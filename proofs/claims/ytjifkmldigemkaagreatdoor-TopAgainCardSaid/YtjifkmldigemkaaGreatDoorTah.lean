import Derived.ScopeJumps
import Derived.WalkMore
import Derived.Test.YtjifkmldigemkaaGreatDoorTab
import Derived.Test.YtjifkmldigemkaaGreatDoorTad
import Derived.Test.YtjifkmldigemkaaGreatDoorTae
import Derived.Test.YtjifkmldigemkaaGreatDoorTaa
import Derived.Test.YtjifkmldigemkaaGreatDoorTag
import Derived.Laws.Cover1
import Derived.ChangeKeysEq
import Derived.Deep.LoopGhost
import Derived.Lib.SmallJoins
import Derived.Maps.AppendAt
import Derived.Laws.OwnMore
import Derived.Deep.AppendLies
set_option maxHeartbeats 2000000
set_option maxRecDepth 10000
namespace Go.Proofs.YtjifkmldigemkaaGreatDoor
open Go.RowKit Go.Shelf
theorem sq_words {h l x:Int} (e:h*18446744073709551616+l=x*x) (l0:0≤l) (l1:l≤18446744073709551615) (h0:0≤h) (h1:h≤9223372036854775807):IsW h l (x*x) :=
 ⟨by omega,h1,l0,l1,by omega⟩
theorem sq_above {h l x a ah al:Int} (e:h*18446744073709551616+l=x*x) (l0:0≤l) (h1:9223372036854775807<h) (y:IsW ah al a):cmp3 (x*x) a=1:=by
 have:=y.fits.2
 exact cmp3_gt (by omega)
theorem square_cmp (x ah al a:Int) (x0:0≤x) (x1:x≤18446744073709551615) (y:IsW ah al a) (w:World) :
  Calls Tryz.prog 223 #[.int .u64 x,wv ah al] w (RetV (.int .i64 (cmp3 (x*x) a)) w):=by
 generalize hg:cmp3 (x*x) a=g
 replace hg:=Lib.hid hg
 go_enter Tryz.func223,Tryz.ntmps223
 go_wp2_with (go_at_call 177; refine (mul64 _ _ (by omega) (by omega) (by omega) (by omega) _).mono ?_; rintro e w1 ⟨rh,rl,rfl,a0,a1,b0,b1,E,rfl⟩)
 ·rename_i big
  have:g=1:=by rw [← hg.out]; exact sq_above E.out b0 big y
  subst this
  go_ret
  exact ⟨rfl,b_alloc (Below.refl _ _)⟩
 ·rename_i le _ _ _ _
  refine (cmp_any _ _ _ _ _ _ (sq_words E.out b0 b1 a0 le) y _).mono ?_
  rintro e w2 ⟨rfl,hb⟩
  rw [hg.out]
  have B:=b_trans (b_alloc (o:=(Obj.cells #[Value.int IntKind.i64 ah,Value.int IntKind.u64 al] 187)) (Below.refl w.heap.size w)) hb
  go_wp2
  go_ret
  exact ⟨rfl,B⟩
structure RR (a n p:Int):Prop where
 n0:0≤n
 p1:1≤p
 n1:n+p≤18446744073709551616
 lo:n*n≤a
 hi:a<(n+p)*(n+p)
theorem rr_start {ah al a:Int} (y:IsW ah al a) (a0:0≤a):RR a 0 18446744073709551616:=by
 have:=y.fits.2
 exact ⟨by decide,by decide,by decide,by omega,by omega⟩
theorem rr_step {a n p:Int} (h:RR a n (2*p)) (p1:1≤p):((n+p)*(n+p)≤a→RR a (n+p) p)∧(a<(n+p)*(n+p)→RR a n p):=by
 obtain ⟨h0,h1,h2,h3,h4⟩:=h
 have t:=bit_take h0 p1 h3 h4
 exact ⟨fun k=>⟨by omega,p1,by omega,(t.1 k).2.1,(t.1 k).2.2⟩,fun k=>⟨h0,p1,by omega,h3,k⟩⟩
theorem rr_end {a n r:Int} (h:RR a n 1) (x:IsRoot a r):n=r:=IsRoot.uniq ⟨h.n0,h.lo,h.hi⟩ x
theorem or_bit {n:Int} (m:Nat) (n0:0≤n) (n1:n+2 ^ (m+1)≤18446744073709551616) (hm:m+1≤64) (d:(2:Int) ^ (m+1) ∣ n):bits .or .u64 n (2 ^ m)=n+2 ^ m:=by
 obtain ⟨c,rfl⟩:=d
 have e:(2:Int) ^ (m+1)=2*2 ^ m:=by rw [Int.pow_succ,Int.mul_comm]
 have p0:(0:Int)<2 ^ m:=Int.pow_pos (by decide)
 rw [bits_or_comm,or_u64 _ _ (m+1) hm c (by rw [Int.mul_comm c,Int.emod_eq_of_lt n0 (by omega)]) (by omega) (by omega)]
 omega
theorem root_of (ah al a r:Int) (x:IsW ah al a) (n:0≤a) (R:IsRoot a r) (w:World) :
  Calls Tryz.prog 215 #[wv ah al] w (RetV (.tuple #[.int .u64 r,.int .i64 0]) w):=by
 have cO:=retV_regrown (w:=w.alloc (Obj.cells #[.int .i64 ah,.int .u64 al] 187)) (fun w=>(of_any 0 (by decide) (by decide) w).mono fun _ _ h=>retW_det isW_zero h)
 have cC:=retV_regrown (w:=w.alloc (Obj.cells #[.int .i64 ah,.int .u64 al] 187)) (cmp_any _ _ _ _ _ _ x isW_zero)
 have cz:¬ cmp3 a 0<0:=by unfold cmp3; split <;> omega
 have g:=wc_regrown (w:=w.alloc (Obj.cells #[.int .i64 ah,.int .u64 al] 187)) (b:=w.heap.size) (h:=ah) (l:=al) (by simp [WC,go_sem])
 have r0:=rr_start x n
 generalize cmp3 a 0=c0 at *
 go_enter Tryz.func215,Tryz.ntmps215
 go_wp2
 go_step3
 go_wp2
 refine wp_region_quiet_below (by kernel_rfl) (by kernel_rfl) ?_
 repeat (quiet_step (first | exact cO _ _ | exact cC _ _))
 refine wpQuiet_nil ?_
 intro _ hw'
 obtain ⟨⟨dq,osq⟩,hw''⟩:=hw'
 subst hw''
 have B:=b_trans (b_alloc (o:=(Obj.cells #[Value.int IntKind.i64 ah,Value.int IntKind.u64 al] 187)) (Below.refl w.heap.size w)) (below_regrown _ dq osq)
 have k:=g dq osq
 clear g cO cC
 generalize Sort.grow (redrawn (w.alloc (Obj.cells #[Value.int IntKind.i64 ah,Value.int IntKind.u64 al] 187)) dq) osq=w2 at *
 go_wp2
 go_step3
 go_wp2
 go_loopw [4,5] (fun nv bv wr=>∃ (n p:Int) (m:Nat),nv=.int .u64 n∧bv=.int .u64 p∧RR a n (2 ^ m)∧(2:Int) ^ m ∣ n∧p=2 ^ m / 2∧m≤64∧WC wr w.heap.size ah al∧Below w.heap.size w wr) (fun nv bv _=>(intOf bv).toNat)
 case atStart=>exact ⟨0,9223372036854775808,64,rfl,rfl,r0,⟨0,by decide⟩,by decide,by decide,k,B⟩
 case round =>
  obtain ⟨n,p,m,rfl,rfl,rr,dv,hp,hm,k,B⟩:=hrel
  have n0:=rr.n0
  have nn:=rr.n1
  cases m with
  | zero =>
   obtain rfl:p=0:=by simpa using hp
   obtain rfl:=rr_end (by simpa using rr) R
   clear rr dv hp
   go_wp2
   try rw [Exit.noGoto_ret]
   go_ret2
   exact ⟨rfl,B⟩
  | succ m =>
   have e:(2:Int) ^ (m+1)=2*2 ^ m:=by rw [Int.pow_succ,Int.mul_comm]
   have p0:(0:Int)<2 ^ m:=Int.pow_pos (by decide)
   obtain rfl:p=2 ^ m:=by rw [hp,e]; omega
   have ho:=or_bit m n0 nn hm dv
   have ST:=Lib.hid (rr_step (e ▸ rr) (by omega))
   have EQ:Hid ((n+2 ^ m)*(n+2 ^ m)=a→n+2 ^ m=r):=Lib.hid (fun h=>IsRoot.uniq (root_square (by omega)) (h ▸ R))
   have DV:Hid ((2:Int) ^ m ∣ n∧(2:Int) ^ m ∣ n+2 ^ m):=Lib.hid (by
    have:(2:Int) ^ m ∣ n:=Int.dvd_trans ⟨2,by omega⟩ dv
    exact ⟨this,(Int.dvd_add_right this).2 (Int.dvd_refl _)⟩)
   rw [e] at nn
   clear rr dv hp e r0
   generalize hP:(2:Int) ^ m=P at *
   replace hP:=Lib.hid hP
   generalize hT:n+P=T at *
   replace hT:=Lib.hid hT
   have T0:0≤T∧T≤18446744073709551615:=by have:=hT.out; omega
   clear nn
   go_wp2_with fail
   refine (square_cmp T ah al a T0.1 T0.2 x _).mono ?_
   rintro e w3 ⟨rfl,hb⟩
   replace k:=wc_keep hb k
   replace B:=b_trans B hb
   clear hb
   by_cases lt:a<T*T
   ·rw [cmp3_gt lt]
    go_wp2
    refine ⟨⟨n,_,m,rfl,rfl,?_,?_,?_,by omega,k,B⟩,by simp [intOf]; omega⟩
    ·rw [hP.out]; exact ST.out.2 lt
    ·rw [hP.out]; exact DV.out.1
    ·rw [hP.out]
   ·by_cases eq:T*T=a
    ·rw [← eq,cmp3_eq]
     obtain rfl:=EQ.out eq
     go_wp2
     try rw [Exit.noGoto_ret]
     go_ret2
     exact ⟨rfl,B⟩
    ·rw [cmp3_lt (by omega)]
     go_wp2
     refine ⟨⟨T,_,m,rfl,rfl,?_,?_,?_,by omega,k,B⟩,by simp [intOf]; omega⟩
     ·rw [hP.out]; exact ST.out.1 (by omega)
     ·rw [hP.out]; exact DV.out.2
     ·rw [hP.out]
theorem mean_of (x y r:Int) (x0:0≤x) (x1:x≤9223372036854775807) (y0:0≤y) (y1:y≤9223372036854775807) (R:IsRoot (x*y) r) (w:World) :
  Calls Tryz.prog 188 #[.int .i64 x,.int .i64 y] w (RetV (.int .i64 r) w):=by
 have r0:=R.r0
 have r1:=root_i64 x0 y0 x1 y1 R
 have c:¬ x<0:=by omega
 have d:¬ y<0:=by omega
 go_enter Tryz.func188,Tryz.ntmps188
 go_wp2_with fail
 refine (mul_any x y (by omega) x1 (by omega) y1 _).mono ?_
 rintro e w1 ⟨mh,ml,rfl,hm,hb1⟩
 go_wp2_with fail
 refine (root_of mh ml (x*y) r hm (Int.mul_nonneg x0 y0) R _).mono ?_
 rintro e w2 ⟨rfl,hb2⟩
 have B:=b_trans hb1 hb2
 clear hb1 hb2 hm R
 go_wp2
 go_ret
 exact ⟨rfl,B⟩
end Go.Proofs.YtjifkmldigemkaaGreatDoor
namespace Go.Proofs.YtjifkmldigemkaaGreatDoor
open Go.RowKit Go.Shelf
def mvh (x d:Int):Int:=evn (256*x+d) 32768
def mvs (d:Int):Int:=evn d 128
theorem mvh_bd {x d:Int} (hx:FitP x) (hd:FitP d):-2260595906707457≤mvh x d∧mvh x d≤2260595906707457:=by
 have h:mvh x d=_∨mvh x d=_:=evn_near (256*x+d) 32768
 omega
theorem mvs_bd {d:Int} (hd:FitP d):-2251799813685249≤mvs d∧mvs d≤2251799813685249:=by
 have h:mvs d=_∨mvs d=_:=evn_near d 128
 omega
theorem far_fits {x d:Int} (hx:FitP x) (hd:FitP d):Fits (256*x)∧Fits (0+256*x)∧Fits (0+256*x+d)∧Fits (0+d)∧Fits (evn (0+256*x+d) 32768)∧Fits (evn (0+d) 128):=by
 have e1:=evn_near (0+256*x+d) 32768
 have e2:=evn_near (0+d) 128
 exact ⟨⟨by omega,by omega⟩,⟨by omega,by omega⟩,⟨by omega,by omega⟩,⟨by omega,by omega⟩,⟨by omega,by omega⟩,⟨by omega,by omega⟩⟩
def oz (e f x:Int):Int:=if e=0∧f=0 then x else 0
def oe (e f:Int):Int:=if e=0∧f=0 then 0 else 3
theorem oz_yes (x:Int):oz 0 0 x=x∧oe 0 0=0:=⟨if_pos ⟨rfl,rfl⟩,if_pos ⟨rfl,rfl⟩⟩
theorem oz_no {e f:Int} (h:¬ (e=0∧f=0)) (x:Int):oz e f x=0∧oe e f=3:=⟨if_neg h,if_neg h⟩
end Go.Proofs.YtjifkmldigemkaaGreatDoor
namespace Go.Proofs.YtjifkmldigemkaaGreatDoor
open Go.RowKit Go.Shelf
abbrev J64 (x:Int):Prop:=-9223372036854775808≤x∧x≤9223372036854775807
abbrev MayP (y s:Int):Prop:=FitP y∧FitP s∧1≤s
def mayg (y s:Int):Bool:=decide (MayP y s)
theorem mayg_yes {y s:Int} (h:MayP y s):mayg y s=true:=decide_eq_true h
theorem mayg_no {y s:Int} (h:¬ MayP y s):mayg y s=false:=decide_eq_false h
abbrev PassP (y s g:Int):Prop:=MayP y s∧0≤g∧g≤1000∧y*y≤g*s*1099511627776
def pas (y s g:Int):Bool:=decide (PassP y s g)
theorem pas_no {y s g:Int} (h:¬ PassP y s g):pas y s g=false:=decide_eq_false h
def cg (y s:Int):Int:=-(-(y*y) / (s*1099511627776))
theorem wed {z c h l:Int} (x:IsW h l z) {w:World} {e:Ending} {w':World} (r:RetWE z c w e w'):RetV (.tuple #[wv h l,.int .i64 c]) w e w':=by
 obtain ⟨h',l',he,y,hb⟩:=r
 obtain ⟨rfl,rfl⟩:=(x.inj y).2 rfl
 exact ⟨he,hb⟩
theorem may_gate (y s:Int) (hy:J64 y) (hs:J64 s) (w:World) :
  Calls Tryz.prog 141 #[.int .i64 y,.int .i64 s] w fun e w'=>e=.returned (.bool (mayg y s))∧w=w':=by
 have cy:=fits_any y hy.1 hy.2
 have cs:=fits_any s hs.1 hs.2
 clear hy hs
 by_cases d:FitP y
 ·have ed:=Lib.hid (fitb_yes d)
  by_cases f:FitP s
  ·have ef:=Lib.hid (fitb_yes f)
   by_cases o:1≤s
   ·have R:=Lib.hid (mayg_yes ⟨d,f,o⟩)
    clear d f
    go_enter Tryz.func141,Tryz.ntmps141
    go_wp2_with fail
    refine (cy _).mono ?_
    rintro e w9 ⟨rfl,rfl⟩
    rw [ed.out]
    go_wp2_with fail
    refine (cs _).mono ?_
    rintro e w9 ⟨rfl,rfl⟩
    rw [ef.out]
    go_wp2
    go_ret
    exact ⟨by rw [R.out]; rfl,rfl⟩
   ·have R:=Lib.hid (mayg_no (y:=y) (s:=s) (fun h=>o h.2.2))
    clear d f
    go_enter Tryz.func141,Tryz.ntmps141
    go_wp2_with fail
    refine (cy _).mono ?_
    rintro e w9 ⟨rfl,rfl⟩
    rw [ed.out]
    go_wp2_with fail
    refine (cs _).mono ?_
    rintro e w9 ⟨rfl,rfl⟩
    rw [ef.out]
    go_wp2
    go_ret
    exact ⟨by rw [R.out]; show Ending.returned (.bool (decide (1≤s)))=_; rw [decide_eq_false (show ¬ 1≤s by omega)],rfl⟩
  ·have ef:=Lib.hid (fitb_no f)
   have R:=Lib.hid (mayg_no (y:=y) (s:=s) (fun h=>f h.2.1))
   clear d f
   go_enter Tryz.func141,Tryz.ntmps141
   go_wp2_with fail
   refine (cy _).mono ?_
   rintro e w9 ⟨rfl,rfl⟩
   rw [ed.out]
   go_wp2_with fail
   refine (cs _).mono ?_
   rintro e w9 ⟨rfl,rfl⟩
   rw [ef.out]
   go_wp2
   go_ret
   exact ⟨by rw [R.out]; rfl,rfl⟩
 ·have ed:=Lib.hid (fitb_no d)
  have R:=Lib.hid (mayg_no (y:=y) (s:=s) (fun h=>d h.1))
  clear d
  go_enter Tryz.func141,Tryz.ntmps141
  go_wp2_with fail
  refine (cy _).mono ?_
  rintro e w9 ⟨rfl,rfl⟩
  rw [ed.out]
  go_wp2
  go_ret
  exact ⟨by rw [R.out]; rfl,rfl⟩
theorem pass_go (y s g ph pl bh bl sh sl c:Int) (g0:¬ g<0) (g1:¬ 1000<g)
  (hm:∀ w,Calls Tryz.prog 141 #[.int .i64 y,.int .i64 s] w fun e w'=>e=.returned (.bool true)∧w=w')
  (cM:∀ w,Calls Tryz.prog 126 #[.int .i64 g,.int .i64 s] w (RetV (wv ph pl) w))
  (cU:∀ w,Calls Tryz.prog 142 #[wv ph pl,.int .i64 40] w (RetV (.tuple #[wv bh bl,.int .i64 0]) w))
  (cS:∀ w,Calls Tryz.prog 126 #[.int .i64 y,.int .i64 y] w (RetV (wv sh sl) w))
  (cC:∀ w,Calls Tryz.prog 143 #[wv sh sl,wv bh bl] w (RetV (.int .i64 c) w)) (w:World) :
  Calls Tryz.prog 67 #[.int .i64 y,.int .i64 s,.int .i64 g] w (RetV (.bool (decide (c≤0))) w):=by
 have ym:=hm
 clear hm
 go_enter Tryz.func67,Tryz.ntmps67
 go_wp2_with fail
 refine (ym _).mono ?_
 rintro e w1 ⟨rfl,rfl⟩
 clear ym
 go_wp2_with fail
 refine (cM _).mono ?_
 rintro e w2 ⟨rfl,hb2⟩
 clear cM
 go_wp2_with fail
 refine (cU _).mono ?_
 rintro e w3 ⟨rfl,hb3⟩
 clear cU
 have B4:Below w.heap.size w (w3.alloc (Obj.cells #[.int .i64 bh,.int .u64 bl] 187)):=b_alloc (b_trans hb2 hb3)
 have kb:WC (w3.alloc (Obj.cells #[.int .i64 bh,.int .u64 bl] 187)) w3.heap.size bh bl:=by simp [WC,go_sem]
 clear hb2 hb3
 go_wp2
 refine region_each [28,29,30,31,32,33] (fun i_ X_ U_=>match i_ with | 0=>X_=.int .i64 y | 1=>X_=.int .i64 y | 2=>X_=wv sh sl | 3=>X_=wv bh bl | 4=>X_=.int .i64 c | 5=>X_=.bool (decide (c≤0)) | _=>True) (fun i_=>false) (by kernel_rfl) (by kernel_rfl) (by kernel_rfl) (by kernel_rfl) (by kernel_rfl) ?_ (fun i x w hi ha h=>by cases ha) ?_ ?_
 ·refine swp (upS (upS (upS (upS (upS (upS up0 ?_) ?_) ?_) ?_) ?_) ?_)
  all_goals exact fun _ _ _ h _=>h
 ·refine upS (upS (upS (upS (upS (upS up0 ?_) ?_) ?_) ?_) ?_) ?_
  all_goals intro v f w' hb hv hB hd
  ·have b0:f.tmps[0]?=some (.int .i64 y):=(hb 0 (by decide)).trans rfl
   clear hb hv hd
   refine wpOp_step rfl fun K hK=>?_
   go_simp
   exact hK _ _ ⟨_,rfl,Below.refl _ _,rfl,fun h=>absurd h (by decide)⟩
  ·have b0:f.tmps[0]?=some (.int .i64 y):=(hb 0 (by decide)).trans rfl
   clear hb hv hd
   refine wpOp_step rfl fun K hK=>?_
   go_simp
   exact hK _ _ ⟨_,rfl,Below.refl _ _,rfl,fun h=>absurd h (by decide)⟩
  ·have d0:=got (hv 0 28 rfl) (hd 0 (by kernel_rfl))
   have d1:=got (hv 1 29 rfl) (hd 1 (by kernel_rfl))
   clear hb hv hd
   refine wpOp_call rfl Tryz.call126 (args2 (eval_tmp d0) (eval_tmp d1)) (cS _) ?_
   rintro e5 w5 ⟨rfl,hb5⟩
   exact ⟨_,rfl,_,rfl,hb5,rfl,fun h=>absurd h (by decide)⟩
  ·have b7:f.tmps[7]?=some (.pointer (some ⟨w3.heap.size,0,none⟩)):=(hb 7 (by decide)).trans rfl
   clear hb hv hd
   have c_:WC w' w3.heap.size bh bl:=wc_keep hB kb
   refine wpOp_step rfl fun K hK=>?_
   go_simp
   exact hK _ _ ⟨_,rfl,Below.refl _ _,rfl,fun h=>absurd h (by decide)⟩
  ·have d2:=got (hv 2 30 rfl) (hd 2 (by kernel_rfl))
   have d3:=got (hv 3 31 rfl) (hd 3 (by kernel_rfl))
   clear hb hv hd
   refine wpOp_call rfl Tryz.call143 (args2 (eval_tmp d2) (eval_tmp d3)) (cC _) ?_
   rintro e5 w5 ⟨rfl,hb5⟩
   exact ⟨_,rfl,_,rfl,hb5,rfl,fun h=>absurd h (by decide)⟩
  ·have d4:=got (hv 4 32 rfl) (hd 4 (by kernel_rfl))
   clear hb hv hd
   refine wpOp_step rfl fun K hK=>?_
   go_simp
   exact hK _ _ ⟨_,rfl,Below.refl _ _,rfl,fun h=>absurd h (by decide)⟩
 ·intro v w' hB hF hD
  have F0:v 0=_:=hF 0 (by simp)
  have F1:v 1=_:=hF 1 (by simp)
  have F2:v 2=_:=hF 2 (by simp)
  have F3:v 3=_:=hF 3 (by simp)
  have F4:v 4=_:=hF 4 (by simp)
  have F5:v 5=_:=hF 5 (by simp)
  clear hF
  simp only [frOf,frGo,Nat.zero_add,Nat.reduceAdd,F0,F1,F2,F3,F4,F5]
  have B5:=b_trans B4 hB
  clear hB hD cS cC F0 F1 F2 F3 F4 F5
  go_wp2
  go_ret
  exact ⟨rfl,B5⟩
theorem pass_bad (y s g:Int) (b:Bool) (h:b=true→g<0∨1000<g)
  (hm:∀ w,Calls Tryz.prog 141 #[.int .i64 y,.int .i64 s] w fun e w'=>e=.returned (.bool b)∧w=w') (w:World) :
  Calls Tryz.prog 67 #[.int .i64 y,.int .i64 s,.int .i64 g] w (RetV (.bool false) w):=by
 cases b
 ·clear h
  go_enter Tryz.func67,Tryz.ntmps67
  go_wp2_with fail
  refine (hm _).mono ?_
  rintro e w1 ⟨rfl,rfl⟩
  go_wp2
  go_ret
  exact ⟨rfl,Below.refl _ _⟩
 ·replace h:=h rfl
  by_cases g0:g<0
  ·clear h
   go_enter Tryz.func67,Tryz.ntmps67
   go_wp2_with fail
   refine (hm _).mono ?_
   rintro e w1 ⟨rfl,rfl⟩
   go_wp2
   go_ret
   exact ⟨rfl,Below.refl _ _⟩
  ·have g1:1000<g:=by omega
   clear h
   go_enter Tryz.func67,Tryz.ntmps67
   go_wp2_with fail
   refine (hm _).mono ?_
   rintro e w1 ⟨rfl,rfl⟩
   go_wp2
   go_ret
   exact ⟨rfl,Below.refl _ _⟩
theorem cmp3_le (a b:Int):decide (cmp3 a b≤0)=decide (a≤b):=by
 by_cases e:a=b
 ·subst e; rw [cmp3_eq]; simp
 ·by_cases l:a<b
  ·rw [cmp3_lt l]; simp; omega
  ·rw [cmp3_gt (by omega)]; simp; omega
theorem room_fits {s g:Int} (s1:1≤s) (f:FitP s) (g0:0≤g) (g1:g≤1000):J64 s∧J64 g∧0≤g*s∧g*s≤288230376151711744000:=by
 have a:0≤g*s:=Int.mul_nonneg g0 (by omega)
 have b:g*s≤1000*288230376151711744:=Int.mul_le_mul g1 f.2 (by omega) (by omega)
 exact ⟨⟨by omega,by omega⟩,⟨by omega,by omega⟩,a,by omega⟩
theorem pass_any (y s g:Int) (hy:J64 y) (hs:J64 s) (w:World) :
  Calls Tryz.prog 67 #[.int .i64 y,.int .i64 s,.int .i64 g] w (RetV (.bool (pas y s g)) w):=by
 have hm:=may_gate y s hy hs
 by_cases d:MayP y s
 ·rw [mayg_yes d] at hm
  by_cases e:0≤g∧g≤1000
  ·obtain ⟨js,jg,q0,q1⟩:=room_fits d.2.2 d.2.1 e.1 e.2
   obtain ⟨ph,pl,hp⟩:∃ ph pl,IsW ph pl (g*s):=⟨_,_,IsW.mk' ⟨by omega,by omega⟩⟩
   have fB:Fits (g*s*1099511627776):=⟨by omega,by omega⟩
   obtain ⟨bh,bl,hbb⟩:∃ bh bl,IsW bh bl (g*s*1099511627776):=⟨_,_,IsW.mk' fB⟩
   obtain ⟨sh,sl,hq⟩:∃ sh sl,IsW sh sl (y*y):=⟨_,_,IsW.mk' (mul_fits hy.1 hy.2 hy.1 hy.2)⟩
   have cU:=fun w=>up_all ph pl (g*s) 40 hp (by omega) (by omega) w
   rw [show (2:Int) ^ (40:Int).toNat=1099511627776 from rfl,fz_of fB,fe_of fB] at cU
   have r:=pass_go y s g ph pl bh bl sh sl (cmp3 (y*y) (g*s*1099511627776)) (by omega) (by omega) hm
    (fun w=>(mul_any g s jg.1 jg.2 js.1 js.2 w).mono fun _ _=>retW_det hp) (fun w=>(cU w).mono fun _ _=>wed hbb)
    (fun w=>(mul_any y y hy.1 hy.2 hy.1 hy.2 w).mono fun _ _=>retW_det hq) (fun w=>cmp_any _ _ _ _ _ _ hq hbb w) w
   rw [cmp3_le] at r
   have E:decide (y*y≤g*s*1099511627776)=pas y s g:=by
    unfold pas
    by_cases k:y*y≤g*s*1099511627776
    ·rw [decide_eq_true k,decide_eq_true (show PassP y s g from ⟨d,e.1,e.2,k⟩)]
    ·rw [decide_eq_false k,decide_eq_false (show ¬ PassP y s g from fun h=>k h.2.2.2)]
   rw [E] at r
   exact r
  ·rw [pas_no (fun h=>e ⟨h.2.1,h.2.2.1⟩)]
   exact pass_bad y s g true (fun _=>by omega) hm w
 ·rw [mayg_no d] at hm
  rw [pas_no (fun h=>d h.1)]
  exact pass_bad y s g false (fun h=>by cases h) hm w
end Go.Proofs.YtjifkmldigemkaaGreatDoor
namespace Go.Proofs.YtjifkmldigemkaaGreatDoor
open Go.RowKit Go.Shelf Go.Joins
def sm (z:Nat→Int):Nat→Int
 | 0=>0
 | n+1=>sm z n+z n
def ag (z:Nat→Int):Nat→Bool
 | 0=>true
 | n+1=>ag z n && gd (z n)
def lt (z:Nat→Int):Nat→Int
 | 0=>z 0
 | n+1=>if z n<lt z n then z n else lt z n
theorem sm_same {y z:Nat→Int}:∀ {n:Nat},(∀ k,k<n→y k=z k)→sm y n=sm z n
 | 0,_=>rfl
 | n+1,h=>by rw [sm,sm,sm_same (fun k hk=>h k (by omega)),h n (by omega)]
theorem ag_same {y z:Nat→Int}:∀ {n:Nat},(∀ k,k<n→y k=z k)→ag y n=ag z n
 | 0,_=>rfl
 | n+1,h=>by rw [ag,ag,ag_same (fun k hk=>h k (by omega)),h n (by omega)]
theorem ag_yes {z:Nat→Int} {n:Nat} (h:ag z n=true) (g:gd (z n)=true):ag z (n+1)=true:=by rw [ag,h,g]; rfl
theorem ag_at {z:Nat→Int}:∀ {n k:Nat},ag z n=true→k<n→gd (z k)=true
 | 0,_,_,h=>absurd h (Nat.not_lt_zero _)
 | n+1,k,a,h=>by
  rw [ag,Bool.and_eq_true] at a
  by_cases c:k=n
  ·rw [c]; exact a.2
  ·exact ag_at a.1 (by omega)
theorem ag_not {z:Nat→Int} {n k:Nat} (h:k<n) (g:gd (z k)=false):ag z n=false:=by
 cases a:ag z n
 ·rfl
 ·have:=ag_at a h
  rw [g] at this
  cases this
theorem ag_of {z:Nat→Int}:∀ {n:Nat},(∀ k,k<n→gd (z k)=true)→ag z n=true
 | 0,_=>rfl
 | n+1,h=>ag_yes (ag_of fun k hk=>h k (by omega)) (h n (by omega))
theorem sm_range {z:Nat→Int}:∀ {n:Nat},ag z n=true→90528*(n:Int)≤sm z n∧sm z n≤430515*(n:Int)
 | 0,_=>⟨Int.le_refl _,Int.le_refl _⟩
 | n+1,a=>by
  have g:=gd_range (ag_at a (Nat.lt_succ_self n))
  rw [ag,Bool.and_eq_true] at a
  have:=sm_range a.1
  rw [sm]
  omega
def mv (z:Nat→Int) (n:Nat):Int:=if n=0 then 0 else if ag z n then sm z n / n else 0
def me (z:Nat→Int) (n:Nat):Int:=if n=0 then 4 else if ag z n then 0 else 2
theorem m_bad {z:Nat→Int} {n:Nat} (h:ag z n=false):mv z n=0∧me z n=2:=by
 have hn:n≠0:=by
  intro e
  subst e
  cases h
 rw [mv,me,if_neg hn,if_neg hn,h]
 exact ⟨rfl,rfl⟩
theorem m_ok {z:Nat→Int} {n:Nat} (hn:0<n) (h:ag z n=true):mv z n=sm z n / n∧me z n=0:=by
 have h0:n≠0:=by omega
 rw [mv,me,if_neg h0,if_neg h0,h]
 exact ⟨rfl,rfl⟩
theorem m_same {y z:Nat→Int} {n:Nat} (h:∀ k,k<n→y k=z k):mv y n=mv z n∧me y n=me z n:=by
 rw [mv,mv,me,me,ag_same h,sm_same h]
 exact ⟨rfl,rfl⟩
end Go.Proofs.YtjifkmldigemkaaGreatDoor

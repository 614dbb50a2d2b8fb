import Derived.Orders
import Derived.RegionTactic
import Derived.Below
import Derived.Test.YtdhnhmhgmnkajaaGreatDoorOab
import Derived.Test.YtdhnhmhgmnkajaaGreatDoorOaa
set_option maxHeartbeats 4000000
set_option maxRecDepth 10000
namespace Go.Proofs.YtdhnhmhgmnkajaaGreatDoor
open Go.RowKit Go.Shelf
abbrev FitP (x:Int):Prop:=-288230376151711744≤x∧x≤288230376151711744
def fitb (x:Int):Bool:=decide (FitP x)
theorem fitb_yes {x:Int} (h:FitP x):fitb x=true:=decide_eq_true h
theorem fitb_no {x:Int} (h:¬ FitP x):fitb x=false:=decide_eq_false h
theorem fits_any (x:Int) (x0:-9223372036854775808≤x) (x1:x≤9223372036854775807) (w:World) :
  Calls Tryz.prog 90 #[.int .i64 x] w fun e w'=>e=.returned (.bool (fitb x))∧w=w':=by
 by_cases c:-288230376151711744≤x
 ·by_cases d:x≤288230376151711744
  ·have e:=Lib.hid (fitb_yes ⟨c,d⟩)
   go_enter Tryz.func90,Tryz.ntmps90
   go_wp2
   go_ret
   exact ⟨by rw [e.out]; rfl,rfl⟩
  ·have e:=Lib.hid (fitb_no (x:=x) (by omega))
   go_enter Tryz.func90,Tryz.ntmps90
   go_wp2
   go_ret
   exact ⟨by rw [e.out]; rfl,rfl⟩
 ·have e:=Lib.hid (fitb_no (x:=x) (by omega))
  go_enter Tryz.func90,Tryz.ntmps90
  go_wp2
  go_ret
  exact ⟨by rw [e.out]; rfl,rfl⟩
def nz (x:Int):Int:=if FitP x then x else 0
def ne (x:Int):Int:=if FitP x then 0 else 3
theorem nz_of {x:Int} (h:FitP x):nz x=x∧ne x=0:=⟨if_pos h,if_pos h⟩
theorem nz_no {x:Int} (h:¬ FitP x):nz x=0∧ne x=3:=⟨if_neg h,if_neg h⟩
theorem fitting_any (x:Int) (x0:-9223372036854775808≤x) (x1:x≤9223372036854775807) (w:World) :
  Calls Tryz.prog 128 #[.int .i64 x] w fun e w'=>e=.returned (.tuple #[.int .i64 (nz x),.int .i64 (ne x)])∧w=w':=by
 by_cases c:FitP x
 ·have E:=Lib.hid (nz_of c)
  have ex:=Lib.hid (fitb_yes c)
  clear c
  go_enter Tryz.func128,Tryz.ntmps128
  go_wp2_with fail
  refine (fits_any x x0 x1 _).mono ?_
  rintro e w9 ⟨rfl,rfl⟩
  rw [ex.out]
  go_wp2
  go_ret2
  exact ⟨by rw [E.out.1,E.out.2]; rfl,rfl⟩
 ·have E:=Lib.hid (nz_no c)
  have ex:=Lib.hid (fitb_no c)
  clear c
  go_enter Tryz.func128,Tryz.ntmps128
  go_wp2_with fail
  refine (fits_any x x0 x1 _).mono ?_
  rintro e w9 ⟨rfl,rfl⟩
  rw [ex.out]
  go_wp2
  go_ret2
  exact ⟨by rw [E.out.1,E.out.2]; rfl,rfl⟩
theorem taken_bad (a b:Int) (a0:-9223372036854775808≤a) (a1:a≤9223372036854775807) (b0:-9223372036854775808≤b) (b1:b≤9223372036854775807) (c:¬ (FitP a∧FitP b)) (fs fe:Value) (w:World) :
  Calls Tryz.prog 126 #[.int .i64 a,.int .i64 b,fs,fe] w (RetV (.tuple #[.int .i64 0,.int .i64 1]) w):=by
 by_cases d:FitP a
 ·have ea:=Lib.hid (fitb_yes d)
  have eb:=Lib.hid (fitb_no (fun h=>c ⟨d,h⟩))
  clear c d
  go_enter Tryz.func126,Tryz.ntmps126
  go_wp2_with fail
  refine (fits_any a a0 a1 _).mono ?_
  rintro e w9 ⟨rfl,rfl⟩
  rw [ea.out]
  go_wp2_with fail
  refine (fits_any b b0 b1 _).mono ?_
  rintro e w9 ⟨rfl,rfl⟩
  rw [eb.out]
  go_wp2
  go_ret2
  exact ⟨rfl,Below.refl _ _⟩
 ·have ea:=Lib.hid (fitb_no d)
  clear c d
  go_enter Tryz.func126,Tryz.ntmps126
  go_wp2_with fail
  refine (fits_any a a0 a1 _).mono ?_
  rintro e w9 ⟨rfl,rfl⟩
  rw [ea.out]
  go_wp2
  go_ret2
  exact ⟨rfl,Below.refl _ _⟩
theorem takew_bad (a b:Int) (a0:-9223372036854775808≤a) (a1:a≤9223372036854775807) (b0:-9223372036854775808≤b) (b1:b≤9223372036854775807) (c:¬ (FitP a∧FitP b)) (fs fe:Value) (w:World) :
  Calls Tryz.prog 166 #[.int .i64 a,.int .i64 b,fs,fe] w (RetV (.tuple #[.int .i64 0,.int .i64 1]) w):=by
 by_cases d:FitP a
 ·have ea:=Lib.hid (fitb_yes d)
  have eb:=Lib.hid (fitb_no (fun h=>c ⟨d,h⟩))
  clear c d
  go_enter Tryz.func166,Tryz.ntmps166
  go_wp2_with fail
  refine (fits_any a a0 a1 _).mono ?_
  rintro e w9 ⟨rfl,rfl⟩
  rw [ea.out]
  go_wp2_with fail
  refine (fits_any b b0 b1 _).mono ?_
  rintro e w9 ⟨rfl,rfl⟩
  rw [eb.out]
  go_wp2
  go_ret2
  exact ⟨rfl,Below.refl _ _⟩
 ·have ea:=Lib.hid (fitb_no d)
  clear c d
  go_enter Tryz.func166,Tryz.ntmps166
  go_wp2_with fail
  refine (fits_any a a0 a1 _).mono ?_
  rintro e w9 ⟨rfl,rfl⟩
  rw [ea.out]
  go_wp2
  go_ret2
  exact ⟨rfl,Below.refl _ _⟩
theorem taken_sum (a b:Int) (a0:-9223372036854775808≤a) (a1:a≤9223372036854775807) (b0:-9223372036854775808≤b) (b1:b≤9223372036854775807) (ca:FitP a) (cb:FitP b) (x y e':Int)
  (hs:∀ w,Calls Tryz.prog 144 #[.int .i64 a,.int .i64 b] w fun e w'=>e=.returned (.tuple #[.int .i64 x,.int .i64 0])∧w=w')
  (he:∀ w,Calls Tryz.prog 128 #[.int .i64 x] w fun e w'=>e=.returned (.tuple #[.int .i64 y,.int .i64 e'])∧w=w') (w:World) :
  Calls Tryz.prog 126 #[.int .i64 a,.int .i64 b,.func (.func 144) #[] #[],.func (.func 128) #[] #[]] w (RetV (.tuple #[.int .i64 y,.int .i64 e']) w):=by
 have ea:=Lib.hid (fitb_yes ca)
 have eb:=Lib.hid (fitb_yes cb)
 clear ca cb
 go_enter Tryz.func126,Tryz.ntmps126
 go_wp2_with fail
 refine (fits_any a a0 a1 _).mono ?_
 rintro e w9 ⟨rfl,rfl⟩
 rw [ea.out]
 go_wp2_with fail
 refine (fits_any b b0 b1 _).mono ?_
 rintro e w9 ⟨rfl,rfl⟩
 rw [eb.out]
 go_wp2_with fail
 refine (hs _).mono ?_
 rintro e w9 ⟨rfl,rfl⟩
 go_wp2_with fail
 refine (he _).mono ?_
 rintro e w9 ⟨rfl,rfl⟩
 go_wp2
 go_ret2
 exact ⟨rfl,Below.refl _ _⟩
theorem taken_difference (a b:Int) (a0:-9223372036854775808≤a) (a1:a≤9223372036854775807) (b0:-9223372036854775808≤b) (b1:b≤9223372036854775807) (ca:FitP a) (cb:FitP b) (x y e':Int)
  (hs:∀ w,Calls Tryz.prog 127 #[.int .i64 a,.int .i64 b] w fun e w'=>e=.returned (.tuple #[.int .i64 x,.int .i64 0])∧w=w')
  (he:∀ w,Calls Tryz.prog 128 #[.int .i64 x] w fun e w'=>e=.returned (.tuple #[.int .i64 y,.int .i64 e'])∧w=w') (w:World) :
  Calls Tryz.prog 126 #[.int .i64 a,.int .i64 b,.func (.func 127) #[] #[],.func (.func 128) #[] #[]] w (RetV (.tuple #[.int .i64 y,.int .i64 e']) w):=by
 have ea:=Lib.hid (fitb_yes ca)
 have eb:=Lib.hid (fitb_yes cb)
 clear ca cb
 go_enter Tryz.func126,Tryz.ntmps126
 go_wp2_with fail
 refine (fits_any a a0 a1 _).mono ?_
 rintro e w9 ⟨rfl,rfl⟩
 rw [ea.out]
 go_wp2_with fail
 refine (fits_any b b0 b1 _).mono ?_
 rintro e w9 ⟨rfl,rfl⟩
 rw [eb.out]
 go_wp2_with fail
 refine (hs _).mono ?_
 rintro e w9 ⟨rfl,rfl⟩
 go_wp2_with fail
 refine (he _).mono ?_
 rintro e w9 ⟨rfl,rfl⟩
 go_wp2
 go_ret2
 exact ⟨rfl,Below.refl _ _⟩
theorem takew_product (a b:Int) (a0:-9223372036854775808≤a) (a1:a≤9223372036854775807) (b0:-9223372036854775808≤b) (b1:b≤9223372036854775807) (ca:FitP a) (cb:FitP b) (h l y e':Int)
  (hs:∀ w,Calls Tryz.prog 167 #[.int .i64 a,.int .i64 b] w (RetV (.tuple #[wv h l,.int .i64 0]) w))
  (he:∀ w,Calls Tryz.prog 168 #[wv h l] w (RetV (.tuple #[.int .i64 y,.int .i64 e']) w)) (w:World) :
  Calls Tryz.prog 166 #[.int .i64 a,.int .i64 b,.func (.func 167) #[] #[],.func (.func 168) #[] #[]] w (RetV (.tuple #[.int .i64 y,.int .i64 e']) w):=by
 have ea:=Lib.hid (fitb_yes ca)
 have eb:=Lib.hid (fitb_yes cb)
 clear ca cb
 go_enter Tryz.func166,Tryz.ntmps166
 go_wp2_with fail
 refine (fits_any a a0 a1 _).mono ?_
 rintro e w9 ⟨rfl,rfl⟩
 rw [ea.out]
 go_wp2_with fail
 refine (fits_any b b0 b1 _).mono ?_
 rintro e w9 ⟨rfl,rfl⟩
 rw [eb.out]
 go_wp2_with fail
 refine (hs _).mono ?_
 rintro e w1 ⟨rfl,hb1⟩
 go_wp2_with fail
 refine (he _).mono ?_
 rintro e w2 ⟨rfl,hb2⟩
 have B:=b_trans (b_alloc hb1) hb2
 clear hb1 hb2
 go_wp2
 go_ret2
 exact ⟨rfl,B⟩
theorem takew_quotient (a b:Int) (a0:-9223372036854775808≤a) (a1:a≤9223372036854775807) (b0:-9223372036854775808≤b) (b1:b≤9223372036854775807) (ca:FitP a) (cb:FitP b) (h l y e':Int)
  (hs:∀ w,Calls Tryz.prog 175 #[.int .i64 a,.int .i64 b] w (RetV (.tuple #[wv h l,.int .i64 0]) w))
  (he:∀ w,Calls Tryz.prog 168 #[wv h l] w (RetV (.tuple #[.int .i64 y,.int .i64 e']) w)) (w:World) :
  Calls Tryz.prog 166 #[.int .i64 a,.int .i64 b,.func (.func 175) #[] #[],.func (.func 168) #[] #[]] w (RetV (.tuple #[.int .i64 y,.int .i64 e']) w):=by
 have ea:=Lib.hid (fitb_yes ca)
 have eb:=Lib.hid (fitb_yes cb)
 clear ca cb
 go_enter Tryz.func166,Tryz.ntmps166
 go_wp2_with fail
 refine (fits_any a a0 a1 _).mono ?_
 rintro e w9 ⟨rfl,rfl⟩
 rw [ea.out]
 go_wp2_with fail
 refine (fits_any b b0 b1 _).mono ?_
 rintro e w9 ⟨rfl,rfl⟩
 rw [eb.out]
 go_wp2_with fail
 refine (hs _).mono ?_
 rintro e w1 ⟨rfl,hb1⟩
 go_wp2_with fail
 refine (he _).mono ?_
 rintro e w2 ⟨rfl,hb2⟩
 have B:=b_trans (b_alloc hb1) hb2
 clear hb1 hb2
 go_wp2
 go_ret2
 exact ⟨rfl,B⟩
theorem takew_quotient_err (a b:Int) (a0:-9223372036854775808≤a) (a1:a≤9223372036854775807) (b0:-9223372036854775808≤b) (b1:b≤9223372036854775807) (ca:FitP a) (cb:FitP b) (fe:Value) (h l e':Int) (e0:(e' == 0)=false)
  (hs:∀ w,Calls Tryz.prog 175 #[.int .i64 a,.int .i64 b] w (RetV (.tuple #[wv h l,.int .i64 e']) w)) (w:World) :
  Calls Tryz.prog 166 #[.int .i64 a,.int .i64 b,.func (.func 175) #[] #[],fe] w (RetV (.tuple #[.int .i64 0,.int .i64 e']) w):=by
 have ea:=Lib.hid (fitb_yes ca)
 have eb:=Lib.hid (fitb_yes cb)
 clear ca cb
 go_enter Tryz.func166,Tryz.ntmps166
 go_wp2_with fail
 refine (fits_any a a0 a1 _).mono ?_
 rintro e w9 ⟨rfl,rfl⟩
 rw [ea.out]
 go_wp2_with fail
 refine (fits_any b b0 b1 _).mono ?_
 rintro e w9 ⟨rfl,rfl⟩
 rw [eb.out]
 go_wp2_with fail
 refine (hs _).mono ?_
 rintro e w1 ⟨rfl,hb1⟩
 have B:=b_alloc (o:=Obj.cells #[.int .i64 h,.int .u64 l] 145) hb1
 clear hb1
 go_wp2
 go_ret2
 exact ⟨rfl,B⟩
theorem narrow_any (h l z:Int) (x:IsW h l z) (w:World) :
  Calls Tryz.prog 168 #[wv h l] w (RetV (.tuple #[.int .i64 (nz z),.int .i64 (ne z)]) w):=by
 by_cases c:-9223372036854775808≤z∧z≤9223372036854775807
 ·have E:=Lib.hid (iz_of c)
  go_enter Tryz.func168,Tryz.ntmps168
  go_wp2_with fail
  refine (int_any h l z x _).mono ?_
  rintro e w1 ⟨rfl,hb1⟩
  rw [E.out.1,E.out.2]
  go_wp2_with fail
  refine (fitting_any z c.1 c.2 _).mono ?_
  rintro e w2 ⟨rfl,rfl⟩
  have B:=b_trans (b_alloc (Below.refl _ _)) hb1
  clear hb1
  go_wp2
  go_ret2
  exact ⟨rfl,B⟩
 ·have E:=Lib.hid (iz_no c)
  have N:=Lib.hid (nz_no (x:=z) (by omega))
  clear c
  go_enter Tryz.func168,Tryz.ntmps168
  go_wp2_with fail
  refine (int_any h l z x _).mono ?_
  rintro e w1 ⟨rfl,hb1⟩
  rw [E.out.1,E.out.2]
  have B:=b_trans (b_alloc (Below.refl _ _)) hb1
  clear hb1
  go_wp2
  go_ret2
  exact ⟨by rw [N.out.1,N.out.2]; rfl,B⟩
end Go.Proofs.YtdhnhmhgmnkajaaGreatDoor
namespace Go.Proofs.YtdhnhmhgmnkajaaGreatDoor
open Go.RowKit Go.Shelf
theorem pow_div (n:Int) (n0:0≤n) (n1:n≤127):∃ q:Int,1≤(2:Int) ^ n.toNat∧1≤q∧340282366920938463463374607431768211456=2 ^ n.toNat*q:=by
 refine ⟨2 ^ (128 - n.toNat),?_,?_,?_⟩
 ·have:(0:Int)<2 ^ n.toNat:=Int.pow_pos (by decide); omega
 ·have:(0:Int)<2 ^ (128 - n.toNat):=Int.pow_pos (by decide); omega
 ·rw [← Int.pow_add,show n.toNat+(128 - n.toNat)=128 by omega]; decide
theorem up_back {a p q:Int} (p0:1≤p) (e:340282366920938463463374607431768211456=p*q):(w128 (a*p) / p=a)↔Fits (a*p):=by
 constructor
 ·intro h
  have d:p*(w128 (a*p) / p)=w128 (a*p):=by
   apply Int.mul_ediv_cancel'
   have:w128 (a*p)=p*(a - q*((a*p+170141183460469231731687303715884105728) / 340282366920938463463374607431768211456)):=by
    rw [Int.mul_sub,← Int.mul_assoc,← e,Int.mul_comm p a]
    unfold w128; omega
   rw [this]; exact Int.dvd_mul_right p _
  rw [h,Int.mul_comm] at d
  rw [d]; exact w128_fits _
 ·intro h
  rw [w128_of h,Int.mul_ediv_cancel _ (by omega)]
theorem up_all (ah al a n:Int) (x:IsW ah al a) (n0:0≤n) (n1:n≤127) (w:World) :
  Calls Tryz.prog 112 #[wv ah al,.int .i64 n] w (RetWE (fz (a*2 ^ n.toNat)) (fe (a*2 ^ n.toNat)) w):=by
 obtain ⟨q,p0,q0,e⟩:=pow_div n n0 n1
 have ub:=up_back (a:=a) p0 e
 obtain ⟨uh,ul,hu⟩:∃ uh ul,IsW uh ul (w128 (a*2 ^ n.toNat)):=⟨_,_,IsW.mk' (w128_fits _)⟩
 have cU:=fun w=>(up_any ah al a n x n0 n1 w).mono fun _ _=>retW_det hu
 have cD0:=down_any uh ul _ n hu n0 n1
 have n2:¬ n<0:=by omega
 have n3:¬ 128≤n:=by omega
 by_cases f:Fits (a*2 ^ n.toNat)
 ·have hd:IsW ah al (w128 (a*2 ^ n.toNat) / 2 ^ n.toNat):=by rw [ub.2 f]; exact x
  have cD:=fun w=>(cD0 w).mono fun _ _=>retW_det hd
  have E:=Lib.hid (And.intro (fz_of f) (And.intro (fe_of f) (w128_of f)))
  clear cD0 ub e p0 q0 hd f x
  go_enter Tryz.func112,Tryz.ntmps112
  go_wp2_with (go_at_call 145; refine (cU _).mono ?_; rintro e w1 ⟨rfl,hb⟩; have k:WC w1 w.heap.size ah al:=wc_keep hb (by simp [WC,go_sem,World.cell?_alloc_past]); have r1:WC w1 (w.heap.size+1) 0 0:=wc_keep hb (by simp [WC,go_sem]); have f1:WF w1 (w.heap.size+1):=wf_keep hb (h:=0) (l:=0) (by simp [WC,go_sem]) (by simp [WF,go_sem]))
  have B1:Below w.heap.size w w1:=b_trans (b_alloc (b_alloc (Below.refl _ _))) hb
  have ku:WC (w1.alloc (Obj.cells #[.int .i64 uh,.int .u64 ul] 145)) w1.heap.size uh ul:=by simp [WC,go_sem]
  go_region_held3 (fun w'=>Below w.heap.size w w'∧WC w' w.heap.size ah al∧WC w' w1.heap.size uh ul) (first | assumption | exact s2_keep (by assumption) (by assumption) | exact s2_keep ⟨b_alloc B1,wc_alloc k,ku⟩ (b_drew (Below.refl _ _)))
   (first
    | (go_at_call 146; refine (cD _).mono ?_; rintro e w2 ⟨rfl,hb2⟩; have r2:=wc_keep hb2 (wc_alloc r1); have f2:=wf_keep hb2 (wc_alloc r1) (wf_keep (b_alloc (Below.refl _ _)) r1 f1)))
  rename_i hS
  go_wp2
  refine bodyPost_ret (v:=.tuple #[wv uh ul,.int .i64 0]) (by simp [results,Tryz.results112,go_sem,r2]) rfl ⟨uh,ul,?_,?_,b_set (b_set hS.1 (by simp)) (by simp)⟩
  ·rw [E.out.2.1]
  ·rw [E.out.1]; rw [E.out.2.2] at hu; exact hu
 ·obtain ⟨dh,dl,hd⟩:∃ dh dl,IsW dh dl (w128 (a*2 ^ n.toNat) / 2 ^ n.toNat):=by
   have:=(pq_of n n0)
   refine ⟨_,_,IsW.mk' ?_⟩
   have:=w128_fits (a*2 ^ n.toNat)
   generalize w128 (a*2 ^ n.toNat)=z at *
   obtain ⟨z0,z1⟩:=this
   refine ⟨?_,?_⟩
   ·exact Int.le_ediv_of_mul_le (by omega) (by omega)
   ·have:z / 2 ^ n.toNat<170141183460469231731687303715884105728:=Int.ediv_lt_of_lt_mul (by omega) (by omega)
    omega
  have cD:=fun w=>(cD0 w).mono fun _ _=>retW_det hd
  have ne:¬ (dh=ah∧dl=al):=fun h=>f (ub.1 ((hd.inj x).1 h))
  have nf:¬ (-170141183460469231731687303715884105728≤a*2 ^ n.toNat∧a*2 ^ n.toNat≤170141183460469231731687303715884105727):=fun h=>f ⟨h.1,h.2⟩
  have E:=Lib.hid (And.intro (fz_no nf) (fe_no nf))
  have g:((dh == ah)=false)∨((dh == ah)=true∧(dl == al)=false):=by
   by_cases h1:dh=ah
   ·exact Or.inr ⟨by simpa using h1,by rw [beq_eq_false_iff_ne]; exact fun h2=>ne ⟨h1,h2⟩⟩
   ·exact Or.inl (by rw [beq_eq_false_iff_ne]; exact h1)
  clear cD0 ub e p0 q0 f ne nf
  rcases g with g | ⟨g1,g⟩
  all_goals
   clear x
   go_enter Tryz.func112,Tryz.ntmps112
   go_wp2_with (go_at_call 145; refine (cU _).mono ?_; rintro e w1 ⟨rfl,hb⟩; have k:WC w1 w.heap.size ah al:=wc_keep hb (by simp [WC,go_sem,World.cell?_alloc_past]); have r1:WC w1 (w.heap.size+1) 0 0:=wc_keep hb (by simp [WC,go_sem]); have f1:WF w1 (w.heap.size+1):=wf_keep hb (h:=0) (l:=0) (by simp [WC,go_sem]) (by simp [WF,go_sem]))
   have B1:Below w.heap.size w w1:=b_trans (b_alloc (b_alloc (Below.refl _ _))) hb
   have ku:WC (w1.alloc (Obj.cells #[.int .i64 uh,.int .u64 ul] 145)) w1.heap.size uh ul:=by simp [WC,go_sem]
   go_region_held3 (fun w'=>Below w.heap.size w w'∧WC w' w.heap.size ah al∧WC w' w1.heap.size uh ul) (first | assumption | exact s2_keep (by assumption) (by assumption) | exact s2_keep ⟨b_alloc B1,wc_alloc k,ku⟩ (b_drew (Below.refl _ _)))
    (first
     | (go_at_call 146; refine (cD _).mono ?_; rintro e w2 ⟨rfl,hb2⟩; have r2:=wc_keep hb2 (wc_alloc r1); have f2:=wf_keep hb2 (wc_alloc r1) (wf_keep (b_alloc (Below.refl _ _)) r1 f1)))
   rename_i hS
   go_wp2
   refine bodyPost_ret (v:=.tuple #[wv 0 0,.int .i64 3]) (by simp [results,Tryz.results112,go_sem,r2]) rfl ⟨0,0,?_,?_,b_set (b_set hS.1 (by simp)) (by simp)⟩
   ·rw [E.out.2]
   ·rw [E.out.1]; exact isW_zero
def evn (A B:Int):Int:=near (A / B) (2*(A % B) - B)
theorem near_sign {q s t:Int} (h:(0<s↔0<t)∧(s=0↔t=0)):near q s=near q t:=by
 unfold near
 simp only [h.1,h.2]
theorem cmp3_sign (a b:Int):(0<cmp3 a b↔0<a - b)∧(cmp3 a b=0↔a - b=0):=by
 unfold cmp3
 split
 ·omega
 ·split <;> omega
theorem fits_div {a p:Int} (x:Fits a) (p0:1≤p):Fits (a / p):=by
 obtain ⟨x0,x1⟩:=x
 refine ⟨Int.le_ediv_of_mul_le (by omega) (by omega),?_⟩
 have:a / p<170141183460469231731687303715884105728:=Int.ediv_lt_of_lt_mul (by omega) (by omega)
 omega
theorem half_nums {a p r:Int} (x:Fits a) (p0:2≤p) (p1:p≤170141183460469231731687303715884105728) (pr:r*p=170141183460469231731687303715884105728) :
  w128 (a / p*p)=a / p*p∧w128 (a - a / p*p)=a % p∧Fits (a / p)∧Fits (a % p)∧Fits (a / p+1):=by
 have e:a / p*p+a % p=a:=by rw [Int.mul_comm]; exact Int.mul_ediv_add_emod a p
 have r0:0≤a % p:=Int.emod_nonneg _ (by omega)
 have r1:a % p<p:=Int.emod_lt_of_pos _ (by omega)
 obtain ⟨x0,x1⟩:=x
 have q1:a / p<85070591730234615865843651857942052864:=Int.ediv_lt_of_lt_mul (by omega) (by omega)
 have f1:Fits (a / p):=fits_div ⟨x0,x1⟩ (by omega)
 have f2:Fits (a % p):=⟨by omega,by omega⟩
 have lo:-170141183460469231731687303715884105728≤a / p*p:=by
  have:-r≤a / p:=Int.le_ediv_of_mul_le (by omega) (by rw [Int.neg_mul]; omega)
  have:=Int.mul_le_mul_of_nonneg_right this (show 0≤p by omega)
  rw [Int.neg_mul] at this
  omega
 refine ⟨w128_of ⟨lo,by omega⟩,?_,f1,f2,⟨by have:=f1.lo; omega,by omega⟩⟩
 rw [show a - a / p*p=a % p by omega]
 exact w128_of f2
theorem pow127 (n:Int) (n0:1≤n) (n1:n≤127):2≤(2:Int) ^ n.toNat∧(2:Int) ^ n.toNat≤170141183460469231731687303715884105728∧(2:Int) ^ (127 - n).toNat*2 ^ n.toNat=170141183460469231731687303715884105728∧(2:Int) ^ n.toNat=2*2 ^ (n - 1).toNat∧Fits (2 ^ (n - 1).toNat):=by
 have e1:(2:Int) ^ (127 - n).toNat*2 ^ n.toNat=170141183460469231731687303715884105728:=by
  rw [← Int.pow_add,show (127 - n).toNat+n.toNat=127 by omega]; decide
 have e2:(2:Int) ^ n.toNat=2*2 ^ (n - 1).toNat:=by
  rw [show n.toNat=(n - 1).toNat+1 by omega,Int.pow_succ,Int.mul_comm]
 have h1:(0:Int)<2 ^ (n - 1).toNat:=Int.pow_pos (by decide)
 have h2:(0:Int)<2 ^ (127 - n).toNat:=Int.pow_pos (by decide)
 have h3:1*(2:Int) ^ n.toNat≤2 ^ (127 - n).toNat*2 ^ n.toNat:=Int.mul_le_mul_of_nonneg_right (by omega) (by omega)
 exact ⟨by omega,by omega,e1,e2,⟨by omega,by omega⟩⟩
theorem half_any (ah al a n:Int) (x:IsW ah al a) (n0:1≤n) (n1:n≤127) (w:World) :
  Calls Tryz.prog 123 #[wv ah al,.int .i64 n] w (RetWE (evn a (2 ^ n.toNat)) 0 w):=by
 obtain ⟨p0,p1,pr,p2,ph⟩:=pow127 n n0 n1
 obtain ⟨m1,m2,fq,fr,fs⟩:=half_nums x.fits p0 p1 pr
 obtain ⟨qh,ql,hq⟩:∃ qh ql,IsW qh ql (a / 2 ^ n.toNat):=⟨_,_,IsW.mk' fq⟩
 have cQ:=fun w=>(down_any ah al a n x (by omega) n1 w).mono fun _ _=>retW_det hq
 obtain ⟨mh,ml,hm⟩:∃ mh ml,IsW mh ml (w128 (a / 2 ^ n.toNat*2 ^ n.toNat)):=⟨_,_,IsW.mk' (w128_fits _)⟩
 have cM:=fun w=>(up_any qh ql _ n hq (by omega) n1 w).mono fun _ _=>retW_det hm
 rw [m1] at hm
 obtain ⟨rh,rl,hr⟩:∃ rh rl,IsW rh rl (w128 (a - a / 2 ^ n.toNat*2 ^ n.toNat)):=⟨_,_,IsW.mk' (w128_fits _)⟩
 have cR:=fun w=>(minus_any ah al a mh ml _ x hm w).mono fun _ _=>retW_det hr
 rw [m2] at hr
 obtain ⟨oh,ol,ho⟩:∃ oh ol,IsW oh ol 1:=⟨_,_,IsW.mk' ⟨by decide,by decide⟩⟩
 have cO:=fun w=>(of_any 1 (by decide) (by decide) w).mono fun _ _=>retW_det ho
 obtain ⟨sh,sl,hs⟩:∃ sh sl,IsW sh sl (w128 (1*2 ^ (n - 1).toNat)):=⟨_,_,IsW.mk' (w128_fits _)⟩
 have cS:=fun w=>(up_any oh ol _ (n - 1) ho (by omega) (by omega) w).mono fun _ _=>retW_det hs
 rw [Int.one_mul,w128_of ph] at hs
 have cC:=cmp_any rh rl _ sh sl _ hr hs
 generalize hside:cmp3 (a % 2 ^ n.toNat) (2 ^ (n - 1).toNat)=side at cC
 have enear:near (a / 2 ^ n.toNat) side=evn a (2 ^ n.toNat):=by
  unfold evn
  apply near_sign
  have:=cmp3_sign (a % 2 ^ n.toNat) (2 ^ (n - 1).toNat)
  rw [hside] at this
  omega
 have cN:∀ w,Calls Tryz.prog 158 #[wv qh ql,.int .i64 side] w (RetW (evn a (2 ^ n.toNat)) w):=by
  intro w
  rw [← enear]
  by_cases c:0<side∨(side=0∧a / 2 ^ n.toNat % 2=1)
  ·exact near_ups qh ql _ side hq c fs w
  ·exact near_stays qh ql _ side hq c w
 generalize evn a (2 ^ n.toNat)=z at *
 have n2:¬ n<0:=by omega
 have n3:¬ 128≤n:=by omega
 have n4:(n == 0)=false:=by rw [beq_eq_false_iff_ne]; omega
 clear hside enear ph p0 p1 pr p2 m1 m2 fq fr fs hs ho hr hm hq x
 go_enter Tryz.func123,Tryz.ntmps123
 go_wp2_with (go_at_call 146; refine (cQ _).mono ?_; rintro e w1 ⟨rfl,hb⟩; have k:WC w1 w.heap.size ah al:=wc_keep hb (by simp [WC,go_sem,World.cell?_alloc_past]); have r1:WC w1 (w.heap.size+1) 0 0:=wc_keep hb (by simp [WC,go_sem]); have f1:WF w1 (w.heap.size+1):=wf_keep hb (h:=0) (l:=0) (by simp [WC,go_sem]) (by simp [WF,go_sem]))
 have B1:Below w.heap.size w w1:=b_trans (b_alloc (b_alloc (Below.refl _ _))) hb
 have kq:WC (w1.alloc (Obj.cells #[.int .i64 qh,.int .u64 ql] 145)) w1.heap.size qh ql:=by simp [WC,go_sem]
 have s0:S21 w w.heap.size ah al w1.heap.size qh ql (w.heap.size+1) (w1.alloc (Obj.cells #[.int .i64 qh,.int .u64 ql] 145)):=⟨b_alloc B1,wc_alloc k,kq,wc_alloc r1,wf_keep (b_alloc (Below.refl _ _)) r1 f1⟩
 have hz0:w.heap.size+1<w1.heap.size:=wc_lt r1
 clear hb k r1 f1 B1 kq
 generalize hW0:w1.alloc (Obj.cells #[.int .i64 qh,.int .u64 ql] 145)=W0 at *
 clear hW0
 have hz1:w.heap.size<W0.heap.size∧w.heap.size+1<W0.heap.size∧w1.heap.size<W0.heap.size:=⟨wc_lt s0.2.1,wc_lt s0.2.2.2.1,wc_lt s0.2.2.1⟩
 refine region_each [21,22,23,24,25,7] (fun i x u=>match i with | 0=>x=wv ah al | 1=>x=wv qh ql | 2=>x=.int .i64 n | 3=>x=wv mh ml | 4=>x=wv rh rl | 5=>∃ g,x=.pointer (some ⟨g,0,none⟩)∧W0.heap.size≤g∧WC u g 0 0∧WF u g | _=>True) (fun i=>i == 5) (by kernel_rfl) (by kernel_rfl) (by kernel_rfl) (by kernel_rfl) (by kernel_rfl) ?_ ?_ ?_ ?_
 ·refine swp (upS (upS (upS (upS (upS (upS up0 ?_) ?_) ?_) ?_) ?_) ?_)
  ·exact fun _ _ _ h _=>h
  ·exact fun _ _ _ h _=>h
  ·exact fun _ _ _ h _=>h
  ·exact fun _ _ _ h _=>h
  ·exact fun _ _ _ h _=>h
  ·intro x w w' h hb; obtain ⟨g,e,hg,hc,hf⟩:=h; exact ⟨g,e,hg,wc_keep hb hc,wf_keep hb hc hf⟩
 ·refine swa (upS (upS (upS (upS (upS (upS up0 ?_) ?_) ?_) ?_) ?_) ?_)
  ·exact fun _ _ ha=>absurd ha (by decide)
  ·exact fun _ _ ha=>absurd ha (by decide)
  ·exact fun _ _ ha=>absurd ha (by decide)
  ·exact fun _ _ ha=>absurd ha (by decide)
  ·exact fun _ _ ha=>absurd ha (by decide)
  ·intro x w ha h; obtain ⟨g,rfl,_,hg,_⟩:=h; exact wc_lt hg
 ·refine upS (upS (upS (upS (upS (upS up0 ?_) ?_) ?_) ?_) ?_) ?_
  all_goals intro v f w' hb hv hB hd
  ·have b2:f.tmps[2]?=some (.pointer (some ⟨w.heap.size,0,none⟩)):=(hb 2 (by decide)).trans rfl
   clear hb hv hd
   have c:=wc_keep hB s0.2.1
   refine wpOp_step rfl (fun K hK=>?_)
   go_simp
   exact hK _ _ ⟨_,rfl,Below.refl _ _,rfl,fun h=>absurd h (by decide)⟩
  ·have b6:f.tmps[6]?=some (.pointer (some ⟨w1.heap.size,0,none⟩)):=(hb 6 (by decide)).trans rfl
   clear hb hv hd
   have c:=wc_keep hB s0.2.2.1
   refine wpOp_step rfl (fun K hK=>?_)
   go_simp
   exact hK _ _ ⟨_,rfl,Below.refl _ _,rfl,fun h=>absurd h (by decide)⟩
  ·have b1:f.tmps[1]?=some (.int .i64 n):=(hb 1 (by decide)).trans rfl
   clear hb hv hd
   refine wpOp_step rfl (fun K hK=>?_)
   go_simp
   exact hK _ _ ⟨_,rfl,Below.refl _ _,rfl,fun h=>absurd h (by decide)⟩
  ·have h1:v 1=wv qh ql:=hd 1 (by kernel_rfl)
   have d1:f.tmps[22]?=some (wv qh ql):=(hv 1 22 rfl).trans (congrArg some h1)
   clear h1
   have h2:v 2=.int .i64 n:=hd 2 (by kernel_rfl)
   have d2:f.tmps[23]?=some (.int .i64 n):=(hv 2 23 rfl).trans (congrArg some h2)
   clear h2
   clear hb hv hd
   refine wpOp_call rfl (fun _ _=>by go_simp) (by simp [Act.eval,d1,d2]) (cM _) ?_
   rintro e w2 ⟨rfl,hb2⟩
   exact ⟨_,rfl,_,rfl,hb2,rfl,fun h=>absurd h (by decide)⟩
  ·have h0:v 0=wv ah al:=hd 0 (by kernel_rfl)
   have d0:f.tmps[21]?=some (wv ah al):=(hv 0 21 rfl).trans (congrArg some h0)
   clear h0
   have h3:v 3=wv mh ml:=hd 3 (by kernel_rfl)
   have d3:f.tmps[24]?=some (wv mh ml):=(hv 3 24 rfl).trans (congrArg some h3)
   clear h3
   clear hb hv hd
   refine wpOp_call rfl (fun _ _=>by go_simp) (by simp [Act.eval,d0,d3]) (cR _) ?_
   rintro e w2 ⟨rfl,hb2⟩
   exact ⟨_,rfl,_,rfl,hb2,rfl,fun h=>absurd h (by decide)⟩
  ·clear hb hv hd
   refine wpOp_step rfl (fun K hK=>?_)
   go_simp
   exact hK _ _ ⟨_,rfl,b_alloc (Below.refl _ _),⟨_,rfl,hB.size,by simp [WC,go_sem],by simp [WF,go_sem]⟩,fun _=>Nat.le_refl _⟩
 ·intro v w' hB hF hD
  have F0:v 0=wv ah al:=hF 0 (by simp)
  have F1:v 1=wv qh ql:=hF 1 (by simp)
  have F2:v 2=.int .i64 n:=hF 2 (by simp)
  have F3:v 3=wv mh ml:=hF 3 (by simp)
  have F4:v 4=wv rh rl:=hF 4 (by simp)
  have F5:∃ g,v 5=.pointer (some ⟨g,0,none⟩)∧W0.heap.size≤g∧WC w' g 0 0∧WF w' g:=hF 5 (by simp)
  clear hF
  obtain ⟨g,e5,hg,hc,hf⟩:=F5
  simp only [frOf,frGo,Nat.zero_add,Nat.reduceAdd,F0,F1,F2,F3,F4,e5]
  have kn:g≠w.heap.size+1∧g≠w1.heap.size:=by omega
  have B1:=b_trans s0.1 hB
  have k1:=wc_keep hB s0.2.2.1
  have r1:=wc_keep hB s0.2.2.2.1
  have f1:=wf_keep hB s0.2.2.2.1 s0.2.2.2.2
  clear hB hD s0
  go_wp2
  have kg:WC ((w'.setCell ⟨g,0,none⟩ (.int .i64 rh)).setCell ⟨g,1,none⟩ (.int .u64 rl)) g rh rl:=wc_mine hc
  have k1:=wc_set (o:=1) (v:=.int .u64 rl) (wc_set (o:=0) (v:=.int .i64 rh) k1 kn.2) kn.2
  have r1:=wc_set (o:=1) (v:=.int .u64 rl) (wc_set (o:=0) (v:=.int .i64 rh) r1 kn.1) kn.1
  have f1:=wf_set (b1:=g) (o:=1) (v:=.int .u64 rl) (wf_set (b1:=g) (o:=0) (v:=.int .i64 rh) f1)
  have B1:=b_set (p:=⟨g,1,none⟩) (v:=.int .u64 rl) (b_set (p:=⟨g,0,none⟩) (v:=.int .i64 rh) B1 (by show _≤g; omega)) (by show _≤g; omega)
  generalize (w'.setCell ⟨g,0,none⟩ (.int .i64 rh)).setCell ⟨g,1,none⟩ (.int .u64 rl)=W1 at *
  clear hc hf
  refine region_each [26,27,28,29,30,31,32,33] (fun i x u=>match i with | 0=>x=wv qh ql | 1=>x=wv rh rl | 2=>x=wv oh ol | 3=>x=.int .i64 n | 4=>x=.int .i64 (n - 1) | 5=>x=wv sh sl | 6=>x=.int .i64 side | 7=>∃ zh zl,x=wv zh zl∧IsW zh zl z | _=>True) (fun i=>false) (by kernel_rfl) (by kernel_rfl) (by kernel_rfl) (by kernel_rfl) (by kernel_rfl) ?_ ?_ ?_ ?_
  ·refine swp (upS (upS (upS (upS (upS (upS (upS (upS up0 ?_) ?_) ?_) ?_) ?_) ?_) ?_) ?_)
   all_goals exact fun _ _ _ h _=>h
  ·intro i x w hi ha h
   cases ha
  ·refine upS (upS (upS (upS (upS (upS (upS (upS up0 ?_) ?_) ?_) ?_) ?_) ?_) ?_) ?_
   all_goals intro v f w' hb hv hB hd
   ·have b6:f.tmps[6]?=some (.pointer (some ⟨w1.heap.size,0,none⟩)):=(hb 6 (by decide)).trans rfl
    clear hb hv hd
    have c:=wc_keep hB k1
    refine wpOp_step rfl (fun K hK=>?_)
    go_simp
    exact hK _ _ ⟨_,rfl,Below.refl _ _,rfl,fun h=>absurd h (by decide)⟩
   ·have b7:f.tmps[7]?=some (.pointer (some ⟨g,0,none⟩)):=(hb 7 (by decide)).trans rfl
    clear hb hv hd
    have c:=wc_keep hB kg
    refine wpOp_step rfl (fun K hK=>?_)
    go_simp
    exact hK _ _ ⟨_,rfl,Below.refl _ _,rfl,fun h=>absurd h (by decide)⟩
   ·clear hb hv hd
    refine wpOp_call rfl (fun _ _=>by go_simp) (by simp [Act.eval]) (cO _) ?_
    rintro e w2 ⟨rfl,hb2⟩
    exact ⟨_,rfl,_,rfl,hb2,rfl,fun h=>absurd h (by decide)⟩
   ·have b1:f.tmps[1]?=some (.int .i64 n):=(hb 1 (by decide)).trans rfl
    clear hb hv hd
    refine wpOp_step rfl (fun K hK=>?_)
    go_simp
    exact hK _ _ ⟨_,rfl,Below.refl _ _,rfl,fun h=>absurd h (by decide)⟩
   ·have h3:v 3=.int .i64 n:=hd 3 (by kernel_rfl)
    have d3:f.tmps[29]?=some (.int .i64 n):=(hv 3 29 rfl).trans (congrArg some h3)
    clear h3
    clear hb hv hd
    refine wpOp_step rfl (fun K hK=>?_)
    go_simp
    exact hK _ _ ⟨_,rfl,Below.refl _ _,by rw [IntWalk.i64_in (n - 1) ⟨by omega,by omega⟩]; rfl,fun h=>absurd h (by decide)⟩
   ·have h2:v 2=wv oh ol:=hd 2 (by kernel_rfl)
    have d2:f.tmps[28]?=some (wv oh ol):=(hv 2 28 rfl).trans (congrArg some h2)
    clear h2
    have h4:v 4=.int .i64 (n - 1):=hd 4 (by kernel_rfl)
    have d4:f.tmps[30]?=some (.int .i64 (n - 1)):=(hv 4 30 rfl).trans (congrArg some h4)
    clear h4
    clear hb hv hd
    refine wpOp_call rfl (fun _ _=>by go_simp) (by simp [Act.eval,d2,d4]) (cS _) ?_
    rintro e w2 ⟨rfl,hb2⟩
    exact ⟨_,rfl,_,rfl,hb2,rfl,fun h=>absurd h (by decide)⟩
   ·have h1:v 1=wv rh rl:=hd 1 (by kernel_rfl)
    have d1:f.tmps[27]?=some (wv rh rl):=(hv 1 27 rfl).trans (congrArg some h1)
    clear h1
    have h5:v 5=wv sh sl:=hd 5 (by kernel_rfl)
    have d5:f.tmps[31]?=some (wv sh sl):=(hv 5 31 rfl).trans (congrArg some h5)
    clear h5
    clear hb hv hd
    refine wpOp_call rfl (fun _ _=>by go_simp) (by simp [Act.eval,d1,d5]) (cC _) ?_
    rintro e w2 ⟨rfl,hb2⟩
    exact ⟨_,rfl,_,rfl,hb2,rfl,fun h=>absurd h (by decide)⟩
   ·have h0:v 0=wv qh ql:=hd 0 (by kernel_rfl)
    have d0:f.tmps[26]?=some (wv qh ql):=(hv 0 26 rfl).trans (congrArg some h0)
    clear h0
    have h6:v 6=.int .i64 side:=hd 6 (by kernel_rfl)
    have d6:f.tmps[32]?=some (.int .i64 side):=(hv 6 32 rfl).trans (congrArg some h6)
    clear h6
    clear hb hv hd
    refine wpOp_call rfl (fun _ _=>by go_simp) (by simp [Act.eval,d0,d6]) (cN _) ?_
    rintro e w2 ⟨zh,zl,rfl,hz,hb2⟩
    exact ⟨_,rfl,_,rfl,hb2,⟨zh,zl,rfl,hz⟩,fun h=>absurd h (by decide)⟩
  ·intro v w' hB hF hD
   have F0:v 0=wv qh ql:=hF 0 (by simp)
   have F1:v 1=wv rh rl:=hF 1 (by simp)
   have F2:v 2=wv oh ol:=hF 2 (by simp)
   have F3:v 3=.int .i64 n:=hF 3 (by simp)
   have F4:v 4=.int .i64 (n - 1):=hF 4 (by simp)
   have F5:v 5=wv sh sl:=hF 5 (by simp)
   have F6:v 6=.int .i64 side:=hF 6 (by simp)
   have F7:∃ zh zl,v 7=wv zh zl∧IsW zh zl z:=hF 7 (by simp)
   clear hF
   obtain ⟨zh,zl,e7,hz⟩:=F7
   simp only [frOf,frGo,Nat.zero_add,Nat.reduceAdd,F0,F1,F2,F3,F4,F5,F6,e7]
   have r2:=wc_keep hB r1
   have f2:=wf_keep hB r1 f1
   have B2:=b_trans B1 hB
   clear r1 f1 k1 kg B1 hB
   go_wp2
   exact bodyPost_ret (v:=.tuple #[wv zh zl,.int .i64 0]) (by simp [results,Tryz.results123,go_sem,r2]) rfl ⟨zh,zl,rfl,hz,b_set (b_set B2 (by simp)) (by simp)⟩
end Go.Proofs.YtdhnhmhgmnkajaaGreatDoor

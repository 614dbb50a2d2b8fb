import Derived.Test.YthnofhjgfhapiaaGreatDoorWad
import Derived.Test.YthnofhjgfhapiaaGreatDoorWaa
import Derived.Test.YthnofhjgfhapiaaGreatDoorWab
import Derived.Test.YthnofhjgfhapiaaGreatDoorWac
import Derived.Laws.Cover1
import Derived.ChangeKeysEq
import Derived.Lib.SmallJoins
import Derived.Maps.AppendAt
import Derived.Laws.OwnMore
import Derived.Deep.AppendLies
import Derived.Test.YthnofhjgfhapiaaGreatDoorWai
set_option maxHeartbeats 2000000
set_option maxRecDepth 10000
namespace Go.Proofs.YthnofhjgfhapiaaGreatDoor
open Go.RowKit Go.Shelf
theorem qf_fits {a b:Int} (x:Fits a) (b0:b≠0) (c:¬ (a=-170141183460469231731687303715884105728∧b=-1)):Fits (qf a b):=by
 rcases Bool.eq_false_or_eq_true (decide (a<0)) with ha | ha <;> rcases Bool.eq_false_or_eq_true (decide (b<0)) with hb | hb
 ·have hs:decide (a<0)=decide (b<0):=by rw [ha,hb]
  obtain ⟨x0,x1⟩:=x
  unfold qf
  rw [(sg_cases a b).1 hs]
  simp at ha hb
  have n0:0≤(a.natAbs:Int) / (b.natAbs:Int):=Int.ediv_nonneg (by omega) (by omega)
  refine ⟨by omega,?_⟩
  by_cases hm:a=-170141183460469231731687303715884105728
  ·have:(a.natAbs:Int) / (b.natAbs:Int)<170141183460469231731687303715884105728:=Int.ediv_lt_of_lt_mul (by omega) (by omega)
   omega
  ·exact Int.le_trans (Int.ediv_le_self _ (by omega)) (by omega)
 ·exact fits_qf x b0 (by rw [ha,hb]; rfl)
 ·exact fits_qf x b0 (by rw [ha,hb]; rfl)
 ·have hs:decide (a<0)=decide (b<0):=by rw [ha,hb]
  obtain ⟨x0,x1⟩:=x
  unfold qf
  rw [(sg_cases a b).1 hs]
  simp at ha hb
  have n0:0≤(a.natAbs:Int) / (b.natAbs:Int):=Int.ediv_nonneg (by omega) (by omega)
  refine ⟨by omega,?_⟩
  exact Int.le_trans (Int.ediv_le_self _ (by omega)) (by omega)
theorem floor_any (ah al a b:Int) (x:IsW ah al a) (b0:b≠0) (bl:-9223372036854775808≤b) (bu:b≤9223372036854775807) (c:¬ (a=-170141183460469231731687303715884105728∧b=-1)) (w:World) :
  Calls Tryz.prog 204 #[wv ah al,.int .i64 b] w (RetF (qf a b) (rf a b) 0 w):=by
 have g:((ah == -9223372036854775808)=false)∨((ah == -9223372036854775808)=true∧(al == 0)=false)∨((ah == -9223372036854775808)=true∧(al == 0)=true∧(b == -1)=false):=by
  by_cases h1:ah=-9223372036854775808
  ·by_cases h2:al=0
   ·refine Or.inr (Or.inr ⟨by simpa using h1,by simpa using h2,?_⟩)
    rw [beq_eq_false_iff_ne]
    intro h3
    exact c ⟨by rw [← x.e,h1,h2]; decide,h3⟩
   ·exact Or.inr (Or.inl ⟨by simpa using h1,by rw [beq_eq_false_iff_ne]; exact h2⟩)
  ·exact Or.inl (by rw [beq_eq_false_iff_ne]; exact h1)
 have hf:=qf_fits x.fits b0 c
 rcases Bool.eq_false_or_eq_true (decide (a<0)) with ha | ha <;> rcases Bool.eq_false_or_eq_true (decide (b<0)) with hb | hb
 ·exact floor_same ah al a b x b0 bl bu g (by rw [ha,hb]) hf w
 ·by_cases h0:(a.natAbs:Int) % (b.natAbs:Int)=0
  ·exact floor_diff0 ah al a b x b0 bl bu g (by rw [ha,hb]; rfl) h0 w
  ·exact floor_diff1 ah al a b x b0 bl bu g (by rw [ha,hb]; rfl) h0 w
 ·by_cases h0:(a.natAbs:Int) % (b.natAbs:Int)=0
  ·exact floor_diff0 ah al a b x b0 bl bu g (by rw [ha,hb]; rfl) h0 w
  ·exact floor_diff1 ah al a b x b0 bl bu g (by rw [ha,hb]; rfl) h0 w
 ·exact floor_same ah al a b x b0 bl bu g (by rw [ha,hb]) hf w
theorem floor_bad (ah al a:Int) (x:IsW ah al a) (b:Int) (c:a=-170141183460469231731687303715884105728∧b=-1) (w:World) :
  Calls Tryz.prog 204 #[wv ah al,.int .i64 b] w (RetF 0 0 3 w):=by
 obtain ⟨rfl,rfl⟩:=c
 have:ah=-9223372036854775808∧al=0:=by obtain ⟨_,_,_,_,e⟩:=x; omega
 obtain ⟨rfl,rfl⟩:=this
 exact floor_min w
theorem even_err (ah al b c:Int) (c0:(c == 0)=false) (cF:∀ w,Calls Tryz.prog 204 #[wv ah al,.int .i64 b] w (RetF 0 0 c w)) (w:World) :
  Calls Tryz.prog 203 #[wv ah al,.int .i64 b] w (RetWE 0 c w):=by
 go_enter Tryz.func203,Tryz.ntmps203
 go_wp2_with fail
 refine (cF _).mono ?_
 rintro e w1 ⟨h,l,rfl,hz,hb⟩
 have r1:WC w1 (w.heap.size+1) 0 0:=wc_keep hb (by simp [WC,go_sem])
 have f1:WF w1 (w.heap.size+1):=wf_keep hb (h:=0) (l:=0) (by simp [WC,go_sem]) (by simp [WF,go_sem])
 have B1:Below w.heap.size w w1:=b_trans (b_alloc (b_alloc (Below.refl _ _))) hb
 have r2:=wc_alloc (o:=Obj.cells #[.int .i64 h,.int .u64 l] 96) r1
 have f2:=wf_keep (b_alloc (o:=Obj.cells #[.int .i64 h,.int .u64 l] 96) (Below.refl _ _)) r1 f1
 clear r1 f1 hb
 go_wp2
 exact bodyPost_ret (v:=.tuple #[wv 0 0,.int .i64 c]) (by simp [results,Tryz.results203,go_sem,r2]) rfl ⟨_,_,rfl,isW_zero,b_set (b_set (b_alloc B1) (by simp)) (by simp)⟩
def ef (a b:Int):Int:=near (qf a b) (2*rf a b - (b.natAbs:Int))
theorem rf_bd (a:Int) {b:Int} (b0:b≠0):0≤rf a b∧rf a b<(b.natAbs:Int):=⟨Int.emod_nonneg _ (by omega),Int.emod_lt_of_pos _ (by omega)⟩
theorem qf_half {a b:Int} (x:Fits a) (b0:2≤(b.natAbs:Int)):Fits (qf a b+1):=by
 obtain ⟨x0,x1⟩:=x
 unfold qf sg
 have h:∀ n:Int,-170141183460469231731687303715884105728≤n→n≤170141183460469231731687303715884105728→Fits (n / (b.natAbs:Int)+1):=by
  intro n n0 n1
  have l1:-170141183460469231731687303715884105728≤n / (b.natAbs:Int):=Int.le_ediv_of_mul_le (by omega) (by omega)
  have l2:n / (b.natAbs:Int)<100000000000000000000000000000000000000:=Int.ediv_lt_of_lt_mul (by omega) (by omega)
  exact ⟨by omega,by omega⟩
 split
 ·exact h _ (by omega) (by omega)
 ·exact h _ (by omega) (by omega)
theorem even_ok (ah al a b:Int) (x:IsW ah al a) (b0:b≠0) (bl:-9223372036854775808≤b) (bu:b≤9223372036854775807) (c:¬ (a=-170141183460469231731687303715884105728∧b=-1)) (w:World) :
  Calls Tryz.prog 203 #[wv ah al,.int .i64 b] w (RetWE (ef a b) 0 w):=by
 have cF:=floor_any ah al a b x b0 bl bu c
 have cB:=size_any b bl bu
 obtain ⟨q0,q1⟩:=rf_bd a b0
 have bm:(b.natAbs:Int)≤9223372036854775808:=by omega
 obtain ⟨h,l,hq⟩:∃ h l,IsW h l (qf a b):=⟨_,_,IsW.mk' (qf_fits x.fits b0 c)⟩
 have cC:=cmp_any 0 (rf a b) (rf a b) 0 ((b.natAbs:Int) - rf a b) ((b.natAbs:Int) - rf a b) ⟨by decide,by decide,by omega,by omega,by omega⟩ ⟨by decide,by decide,by omega,by omega,by omega⟩
 generalize hside:cmp3 (rf a b) ((b.natAbs:Int) - rf a b)=side at cC
 have cN:∀ w,Calls Tryz.prog 154 #[wv h l,.int .i64 side] w (RetW (ef a b) w):=by
  intro w
  have sgn:=cmp3_sign (rf a b) ((b.natAbs:Int) - rf a b)
  rw [hside] at sgn
  have e:ef a b=near (qf a b) side:=by
   unfold ef
   apply near_sign
   omega
  rw [e]
  by_cases d:0<side∨(side=0∧qf a b % 2=1)
  ·exact near_ups h l _ side hq d (qf_half x.fits (by omega)) w
  ·exact near_stays h l _ side hq d w
 generalize ef a b=z at *
 generalize qf a b=q at *
 generalize rf a b=r at *
 generalize (b.natAbs:Int)=B at *
 clear hside x b0 bl bu c
 go_enter Tryz.func203,Tryz.ntmps203
 go_wp2_with fail
 refine (cF _).mono ?_
 rintro e w1 ⟨h',l',rfl,hz,hb⟩
 obtain ⟨rfl,rfl⟩:=(hq.inj hz).2 rfl
 clear hz
 have r1:WC w1 (w.heap.size+1) 0 0:=wc_keep hb (by simp [WC,go_sem])
 have f1:WF w1 (w.heap.size+1):=wf_keep hb (h:=0) (l:=0) (by simp [WC,go_sem]) (by simp [WF,go_sem])
 have B1:Below w.heap.size w w1:=b_trans (b_alloc (b_alloc (Below.refl _ _))) hb
 have r2:=wc_alloc (o:=Obj.cells #[.int .i64 h,.int .u64 l] 96) r1
 have f2:=wf_keep (b_alloc (o:=Obj.cells #[.int .i64 h,.int .u64 l] 96) (Below.refl _ _)) r1 f1
 have B2:=b_alloc (o:=Obj.cells #[.int .i64 h,.int .u64 l] 96) B1
 have k2:WC (w1.alloc (Obj.cells #[.int .i64 h,.int .u64 l] 96)) w1.heap.size h l:=by simp [WC,go_sem]
 clear r1 f1 hb B1
 go_wp2_with fail
 refine (cB _).mono ?_
 rintro e w2 ⟨rfl,rfl⟩
 go_wp2
 refine region_each [25,26,27,28,29,30,31] (fun i x u=>match i with | 0=>x=wv h l | 1=>x=.int .u64 r | 2=>x=wv 0 r | 3=>x=.int .u64 (B - r) | 4=>x=wv 0 (B - r) | 5=>x=.int .i64 side | 6=>∃ zh zl,x=wv zh zl∧IsW zh zl z | _=>True) (fun i=>false) (by kernel_rfl) (by kernel_rfl) (by kernel_rfl) (by kernel_rfl) (by kernel_rfl) ?_ ?_ ?_ ?_
 ·intro i x w w' hi h hb
  match i,hi with
  | 0,_=>exact h
  | 1,_=>exact h
  | 2,_=>exact h
  | 3,_=>exact h
  | 4,_=>exact h
  | 5,_=>exact h
  | 6,_=>exact h
  | k+7,hk=>exact absurd hk (by simp)
 ·intro i x w hi ha h
  cases ha
 ·intro i hi v f w' hb hv hB hd
  match i,hi with
  | 0,_ =>
   have b6:f.tmps[6]?=some (.pointer (some ⟨w1.heap.size,0,none⟩)):=(hb 6 (by decide)).trans rfl
   clear hb hv hd
   have c:=wc_keep hB k2
   refine wpOp_step rfl (fun K hK=>?_)
   go_simp
   exact hK _ _ ⟨_,rfl,Below.refl _ _,rfl,fun h=>absurd h (by decide)⟩
  | 1,_ =>
   have b7:f.tmps[7]?=some (.int .u64 r):=(hb 7 (by decide)).trans rfl
   clear hb hv hd
   refine wpOp_step rfl (fun K hK=>?_)
   go_simp
   exact hK _ _ ⟨_,rfl,Below.refl _ _,rfl,fun h=>absurd h (by decide)⟩
  | 2,_ =>
   have h1:v 1=.int .u64 r:=hd 1 (by kernel_rfl)
   have d1:f.tmps[26]?=some (.int .u64 r):=(hv 1 26 rfl).trans (congrArg some h1)
   clear h1
   clear hb hv hd
   refine wpOp_step rfl (fun K hK=>?_)
   go_simp
   exact hK _ _ ⟨_,rfl,Below.refl _ _,rfl,fun h=>absurd h (by decide)⟩
  | 3,_ =>
   have b9:f.tmps[9]?=some (.int .u64 (B - r)):=(hb 9 (by decide)).trans rfl
   clear hb hv hd
   refine wpOp_step rfl (fun K hK=>?_)
   go_simp
   exact hK _ _ ⟨_,rfl,Below.refl _ _,rfl,fun h=>absurd h (by decide)⟩
  | 4,_ =>
   have h3:v 3=.int .u64 (B - r):=hd 3 (by kernel_rfl)
   have d3:f.tmps[28]?=some (.int .u64 (B - r)):=(hv 3 28 rfl).trans (congrArg some h3)
   clear h3
   clear hb hv hd
   refine wpOp_step rfl (fun K hK=>?_)
   go_simp
   exact hK _ _ ⟨_,rfl,Below.refl _ _,rfl,fun h=>absurd h (by decide)⟩
  | 5,_ =>
   have h2:v 2=wv 0 r:=hd 2 (by kernel_rfl)
   have d2:f.tmps[27]?=some (wv 0 r):=(hv 2 27 rfl).trans (congrArg some h2)
   clear h2
   have h4:v 4=wv 0 (B - r):=hd 4 (by kernel_rfl)
   have d4:f.tmps[29]?=some (wv 0 (B - r)):=(hv 4 29 rfl).trans (congrArg some h4)
   clear h4
   clear hb hv hd
   refine wpOp_step rfl (fun K hK=>?_)
   go_simp
   refine (cC _).mono ?_
   rintro e w5 ⟨rfl,hb5⟩
   exact hK _ _ ⟨_,rfl,hb5,rfl,fun h=>absurd h (by decide)⟩
  | 6,_ =>
   have h0:v 0=wv h l:=hd 0 (by kernel_rfl)
   have d0:f.tmps[25]?=some (wv h l):=(hv 0 25 rfl).trans (congrArg some h0)
   clear h0
   have h5:v 5=.int .i64 side:=hd 5 (by kernel_rfl)
   have d5:f.tmps[30]?=some (.int .i64 side):=(hv 5 30 rfl).trans (congrArg some h5)
   clear h5
   clear hb hv hd
   refine wpOp_step rfl (fun K hK=>?_)
   go_simp
   refine (cN _).mono ?_
   rintro e w5 ⟨zh,zl,rfl,hz,hb5⟩
   exact hK _ _ ⟨_,rfl,hb5,⟨zh,zl,rfl,hz⟩,fun h=>absurd h (by decide)⟩
  | k+7,hk=>exact absurd hk (by simp)
 ·intro v w' hB hF hD
  have F0:v 0=wv h l:=hF 0 (by simp)
  have F1:v 1=.int .u64 r:=hF 1 (by simp)
  have F2:v 2=wv 0 r:=hF 2 (by simp)
  have F3:v 3=.int .u64 (B - r):=hF 3 (by simp)
  have F4:v 4=wv 0 (B - r):=hF 4 (by simp)
  have F5:v 5=.int .i64 side:=hF 5 (by simp)
  have F6:∃ zh zl,v 6=wv zh zl∧IsW zh zl z:=hF 6 (by simp)
  clear hF
  obtain ⟨zh,zl,e6,hz'⟩:=F6
  simp only [frOf,frGo,Nat.zero_add,Nat.reduceAdd,F0,F1,F2,F3,F4,F5,e6]
  have r3:=wc_keep hB r2
  have f3:=wf_keep hB r2 f2
  have B3:=b_trans B2 hB
  clear k2 r2 f2 B2 hB hD
  go_wp2
  exact bodyPost_ret (v:=.tuple #[wv zh zl,.int .i64 0]) (by simp [results,Tryz.results203,go_sem,r3]) rfl ⟨_,_,rfl,hz',b_set (b_set B3 (by simp)) (by simp)⟩
theorem even_zero (ah al:Int) (w:World):Calls Tryz.prog 203 #[wv ah al,.int .i64 0] w (RetWE 0 4 w) :=
 even_err ah al 0 4 (by decide) (fun w=>floor_zero ah al w) w
theorem ef_fits {a b:Int} (x:Fits a) (b0:b≠0) (c:¬ (a=-170141183460469231731687303715884105728∧b=-1)):Fits (ef a b):=by
 obtain ⟨q0,q1⟩:=rf_bd a b0
 unfold ef near
 split
 ·exact qf_half x (by omega)
 ·exact qf_fits x b0 c
theorem even_any (ah al a b:Int) (x:IsW ah al a) (b0:b≠0) (bl:-9223372036854775808≤b) (bu:b≤9223372036854775807) (w:World) :
  Calls Tryz.prog 203 #[wv ah al,.int .i64 b] w (RetWE (fz (ef a b)) (fe (ef a b)) w):=by
 by_cases c:a=-170141183460469231731687303715884105728∧b=-1
 ·have e:ef a b=170141183460469231731687303715884105728:=by
   obtain ⟨rfl,rfl⟩:=c
   decide
  rw [e]
  exact even_err ah al b 3 (by decide) (fun w=>floor_bad ah al a x b c w) w
 ·have hf:=ef_fits x.fits b0 c
  rw [fz_of hf,fe_of hf]
  exact even_ok ah al a b x b0 bl bu c w
end Go.Proofs.YthnofhjgfhapiaaGreatDoor
namespace Go.Proofs.YthnofhjgfhapiaaGreatDoor
open Go.RowKit Go.Shelf
theorem retWE_det {z c h l:Int} (x:IsW h l z) {w:World} {e:Ending} {w':World} (r:RetWE z c w e w'):RetV (.tuple #[wv h l,.int .i64 c]) w e w':=by
 obtain ⟨h',l',he,y,hb⟩:=r
 obtain ⟨rfl,rfl⟩:=(x.inj y).2 rfl
 exact ⟨he,hb⟩
end Go.Proofs.YthnofhjgfhapiaaGreatDoor
namespace Go.Proofs.YthnofhjgfhapiaaGreatDoor
open Go.RowKit Go.Shelf
theorem sum_fix (a b:Int) (ca:FitP a) (cb:FitP b) (w:World) :
  Calls Tryz.prog 140 #[.int .i64 a,.int .i64 b] w fun e w'=>e=.returned (.tuple #[.int .i64 (a+b),.int .i64 0])∧w=w':=by
 go_enter Tryz.func140,Tryz.ntmps140
 go_wp2
 go_ret2
 refine ⟨?_,rfl⟩
 simp
theorem difference_fix (a b:Int) (ca:FitP a) (cb:FitP b) (w:World) :
  Calls Tryz.prog 129 #[.int .i64 a,.int .i64 b] w fun e w'=>e=.returned (.tuple #[.int .i64 (a - b),.int .i64 0])∧w=w':=by
 go_enter Tryz.func129,Tryz.ntmps129
 go_wp2
 go_ret2
 refine ⟨?_,rfl⟩
 simp
def gz (a b x:Int):Int:=if FitP a∧FitP b then nz x else 0
def ge (a b x:Int):Int:=if FitP a∧FitP b then ne x else 1
theorem gz_of {a b:Int} (h:FitP a∧FitP b) (x:Int):gz a b x=nz x∧ge a b x=ne x:=⟨if_pos h,if_pos h⟩
theorem gz_no {a b:Int} (h:¬ (FitP a∧FitP b)) (x:Int):gz a b x=0∧ge a b x=1:=⟨if_neg h,if_neg h⟩
theorem add_fix (a b:Int) (a0:-9223372036854775808≤a) (a1:a≤9223372036854775807) (b0:-9223372036854775808≤b) (b1:b≤9223372036854775807) (w:World) :
  Calls Tryz.prog 106 #[.int .i64 a,.int .i64 b] w (RetV (.tuple #[.int .i64 (gz a b (a+b)),.int .i64 (ge a b (a+b))]) w):=by
 have cT:Calls Tryz.prog 128 #[.int .i64 a,.int .i64 b,.func (.func 140) #[] #[],.func (.func 130) #[] #[]] w (RetV (.tuple #[.int .i64 (gz a b (a+b)),.int .i64 (ge a b (a+b))]) w):=by
  by_cases c:FitP a∧FitP b
  ·rw [(gz_of c _).1,(gz_of c _).2]
   exact taken_sum a b a0 a1 b0 b1 c.1 c.2 (a+b) _ _ (sum_fix a b c.1 c.2) (fitting_any (a+b) (by omega) (by omega)) w
  ·rw [(gz_no c _).1,(gz_no c _).2]
   exact taken_bad a b a0 a1 b0 b1 c _ _ w
 go_enter Tryz.func106,Tryz.ntmps106
 go_wp2_with fail
 refine (cT).mono ?_
 rintro e w1 ⟨rfl,hb1⟩
 go_wp2
 go_ret2
 exact ⟨rfl,hb1⟩
theorem sub_fix (a b:Int) (a0:-9223372036854775808≤a) (a1:a≤9223372036854775807) (b0:-9223372036854775808≤b) (b1:b≤9223372036854775807) (w:World) :
  Calls Tryz.prog 93 #[.int .i64 a,.int .i64 b] w (RetV (.tuple #[.int .i64 (gz a b (a - b)),.int .i64 (ge a b (a - b))]) w):=by
 have cT:Calls Tryz.prog 128 #[.int .i64 a,.int .i64 b,.func (.func 129) #[] #[],.func (.func 130) #[] #[]] w (RetV (.tuple #[.int .i64 (gz a b (a - b)),.int .i64 (ge a b (a - b))]) w):=by
  by_cases c:FitP a∧FitP b
  ·rw [(gz_of c _).1,(gz_of c _).2]
   exact taken_difference a b a0 a1 b0 b1 c.1 c.2 (a - b) _ _ (difference_fix a b c.1 c.2) (fitting_any (a - b) (by omega) (by omega)) w
  ·rw [(gz_no c _).1,(gz_no c _).2]
   exact taken_bad a b a0 a1 b0 b1 c _ _ w
 go_enter Tryz.func93,Tryz.ntmps93
 go_wp2_with fail
 refine (cT).mono ?_
 rintro e w1 ⟨rfl,hb1⟩
 go_wp2
 go_ret2
 exact ⟨rfl,hb1⟩
theorem mul_bd {a b:Int} (ca:FitP a) (cb:FitP b):-83076749736557242056487941267521536≤a*b∧a*b≤83076749736557242056487941267521536:=by
 have h:a.natAbs*b.natAbs≤288230376151711744*288230376151711744:=Nat.mul_le_mul (by omega) (by omega)
 have e:(a*b).natAbs=a.natAbs*b.natAbs:=Int.natAbs_mul a b
 omega
theorem evn_near (A B:Int):evn A B=A / B∨evn A B=A / B+1:=by unfold evn near; split <;> simp
theorem evn_fits {a b:Int} (ca:FitP a) (cb:FitP b):Fits (evn (a*b) 1099511627776):=by
 have h:=mul_bd ca cb
 have:=evn_near (a*b) 1099511627776
 exact ⟨by omega,by omega⟩
theorem product_any (a b:Int) (a0:-9223372036854775808≤a) (a1:a≤9223372036854775807) (b0:-9223372036854775808≤b) (b1:b≤9223372036854775807) (_ca:FitP a) (_cb:FitP b) (w:World) :
  Calls Tryz.prog 174 #[.int .i64 a,.int .i64 b] w (RetWE (evn (a*b) 1099511627776) 0 w):=by
 go_enter Tryz.func174,Tryz.ntmps174
 go_wp2_with fail
 refine (mul_any a b a0 a1 b0 b1 _).mono ?_
 rintro e w1 ⟨h1,l1,rfl,x1,hb1⟩
 go_wp2_with fail
 refine (half_any _ _ _ 40 x1 (by decide) (by decide) _).mono ?_
 rintro e w2 ⟨h2,l2,rfl,x2,hb2⟩
 have r0:WC w1 w.heap.size 0 0:=wc_keep hb1 (by simp [WC,go_sem])
 have f0:WF w1 w.heap.size:=wf_keep hb1 (h:=0) (l:=0) (by simp [WC,go_sem]) (by simp [WF,go_sem])
 have r1:=wc_keep hb2 r0
 have f1:=wf_keep hb2 r0 f0
 have B1:Below w.heap.size w w2:=b_trans (b_trans (b_alloc (Below.refl _ _)) hb1) hb2
 clear hb1 hb2 x1 r0 f0
 go_wp2
 rw [show (2:Int) ^ (40:Int).toNat=1099511627776 by decide] at x2
 exact bodyPost_ret (v:=.tuple #[wv h2 l2,.int .i64 0]) (by simp [results,Tryz.results174,go_sem,r1]) rfl ⟨_,_,rfl,x2,b_set (b_set B1 (by simp)) (by simp)⟩
theorem mul_fix (a b:Int) (a0:-9223372036854775808≤a) (a1:a≤9223372036854775807) (b0:-9223372036854775808≤b) (b1:b≤9223372036854775807) (w:World) :
  Calls Tryz.prog 146 #[.int .i64 a,.int .i64 b] w (RetV (.tuple #[.int .i64 (gz a b (evn (a*b) 1099511627776)),.int .i64 (ge a b (evn (a*b) 1099511627776))]) w):=by
 have cT:Calls Tryz.prog 173 #[.int .i64 a,.int .i64 b,.func (.func 174) #[] #[],.func (.func 175) #[] #[]] w (RetV (.tuple #[.int .i64 (gz a b (evn (a*b) 1099511627776)),.int .i64 (ge a b (evn (a*b) 1099511627776))]) w):=by
  by_cases c:FitP a∧FitP b
  ·rw [(gz_of c _).1,(gz_of c _).2]
   have x:=IsW.mk' (evn_fits c.1 c.2)
   exact takew_product a b a0 a1 b0 b1 c.1 c.2 _ _ _ _ (fun w=>(product_any a b a0 a1 b0 b1 c.1 c.2 w).mono fun _ _ h=>retWE_det x h) (narrow_any _ _ _ x) w
  ·rw [(gz_no c _).1,(gz_no c _).2]
   exact takew_bad a b a0 a1 b0 b1 c _ _ w
 generalize evn (a*b) 1099511627776=z at *
 go_enter Tryz.func146,Tryz.ntmps146
 go_wp2_with fail
 refine (cT).mono ?_
 rintro e w1 ⟨rfl,hb1⟩
 go_wp2
 go_ret2
 exact ⟨rfl,hb1⟩
theorem one_bd {a:Int} (ca:FitP a):Fits (a*1099511627776)∧¬ (a*1099511627776=-170141183460469231731687303715884105728):=⟨⟨by omega,by omega⟩,by omega⟩
theorem quotient_any (a b:Int) (a0:-9223372036854775808≤a) (a1:a≤9223372036854775807) (b0:-9223372036854775808≤b) (b1:b≤9223372036854775807) (ca:FitP a) (b2:b≠0) (w:World) :
  Calls Tryz.prog 200 #[.int .i64 a,.int .i64 b] w (RetWE (ef (a*1099511627776) b) 0 w):=by
 have hf:=ef_fits (one_bd ca).1 b2 (fun h=>(one_bd ca).2 h.1)
 go_enter Tryz.func200,Tryz.ntmps200
 go_wp2_with fail
 refine (mul_any a 1099511627776 a0 a1 (by decide) (by decide) _).mono ?_
 rintro e w1 ⟨h1,l1,rfl,x1,hb1⟩
 go_wp2_with fail
 refine (even_any _ _ _ b x1 b2 b0 b1 _).mono ?_
 rintro e w2 ⟨h2,l2,rfl,x2,hb2⟩
 have r0:WC w1 w.heap.size 0 0:=wc_keep hb1 (by simp [WC,go_sem])
 have f0:WF w1 w.heap.size:=wf_keep hb1 (h:=0) (l:=0) (by simp [WC,go_sem]) (by simp [WF,go_sem])
 rw [fz_of hf] at x2
 rw [fe_of hf]
 have r1:=wc_keep hb2 r0
 have f1:=wf_keep hb2 r0 f0
 have B1:Below w.heap.size w w2:=b_trans (b_trans (b_alloc (Below.refl _ _)) hb1) hb2
 clear hb1 hb2 x1 r0 f0
 go_wp2
 exact bodyPost_ret (v:=.tuple #[wv h2 l2,.int .i64 0]) (by simp [results,Tryz.results200,go_sem,r1]) rfl ⟨_,_,rfl,x2,b_set (b_set B1 (by simp)) (by simp)⟩
theorem quotient_zero (a:Int) (a0:-9223372036854775808≤a) (a1:a≤9223372036854775807) (w:World) :
  Calls Tryz.prog 200 #[.int .i64 a,.int .i64 0] w (RetWE 0 4 w):=by
 go_enter Tryz.func200,Tryz.ntmps200
 go_wp2_with fail
 refine (mul_any a 1099511627776 a0 a1 (by decide) (by decide) _).mono ?_
 rintro e w1 ⟨h1,l1,rfl,x1,hb1⟩
 go_wp2_with fail
 refine (even_zero _ _ _).mono ?_
 rintro e w2 ⟨h2,l2,rfl,x2,hb2⟩
 have r0:WC w1 w.heap.size 0 0:=wc_keep hb1 (by simp [WC,go_sem])
 have f0:WF w1 w.heap.size:=wf_keep hb1 (h:=0) (l:=0) (by simp [WC,go_sem]) (by simp [WF,go_sem])
 have r1:=wc_keep hb2 r0
 have f1:=wf_keep hb2 r0 f0
 have B1:Below w.heap.size w w2:=b_trans (b_trans (b_alloc (Below.refl _ _)) hb1) hb2
 clear hb1 hb2 x1 r0 f0
 go_wp2
 exact bodyPost_ret (v:=.tuple #[wv h2 l2,.int .i64 4]) (by simp [results,Tryz.results200,go_sem,r1]) rfl ⟨_,_,rfl,x2,b_set (b_set B1 (by simp)) (by simp)⟩
def dz (a b:Int):Int:=if FitP a∧FitP b then (if b=0 then 0 else nz (ef (a*1099511627776) b)) else 0
def de (a b:Int):Int:=if FitP a∧FitP b then (if b=0 then 4 else ne (ef (a*1099511627776) b)) else 1
theorem dz_no {a b:Int} (h:¬ (FitP a∧FitP b)):dz a b=0∧de a b=1:=⟨if_neg h,if_neg h⟩
theorem dz_zero {a b:Int} (h:FitP a∧FitP b) (b0:b=0):dz a b=0∧de a b=4:=by unfold dz de; rw [if_pos h,if_pos h,if_pos b0,if_pos b0]; exact ⟨rfl,rfl⟩
theorem dz_of {a b:Int} (h:FitP a∧FitP b) (b0:b≠0):dz a b=nz (ef (a*1099511627776) b)∧de a b=ne (ef (a*1099511627776) b):=by unfold dz de; rw [if_pos h,if_pos h,if_neg b0,if_neg b0]; exact ⟨rfl,rfl⟩
theorem div_fix (a b:Int) (a0:-9223372036854775808≤a) (a1:a≤9223372036854775807) (b0:-9223372036854775808≤b) (b1:b≤9223372036854775807) (w:World) :
  Calls Tryz.prog 193 #[.int .i64 a,.int .i64 b] w (RetV (.tuple #[.int .i64 (dz a b),.int .i64 (de a b)]) w):=by
 have cT:Calls Tryz.prog 173 #[.int .i64 a,.int .i64 b,.func (.func 200) #[] #[],.func (.func 175) #[] #[]] w (RetV (.tuple #[.int .i64 (dz a b),.int .i64 (de a b)]) w):=by
  by_cases c:FitP a∧FitP b
  ·by_cases d:b=0
   ·rw [(dz_zero c d).1,(dz_zero c d).2]
    subst d
    exact takew_quotient_err a 0 a0 a1 b0 b1 c.1 c.2 _ 0 0 4 (by decide) (fun w=>(quotient_zero a a0 a1 w).mono fun _ _ h=>retWE_det isW_zero h) w
   ·rw [(dz_of c d).1,(dz_of c d).2]
    have x:=IsW.mk' (ef_fits (one_bd c.1).1 d (fun h=>(one_bd c.1).2 h.1))
    exact takew_quotient a b a0 a1 b0 b1 c.1 c.2 _ _ _ _ (fun w=>(quotient_any a b a0 a1 b0 b1 c.1 d w).mono fun _ _ h=>retWE_det x h) (narrow_any _ _ _ x) w
  ·rw [(dz_no c).1,(dz_no c).2]
   exact takew_bad a b a0 a1 b0 b1 c _ _ w
 generalize dz a b=z at *
 generalize de a b=z' at *
 go_enter Tryz.func193,Tryz.ntmps193
 go_wp2_with fail
 refine (cT).mono ?_
 rintro e w1 ⟨rfl,hb1⟩
 go_wp2
 go_ret2
 exact ⟨rfl,hb1⟩
def clz (x m:Int):Int:=if m<0 then 0 else if x < -m then -m else if m<x then m else x
theorem clamp_fix (x m:Int) (_x0:-9223372036854775808≤x) (_x1:x≤9223372036854775807) (m0:-9223372036854775808≤m) (m1:m≤9223372036854775807) (w:World) :
  Calls Tryz.prog 36 #[.int .i64 x,.int .i64 m] w fun e w'=>e=.returned (.int .i64 (clz x m))∧w=w':=by
 by_cases c:m<0
 ·have E:=Lib.hid (show clz x m=0 from if_pos c)
  go_enter Tryz.func36,Tryz.ntmps36
  go_wp2
  go_ret
  exact ⟨by rw [E.out]; rfl,rfl⟩
 ·have n1:wrap64 (-m)=-m:=by unfold wrap64; omega
  by_cases d:x < -m
  ·have E:=Lib.hid (show clz x m=-m by unfold clz; rw [if_neg c,if_pos d])
   have d2:¬ m<x:=by omega
   go_enter Tryz.func36,Tryz.ntmps36
   go_wp2_with (simp only [n1])
   go_ret
   exact ⟨by rw [E.out]; simp,rfl⟩
  ·by_cases d2:m<x
   ·have E:=Lib.hid (show clz x m=m by unfold clz; rw [if_neg c,if_neg d,if_pos d2])
    go_enter Tryz.func36,Tryz.ntmps36
    go_wp2_with (simp only [n1])
    go_ret
    exact ⟨by rw [E.out]; rfl,rfl⟩
   ·have E:=Lib.hid (show clz x m=x by unfold clz; rw [if_neg c,if_neg d,if_neg d2])
    go_enter Tryz.func36,Tryz.ntmps36
    go_wp2_with (simp only [n1])
    go_ret
    exact ⟨by rw [E.out]; rfl,rfl⟩
theorem out_bd {x:Int} (x0:-9223372036854775808≤x) (x1:x≤9223372036854775807):-9223372036854775808≤evn x 16777216∧evn x 16777216≤9223372036854775807:=by
 have:=evn_near x 16777216
 omega
theorem out_fix (x:Int) (x0:-9223372036854775808≤x) (x1:x≤9223372036854775807) (w:World) :
  Calls Tryz.prog 81 #[.int .i64 x] w (RetV (.int .i64 (evn x 16777216)) w):=by
 have E:=Lib.hid (iz_of (out_bd x0 x1))
 go_enter Tryz.func81,Tryz.ntmps81
 go_wp2_with fail
 refine (of_any x x0 x1 _).mono ?_
 rintro e w1 ⟨h1,l1,rfl,y1,hb1⟩
 go_wp2_with fail
 refine (half_any _ _ _ 24 y1 (by decide) (by decide) _).mono ?_
 rintro e w2 ⟨h2,l2,rfl,y2,hb2⟩
 rw [show (2:Int) ^ (24:Int).toNat=16777216 by decide] at y2
 go_wp2_with fail
 refine (int_any _ _ _ y2 _).mono ?_
 rintro e w3 ⟨rfl,hb3⟩
 rw [E.out.1,E.out.2]
 have B:=b_trans (b_alloc (b_trans hb1 hb2)) hb3
 clear hb1 hb2 hb3
 generalize evn x 16777216=z at *
 go_wp2
 go_ret
 exact ⟨rfl,B⟩
end Go.Proofs.YthnofhjgfhapiaaGreatDoor
namespace Go.Proofs.YthnofhjgfhapiaaGreatDoor
open Go.RowKit Go.Shelf
abbrev I64 (x:Int):Prop:=-9223372036854775808≤x∧x≤9223372036854775807
abbrev tv (x y z:Int):Value:=.agg #[.int .i64 x,.int .i64 y,.int .i64 z]
abbrev TC (w:World) (b:Nat) (x y z:Int):Prop:=w.cell? ⟨b,0,none⟩=some (.int .i64 x)∧w.cell? ⟨b,1,none⟩=some (.int .i64 y)∧w.cell? ⟨b,2,none⟩=some (.int .i64 z)
abbrev TF (w:World) (b:Nat):Prop:=w.frozen? ⟨b,0,none⟩=false∧w.frozen? ⟨b,1,none⟩=false∧w.frozen? ⟨b,2,none⟩=false
theorem tc_keep {w w':World} (hb:Below w.heap.size w w') {b:Nat} {x y z:Int} (c:TC w b x y z):TC w' b x y z:=⟨cell_keep hb c.1,cell_keep hb c.2.1,cell_keep hb c.2.2⟩
theorem tc_alloc {w:World} {o:Obj} {b:Nat} {x y z:Int} (c:TC w b x y z):TC (w.alloc o) b x y z:=tc_keep (b_alloc (Below.refl _ _)) c
theorem tc_lt {w:World} {b:Nat} {x y z:Int} (c:TC w b x y z):b<w.heap.size:=World.block_lt_of_cell? w _ c.1
theorem tf_keep {w w':World} (hb:Below w.heap.size w w') {b:Nat} {x y z:Int} (c:TC w b x y z) (f:TF w b):TF w' b:=by
 have h1:=World.block_lt_of_cell? w _ c.1
 have h2:=World.block_lt_of_cell? w _ c.2.1
 have h3:=World.block_lt_of_cell? w _ c.2.2
 exact ⟨by rw [hb.frozen h1]; exact f.1,by rw [hb.frozen h2]; exact f.2.1,by rw [hb.frozen h3]; exact f.2.2⟩
theorem tc_set {w:World} {b b1 o:Nat} {x y z:Int} {v:Value} (c:TC w b x y z) (hb:b1≠b):TC (w.setCell ⟨b1,o,none⟩ v) b x y z :=
 ⟨by rw [World.cell?_setCell_far _ _ _ _ hb]; exact c.1,by rw [World.cell?_setCell_far _ _ _ _ hb]; exact c.2.1,by rw [World.cell?_setCell_far _ _ _ _ hb]; exact c.2.2⟩
theorem tf_set {w:World} {b b1 o:Nat} {v:Value} (c:TF w b):TF (w.setCell ⟨b1,o,none⟩ v) b :=
 ⟨by rw [World.frozen?_setCell]; exact c.1,by rw [World.frozen?_setCell]; exact c.2.1,by rw [World.frozen?_setCell]; exact c.2.2⟩
theorem tc_new {w:World} {b:Nat} {x y z:Int} {t:TypeId} (hn:b=w.heap.size):TC (w.alloc (Obj.cells #[.int .i64 x,.int .i64 y,.int .i64 z] t)) b x y z:=by subst hn; simp [TC,go_sem]
theorem tf_new {w:World} {b:Nat} {x y z:Int} {t:TypeId} (hn:b=w.heap.size):TF (w.alloc (Obj.cells #[.int .i64 x,.int .i64 y,.int .i64 z] t)) b:=by subst hn; simp [TF,go_sem]
theorem vec_eq (x y z x' y' z':Int) (w:World):(Op.equalIn 10000 25 (tv x y z) (tv x' y' z')).run Tryz.prog w=.ok (x == x' && (y == y' && z == z')) w:=by
 have hs:(Tryz.prog.info? 2).isSome=true:=by kernel_rfl
 obtain ⟨i,hi⟩:=Option.isSome_iff_exists.1 hs
 have hc:Tryz.prog.cellsOf 2=1:=by kernel_rfl
 have hp:Tryz.prog.plainKey 2=true:=by kernel_rfl
 rw [run_equalIn_array w 9999 _ _ Tryz.underlying25 hi]
 rw [hc]
 have P:=fun (a b c:Int) (w:World)=>And.intro (run_part_plain w hp (xs:=#[Value.int IntKind.i64 a,Value.int IntKind.i64 b,Value.int IntKind.i64 c]) (off:=0*1) rfl) (And.intro (run_part_plain w hp (xs:=#[Value.int IntKind.i64 a,Value.int IntKind.i64 b,Value.int IntKind.i64 c]) (off:=1*1) rfl) (run_part_plain w hp (xs:=#[Value.int IntKind.i64 a,Value.int IntKind.i64 b,Value.int IntKind.i64 c]) (off:=2*1) rfl))
 have E:=fun (a b:Int) (w:World)=>run_equalIn_int w 9998 2 .i64 .i64 a b Tryz.underlying2
 simp only [List.range,List.range.loop,Op.eqItems,Sem.run_bind,(P _ _ _ _).1,Result.andThen_ok]
 by_cases a:x=x' <;> by_cases b:y=y' <;> by_cases c:z=z' <;> simp [a,b,c,(P _ _ _ _).2.1,(P _ _ _ _).2.2,E]
theorem vec_eq_self (x y z:Int) (w:World):(Op.equalIn 10000 25 (tv x y z) (tv x y z)).run Tryz.prog w=.ok true w:=by
 rw [vec_eq]; simp
def f3b (x y z:Int):Bool:=fitb x && (fitb y && fitb z)
abbrev F3 (x y z:Int):Prop:=FitP x∧FitP y∧FitP z
theorem f3b_yes {x y z:Int} (h:F3 x y z):f3b x y z=true:=by unfold f3b; rw [fitb_yes h.1,fitb_yes h.2.1,fitb_yes h.2.2]; rfl
theorem f3b_no {x y z:Int} (h:¬ F3 x y z):f3b x y z=false:=by
 unfold f3b
 by_cases a:FitP x
 ·by_cases b:FitP y
  ·rw [fitb_no (x:=z) (fun c=>h ⟨a,b,c⟩)]; simp
  ·rw [fitb_no b]; simp
 ·rw [fitb_no a]; simp
end Go.Proofs.YthnofhjgfhapiaaGreatDoor
namespace Go.Proofs.YthnofhjgfhapiaaGreatDoor
open Go.RowKit Go.Shelf
abbrev sv (m:Nat→Int):Value:=.agg #[.int .i64 (m 0),.int .i64 (m 1),.int .i64 (m 2),.int .i64 (m 3),.int .i64 (m 4),.int .i64 (m 5)]
abbrev SC (w:World) (b:Nat) (m:Nat→Int):Prop:=∀ i,i<6→w.cell? ⟨b,i,none⟩=some (.int .i64 (m i))
abbrev SF (w:World) (b:Nat):Prop:=∀ i,i<6→w.frozen? ⟨b,i,none⟩=false
theorem sc_keep {w w':World} (hb:Below w.heap.size w w') {b:Nat} {m:Nat→Int} (c:SC w b m):SC w' b m:=fun i hi=>cell_keep hb (c i hi)
theorem sc_alloc {w:World} {o:Obj} {b:Nat} {m:Nat→Int} (c:SC w b m):SC (w.alloc o) b m:=sc_keep (b_alloc (Below.refl _ _)) c
theorem sc_lt {w:World} {b:Nat} {m:Nat→Int} (c:SC w b m):b<w.heap.size:=World.block_lt_of_cell? w _ (c 0 (by decide))
theorem sf_keep {w w':World} (hb:Below w.heap.size w w') {b:Nat} {m:Nat→Int} (c:SC w b m) (f:SF w b):SF w' b:=fun i hi=>by rw [hb.frozen (p:=⟨b,i,none⟩) (sc_lt c)]; exact f i hi
theorem sc_set {w:World} {b b1 o:Nat} {m:Nat→Int} {v:Value} (c:SC w b m) (hb:b1≠b):SC (w.setCell ⟨b1,o,none⟩ v) b m:=fun i hi=>by rw [World.cell?_setCell_far _ _ _ _ hb]; exact c i hi
theorem sf_set {w:World} {b b1 o:Nat} {v:Value} (c:SF w b):SF (w.setCell ⟨b1,o,none⟩ v) b:=fun i hi=>by rw [World.frozen?_setCell]; exact c i hi
abbrev SC6 (w:World) (b:Nat) (m:Nat→Int):Prop:=w.cell? ⟨b,0,none⟩=some (.int .i64 (m 0))∧w.cell? ⟨b,1,none⟩=some (.int .i64 (m 1))∧w.cell? ⟨b,2,none⟩=some (.int .i64 (m 2))∧w.cell? ⟨b,3,none⟩=some (.int .i64 (m 3))∧w.cell? ⟨b,4,none⟩=some (.int .i64 (m 4))∧w.cell? ⟨b,5,none⟩=some (.int .i64 (m 5))
theorem sc_six {w:World} {b:Nat} {m:Nat→Int} (c:SC w b m):SC6 w b m:=⟨c 0 (by decide),c 1 (by decide),c 2 (by decide),c 3 (by decide),c 4 (by decide),c 5 (by decide)⟩
abbrev SF6 (w:World) (b:Nat):Prop:=w.frozen? ⟨b,0,none⟩=false∧w.frozen? ⟨b,1,none⟩=false∧w.frozen? ⟨b,2,none⟩=false∧w.frozen? ⟨b,3,none⟩=false∧w.frozen? ⟨b,4,none⟩=false∧w.frozen? ⟨b,5,none⟩=false
theorem sf_six {w:World} {b:Nat} (c:SF w b):SF6 w b:=⟨c 0 (by decide),c 1 (by decide),c 2 (by decide),c 3 (by decide),c 4 (by decide),c 5 (by decide)⟩
theorem six_sc {w:World} {b:Nat} {m:Nat→Int} (c:SC6 w b m):SC w b m:=fun i hi=>by
 obtain ⟨c0,c1,c2,c3,c4,c5⟩:=c
 match i,hi with
 | 0,_=>exact c0
 | 1,_=>exact c1
 | 2,_=>exact c2
 | 3,_=>exact c3
 | 4,_=>exact c4
 | 5,_=>exact c5
theorem sc_new {w:World} {b:Nat} {m:Nat→Int} {t:TypeId} (hn:b=w.heap.size):SC (w.alloc (Obj.cells #[.int .i64 (m 0),.int .i64 (m 1),.int .i64 (m 2),.int .i64 (m 3),.int .i64 (m 4),.int .i64 (m 5)] t)) b m:=by subst hn; exact six_sc (by simp [SC6,go_sem])
theorem sf_new {w:World} {b:Nat} {c0 c1 c2 c3 c4 c5:Value} {t:TypeId} (hn:b=w.heap.size):SF (w.alloc (Obj.cells #[c0,c1,c2,c3,c4,c5] t)) b:=by
 subst hn
 intro i hi
 match i,hi with
 | 0,_=>simp [go_sem]
 | 1,_=>simp [go_sem]
 | 2,_=>simp [go_sem]
 | 3,_=>simp [go_sem]
 | 4,_=>simp [go_sem]
 | 5,_=>simp [go_sem]
abbrev I6 (m:Nat→Int):Prop:=∀ i,i<6→I64 (m i)
abbrev F6 (m:Nat→Int):Prop:=∀ i,i<6→FitP (m i)
def f6b (m:Nat→Int):Bool:=decide (F6 m)
theorem f6b_yes {m:Nat→Int} (h:F6 m):f6b m=true:=decide_eq_true h
theorem f6b_no {m:Nat→Int} (h:¬ F6 m):f6b m=false:=decide_eq_false h
theorem six {P:Nat→Prop} (h0:P 0) (h1:P 1) (h2:P 2) (h3:P 3) (h4:P 4) (h5:P 5):∀ i,i<6→P i:=fun i hi =>
 match i,hi with
 | 0,_=>h0
 | 1,_=>h1
 | 2,_=>h2
 | 3,_=>h3
 | 4,_=>h4
 | 5,_=>h5
theorem less_succ {P:Nat→Prop} {k:Nat} (h:∀ i,i<k→P i) (hk:P k):∀ i,i<k+1→P i:=fun i hi=>if e:i=k then e ▸ hk else h i (by omega)
theorem ix_sym (m:Nat→Int):(∀ w,(Instr.index 42 (sv m) (.int .i64 0)).run Tryz.prog w=.ok (.int .i64 (m 0)) w)∧(∀ w,(Instr.index 42 (sv m) (.int .i64 1)).run Tryz.prog w=.ok (.int .i64 (m 1)) w)∧(∀ w,(Instr.index 42 (sv m) (.int .i64 2)).run Tryz.prog w=.ok (.int .i64 (m 2)) w)∧(∀ w,(Instr.index 42 (sv m) (.int .i64 3)).run Tryz.prog w=.ok (.int .i64 (m 3)) w)∧(∀ w,(Instr.index 42 (sv m) (.int .i64 4)).run Tryz.prog w=.ok (.int .i64 (m 4)) w)∧(∀ w,(Instr.index 42 (sv m) (.int .i64 5)).run Tryz.prog w=.ok (.int .i64 (m 5)) w) :=
 ⟨fun _=>by kernel_rfl,fun _=>by kernel_rfl,fun _=>by kernel_rfl,fun _=>by kernel_rfl,fun _=>by kernel_rfl,fun _=>by kernel_rfl⟩
theorem ix_vec (x y z:Int):(∀ w,(Instr.index 25 (tv x y z) (.int .i64 0)).run Tryz.prog w=.ok (.int .i64 x) w)∧(∀ w,(Instr.index 25 (tv x y z) (.int .i64 1)).run Tryz.prog w=.ok (.int .i64 y) w)∧(∀ w,(Instr.index 25 (tv x y z) (.int .i64 2)).run Tryz.prog w=.ok (.int .i64 z) w) :=
 ⟨fun _=>by kernel_rfl,fun _=>by kernel_rfl,fun _=>by kernel_rfl⟩
theorem seven {k:Nat} (h:k≤6):k=6∨k=0∨k=1∨k=2∨k=3∨k=4∨k=5:=by omega
theorem fits_sym (m:Nat→Int) (hm:I6 m) (w:World) :
  Calls Tryz.prog 29 #[sv m] w (RetV (.bool (f6b m)) w):=by
 have B:=b_alloc (o:=Obj.cells #[.int .i64 (m 0),.int .i64 (m 1),.int .i64 (m 2),.int .i64 (m 3),.int .i64 (m 4),.int .i64 (m 5)] 42) (Below.refl w.heap.size w)
 obtain ⟨x0,x1,x2,x3,x4,x5⟩:=ix_sym m
 go_enter Tryz.func29,Tryz.ntmps29
 go_wp2
 go_loop [6] (fun iv=>∃ k:Nat,k≤6∧iv=.int .i64 k∧Hid (∀ i,i<k→FitP (m i))) (fun iv=>6 - (intOf iv).toNat)
 case atStart=>exact ⟨0,by decide,rfl,Lib.hid (fun i hi=>absurd hi (by omega))⟩
 case round =>
  obtain ⟨k,hk,rfl,hf⟩:=hrel
  by_cases c:k<6∧¬ FitP (m k)
  ·have E:=Lib.hid (f6b_no (fun h=>c.2 (h k c.1)))
   have ex:=Lib.hid (fitb_no c.2)
   have hx:=Lib.hid (hm k c.1)
   obtain ⟨c,_⟩:=c
   rcases seven hk with rfl | rfl | rfl | rfl | rfl | rfl | rfl
   ·exact absurd c (by decide)
   all_goals
    go_wp2_with fail
    refine (fits_any _ hx.out.1 hx.out.2 _).mono ?_
    rintro e w9 ⟨rfl,rfl⟩
    rw [ex.out]
    go_wp2
    go_ret
    exact ⟨by rw [E.out]; rfl,B⟩
  ·by_cases d:k=6
   ·subst d
    have E:=Lib.hid (f6b_yes hf.out)
    go_wp2
    go_ret
    exact ⟨by rw [E.out]; rfl,B⟩
   ·have fk:FitP (m k):=Classical.byContradiction (fun h=>c ⟨by omega,h⟩)
    have hf':=Lib.hid (less_succ hf.out fk)
    have hx:=Lib.hid (hm k (by omega))
    have ex:=Lib.hid (fitb_yes fk)
    clear c fk
    rcases seven hk with rfl | rfl | rfl | rfl | rfl | rfl | rfl
    ·exact absurd rfl d
    all_goals
     go_wp2_with fail
     refine (fits_any _ hx.out.1 hx.out.2 _).mono ?_
     rintro e w9 ⟨rfl,rfl⟩
     rw [ex.out]
     go_wp2
     go_round
     case rel=>exact ⟨_,by decide,rfl,hf'⟩
     case measure=>simp [intOf]
end Go.Proofs.YthnofhjgfhapiaaGreatDoor
namespace Go.Proofs.YthnofhjgfhapiaaGreatDoor
structure IsRoot (z r:Int):Prop where
 r0:0≤r
 lo:r*r≤z
 hi:z<(r+1)*(r+1)
theorem sq_le {a b:Int} (a0:0≤a) (h:a≤b):a*a≤b*b:=Int.mul_le_mul h h a0 (by omega)
theorem sq_lt {a b:Int} (a0:0≤a) (h:a<b):a*a<b*b:=by
 have h1:=sq_le (show 0≤a+1 by omega) (show a+1≤b by omega)
 have h2:(a+1)*(a+1)=a*a+a+a+1:=by rw [Int.mul_add,Int.add_mul]; omega
 omega
theorem of_sq_lt {a b:Int} (b0:0≤b) (h:a*a<b*b):a<b:=by
 apply Int.lt_of_not_ge
 intro c
 have:=sq_le b0 c
 omega
theorem IsRoot.uniq {z r s:Int} (x:IsRoot z r) (y:IsRoot z s):r=s:=by
 have x0:=x.r0; have y0:=y.r0
 have h1:=of_sq_lt (show 0≤s+1 by omega) (Int.lt_of_le_of_lt x.lo y.hi)
 have h2:=of_sq_lt (show 0≤r+1 by omega) (Int.lt_of_le_of_lt y.lo x.hi)
 omega
theorem IsRoot.lt {z r h:Int} (x:IsRoot z r) (h0:0≤h) (hh:z<h*h):r<h:=of_sq_lt h0 (Int.lt_of_le_of_lt x.lo hh)
theorem IsRoot.ge {z r l:Int} (x:IsRoot z r) (hl:l*l≤z):l≤r:=by
 have r0:=x.r0
 have:=of_sq_lt (show 0≤r+1 by omega) (Int.lt_of_le_of_lt hl x.hi)
 omega
theorem root_some (n:Nat):∃ r:Int,IsRoot n r:=by
 induction n with
 | zero=>exact ⟨0,by decide,by decide,by decide⟩
 | succ n ih =>
  obtain ⟨r,x⟩:=ih
  have r0:=x.r0; have h0:=x.lo; have h1:=x.hi
  by_cases c:((n+1:Nat):Int)<(r+1)*(r+1)
  ·exact ⟨r,r0,by omega,c⟩
  ·refine ⟨r+1,by omega,by omega,?_⟩
   have:=sq_lt (show 0≤r+1 by omega) (show r+1<r+1+1 by omega)
   omega
theorem root_any {z:Int} (h:0≤z):∃ r,IsRoot z r:=by
 obtain ⟨r,x⟩:=root_some z.toNat
 exact ⟨r,by rwa [Int.toNat_of_nonneg h] at x⟩
theorem root_between {x y r:Int} (x0:0≤x) (h:x≤y) (i:IsRoot (x*y) r):x≤r∧r≤y:=by
 have h1:x*x≤x*y:=Int.mul_le_mul_of_nonneg_left h x0
 have h2:x*y≤y*y:=Int.mul_le_mul_of_nonneg_right h (by omega)
 refine ⟨i.ge h1,?_⟩
 have:=i.lt (show 0≤y+1 by omega) (by have:=sq_lt (show 0≤y by omega) (show y<y+1 by omega); omega)
 omega
theorem root_square {x:Int} (x0:0≤x):IsRoot (x*x) x:=⟨x0,Int.le_refl _,sq_lt x0 (by omega)⟩
theorem root_i64 {x y r:Int} (x0:0≤x) (y0:0≤y) (x1:x≤9223372036854775807) (y1:y≤9223372036854775807) (i:IsRoot (x*y) r):r≤9223372036854775807:=by
 by_cases c:x≤y
 ·have:=(root_between x0 c i).2; omega
 ·have:=(root_between y0 (show y≤x by omega) (by rwa [Int.mul_comm] at i)).2; omega
theorem bit_take {z n p:Int} (n0:0≤n) (p0:1≤p) (lo:n*n≤z) (hi:z<(n+2*p)*(n+2*p)) :
  ((n+p)*(n+p)≤z→0≤n+p∧(n+p)*(n+p)≤z∧z<(n+p+p)*(n+p+p))∧(¬ (n+p)*(n+p)≤z→0≤n∧n*n≤z∧z<(n+p)*(n+p)):=by
 rw [show n+p+p=n+2*p by omega]
 exact ⟨fun h=>⟨by omega,h,hi⟩,fun h=>⟨n0,lo,by omega⟩⟩
end Go.Proofs.YthnofhjgfhapiaaGreatDoor
namespace Go.Proofs.YthnofhjgfhapiaaGreatDoor
open Go.RowKit Go.Shelf Go.Joins
def sm (z:Nat→Int):Nat→Int
 | 0=>0
 | n+1=>sm z n+z n
def ag (z:Nat→Int):Nat→Bool
 | 0=>true
 | n+1=>ag z n && gd (z n)
def lt (z:Nat→Int):Nat→Int
 | 0=>z 0
 | n+1=>if z n<lt z n then z n else lt z n
theorem sm_same {y z:Nat→Int}:∀ {n:Nat},(∀ k,k<n→y k=z k)→sm y n=sm z n
 | 0,_=>rfl
 | n+1,h=>by rw [sm,sm,sm_same (fun k hk=>h k (by omega)),h n (by omega)]
theorem ag_same {y z:Nat→Int}:∀ {n:Nat},(∀ k,k<n→y k=z k)→ag y n=ag z n
 | 0,_=>rfl
 | n+1,h=>by rw [ag,ag,ag_same (fun k hk=>h k (by omega)),h n (by omega)]
theorem ag_yes {z:Nat→Int} {n:Nat} (h:ag z n=true) (g:gd (z n)=true):ag z (n+1)=true:=by rw [ag,h,g]; rfl
theorem ag_at {z:Nat→Int}:∀ {n k:Nat},ag z n=true→k<n→gd (z k)=true
 | 0,_,_,h=>absurd h (Nat.not_lt_zero _)
 | n+1,k,a,h=>by
  rw [ag,Bool.and_eq_true] at a
  by_cases c:k=n
  ·rw [c]; exact a.2
  ·exact ag_at a.1 (by omega)
theorem ag_not {z:Nat→Int} {n k:Nat} (h:k<n) (g:gd (z k)=false):ag z n=false:=by
 cases a:ag z n
 ·rfl
 ·have:=ag_at a h
  rw [g] at this
  cases this
theorem ag_of {z:Nat→Int}:∀ {n:Nat},(∀ k,k<n→gd (z k)=true)→ag z n=true
 | 0,_=>rfl
 | n+1,h=>ag_yes (ag_of fun k hk=>h k (by omega)) (h n (by omega))
theorem sm_range {z:Nat→Int}:∀ {n:Nat},ag z n=true→90528*(n:Int)≤sm z n∧sm z n≤430515*(n:Int)
 | 0,_=>⟨Int.le_refl _,Int.le_refl _⟩
 | n+1,a=>by
  have g:=gd_range (ag_at a (Nat.lt_succ_self n))
  rw [ag,Bool.and_eq_true] at a
  have:=sm_range a.1
  rw [sm]
  omega
def mv (z:Nat→Int) (n:Nat):Int:=if n=0 then 0 else if ag z n then sm z n / n else 0
def me (z:Nat→Int) (n:Nat):Int:=if n=0 then 4 else if ag z n then 0 else 2
theorem m_bad {z:Nat→Int} {n:Nat} (h:ag z n=false):mv z n=0∧me z n=2:=by
 have hn:n≠0:=by
  intro e
  subst e
  cases h
 rw [mv,me,if_neg hn,if_neg hn,h]
 exact ⟨rfl,rfl⟩
theorem m_ok {z:Nat→Int} {n:Nat} (hn:0<n) (h:ag z n=true):mv z n=sm z n / n∧me z n=0:=by
 have h0:n≠0:=by omega
 rw [mv,me,if_neg h0,if_neg h0,h]
 exact ⟨rfl,rfl⟩
theorem m_same {y z:Nat→Int} {n:Nat} (h:∀ k,k<n→y k=z k):mv y n=mv z n∧me y n=me z n:=by
 rw [mv,mv,me,me,ag_same h,sm_same h]
 exact ⟨rfl,rfl⟩
end Go.Proofs.YthnofhjgfhapiaaGreatDoor

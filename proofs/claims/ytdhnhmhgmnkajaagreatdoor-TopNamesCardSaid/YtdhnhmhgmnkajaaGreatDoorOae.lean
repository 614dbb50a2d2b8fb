import Derived.Test.YtdhnhmhgmnkajaaGreatDoorOac
import Derived.Test.YtdhnhmhgmnkajaaGreatDoorOad
import Derived.Test.YtdhnhmhgmnkajaaGreatDoorOaa
import Derived.Test.YtdhnhmhgmnkajaaGreatDoorOab
import Derived.Laws.Cover1
import Derived.ChangeKeysEq
import Derived.LoopN
import Derived.Test.YtdhnhmhgmnkajaaGreatDoorOag
import Derived.Test.YtdhnhmhgmnkajaaGreatDoorOaf
set_option maxHeartbeats 4000000
set_option maxRecDepth 10000
namespace Go.Proofs.YtdhnhmhgmnkajaaGreatDoor
open Go.RowKit Go.Shelf
theorem sum_fix (a b:Int) (ca:FitP a) (cb:FitP b) (w:World) :
  Calls Tryz.prog 144 #[.int .i64 a,.int .i64 b] w fun e w'=>e=.returned (.tuple #[.int .i64 (a+b),.int .i64 0])∧w=w':=by
 go_enter Tryz.func144,Tryz.ntmps144
 go_wp2
 go_ret2
 refine ⟨?_,rfl⟩
 simp
theorem difference_fix (a b:Int) (ca:FitP a) (cb:FitP b) (w:World) :
  Calls Tryz.prog 127 #[.int .i64 a,.int .i64 b] w fun e w'=>e=.returned (.tuple #[.int .i64 (a - b),.int .i64 0])∧w=w':=by
 go_enter Tryz.func127,Tryz.ntmps127
 go_wp2
 go_ret2
 refine ⟨?_,rfl⟩
 simp
def gz (a b x:Int):Int:=if FitP a∧FitP b then nz x else 0
def ge (a b x:Int):Int:=if FitP a∧FitP b then ne x else 1
theorem gz_of {a b:Int} (h:FitP a∧FitP b) (x:Int):gz a b x=nz x∧ge a b x=ne x:=⟨if_pos h,if_pos h⟩
theorem gz_no {a b:Int} (h:¬ (FitP a∧FitP b)) (x:Int):gz a b x=0∧ge a b x=1:=⟨if_neg h,if_neg h⟩
theorem add_fix (a b:Int) (a0:-9223372036854775808≤a) (a1:a≤9223372036854775807) (b0:-9223372036854775808≤b) (b1:b≤9223372036854775807) (w:World) :
  Calls Tryz.prog 110 #[.int .i64 a,.int .i64 b] w (RetV (.tuple #[.int .i64 (gz a b (a+b)),.int .i64 (ge a b (a+b))]) w):=by
 have cT:Calls Tryz.prog 126 #[.int .i64 a,.int .i64 b,.func (.func 144) #[] #[],.func (.func 128) #[] #[]] w (RetV (.tuple #[.int .i64 (gz a b (a+b)),.int .i64 (ge a b (a+b))]) w):=by
  by_cases c:FitP a∧FitP b
  ·rw [(gz_of c _).1,(gz_of c _).2]
   exact taken_sum a b a0 a1 b0 b1 c.1 c.2 (a+b) _ _ (sum_fix a b c.1 c.2) (fitting_any (a+b) (by omega) (by omega)) w
  ·rw [(gz_no c _).1,(gz_no c _).2]
   exact taken_bad a b a0 a1 b0 b1 c _ _ w
 go_enter Tryz.func110,Tryz.ntmps110
 go_wp2_with fail
 refine (cT).mono ?_
 rintro e w1 ⟨rfl,hb1⟩
 go_wp2
 go_ret2
 exact ⟨rfl,hb1⟩
theorem sub_fix (a b:Int) (a0:-9223372036854775808≤a) (a1:a≤9223372036854775807) (b0:-9223372036854775808≤b) (b1:b≤9223372036854775807) (w:World) :
  Calls Tryz.prog 95 #[.int .i64 a,.int .i64 b] w (RetV (.tuple #[.int .i64 (gz a b (a - b)),.int .i64 (ge a b (a - b))]) w):=by
 have cT:Calls Tryz.prog 126 #[.int .i64 a,.int .i64 b,.func (.func 127) #[] #[],.func (.func 128) #[] #[]] w (RetV (.tuple #[.int .i64 (gz a b (a - b)),.int .i64 (ge a b (a - b))]) w):=by
  by_cases c:FitP a∧FitP b
  ·rw [(gz_of c _).1,(gz_of c _).2]
   exact taken_difference a b a0 a1 b0 b1 c.1 c.2 (a - b) _ _ (difference_fix a b c.1 c.2) (fitting_any (a - b) (by omega) (by omega)) w
  ·rw [(gz_no c _).1,(gz_no c _).2]
   exact taken_bad a b a0 a1 b0 b1 c _ _ w
 go_enter Tryz.func95,Tryz.ntmps95
 go_wp2_with fail
 refine (cT).mono ?_
 rintro e w1 ⟨rfl,hb1⟩
 go_wp2
 go_ret2
 exact ⟨rfl,hb1⟩
theorem mul_bd {a b:Int} (ca:FitP a) (cb:FitP b):-83076749736557242056487941267521536≤a*b∧a*b≤83076749736557242056487941267521536:=by
 have h:a.natAbs*b.natAbs≤288230376151711744*288230376151711744:=Nat.mul_le_mul (by omega) (by omega)
 have e:(a*b).natAbs=a.natAbs*b.natAbs:=Int.natAbs_mul a b
 omega
theorem evn_near (A B:Int):evn A B=A / B∨evn A B=A / B+1:=by unfold evn near; split <;> simp
theorem evn_fits {a b:Int} (ca:FitP a) (cb:FitP b):Fits (evn (a*b) 1099511627776):=by
 have h:=mul_bd ca cb
 have:=evn_near (a*b) 1099511627776
 exact ⟨by omega,by omega⟩
theorem product_any (a b:Int) (a0:-9223372036854775808≤a) (a1:a≤9223372036854775807) (b0:-9223372036854775808≤b) (b1:b≤9223372036854775807) (_ca:FitP a) (_cb:FitP b) (w:World) :
  Calls Tryz.prog 167 #[.int .i64 a,.int .i64 b] w (RetWE (evn (a*b) 1099511627776) 0 w):=by
 go_enter Tryz.func167,Tryz.ntmps167
 go_wp2_with fail
 refine (mul_any a b a0 a1 b0 b1 _).mono ?_
 rintro e w1 ⟨h1,l1,rfl,x1,hb1⟩
 go_wp2_with fail
 refine (half_any _ _ _ 40 x1 (by decide) (by decide) _).mono ?_
 rintro e w2 ⟨h2,l2,rfl,x2,hb2⟩
 have r0:WC w1 w.heap.size 0 0:=wc_keep hb1 (by simp [WC,go_sem])
 have f0:WF w1 w.heap.size:=wf_keep hb1 (h:=0) (l:=0) (by simp [WC,go_sem]) (by simp [WF,go_sem])
 have r1:=wc_keep hb2 r0
 have f1:=wf_keep hb2 r0 f0
 have B1:Below w.heap.size w w2:=b_trans (b_trans (b_alloc (Below.refl _ _)) hb1) hb2
 clear hb1 hb2 x1 r0 f0
 go_wp2
 rw [show (2:Int) ^ (40:Int).toNat=1099511627776 by decide] at x2
 exact bodyPost_ret (v:=.tuple #[wv h2 l2,.int .i64 0]) (by simp [results,Tryz.results167,go_sem,r1]) rfl ⟨_,_,rfl,x2,b_set (b_set B1 (by simp)) (by simp)⟩
theorem mul_fix (a b:Int) (a0:-9223372036854775808≤a) (a1:a≤9223372036854775807) (b0:-9223372036854775808≤b) (b1:b≤9223372036854775807) (w:World) :
  Calls Tryz.prog 150 #[.int .i64 a,.int .i64 b] w (RetV (.tuple #[.int .i64 (gz a b (evn (a*b) 1099511627776)),.int .i64 (ge a b (evn (a*b) 1099511627776))]) w):=by
 have cT:Calls Tryz.prog 166 #[.int .i64 a,.int .i64 b,.func (.func 167) #[] #[],.func (.func 168) #[] #[]] w (RetV (.tuple #[.int .i64 (gz a b (evn (a*b) 1099511627776)),.int .i64 (ge a b (evn (a*b) 1099511627776))]) w):=by
  by_cases c:FitP a∧FitP b
  ·rw [(gz_of c _).1,(gz_of c _).2]
   have x:=IsW.mk' (evn_fits c.1 c.2)
   exact takew_product a b a0 a1 b0 b1 c.1 c.2 _ _ _ _ (fun w=>(product_any a b a0 a1 b0 b1 c.1 c.2 w).mono fun _ _ h=>retWE_det x h) (narrow_any _ _ _ x) w
  ·rw [(gz_no c _).1,(gz_no c _).2]
   exact takew_bad a b a0 a1 b0 b1 c _ _ w
 generalize evn (a*b) 1099511627776=z at *
 go_enter Tryz.func150,Tryz.ntmps150
 go_wp2_with fail
 refine (cT).mono ?_
 rintro e w1 ⟨rfl,hb1⟩
 go_wp2
 go_ret2
 exact ⟨rfl,hb1⟩
theorem one_bd {a:Int} (ca:FitP a):Fits (a*1099511627776)∧¬ (a*1099511627776=-170141183460469231731687303715884105728):=⟨⟨by omega,by omega⟩,by omega⟩
theorem quotient_any (a b:Int) (a0:-9223372036854775808≤a) (a1:a≤9223372036854775807) (b0:-9223372036854775808≤b) (b1:b≤9223372036854775807) (ca:FitP a) (b2:b≠0) (w:World) :
  Calls Tryz.prog 175 #[.int .i64 a,.int .i64 b] w (RetWE (ef (a*1099511627776) b) 0 w):=by
 have hf:=ef_fits (one_bd ca).1 b2 (fun h=>(one_bd ca).2 h.1)
 go_enter Tryz.func175,Tryz.ntmps175
 go_wp2_with fail
 refine (mul_any a 1099511627776 a0 a1 (by decide) (by decide) _).mono ?_
 rintro e w1 ⟨h1,l1,rfl,x1,hb1⟩
 go_wp2_with fail
 refine (even_any _ _ _ b x1 b2 b0 b1 _).mono ?_
 rintro e w2 ⟨h2,l2,rfl,x2,hb2⟩
 have r0:WC w1 w.heap.size 0 0:=wc_keep hb1 (by simp [WC,go_sem])
 have f0:WF w1 w.heap.size:=wf_keep hb1 (h:=0) (l:=0) (by simp [WC,go_sem]) (by simp [WF,go_sem])
 rw [fz_of hf] at x2
 rw [fe_of hf]
 have r1:=wc_keep hb2 r0
 have f1:=wf_keep hb2 r0 f0
 have B1:Below w.heap.size w w2:=b_trans (b_trans (b_alloc (Below.refl _ _)) hb1) hb2
 clear hb1 hb2 x1 r0 f0
 go_wp2
 exact bodyPost_ret (v:=.tuple #[wv h2 l2,.int .i64 0]) (by simp [results,Tryz.results175,go_sem,r1]) rfl ⟨_,_,rfl,x2,b_set (b_set B1 (by simp)) (by simp)⟩
theorem quotient_zero (a:Int) (a0:-9223372036854775808≤a) (a1:a≤9223372036854775807) (w:World) :
  Calls Tryz.prog 175 #[.int .i64 a,.int .i64 0] w (RetWE 0 4 w):=by
 go_enter Tryz.func175,Tryz.ntmps175
 go_wp2_with fail
 refine (mul_any a 1099511627776 a0 a1 (by decide) (by decide) _).mono ?_
 rintro e w1 ⟨h1,l1,rfl,x1,hb1⟩
 go_wp2_with fail
 refine (even_zero _ _ _).mono ?_
 rintro e w2 ⟨h2,l2,rfl,x2,hb2⟩
 have r0:WC w1 w.heap.size 0 0:=wc_keep hb1 (by simp [WC,go_sem])
 have f0:WF w1 w.heap.size:=wf_keep hb1 (h:=0) (l:=0) (by simp [WC,go_sem]) (by simp [WF,go_sem])
 have r1:=wc_keep hb2 r0
 have f1:=wf_keep hb2 r0 f0
 have B1:Below w.heap.size w w2:=b_trans (b_trans (b_alloc (Below.refl _ _)) hb1) hb2
 clear hb1 hb2 x1 r0 f0
 go_wp2
 exact bodyPost_ret (v:=.tuple #[wv h2 l2,.int .i64 4]) (by simp [results,Tryz.results175,go_sem,r1]) rfl ⟨_,_,rfl,x2,b_set (b_set B1 (by simp)) (by simp)⟩
def dz (a b:Int):Int:=if FitP a∧FitP b then (if b=0 then 0 else nz (ef (a*1099511627776) b)) else 0
def de (a b:Int):Int:=if FitP a∧FitP b then (if b=0 then 4 else ne (ef (a*1099511627776) b)) else 1
theorem dz_no {a b:Int} (h:¬ (FitP a∧FitP b)):dz a b=0∧de a b=1:=⟨if_neg h,if_neg h⟩
theorem dz_zero {a b:Int} (h:FitP a∧FitP b) (b0:b=0):dz a b=0∧de a b=4:=by unfold dz de; rw [if_pos h,if_pos h,if_pos b0,if_pos b0]; exact ⟨rfl,rfl⟩
theorem dz_of {a b:Int} (h:FitP a∧FitP b) (b0:b≠0):dz a b=nz (ef (a*1099511627776) b)∧de a b=ne (ef (a*1099511627776) b):=by unfold dz de; rw [if_pos h,if_pos h,if_neg b0,if_neg b0]; exact ⟨rfl,rfl⟩
theorem div_fix (a b:Int) (a0:-9223372036854775808≤a) (a1:a≤9223372036854775807) (b0:-9223372036854775808≤b) (b1:b≤9223372036854775807) (w:World) :
  Calls Tryz.prog 174 #[.int .i64 a,.int .i64 b] w (RetV (.tuple #[.int .i64 (dz a b),.int .i64 (de a b)]) w):=by
 have cT:Calls Tryz.prog 166 #[.int .i64 a,.int .i64 b,.func (.func 175) #[] #[],.func (.func 168) #[] #[]] w (RetV (.tuple #[.int .i64 (dz a b),.int .i64 (de a b)]) w):=by
  by_cases c:FitP a∧FitP b
  ·by_cases d:b=0
   ·rw [(dz_zero c d).1,(dz_zero c d).2]
    subst d
    exact takew_quotient_err a 0 a0 a1 b0 b1 c.1 c.2 _ 0 0 4 (by decide) (fun w=>(quotient_zero a a0 a1 w).mono fun _ _ h=>retWE_det isW_zero h) w
   ·rw [(dz_of c d).1,(dz_of c d).2]
    have x:=IsW.mk' (ef_fits (one_bd c.1).1 d (fun h=>(one_bd c.1).2 h.1))
    exact takew_quotient a b a0 a1 b0 b1 c.1 c.2 _ _ _ _ (fun w=>(quotient_any a b a0 a1 b0 b1 c.1 d w).mono fun _ _ h=>retWE_det x h) (narrow_any _ _ _ x) w
  ·rw [(dz_no c).1,(dz_no c).2]
   exact takew_bad a b a0 a1 b0 b1 c _ _ w
 generalize dz a b=z at *
 generalize de a b=z' at *
 go_enter Tryz.func174,Tryz.ntmps174
 go_wp2_with fail
 refine (cT).mono ?_
 rintro e w1 ⟨rfl,hb1⟩
 go_wp2
 go_ret2
 exact ⟨rfl,hb1⟩
def clz (x m:Int):Int:=if m<0 then 0 else if x < -m then -m else if m<x then m else x
theorem clamp_fix (x m:Int) (_x0:-9223372036854775808≤x) (_x1:x≤9223372036854775807) (m0:-9223372036854775808≤m) (m1:m≤9223372036854775807) (w:World) :
  Calls Tryz.prog 134 #[.int .i64 x,.int .i64 m] w fun e w'=>e=.returned (.int .i64 (clz x m))∧w=w':=by
 by_cases c:m<0
 ·have E:=Lib.hid (show clz x m=0 from if_pos c)
  go_enter Tryz.func134,Tryz.ntmps134
  go_wp2
  go_ret
  exact ⟨by rw [E.out]; rfl,rfl⟩
 ·have n1:wrap64 (-m)=-m:=by unfold wrap64; omega
  by_cases d:x < -m
  ·have E:=Lib.hid (show clz x m=-m by unfold clz; rw [if_neg c,if_pos d])
   have d2:¬ m<x:=by omega
   go_enter Tryz.func134,Tryz.ntmps134
   go_wp2_with (simp only [n1])
   go_ret
   exact ⟨by rw [E.out]; simp,rfl⟩
  ·by_cases d2:m<x
   ·have E:=Lib.hid (show clz x m=m by unfold clz; rw [if_neg c,if_neg d,if_pos d2])
    go_enter Tryz.func134,Tryz.ntmps134
    go_wp2_with (simp only [n1])
    go_ret
    exact ⟨by rw [E.out]; rfl,rfl⟩
   ·have E:=Lib.hid (show clz x m=x by unfold clz; rw [if_neg c,if_neg d,if_neg d2])
    go_enter Tryz.func134,Tryz.ntmps134
    go_wp2_with (simp only [n1])
    go_ret
    exact ⟨by rw [E.out]; rfl,rfl⟩
theorem out_bd {x:Int} (x0:-9223372036854775808≤x) (x1:x≤9223372036854775807):-9223372036854775808≤evn x 16777216∧evn x 16777216≤9223372036854775807:=by
 have:=evn_near x 16777216
 omega
theorem out_fix (x:Int) (x0:-9223372036854775808≤x) (x1:x≤9223372036854775807) (w:World) :
  Calls Tryz.prog 78 #[.int .i64 x] w (RetV (.int .i64 (evn x 16777216)) w):=by
 have E:=Lib.hid (iz_of (out_bd x0 x1))
 go_enter Tryz.func78,Tryz.ntmps78
 go_wp2_with fail
 refine (of_any x x0 x1 _).mono ?_
 rintro e w1 ⟨h1,l1,rfl,y1,hb1⟩
 go_wp2_with fail
 refine (half_any _ _ _ 24 y1 (by decide) (by decide) _).mono ?_
 rintro e w2 ⟨h2,l2,rfl,y2,hb2⟩
 rw [show (2:Int) ^ (24:Int).toNat=16777216 by decide] at y2
 go_wp2_with fail
 refine (int_any _ _ _ y2 _).mono ?_
 rintro e w3 ⟨rfl,hb3⟩
 rw [E.out.1,E.out.2]
 have B:=b_trans (b_alloc (b_trans hb1 hb2)) hb3
 clear hb1 hb2 hb3
 generalize evn x 16777216=z at *
 go_wp2
 go_ret
 exact ⟨rfl,B⟩
end Go.Proofs.YtdhnhmhgmnkajaaGreatDoor
namespace Go.Proofs.YtdhnhmhgmnkajaaGreatDoor
open Go.RowKit Go.Shelf
abbrev I64 (x:Int):Prop:=-9223372036854775808≤x∧x≤9223372036854775807
abbrev tv (x y z:Int):Value:=.agg #[.int .i64 x,.int .i64 y,.int .i64 z]
abbrev TC (w:World) (b:Nat) (x y z:Int):Prop:=w.cell? ⟨b,0,none⟩=some (.int .i64 x)∧w.cell? ⟨b,1,none⟩=some (.int .i64 y)∧w.cell? ⟨b,2,none⟩=some (.int .i64 z)
abbrev TF (w:World) (b:Nat):Prop:=w.frozen? ⟨b,0,none⟩=false∧w.frozen? ⟨b,1,none⟩=false∧w.frozen? ⟨b,2,none⟩=false
theorem tc_keep {w w':World} (hb:Below w.heap.size w w') {b:Nat} {x y z:Int} (c:TC w b x y z):TC w' b x y z:=⟨cell_keep hb c.1,cell_keep hb c.2.1,cell_keep hb c.2.2⟩
theorem tc_alloc {w:World} {o:Obj} {b:Nat} {x y z:Int} (c:TC w b x y z):TC (w.alloc o) b x y z:=tc_keep (b_alloc (Below.refl _ _)) c
theorem tc_lt {w:World} {b:Nat} {x y z:Int} (c:TC w b x y z):b<w.heap.size:=World.block_lt_of_cell? w _ c.1
theorem tf_keep {w w':World} (hb:Below w.heap.size w w') {b:Nat} {x y z:Int} (c:TC w b x y z) (f:TF w b):TF w' b:=by
 have h1:=World.block_lt_of_cell? w _ c.1
 have h2:=World.block_lt_of_cell? w _ c.2.1
 have h3:=World.block_lt_of_cell? w _ c.2.2
 exact ⟨by rw [hb.frozen h1]; exact f.1,by rw [hb.frozen h2]; exact f.2.1,by rw [hb.frozen h3]; exact f.2.2⟩
theorem tc_set {w:World} {b b1 o:Nat} {x y z:Int} {v:Value} (c:TC w b x y z) (hb:b1≠b):TC (w.setCell ⟨b1,o,none⟩ v) b x y z :=
 ⟨by rw [World.cell?_setCell_far _ _ _ _ hb]; exact c.1,by rw [World.cell?_setCell_far _ _ _ _ hb]; exact c.2.1,by rw [World.cell?_setCell_far _ _ _ _ hb]; exact c.2.2⟩
theorem tf_set {w:World} {b b1 o:Nat} {v:Value} (c:TF w b):TF (w.setCell ⟨b1,o,none⟩ v) b :=
 ⟨by rw [World.frozen?_setCell]; exact c.1,by rw [World.frozen?_setCell]; exact c.2.1,by rw [World.frozen?_setCell]; exact c.2.2⟩
theorem tc_new {w:World} {b:Nat} {x y z:Int} {t:TypeId} (hn:b=w.heap.size):TC (w.alloc (Obj.cells #[.int .i64 x,.int .i64 y,.int .i64 z] t)) b x y z:=by subst hn; simp [TC,go_sem]
theorem tf_new {w:World} {b:Nat} {x y z:Int} {t:TypeId} (hn:b=w.heap.size):TF (w.alloc (Obj.cells #[.int .i64 x,.int .i64 y,.int .i64 z] t)) b:=by subst hn; simp [TF,go_sem]
theorem vec_eq (x y z x' y' z':Int) (w:World):(Op.equalIn 10000 23 (tv x y z) (tv x' y' z')).run Tryz.prog w=.ok (x == x' && (y == y' && z == z')) w:=by
 have hs:(Tryz.prog.info? 2).isSome=true:=by kernel_rfl
 obtain ⟨i,hi⟩:=Option.isSome_iff_exists.1 hs
 have hc:Tryz.prog.cellsOf 2=1:=by kernel_rfl
 have hp:Tryz.prog.plainKey 2=true:=by kernel_rfl
 rw [run_equalIn_array w 9999 _ _ Tryz.underlying23 hi]
 rw [hc]
 have P:=fun (a b c:Int) (w:World)=>And.intro (run_part_plain w hp (xs:=#[Value.int IntKind.i64 a,Value.int IntKind.i64 b,Value.int IntKind.i64 c]) (off:=0*1) rfl) (And.intro (run_part_plain w hp (xs:=#[Value.int IntKind.i64 a,Value.int IntKind.i64 b,Value.int IntKind.i64 c]) (off:=1*1) rfl) (run_part_plain w hp (xs:=#[Value.int IntKind.i64 a,Value.int IntKind.i64 b,Value.int IntKind.i64 c]) (off:=2*1) rfl))
 have E:=fun (a b:Int) (w:World)=>run_equalIn_int w 9998 2 .i64 .i64 a b Tryz.underlying2
 simp only [List.range,List.range.loop,Op.eqItems,Sem.run_bind,(P _ _ _ _).1,Result.andThen_ok]
 by_cases a:x=x' <;> by_cases b:y=y' <;> by_cases c:z=z' <;> simp [a,b,c,(P _ _ _ _).2.1,(P _ _ _ _).2.2,E]
def f3b (x y z:Int):Bool:=fitb x && (fitb y && fitb z)
abbrev F3 (x y z:Int):Prop:=FitP x∧FitP y∧FitP z
theorem f3b_yes {x y z:Int} (h:F3 x y z):f3b x y z=true:=by unfold f3b; rw [fitb_yes h.1,fitb_yes h.2.1,fitb_yes h.2.2]; rfl
theorem f3b_no {x y z:Int} (h:¬ F3 x y z):f3b x y z=false:=by
 unfold f3b
 by_cases a:FitP x
 ·by_cases b:FitP y
  ·rw [fitb_no (x:=z) (fun c=>h ⟨a,b,c⟩)]; simp
  ·rw [fitb_no b]; simp
 ·rw [fitb_no a]; simp
end Go.Proofs.YtdhnhmhgmnkajaaGreatDoor
namespace Go.Proofs.YtdhnhmhgmnkajaaGreatDoor
open Go.RowKit Go.Shelf
abbrev sv (m:Nat→Int):Value:=.agg #[.int .i64 (m 0),.int .i64 (m 1),.int .i64 (m 2),.int .i64 (m 3),.int .i64 (m 4),.int .i64 (m 5)]
abbrev SC (w:World) (b:Nat) (m:Nat→Int):Prop:=∀ i,i<6→w.cell? ⟨b,i,none⟩=some (.int .i64 (m i))
abbrev SF (w:World) (b:Nat):Prop:=∀ i,i<6→w.frozen? ⟨b,i,none⟩=false
theorem sc_keep {w w':World} (hb:Below w.heap.size w w') {b:Nat} {m:Nat→Int} (c:SC w b m):SC w' b m:=fun i hi=>cell_keep hb (c i hi)
theorem sc_alloc {w:World} {o:Obj} {b:Nat} {m:Nat→Int} (c:SC w b m):SC (w.alloc o) b m:=sc_keep (b_alloc (Below.refl _ _)) c
theorem sc_lt {w:World} {b:Nat} {m:Nat→Int} (c:SC w b m):b<w.heap.size:=World.block_lt_of_cell? w _ (c 0 (by decide))
theorem sf_keep {w w':World} (hb:Below w.heap.size w w') {b:Nat} {m:Nat→Int} (c:SC w b m) (f:SF w b):SF w' b:=fun i hi=>by rw [hb.frozen (p:=⟨b,i,none⟩) (sc_lt c)]; exact f i hi
theorem sc_set {w:World} {b b1 o:Nat} {m:Nat→Int} {v:Value} (c:SC w b m) (hb:b1≠b):SC (w.setCell ⟨b1,o,none⟩ v) b m:=fun i hi=>by rw [World.cell?_setCell_far _ _ _ _ hb]; exact c i hi
theorem sf_set {w:World} {b b1 o:Nat} {v:Value} (c:SF w b):SF (w.setCell ⟨b1,o,none⟩ v) b:=fun i hi=>by rw [World.frozen?_setCell]; exact c i hi
abbrev SC6 (w:World) (b:Nat) (m:Nat→Int):Prop:=w.cell? ⟨b,0,none⟩=some (.int .i64 (m 0))∧w.cell? ⟨b,1,none⟩=some (.int .i64 (m 1))∧w.cell? ⟨b,2,none⟩=some (.int .i64 (m 2))∧w.cell? ⟨b,3,none⟩=some (.int .i64 (m 3))∧w.cell? ⟨b,4,none⟩=some (.int .i64 (m 4))∧w.cell? ⟨b,5,none⟩=some (.int .i64 (m 5))
theorem sc_six {w:World} {b:Nat} {m:Nat→Int} (c:SC w b m):SC6 w b m:=⟨c 0 (by decide),c 1 (by decide),c 2 (by decide),c 3 (by decide),c 4 (by decide),c 5 (by decide)⟩
abbrev SF6 (w:World) (b:Nat):Prop:=w.frozen? ⟨b,0,none⟩=false∧w.frozen? ⟨b,1,none⟩=false∧w.frozen? ⟨b,2,none⟩=false∧w.frozen? ⟨b,3,none⟩=false∧w.frozen? ⟨b,4,none⟩=false∧w.frozen? ⟨b,5,none⟩=false
theorem sf_six {w:World} {b:Nat} (c:SF w b):SF6 w b:=⟨c 0 (by decide),c 1 (by decide),c 2 (by decide),c 3 (by decide),c 4 (by decide),c 5 (by decide)⟩
theorem six_sc {w:World} {b:Nat} {m:Nat→Int} (c:SC6 w b m):SC w b m:=fun i hi=>by
 obtain ⟨c0,c1,c2,c3,c4,c5⟩:=c
 match i,hi with
 | 0,_=>exact c0
 | 1,_=>exact c1
 | 2,_=>exact c2
 | 3,_=>exact c3
 | 4,_=>exact c4
 | 5,_=>exact c5
theorem sc_new {w:World} {b:Nat} {m:Nat→Int} {t:TypeId} (hn:b=w.heap.size):SC (w.alloc (Obj.cells #[.int .i64 (m 0),.int .i64 (m 1),.int .i64 (m 2),.int .i64 (m 3),.int .i64 (m 4),.int .i64 (m 5)] t)) b m:=by subst hn; exact six_sc (by simp [SC6,go_sem])
theorem sf_new {w:World} {b:Nat} {c0 c1 c2 c3 c4 c5:Value} {t:TypeId} (hn:b=w.heap.size):SF (w.alloc (Obj.cells #[c0,c1,c2,c3,c4,c5] t)) b:=by
 subst hn
 intro i hi
 match i,hi with
 | 0,_=>simp [go_sem]
 | 1,_=>simp [go_sem]
 | 2,_=>simp [go_sem]
 | 3,_=>simp [go_sem]
 | 4,_=>simp [go_sem]
 | 5,_=>simp [go_sem]
abbrev I6 (m:Nat→Int):Prop:=∀ i,i<6→I64 (m i)
abbrev F6 (m:Nat→Int):Prop:=∀ i,i<6→FitP (m i)
def f6b (m:Nat→Int):Bool:=decide (F6 m)
theorem f6b_yes {m:Nat→Int} (h:F6 m):f6b m=true:=decide_eq_true h
theorem f6b_no {m:Nat→Int} (h:¬ F6 m):f6b m=false:=decide_eq_false h
theorem six {P:Nat→Prop} (h0:P 0) (h1:P 1) (h2:P 2) (h3:P 3) (h4:P 4) (h5:P 5):∀ i,i<6→P i:=fun i hi =>
 match i,hi with
 | 0,_=>h0
 | 1,_=>h1
 | 2,_=>h2
 | 3,_=>h3
 | 4,_=>h4
 | 5,_=>h5
theorem less_succ {P:Nat→Prop} {k:Nat} (h:∀ i,i<k→P i) (hk:P k):∀ i,i<k+1→P i:=fun i hi=>if e:i=k then e ▸ hk else h i (by omega)
theorem ix_sym (m:Nat→Int):(∀ w,(Instr.index 45 (sv m) (.int .i64 0)).run Tryz.prog w=.ok (.int .i64 (m 0)) w)∧(∀ w,(Instr.index 45 (sv m) (.int .i64 1)).run Tryz.prog w=.ok (.int .i64 (m 1)) w)∧(∀ w,(Instr.index 45 (sv m) (.int .i64 2)).run Tryz.prog w=.ok (.int .i64 (m 2)) w)∧(∀ w,(Instr.index 45 (sv m) (.int .i64 3)).run Tryz.prog w=.ok (.int .i64 (m 3)) w)∧(∀ w,(Instr.index 45 (sv m) (.int .i64 4)).run Tryz.prog w=.ok (.int .i64 (m 4)) w)∧(∀ w,(Instr.index 45 (sv m) (.int .i64 5)).run Tryz.prog w=.ok (.int .i64 (m 5)) w) :=
 ⟨fun _=>by kernel_rfl,fun _=>by kernel_rfl,fun _=>by kernel_rfl,fun _=>by kernel_rfl,fun _=>by kernel_rfl,fun _=>by kernel_rfl⟩
theorem ix_vec (x y z:Int):(∀ w,(Instr.index 23 (tv x y z) (.int .i64 0)).run Tryz.prog w=.ok (.int .i64 x) w)∧(∀ w,(Instr.index 23 (tv x y z) (.int .i64 1)).run Tryz.prog w=.ok (.int .i64 y) w)∧(∀ w,(Instr.index 23 (tv x y z) (.int .i64 2)).run Tryz.prog w=.ok (.int .i64 z) w) :=
 ⟨fun _=>by kernel_rfl,fun _=>by kernel_rfl,fun _=>by kernel_rfl⟩
theorem seven {k:Nat} (h:k≤6):k=6∨k=0∨k=1∨k=2∨k=3∨k=4∨k=5:=by omega
theorem fits_sym (m:Nat→Int) (hm:I6 m) (w:World) :
  Calls Tryz.prog 138 #[sv m] w (RetV (.bool (f6b m)) w):=by
 have B:=b_alloc (o:=Obj.cells #[.int .i64 (m 0),.int .i64 (m 1),.int .i64 (m 2),.int .i64 (m 3),.int .i64 (m 4),.int .i64 (m 5)] 45) (Below.refl w.heap.size w)
 obtain ⟨x0,x1,x2,x3,x4,x5⟩:=ix_sym m
 go_enter Tryz.func138,Tryz.ntmps138
 go_wp2
 go_loop [6] (fun iv=>∃ k:Nat,k≤6∧iv=.int .i64 k∧Hid (∀ i,i<k→FitP (m i))) (fun iv=>6 - (intOf iv).toNat)
 case atStart=>exact ⟨0,by decide,rfl,Lib.hid (fun i hi=>absurd hi (by omega))⟩
 case round =>
  obtain ⟨k,hk,rfl,hf⟩:=hrel
  by_cases c:k<6∧¬ FitP (m k)
  ·have E:=Lib.hid (f6b_no (fun h=>c.2 (h k c.1)))
   have ex:=Lib.hid (fitb_no c.2)
   have hx:=Lib.hid (hm k c.1)
   obtain ⟨c,_⟩:=c
   rcases seven hk with rfl | rfl | rfl | rfl | rfl | rfl | rfl
   ·exact absurd c (by decide)
   all_goals
    go_wp2_with fail
    refine (fits_any _ hx.out.1 hx.out.2 _).mono ?_
    rintro e w9 ⟨rfl,rfl⟩
    rw [ex.out]
    go_wp2
    go_ret
    exact ⟨by rw [E.out]; rfl,B⟩
  ·by_cases d:k=6
   ·subst d
    have E:=Lib.hid (f6b_yes hf.out)
    go_wp2
    go_ret
    exact ⟨by rw [E.out]; rfl,B⟩
   ·have fk:FitP (m k):=Classical.byContradiction (fun h=>c ⟨by omega,h⟩)
    have hf':=Lib.hid (less_succ hf.out fk)
    have hx:=Lib.hid (hm k (by omega))
    have ex:=Lib.hid (fitb_yes fk)
    clear c fk
    rcases seven hk with rfl | rfl | rfl | rfl | rfl | rfl | rfl
    ·exact absurd rfl d
    all_goals
     go_wp2_with fail
     refine (fits_any _ hx.out.1 hx.out.2 _).mono ?_
     rintro e w9 ⟨rfl,rfl⟩
     rw [ex.out]
     go_wp2
     go_round
     case rel=>exact ⟨_,by decide,rfl,hf'⟩
     case measure=>simp [intOf]
end Go.Proofs.YtdhnhmhgmnkajaaGreatDoor
namespace Go.Proofs.YtdhnhmhgmnkajaaGreatDoor
open Go.RowKit Go.Shelf
abbrev PL (w:World):Prop:=w.cell? ⟨0,0,none⟩=some (.int .i64 0)∧w.cell? ⟨0,1,none⟩=some (.int .i64 1)∧w.cell? ⟨0,2,none⟩=some (.int .i64 2)∧w.cell? ⟨0,3,none⟩=some (.int .i64 1)∧w.cell? ⟨0,4,none⟩=some (.int .i64 3)∧w.cell? ⟨0,5,none⟩=some (.int .i64 4)∧w.cell? ⟨0,6,none⟩=some (.int .i64 2)∧w.cell? ⟨0,7,none⟩=some (.int .i64 4)∧w.cell? ⟨0,8,none⟩=some (.int .i64 5)
theorem pl_keep {w w':World} (hb:Below w.heap.size w w') (h:PL w):PL w':=by
 obtain ⟨a0,a1,a2,a3,a4,a5,a6,a7,a8⟩:=h
 exact ⟨cell_keep hb a0,cell_keep hb a1,cell_keep hb a2,cell_keep hb a3,cell_keep hb a4,cell_keep hb a5,cell_keep hb a6,cell_keep hb a7,cell_keep hb a8⟩
theorem pl_lt {w:World} (h:PL w):0<w.heap.size:=World.block_lt_of_cell? w _ h.1
abbrev At9 (i j:Int) (k:Nat):Prop:=(i=0∧j=0∧k=0)∨(i=0∧j=1∧k=1)∨(i=0∧j=2∧k=2)∨(i=1∧j=0∧k=1)∨(i=1∧j=1∧k=3)∨(i=1∧j=2∧k=4)∨(i=2∧j=0∧k=2)∨(i=2∧j=1∧k=4)∨(i=2∧j=2∧k=5)
abbrev Inb (i:Int):Prop:=0≤i∧i<3
theorem within_yes (i:Int) (h:Inb i) (w:World):Calls Tryz.prog 143 #[.int .i64 i] w (RetV (.bool true) w):=by
 obtain ⟨h0,h1⟩:=h
 go_enter Tryz.func143,Tryz.ntmps143
 go_wp2
 go_ret
 exact ⟨rfl,Below.refl _ _⟩
theorem at_ok (m:Nat→Int) (i j:Int) (k:Nat) (h:At9 i j k) (w:World) (hp:PL w) :
  Calls Tryz.prog 109 #[sv m,.int .i64 i,.int .i64 j] w (RetV (.tuple #[.int .i64 (m k),.int .i64 0]) w):=by
 have B:=b_alloc (o:=Obj.cells #[.int .i64 (m 0),.int .i64 (m 1),.int .i64 (m 2),.int .i64 (m 3),.int .i64 (m 4),.int .i64 (m 5)] 45) (Below.refl w.heap.size w)
 have S:=sc_six (sc_new (w:=w) (m:=m) (t:=45) rfl)
 have P:=pl_keep B hp
 rcases h with ⟨rfl,rfl,rfl⟩ | ⟨rfl,rfl,rfl⟩ | ⟨rfl,rfl,rfl⟩ | ⟨rfl,rfl,rfl⟩ | ⟨rfl,rfl,rfl⟩ | ⟨rfl,rfl,rfl⟩ | ⟨rfl,rfl,rfl⟩ | ⟨rfl,rfl,rfl⟩ | ⟨rfl,rfl,rfl⟩
 all_goals
  go_enter Tryz.func109,Tryz.ntmps109
  go_wp2_with fail
  refine (within_yes _ (by decide) _).mono ?_
  rintro e w1 ⟨rfl,hb1⟩
  replace S:=sc_six (sc_keep hb1 (six_sc S))
  replace P:=pl_keep hb1 P
  replace B:=b_trans B hb1
  clear hb1
  go_wp2_with fail
  refine (within_yes _ (by decide) _).mono ?_
  rintro e w1 ⟨rfl,hb1⟩
  replace S:=sc_six (sc_keep hb1 (six_sc S))
  replace P:=pl_keep hb1 P
  replace B:=b_trans B hb1
  clear hb1
  go_wp2
  go_ret2
  exact ⟨rfl,B⟩
def umk (m:Nat→Int) (k:Nat) (x:Int):Nat→Int:=fun i=>if i=k then x else m i
theorem put_ok (m:Nat→Int) (i j x:Int) (k:Nat) (h:At9 i j k) (w:World) (hp:PL w) :
  Calls Tryz.prog 121 #[sv m,.int .i64 i,.int .i64 j,.int .i64 x] w (RetV (.tuple #[sv (umk m k x),.int .i64 0]) w):=by
 have B:=b_alloc (o:=Obj.cells #[.int .i64 0,.int .i64 0,.int .i64 0,.int .i64 0,.int .i64 0,.int .i64 0] 45) (b_alloc (o:=Obj.cells #[.int .i64 (m 0),.int .i64 (m 1),.int .i64 (m 2),.int .i64 (m 3),.int .i64 (m 4),.int .i64 (m 5)] 45) (Below.refl w.heap.size w))
 have S:=sc_alloc (o:=Obj.cells #[.int .i64 0,.int .i64 0,.int .i64 0,.int .i64 0,.int .i64 0,.int .i64 0] 45) (sc_new (w:=w) (m:=m) (t:=45) rfl)
 have SW:=sf_keep (b_alloc (o:=Obj.cells #[.int .i64 0,.int .i64 0,.int .i64 0,.int .i64 0,.int .i64 0,.int .i64 0] 45) (Below.refl _ _)) (sc_new (w:=w) (m:=m) (t:=45) rfl) (sf_new rfl)
 have R:=sc_new (w:=w.alloc (Obj.cells #[.int .i64 (m 0),.int .i64 (m 1),.int .i64 (m 2),.int .i64 (m 3),.int .i64 (m 4),.int .i64 (m 5)] 45)) (m:=fun _=>0) (t:=45) rfl
 have RW:=sf_new (w:=w.alloc (Obj.cells #[.int .i64 (m 0),.int .i64 (m 1),.int .i64 (m 2),.int .i64 (m 3),.int .i64 (m 4),.int .i64 (m 5)] 45)) (c0:=.int .i64 0) (c1:=.int .i64 0) (c2:=.int .i64 0) (c3:=.int .i64 0) (c4:=.int .i64 0) (c5:=.int .i64 0) (t:=45) rfl
 have P:=pl_keep B hp
 have z:=pl_lt hp
 rw [World.size_alloc] at R RW
 clear hp
 rcases h with ⟨rfl,rfl,rfl⟩ | ⟨rfl,rfl,rfl⟩ | ⟨rfl,rfl,rfl⟩ | ⟨rfl,rfl,rfl⟩ | ⟨rfl,rfl,rfl⟩ | ⟨rfl,rfl,rfl⟩ | ⟨rfl,rfl,rfl⟩ | ⟨rfl,rfl,rfl⟩ | ⟨rfl,rfl,rfl⟩
 all_goals
  go_enter Tryz.func121,Tryz.ntmps121
  go_wp2_with fail
  refine (within_yes _ (by decide) _).mono ?_
  rintro e w1 ⟨rfl,hb1⟩
  replace SW:=sf_keep hb1 S SW
  replace S:=sc_keep hb1 S
  replace RW:=sf_keep hb1 R RW
  replace R:=sc_keep hb1 R
  replace P:=pl_keep hb1 P
  replace B:=b_trans B hb1
  clear hb1
  go_wp2_with fail
  refine (within_yes _ (by decide) _).mono ?_
  rintro e w1 ⟨rfl,hb1⟩
  replace SW:=sf_six (sf_keep hb1 S SW)
  replace S:=sc_six (sc_keep hb1 S)
  replace RW:=sf_six (sf_keep hb1 R RW)
  replace R:=sc_six (sc_keep hb1 R)
  replace P:=pl_keep hb1 P
  replace B:=b_trans B hb1
  clear hb1
  go_wp2
  obtain ⟨r0,r1,r2,r3,r4,r5⟩:=R
  refine bodyPost_ret (v:=.tuple #[sv _,.int .i64 0]) (by simp [results,Tryz.results121,go_sem,r0,r1,r2,r3,r4,r5]; exact ⟨rfl,rfl,rfl,rfl,rfl,rfl⟩) rfl ⟨rfl,?_⟩
  repeat (refine b_set ?_ (by simp))
  exact B
abbrev Row3 (i:Int) (k0 k1 k2:Nat):Prop:=(i=0∧k0=0∧k1=1∧k2=2)∨(i=1∧k0=1∧k1=3∧k2=4)∨(i=2∧k0=2∧k1=4∧k2=5)
theorem ix_ints (x y z:Int):(∀ w,(Instr.index 92 (tv x y z) (.int .i64 0)).run Tryz.prog w=.ok (.int .i64 x) w)∧(∀ w,(Instr.index 92 (tv x y z) (.int .i64 1)).run Tryz.prog w=.ok (.int .i64 y) w)∧(∀ w,(Instr.index 92 (tv x y z) (.int .i64 2)).run Tryz.prog w=.ok (.int .i64 z) w) :=
 ⟨fun _=>by kernel_rfl,fun _=>by kernel_rfl,fun _=>by kernel_rfl⟩
theorem row_ok (m:Nat→Int) (i:Int) (k0 k1 k2:Nat) (h:Row3 i k0 k1 k2) (w:World) (hp:PL w) :
  Calls Tryz.prog 169 #[sv m,.int .i64 i] w (RetV (.tuple #[tv (m k0) (m k1) (m k2),.int .i64 0]) w):=by
 have B:=b_alloc (o:=Obj.cells #[.int .i64 0,.int .i64 0,.int .i64 0] 23) (b_alloc (o:=Obj.cells #[.int .i64 (m 0),.int .i64 (m 1),.int .i64 (m 2),.int .i64 (m 3),.int .i64 (m 4),.int .i64 (m 5)] 45) (Below.refl w.heap.size w))
 have S:=sc_alloc (o:=Obj.cells #[.int .i64 0,.int .i64 0,.int .i64 0] 23) (sc_new (w:=w) (m:=m) (t:=45) rfl)
 have R:=tc_new (w:=w.alloc (Obj.cells #[.int .i64 (m 0),.int .i64 (m 1),.int .i64 (m 2),.int .i64 (m 3),.int .i64 (m 4),.int .i64 (m 5)] 45)) (x:=0) (y:=0) (z:=0) (t:=23) rfl
 have RW:=tf_new (w:=w.alloc (Obj.cells #[.int .i64 (m 0),.int .i64 (m 1),.int .i64 (m 2),.int .i64 (m 3),.int .i64 (m 4),.int .i64 (m 5)] 45)) (x:=0) (y:=0) (z:=0) (t:=23) rfl
 have P:=pl_keep B hp
 have z:=pl_lt hp
 rw [World.size_alloc] at R RW
 clear hp
 rcases h with ⟨rfl,rfl,rfl,rfl⟩ | ⟨rfl,rfl,rfl,rfl⟩ | ⟨rfl,rfl,rfl,rfl⟩
 all_goals
  obtain ⟨x0,x1,x2⟩:=ix_ints 0 1 2
  obtain ⟨y0,y1,y2⟩:=ix_ints 1 3 4
  obtain ⟨u0,u1,u2⟩:=ix_ints 2 4 5
  go_enter Tryz.func169,Tryz.ntmps169
  go_wp2_with fail
  refine (within_yes _ (by decide) _).mono ?_
  rintro e w1 ⟨rfl,hb1⟩
  replace RW:=tf_keep hb1 R RW
  replace R:=tc_keep hb1 R
  replace S:=sc_six (sc_keep hb1 S)
  replace P:=pl_keep hb1 P
  replace B:=b_trans B hb1
  clear hb1
  have z1:=pl_lt P
  have z2:=sc_lt (six_sc S)
  have z3:=tc_lt R
  go_wp2
  refine wp_loop_rounds 4 ?_
  repeat (rw [rounds_succ]; go_wp2)
  obtain ⟨q0,q1,q2⟩:=R
  refine bodyPost_ret (v:=.tuple #[tv _ _ _,.int .i64 0]) (by simp [results,Tryz.results169,go_sem,q0,q1,q2,z3]) rfl ⟨rfl,?_⟩
  repeat (first | refine b_alloc ?_ | refine b_set ?_ (by simp))
  exact B
def dgm (x y z:Int):Nat→Int:=fun i=>if i=0 then x else if i=3 then y else if i=5 then z else 0
theorem diag_any (x y z:Int) (w:World) (hp:PL w) :
  Calls Tryz.prog 15 #[tv x y z] w (RetV (sv (dgm x y z)) w):=by
 have h0:=pl_lt hp
 have h1:0<w.heap.size:=by omega
 obtain ⟨x0,x1,x2⟩:=ix_vec x y z
 go_enter Tryz.func15,Tryz.ntmps15
 go_wp2
 refine wp_loop_rounds 4 ?_
 repeat (rw [rounds_succ]; go_wp2)
 exact bodyPost_ret (v:=sv (dgm x y z)) (by simp [results,Tryz.results15,go_sem,dgm]) rfl ⟨rfl,b_alloc (b_alloc (b_alloc (Below.refl _ _)))⟩
theorem main_any (m:Nat→Int) (w:World) (hp:PL w) :
  Calls Tryz.prog 140 #[sv m] w (RetV (tv (m 0) (m 3) (m 5)) w):=by
 have h0:=pl_lt hp
 have h1:0<w.heap.size:=by omega
 go_enter Tryz.func140,Tryz.ntmps140
 go_wp2
 refine wp_loop_rounds 4 ?_
 repeat (rw [rounds_succ]; go_wp2)
 exact bodyPost_ret (v:=tv (m 0) (m 3) (m 5)) (by simp [results,Tryz.results140,go_sem]) rfl ⟨rfl,b_alloc (b_alloc (b_alloc (Below.refl _ _)))⟩
end Go.Proofs.YtdhnhmhgmnkajaaGreatDoor
namespace Go.Proofs.YtdhnhmhgmnkajaaGreatDoor
open Go.RowKit Go.Shelf
def mvn (i a:Nat):Int:=if a<i then 0 else if a=i then 32768 else if i+2≤a then -1 else if i=0 then 256 else -256
theorem mvn_bd (i a:Nat):-32768≤mvn i a∧mvn i a≤32768:=by
 unfold mvn
 repeat' split
 all_goals omega
def pln (a b:Nat):Nat:=if a=0 then (if b=0 then 0 else if b=1 then 1 else 2) else if a=1 then (if b=0 then 1 else if b=1 then 3 else 4) else (if b=0 then 2 else if b=1 then 4 else 5)
theorem pln_lt (a b:Nat):pln a b<6:=by
 unfold pln
 repeat' split
 all_goals omega
theorem pln_at {a b:Nat} (ha:a<3) (hb:b<3):At9 a b (pln a b):=by
 rcases (show a=0∨a=1∨a=2 by omega) with rfl | rfl | rfl <;> rcases (show b=0∨b=1∨b=2 by omega) with rfl | rfl | rfl <;> decide
theorem abs_mul {x y:Int} {A B:Nat} (hx:x.natAbs≤A) (hy:y.natAbs≤B):(x*y).natAbs≤A*B:=by rw [Int.natAbs_mul]; exact Nat.mul_le_mul hx hy
def tmn (m:Nat→Int) (i j k:Nat):Int:=mvn i (k / 3)*mvn j (k % 3)*m (pln (k / 3) (k % 3))
theorem tmn_eq (m:Nat→Int) (i j a b:Nat) (hb:b<3):tmn m i j (3*a+b)=mvn i a*mvn j b*m (pln a b):=by
 have h1:(3*a+b) / 3=a:=by omega
 have h2:(3*a+b) % 3=b:=by omega
 rw [tmn,h1,h2]
theorem tmn_bd {m:Nat→Int} (h:F6 m) (i j k:Nat):(tmn m i j k).natAbs≤309485009821345068724781056:=by
 have h1:=mvn_bd i (k / 3)
 have h2:=mvn_bd j (k % 3)
 have h3:=h (pln (k / 3) (k % 3)) (pln_lt _ _)
 exact abs_mul (A:=1073741824) (B:=288230376151711744) (abs_mul (A:=32768) (B:=32768) (by omega) (by omega)) (by omega)
def smT (T:Nat→Int) (l:List Nat):Int:=l.foldl (fun s k=>s+T k) 0
theorem smT_snoc (T:Nat→Int) (l:List Nat) (k:Nat):smT T (l ++ [k])=smT T l+T k:=by simp [smT]
theorem fold_bd {T:Nat→Int} {B:Nat} (h:∀ k,(T k).natAbs≤B) (l:List Nat):∀ s:Int,(l.foldl (fun s k=>s+T k) s).natAbs≤s.natAbs+l.length*B:=by
 induction l with
 | nil=>intro s; simp
 | cons k l ih =>
  intro s
  have h1:=ih (s+T k)
  have h2:=h k
  simp only [List.foldl_cons,List.length_cons,Nat.add_mul,Nat.one_mul]
  omega
theorem smT_bd {T:Nat→Int} {B:Nat} (h:∀ k,(T k).natAbs≤B) (l:List Nat):(smT T l).natAbs≤l.length*B:=by
 have:=fold_bd h l 0
 simpa [smT] using this
theorem smT_fits {T:Nat→Int} (h:∀ k,(T k).natAbs≤309485009821345068724781056) {l:List Nat} (hl:l.length≤9):Fits (smT T l):=by
 have:=smT_bd h l
 have:l.length*309485009821345068724781056≤9*309485009821345068724781056:=Nat.mul_le_mul_right _ hl
 exact ⟨by omega,by omega⟩
theorem term_fits {T:Nat→Int} (h:∀ k,(T k).natAbs≤309485009821345068724781056) (k:Nat):Fits (T k):=by
 have:=h k
 exact ⟨by omega,by omega⟩
def rwn (m:Nat→Int) (i j:Nat):Int:=smT (tmn m i j) (List.range 9)
abbrev wof (z:Int):Value:=wv (z / 18446744073709551616) (z % 18446744073709551616)
abbrev ML (w:World):Prop:=∀ i,i<3→∀ a,a<3→w.cell? ⟨2,i*3+a,none⟩=some (.int .i64 (mvn i a))
theorem ml_keep {w w':World} (hb:Below w.heap.size w w') (h:ML w):ML w':=fun i hi a ha=>cell_keep hb (h i hi a ha)
theorem ml_lt {w:World} (h:ML w):2<w.heap.size:=World.block_lt_of_cell? w _ (h 0 (by decide) 0 (by decide))
theorem pl_put {w:World} {b o:Nat} {v:Value} (h:PL w) (hb:0<b):PL (w.setCell ⟨b,o,none⟩ v):=by
 have n:b≠0:=by omega
 obtain ⟨a0,a1,a2,a3,a4,a5,a6,a7,a8⟩:=h
 have K:∀ i u,w.cell? ⟨0,i,none⟩=some u→(w.setCell ⟨b,o,none⟩ v).cell? ⟨0,i,none⟩=some u:=fun i u hu=>by rw [World.cell?_setCell_far _ _ _ _ n]; exact hu
 exact ⟨K _ _ a0,K _ _ a1,K _ _ a2,K _ _ a3,K _ _ a4,K _ _ a5,K _ _ a6,K _ _ a7,K _ _ a8⟩
theorem grown_of {W W':World} (h:Below W.heap.size W W'):W.grownBy W' none:=⟨h.os,h.tape,h.output,h.size,fun k hk _=>h.block k hk⟩
theorem ix_move (x y z:Int):(∀ w,(Instr.index 22 (tv x y z) (.int .i64 0)).run Tryz.prog w=.ok (.int .i64 x) w)∧(∀ w,(Instr.index 22 (tv x y z) (.int .i64 1)).run Tryz.prog w=.ok (.int .i64 y) w)∧(∀ w,(Instr.index 22 (tv x y z) (.int .i64 2)).run Tryz.prog w=.ok (.int .i64 z) w) :=
 ⟨fun _=>by kernel_rfl,fun _=>by kernel_rfl,fun _=>by kernel_rfl⟩
theorem ix_row (r:Nat→Int) {a:Nat} (ha:a<3) (w:World):(Instr.index 22 (tv (r 0) (r 1) (r 2)) (.int .i64 a)).run Tryz.prog w=.ok (.int .i64 (r a)) w:=by
 obtain ⟨h0,h1,h2⟩:=ix_move (r 0) (r 1) (r 2)
 match a,ha with
 | 0,_=>exact h0 w
 | 1,_=>exact h1 w
 | 2,_=>exact h2 w
end Go.Proofs.YtdhnhmhgmnkajaaGreatDoor
namespace Go.Proofs.YtdhnhmhgmnkajaaGreatDoor
structure IsRoot (z r:Int):Prop where
 r0:0≤r
 lo:r*r≤z
 hi:z<(r+1)*(r+1)
theorem sq_le {a b:Int} (a0:0≤a) (h:a≤b):a*a≤b*b:=Int.mul_le_mul h h a0 (by omega)
theorem sq_lt {a b:Int} (a0:0≤a) (h:a<b):a*a<b*b:=by
 have h1:=sq_le (show 0≤a+1 by omega) (show a+1≤b by omega)
 have h2:(a+1)*(a+1)=a*a+a+a+1:=by rw [Int.mul_add,Int.add_mul]; omega
 omega
theorem of_sq_lt {a b:Int} (b0:0≤b) (h:a*a<b*b):a<b:=by
 apply Int.lt_of_not_ge
 intro c
 have:=sq_le b0 c
 omega
theorem IsRoot.uniq {z r s:Int} (x:IsRoot z r) (y:IsRoot z s):r=s:=by
 have x0:=x.r0; have y0:=y.r0
 have h1:=of_sq_lt (show 0≤s+1 by omega) (Int.lt_of_le_of_lt x.lo y.hi)
 have h2:=of_sq_lt (show 0≤r+1 by omega) (Int.lt_of_le_of_lt y.lo x.hi)
 omega
theorem IsRoot.lt {z r h:Int} (x:IsRoot z r) (h0:0≤h) (hh:z<h*h):r<h:=of_sq_lt h0 (Int.lt_of_le_of_lt x.lo hh)
theorem IsRoot.ge {z r l:Int} (x:IsRoot z r) (hl:l*l≤z):l≤r:=by
 have r0:=x.r0
 have:=of_sq_lt (show 0≤r+1 by omega) (Int.lt_of_le_of_lt hl x.hi)
 omega
theorem root_some (n:Nat):∃ r:Int,IsRoot n r:=by
 induction n with
 | zero=>exact ⟨0,by decide,by decide,by decide⟩
 | succ n ih =>
  obtain ⟨r,x⟩:=ih
  have r0:=x.r0; have h0:=x.lo; have h1:=x.hi
  by_cases c:((n+1:Nat):Int)<(r+1)*(r+1)
  ·exact ⟨r,r0,by omega,c⟩
  ·refine ⟨r+1,by omega,by omega,?_⟩
   have:=sq_lt (show 0≤r+1 by omega) (show r+1<r+1+1 by omega)
   omega
theorem root_any {z:Int} (h:0≤z):∃ r,IsRoot z r:=by
 obtain ⟨r,x⟩:=root_some z.toNat
 exact ⟨r,by rwa [Int.toNat_of_nonneg h] at x⟩
theorem root_between {x y r:Int} (x0:0≤x) (h:x≤y) (i:IsRoot (x*y) r):x≤r∧r≤y:=by
 have h1:x*x≤x*y:=Int.mul_le_mul_of_nonneg_left h x0
 have h2:x*y≤y*y:=Int.mul_le_mul_of_nonneg_right h (by omega)
 refine ⟨i.ge h1,?_⟩
 have:=i.lt (show 0≤y+1 by omega) (by have:=sq_lt (show 0≤y by omega) (show y<y+1 by omega); omega)
 omega
theorem root_square {x:Int} (x0:0≤x):IsRoot (x*x) x:=⟨x0,Int.le_refl _,sq_lt x0 (by omega)⟩
theorem root_i64 {x y r:Int} (x0:0≤x) (y0:0≤y) (x1:x≤9223372036854775807) (y1:y≤9223372036854775807) (i:IsRoot (x*y) r):r≤9223372036854775807:=by
 by_cases c:x≤y
 ·have:=(root_between x0 c i).2; omega
 ·have:=(root_between y0 (show y≤x by omega) (by rwa [Int.mul_comm] at i)).2; omega
theorem bit_take {z n p:Int} (n0:0≤n) (p0:1≤p) (lo:n*n≤z) (hi:z<(n+2*p)*(n+2*p)) :
  ((n+p)*(n+p)≤z→0≤n+p∧(n+p)*(n+p)≤z∧z<(n+p+p)*(n+p+p))∧(¬ (n+p)*(n+p)≤z→0≤n∧n*n≤z∧z<(n+p)*(n+p)):=by
 rw [show n+p+p=n+2*p by omega]
 exact ⟨fun h=>⟨by omega,h,hi⟩,fun h=>⟨n0,lo,by omega⟩⟩
end Go.Proofs.YtdhnhmhgmnkajaaGreatDoor
namespace Go.Proofs.YtdhnhmhgmnkajaaGreatDoor
open Go.RowKit Go.Shelf
abbrev Snd (m:Nat→Int) (f0 f1 f2:Int):Prop:=F6 m∧f0≤m 0∧f1≤m 3∧f2≤m 5∧m 1*m 1≤(m 3 - f1)*(m 0 - f0)∧m 2*m 2≤(m 5 - f2)*(m 0 - f0)∧m 4*m 4≤(m 5 - f2)*(m 3 - f1)
theorem wpList_end {P:Program} {ops:Array Oper} {Q:Exit→Act→World→Prop} {a:Act} {w:World} (h:Q Exit.normal a w):wpList P ops Q [] a w:=h
theorem pl_set {w:World} {b o:Nat} {v:Value} (h:PL w) (hb:0<b):PL (w.setCell ⟨b,o,none⟩ v):=by
 have n:b≠0:=by omega
 obtain ⟨a0,a1,a2,a3,a4,a5,a6,a7,a8⟩:=h
 have K:∀ i u,w.cell? ⟨0,i,none⟩=some u→(w.setCell ⟨b,o,none⟩ v).cell? ⟨0,i,none⟩=some u:=fun i u hu=>by rw [World.cell?_setCell_far _ _ _ _ n]; exact hu
 exact ⟨K _ _ a0,K _ _ a1,K _ _ a2,K _ _ a3,K _ _ a4,K _ _ a5,K _ _ a6,K _ _ a7,K _ _ a8⟩
theorem fit_i64 {x:Int} (h:FitP x):I64 x:=⟨by omega,by omega⟩
end Go.Proofs.YtdhnhmhgmnkajaaGreatDoor
namespace Go.Proofs.YtdhnhmhgmnkajaaGreatDoor
open Go.RowKit Go.Shelf
theorem ge_ok {a b x:Int} (h:ge a b x=0):gz a b x=x∧FitP a∧FitP b∧FitP x:=by
 unfold ge at h
 by_cases c:FitP a∧FitP b
 ·rw [if_pos c] at h
  unfold ne at h
  by_cases d:FitP x
  ·exact ⟨by rw [(gz_of c x).1,(nz_of d).1],c.1,c.2,d⟩
  ·rw [if_neg d] at h; cases h
 ·rw [if_neg c] at h; cases h
end Go.Proofs.YtdhnhmhgmnkajaaGreatDoor

import Derived.Test.YthnofhjgfhapiaaGreatDoorProg
import Derived.Shelf.Spec.BitsCarry
import Derived.Shelf.Bits.Mul64
import Derived.WalkKit
import Derived.WalkSpells
import Derived.StillTactics
import Derived.Laws.Pointers
import Derived.Deep.RegionHeld3
import Derived.Deep.QuietTactic
import Derived.BigQuiet
import Derived.RowKit3
import Derived.Lib.Hide
import Derived.Lib.QuietBelow
import Derived.Laws.Bits64b
import Derived.ScopeJumps
import Derived.WalkMore
set_option maxHeartbeats 2000000
set_option maxRecDepth 100000
namespace Go.Proofs.YthnofhjgfhapiaaGreatDoor
structure IsW (h l z:Int):Prop where
 h0:-9223372036854775808≤h
 h1:h≤9223372036854775807
 l0:0≤l
 l1:l≤18446744073709551615
 e:h*18446744073709551616+l=z
structure Fits (z:Int):Prop where
 lo:-170141183460469231731687303715884105728≤z
 hi:z≤170141183460469231731687303715884105727
def w128 (z:Int):Int:=(z+170141183460469231731687303715884105728) % 340282366920938463463374607431768211456 - 170141183460469231731687303715884105728
theorem IsW.fits {h l z:Int} (x:IsW h l z):Fits z:=by
 obtain ⟨a,b,c,d,e⟩:=x
 exact ⟨by omega,by omega⟩
theorem w128_fits (z:Int):Fits (w128 z):=by unfold w128; exact ⟨by omega,by omega⟩
theorem w128_of {z:Int} (h:Fits z):w128 z=z:=by
 obtain ⟨a,b⟩:=h
 unfold w128; omega
theorem IsW.hi {h l z:Int} (x:IsW h l z):h=z / 18446744073709551616:=by obtain ⟨a,b,c,d,e⟩:=x; omega
theorem IsW.lo {h l z:Int} (x:IsW h l z):l=z % 18446744073709551616:=by obtain ⟨a,b,c,d,e⟩:=x; omega
theorem IsW.mk' {z:Int} (x:Fits z):IsW (z / 18446744073709551616) (z % 18446744073709551616) z:=by
 obtain ⟨a,b⟩:=x
 exact ⟨by omega,by omega,by omega,by omega,by omega⟩
theorem IsW.inj {h l h' l' z z':Int} (x:IsW h l z) (y:IsW h' l' z'):(h=h'∧l=l')↔z=z':=by
 obtain ⟨a,b,c,d,e⟩:=x; obtain ⟨a',b',c',d',e'⟩:=y
 constructor
 ·rintro ⟨rfl,rfl⟩; omega
 ·intro; constructor <;> omega
theorem IsW.neg {h l z:Int} (x:IsW h l z):h<0↔z<0:=by obtain ⟨a,b,c,d,e⟩:=x; omega
theorem IsW.ltw {h l h' l' z z':Int} (x:IsW h l z) (y:IsW h' l' z'):(h<h'∨h=h'∧l<l')↔z<z':=by
 obtain ⟨a,b,c,d,e⟩:=x; obtain ⟨a',b',c',d',e'⟩:=y
 omega
def s64 (x:Int):Int:=(x+9223372036854775808) % 18446744073709551616 - 9223372036854775808
theorem isW_mk (H L z:Int) (e:H*18446744073709551616+L=z):IsW (s64 (H+L / 18446744073709551616)) (L % 18446744073709551616) (w128 z):=by
 subst e
 unfold s64 w128
 exact ⟨by omega,by omega,by omega,by omega,by omega⟩
theorem s64_mod (x y:Int) (h:x % 18446744073709551616=y % 18446744073709551616):s64 x=s64 y:=by unfold s64; omega
structure Pq (p q:Int):Prop where
 p0:1≤p
 q0:1≤q
 e:p*q=18446744073709551616
theorem pq_of (n:Int) (h0:0≤n) (h1:n≤64):Pq (2 ^ n.toNat) (2 ^ (64 - n).toNat):=by
 obtain ⟨n,rfl⟩:=Int.eq_ofNat_of_zero_le h0
 have e1:((n:Int)).toNat=n:=by omega
 have e2:((64:Int) - n).toNat=64 - n:=by omega
 rw [e1,e2]
 refine ⟨?_,?_,?_⟩
 ·have:(0:Int)<2 ^ n:=Int.pow_pos (by decide); omega
 ·have:(0:Int)<2 ^ (64 - n):=Int.pow_pos (by decide); omega
 ·rw [← Int.pow_add,show n+(64 - n)=64 by omega]; decide
theorem Pq.up {p q:Int} (h:Pq p q) (l:Int) (l0:0≤l):l*p / 18446744073709551616=l / q∧0≤l / q:=by
 obtain ⟨p0,q0,e⟩:=h
 rw [← e,Int.mul_comm p q]
 exact ⟨Int.mul_ediv_mul_of_pos_left l q (by omega),Int.ediv_nonneg l0 (by omega)⟩
theorem Pq.up_lt {p q:Int} (h:Pq p q) (l:Int) (l1:l≤18446744073709551615):l / q<p:=by
 obtain ⟨p0,q0,e⟩:=h
 exact Int.ediv_lt_of_lt_mul (by omega) (by omega)
theorem Pq.isW_up {p q:Int} (h:Pq p q) {ah al a:Int} (x:IsW ah al a):IsW (s64 (ah*p+al / q)) (al*p % 18446744073709551616) (w128 (a*p)):=by
 rw [← (h.up al x.l0).1]
 exact isW_mk (ah*p) (al*p) (a*p) (by rw [← x.e,Int.add_mul]; congr 1; rw [Int.mul_assoc,Int.mul_assoc,Int.mul_comm p])
theorem isW_upHigh {ah al a:Int} (x:IsW ah al a) (m:Int):IsW (s64 (al*m)) 0 (w128 (a*(18446744073709551616*m))):=by
 have h:=isW_mk (ah*(18446744073709551616*m)+al*m) 0 (a*(18446744073709551616*m)) (by rw [← x.e,Int.add_mul,Int.add_mul,show ah*18446744073709551616*(18446744073709551616*m)=ah*(18446744073709551616*m)*18446744073709551616 from Int.mul_right_comm _ _ _,show al*(18446744073709551616*m)=al*m*18446744073709551616 by rw [Int.mul_comm 18446744073709551616 m,Int.mul_assoc]]; omega)
 have e1:s64 (ah*(18446744073709551616*m)+al*m+0 / 18446744073709551616)=s64 (al*m):=by
  apply s64_mod
  rw [show ah*(18446744073709551616*m)=18446744073709551616*(ah*m) by simp only [Int.mul_left_comm]]
  omega
 rw [e1] at h
 simpa using h
theorem Pq.down {p q:Int} (h:Pq p q) {ah al a:Int} (x:IsW ah al a):IsW (ah / p) (al / p+ah*q % 18446744073709551616) (a / p):=by
 obtain ⟨p0,q0,e⟩:=h
 obtain ⟨x0,x1,x2,x3,x4⟩:=x
 have e1:ah*q % 18446744073709551616=ah % p*q:=by
  rw [← e,Int.mul_comm ah q,Int.mul_comm p q,Int.mul_emod_mul_of_pos _ _ (by omega),Int.mul_comm]
 have hr0:0≤ah % p:=Int.emod_nonneg _ (by omega)
 have hr1:ah % p≤p - 1:=by have:=Int.emod_lt_of_pos ah (show 0<p by omega); omega
 have hc:p*(ah / p)+ah % p=ah:=Int.mul_ediv_add_emod ah p
 have hl0:0≤al / p:=Int.ediv_nonneg x2 (by omega)
 have hl1:al / p≤q - 1:=by
  have:al / p<q:=Int.ediv_lt_of_lt_mul (by omega) (by rw [Int.mul_comm q p]; omega)
  omega
 have m0:0≤ah % p*q:=Int.mul_nonneg hr0 (by omega)
 have m1:ah % p*q≤(p - 1)*q:=Int.mul_le_mul_of_nonneg_right hr1 (by omega)
 have m2:(p - 1)*q=18446744073709551616 - q:=by rw [Int.sub_mul,e]; omega
 have ea:a=al+p*(ah*q):=by
  rw [← x4,← e,Int.mul_left_comm]; omega
 have eq1:a / p=al / p+ah*q:=by rw [ea,Int.add_mul_ediv_left _ _ (by omega)]
 have eq2:ah*q=ah / p*18446744073709551616+ah % p*q:=by
  conv=>lhs; rw [← hc]
  rw [Int.add_mul,← e,Int.mul_comm p (ah / p),Int.mul_assoc]
 have d0:-9223372036854775808≤ah / p:=by
  have:(-9223372036854775808)*p≤-9223372036854775808:=by omega
  exact Int.le_ediv_of_mul_le (by omega) (by omega)
 have d1:ah / p≤9223372036854775807:=by
  have:ah / p<9223372036854775808:=Int.ediv_lt_of_lt_mul (by omega) (by omega)
  omega
 rw [e1]
 refine ⟨d0,d1,by omega,by omega,?_⟩
 rw [eq1,eq2]; omega
theorem downHigh {ah al a:Int} (x:IsW ah al a) (m:Int) (m0:1≤m):a / (18446744073709551616*m)=ah / m∧-9223372036854775808≤ah / m∧ah / m≤9223372036854775807:=by
 obtain ⟨x0,x1,x2,x3,x4⟩:=x
 refine ⟨?_,?_,?_⟩
 ·rw [← Int.ediv_ediv_of_nonneg (by decide)]
  congr 1
  omega
 ·have:(-9223372036854775808)*m≤-9223372036854775808:=by omega
  exact Int.le_ediv_of_mul_le (by omega) (by omega)
 ·have:ah / m<9223372036854775808:=Int.ediv_lt_of_lt_mul (by omega) (by omega)
  omega
theorem pow_high (n:Int) (h0:64≤n):(2:Int) ^ n.toNat=18446744073709551616*2 ^ (n - 64).toNat:=by
 rw [show n.toNat=64+(n - 64).toNat by omega,Int.pow_add]
 rfl
def fz (z:Int):Int:=if -170141183460469231731687303715884105728≤z∧z≤170141183460469231731687303715884105727 then z else 0
def fe (z:Int):Int:=if -170141183460469231731687303715884105728≤z∧z≤170141183460469231731687303715884105727 then 0 else 3
theorem fz_of {z:Int} (h:Fits z):fz z=z:=if_pos ⟨h.lo,h.hi⟩
theorem fe_of {z:Int} (h:Fits z):fe z=0:=if_pos ⟨h.lo,h.hi⟩
theorem fz_no {z:Int} (h:¬ (-170141183460469231731687303715884105728≤z∧z≤170141183460469231731687303715884105727)):fz z=0:=if_neg h
theorem fe_no {z:Int} (h:¬ (-170141183460469231731687303715884105728≤z∧z≤170141183460469231731687303715884105727)):fe z=3:=if_neg h
theorem isW_zero:IsW 0 0 0:=⟨by decide,by decide,by decide,by decide,by decide⟩
theorem add_no {a b:Int} (x:Fits a) (y:Fits b) (h:(a<0↔b<0)∧¬ (w128 (a+b)<0↔a<0)):fz (a+b)=0∧fe (a+b)=3:=by
 obtain ⟨x0,x1⟩:=x; obtain ⟨y0,y1⟩:=y
 unfold w128 at h
 have:¬ (-170141183460469231731687303715884105728≤a+b∧a+b≤170141183460469231731687303715884105727):=by omega
 exact ⟨fz_no this,fe_no this⟩
theorem add_yes {a b:Int} (x:Fits a) (y:Fits b) (h:¬ ((a<0↔b<0)∧¬ (w128 (a+b)<0↔a<0))):w128 (a+b)=fz (a+b)∧fe (a+b)=0:=by
 obtain ⟨x0,x1⟩:=x; obtain ⟨y0,y1⟩:=y
 have:Fits (a+b):=by unfold w128 at h; exact ⟨by omega,by omega⟩
 exact ⟨by rw [w128_of this,fz_of this],fe_of this⟩
end Go.Proofs.YthnofhjgfhapiaaGreatDoor
namespace Go.Proofs.YthnofhjgfhapiaaGreatDoor
open Go.RowKit Go.Shelf
theorem add64 (x y c:Int) (hx:0≤x) (hy:0≤y) (hc0:0≤c) (hc:c≤1) (w:World):(callFunc 190 #[.int .u64 x,.int .u64 y,.int .u64 c]).run Tryz.prog w =
  .ok (.value (.tuple #[.int .u64 ((x+y+c) % 18446744073709551616),.int .u64 ((x+y+c) / 18446744073709551616)])) w:=by
 obtain ⟨x,rfl⟩:=Int.eq_ofNat_of_zero_le hx
 obtain ⟨y,rfl⟩:=Int.eq_ofNat_of_zero_le hy
 obtain ⟨c,rfl⟩:=Int.eq_ofNat_of_zero_le hc0
 rw [run_callFunc_extern Tryz.func190 (by kernel_rfl) (by kernel_rfl) (by kernel_rfl) (e:=add64Entry) (by kernel_rfl),run_add64 x y c (by omega) (by omega) (by omega) (by omega)]
 simp only [Result.andThen]
theorem sub64 (x y b:Int) (hx:0≤x) (hy:0≤y) (hy':y≤18446744073709551615) (hb0:0≤b) (hb:b≤1) (w:World):(callFunc 177 #[.int .u64 x,.int .u64 y,.int .u64 b]).run Tryz.prog w =
  .ok (.value (.tuple #[.int .u64 ((x - y - b) % 18446744073709551616),.int .u64 (if x<y+b then 1 else 0)])) w:=by
 obtain ⟨x,rfl⟩:=Int.eq_ofNat_of_zero_le hx
 obtain ⟨y,rfl⟩:=Int.eq_ofNat_of_zero_le hy
 obtain ⟨b,rfl⟩:=Int.eq_ofNat_of_zero_le hb0
 have e1:(((x+18446744073709551616 - y - b) % 18446744073709551616:Nat):Int)=((x:Int) - y - b) % 18446744073709551616:=by omega
 have e2:((if x<y+b then 1 else 0:Nat):Int)=if (x:Int)<y+b then 1 else 0:=by split <;> split <;> omega
 rw [← e1,← e2,run_callFunc_extern Tryz.func177 (by kernel_rfl) (by kernel_rfl) (by kernel_rfl) (e:=sub64Entry) (by kernel_rfl),run_sub64 x y b (by omega)]
 rfl
def bor (x y:Int):Int:=if x<y then 1 else 0
theorem bor_01 (x y:Int):0≤bor x y∧bor x y≤1:=by unfold bor; split <;> decide
theorem add64_0 (x y:Int) (hx:0≤x) (hy:0≤y) (w:World):(callFunc 190 #[.int .u64 x,.int .u64 y,.int .u64 0]).run Tryz.prog w =
  .ok (.value (.tuple #[.int .u64 ((x+y) % 18446744073709551616),.int .u64 ((x+y) / 18446744073709551616)])) w:=by
 simpa using add64 x y 0 hx hy (Int.le_refl 0) (by decide) w
theorem sub64_0 (x y:Int) (hx:0≤x) (hy:0≤y) (hy':y≤18446744073709551615) (w:World):(callFunc 177 #[.int .u64 x,.int .u64 y,.int .u64 0]).run Tryz.prog w =
  .ok (.value (.tuple #[.int .u64 ((x - y) % 18446744073709551616),.int .u64 (bor x y)])) w:=by
 simpa [bor] using sub64 x y 0 hx hy hy' (Int.le_refl 0) (by decide) w
theorem sub64_b (x y b:Int) (hx:0≤x) (hy:0≤y) (hy':y≤18446744073709551615) (hb0:0≤b) (hb:b≤1) (w:World):(callFunc 177 #[.int .u64 x,.int .u64 y,.int .u64 b]).run Tryz.prog w =
  .ok (.value (.tuple #[.int .u64 ((x - y - b) % 18446744073709551616),.int .u64 (bor x (y+b))])) w:=sub64 x y b hx hy hy' hb0 hb w
def lays264_ren:Go.Shelf.Ren:=⟨fun | 264=>83 | n=>n,fun | 53=>91 | 46=>179 | n=>n,fun | n=>n⟩
theorem lays264:Go.Proofs.Lays.n264 Tryz.prog lays264_ren:={
 mixed:=by kernel_rfl
 f264:=Tryz.func83.trans (congrArg some (by kernel_rfl))
 t46:=Tryz.underlying179
 a46:=Tryz.isAgg179
 z46:=Tryz.sizeOf179
 v46:=Tryz.zeroValue179
 t53:=Tryz.underlying91
 a53:=Tryz.isAgg91
 z53:=Tryz.sizeOf91
 v53:=Tryz.zeroValue91 }
def RetMul (x y:Int) (w:World) (e:Ending) (w':World):Prop :=
 ∃ h l:Int,e=.returned (.tuple #[.int .u64 h,.int .u64 l])∧0≤h∧h≤18446744073709551615∧0≤l∧l≤18446744073709551615∧Hid (h*18446744073709551616+l=x*y)∧w=w'
theorem mul64 (x y:Int) (hx:0≤x) (hx':x≤18446744073709551615) (hy:0≤y) (hy':y≤18446744073709551615) (w:World) :
  Calls Tryz.prog 83 #[.int .u64 x,.int .u64 y] w (RetMul x y w):=by
 obtain ⟨x,rfl⟩:=Int.eq_ofNat_of_zero_le hx
 obtain ⟨y,rfl⟩:=Int.eq_ofNat_of_zero_le hy
 refine (Any.bits_Mul64 lays264 x y (by omega) (by omega) w).mono ?_
 rintro e w' ⟨rfl,rfl⟩
 have h1:x*y≤18446744073709551615*18446744073709551615:=Nat.mul_le_mul (by omega) (by omega)
 have h2:x*y / 18446744073709551616<18446744073709551616:=by omega
 have h3:x*y % 18446744073709551616<18446744073709551616:=Nat.mod_lt _ (by decide)
 have h4:x*y / 18446744073709551616*18446744073709551616+x*y % 18446744073709551616=x*y:=by omega
 refine ⟨_,_,rfl,by omega,by omega,by omega,by omega,?_,rfl⟩
 show (_:Int)=_
 rw [← Int.natCast_mul x y]
 generalize x*y=p at *
 omega
end Go.Proofs.YthnofhjgfhapiaaGreatDoor
namespace Go.Proofs.YthnofhjgfhapiaaGreatDoor
open Go.RowKit Go.Shelf
theorem b_alloc {a w:World} {o:Obj} (h:Below a.heap.size a w):Below a.heap.size a (w.alloc o):=h.alloc h.size o
theorem b_trans {a b c:World} (h:Below a.heap.size a b) (k:Below b.heap.size b c):Below a.heap.size a c:=h.trans (k.mono h.size)
theorem b_drew {a w:World} (h:Below a.heap.size a w):Below a.heap.size a w.drew:=h.drew
theorem b_set {a w:World} {p:Addr} {v:Value} (h:Below a.heap.size a w) (hp:a.heap.size≤p.block):Below a.heap.size a (w.setCell p v):=h.setCell hp v
theorem bcell {W w1:World} (hb:Below W.heap.size W w1):(∀ b o,b<W.heap.size→w1.cell? ⟨b,o,none⟩=W.cell? ⟨b,o,none⟩)∧(∀ b o,b<W.heap.size→w1.frozen? ⟨b,o,none⟩=W.frozen? ⟨b,o,none⟩) :=
 ⟨fun b o h=>hb.cell (p:=⟨b,o,none⟩) h,fun b o h=>hb.frozen (p:=⟨b,o,none⟩) h⟩
theorem cell_keep {w w':World} (hb:Below w.heap.size w w') {p:Addr} {v:Value} (h:w.cell? p=some v):w'.cell? p=some v:=by
 rw [hb.cell (World.block_lt_of_cell? w p h)]; exact h
abbrev WC (w:World) (b:Nat) (h l:Int):Prop:=w.cell? ⟨b,0,none⟩=some (.int .i64 h)∧w.cell? ⟨b,1,none⟩=some (.int .u64 l)
theorem wc_keep {w w':World} (hb:Below w.heap.size w w') {b:Nat} {h l:Int} (c:WC w b h l):WC w' b h l:=⟨cell_keep hb c.1,cell_keep hb c.2⟩
theorem wc_alloc {w:World} {o:Obj} {b:Nat} {h l:Int} (c:WC w b h l):WC (w.alloc o) b h l:=wc_keep (b_alloc (Below.refl _ _)) c
theorem wc_keep2 {w w':World} (hb:Below w.heap.size w w') {b0 b1:Nat} {x0 y0 x1 y1:Int} (h:WC w b0 x0 y0∧WC w b1 x1 y1):WC w' b0 x0 y0∧WC w' b1 x1 y1:=by
 obtain ⟨h0,h1⟩:=h
 exact ⟨wc_keep hb h0,wc_keep hb h1⟩
abbrev wv (h l:Int):Value:=.agg #[.int .i64 h,.int .u64 l]
def RetW (z:Int) (w:World) (e:Ending) (w':World):Prop :=
 ∃ h l:Int,e=.returned (wv h l)∧IsW h l z∧Below w.heap.size w w'
abbrev WF (w:World) (b:Nat):Prop:=w.frozen? ⟨b,0,none⟩=false∧w.frozen? ⟨b,1,none⟩=false
theorem wf_keep {w w':World} (hb:Below w.heap.size w w') {b:Nat} {h l:Int} (c:WC w b h l) (f:WF w b):WF w' b:=by
 have h1:=World.block_lt_of_cell? w _ c.1
 have h2:=World.block_lt_of_cell? w _ c.2
 exact ⟨by rw [hb.frozen h1]; exact f.1,by rw [hb.frozen h2]; exact f.2⟩
theorem wc_regrown {w:World} {b:Nat} {h l:Int} (c:WC w b h l):∀ d os,WC (Sort.grow (redrawn w d) os) b h l:=fun d os=>⟨cell_regrown c.1 d os,cell_regrown c.2 d os⟩
def RetV (v:Value) (w:World) (e:Ending) (w':World):Prop:=e=.returned v∧Below w.heap.size w w'
theorem retV_regrown {f:FuncId} {args:Array Value} {v:Value} {w:World} (h:∀ w,Calls Tryz.prog f args w (RetV v w)):∀ d os,Calls Tryz.prog f args (Sort.grow (redrawn w d) os) fun e w''=>e=.returned v∧∃ p:Regrown,w''=Sort.grow (redrawn w p.d) p.os :=
 fun _ _=>Calls.regrown_of (h _)
theorem wc_set {w:World} {b b1 o:Nat} {h l:Int} {v:Value} (c:WC w b h l) (hb:b1≠b):WC (w.setCell ⟨b1,o,none⟩ v) b h l :=
 ⟨by rw [World.cell?_setCell_far _ _ _ _ hb]; exact c.1,by rw [World.cell?_setCell_far _ _ _ _ hb]; exact c.2⟩
theorem s1_keep {W w w':World} {b0:Nat} {h0 l0:Int} (h:Below W.heap.size W w∧WC w b0 h0 l0) (hb:Below w.heap.size w w'):Below W.heap.size W w'∧WC w' b0 h0 l0:=⟨b_trans h.1 hb,wc_keep hb h.2⟩
theorem s1_set {W w:World} {b0 b1:Nat} {h0 l0:Int} {u v:Value} (h:Below W.heap.size W w∧WC w b0 h0 l0) (hb:W.heap.size≤b1) (hn:b1≠b0) :
  Below W.heap.size W ((w.setCell ⟨b1,0,none⟩ u).setCell ⟨b1,1,none⟩ v)∧WC ((w.setCell ⟨b1,0,none⟩ u).setCell ⟨b1,1,none⟩ v) b0 h0 l0 :=
 ⟨b_set (b_set h.1 hb) hb,wc_set (wc_set h.2 hn) hn⟩
theorem s2_keep {W w w':World} {b0 b1:Nat} {h0 l0 h1 l1:Int} (h:Below W.heap.size W w∧WC w b0 h0 l0∧WC w b1 h1 l1) (hb:Below w.heap.size w w'):Below W.heap.size W w'∧WC w' b0 h0 l0∧WC w' b1 h1 l1:=⟨b_trans h.1 hb,wc_keep hb h.2.1,wc_keep hb h.2.2⟩
def RetWE (z c:Int) (w:World) (e:Ending) (w':World):Prop :=
 ∃ h l:Int,e=.returned (.tuple #[wv h l,.int .i64 c])∧IsW h l z∧Below w.heap.size w w'
abbrev S21 (W:World) (b0:Nat) (h0 l0:Int) (b1:Nat) (h1 l1:Int) (b2:Nat) (w:World):Prop :=
 Below W.heap.size W w∧WC w b0 h0 l0∧WC w b1 h1 l1∧WC w b2 0 0∧WF w b2
theorem wf_set {w:World} {b b1 o:Nat} {v:Value} (c:WF w b):WF (w.setCell ⟨b1,o,none⟩ v) b :=
 ⟨by rw [World.frozen?_setCell]; exact c.1,by rw [World.frozen?_setCell]; exact c.2⟩
theorem wc_lt {w:World} {b:Nat} {h l:Int} (c:WC w b h l):b<w.heap.size:=World.block_lt_of_cell? w _ c.1
theorem wc_mine {w:World} {b:Nat} {h l h' l':Int} (c:WC w b h l):WC ((w.setCell ⟨b,0,none⟩ (.int .i64 h')).setCell ⟨b,1,none⟩ (.int .u64 l')) b h' l':=by
 obtain ⟨c0,c1⟩:=c
 simp [WC,go_sem,c0,c1]
end Go.Proofs.YthnofhjgfhapiaaGreatDoor
namespace Go.Proofs.YthnofhjgfhapiaaGreatDoor
open Go.RowKit Go.Shelf
theorem wrapu (x:Int):IntKind.u64.wrap x=x % 18446744073709551616:=IntKind.wrap_u64 x
theorem of_num (x:Int) (h0:-9223372036854775808≤x) (h1:x≤9223372036854775807):IsW (x / 9223372036854775808) (IntKind.u64.wrap x) x:=by
 rw [wrapu]
 exact ⟨by omega,by omega,by omega,by omega,by omega⟩
theorem of_any (x:Int) (h0:-9223372036854775808≤x) (h1:x≤9223372036854775807) (w:World) :
  Calls Tryz.prog 95 #[.int .i64 x] w (RetW x w):=by
 go_enter Tryz.func95,Tryz.ntmps95
 go_wp2
 refine bodyPost_ret (v:=wv (x / 9223372036854775808) (IntKind.u64.wrap x)) (by simp [results,Tryz.results95,go_sem]) rfl ⟨_,_,rfl,of_num x h0 h1,?_⟩
 exact (Below.refl _ _).alloc (Nat.le_refl _) _
theorem neg_any (h l z:Int) (x:IsW h l z) (w:World) :
  Calls Tryz.prog 169 #[wv h l] w (RetV (.bool (decide (z<0))) w):=by
 have hd:=Lib.hid (show decide (z<0)=decide (h<0) by simp [x.neg])
 go_enter Tryz.func169,Tryz.ntmps169
 go_wp2
 go_ret
 exact ⟨by rw [hd.out]; rfl,(Below.refl _ _).alloc (Nat.le_refl _) _⟩
theorem size_num {x:Int} (h0:-9223372036854775808≤x) (h:x<0):IntKind.u64.wrap (-IntKind.u64.wrap x)=(x.natAbs:Int):=by
 rw [wrapu,wrapu]; omega
theorem size_any (x:Int) (h0:-9223372036854775808≤x) (h1:x≤9223372036854775807) (w:World) :
  Calls Tryz.prog 205 #[.int .i64 x] w fun e w'=>e=.returned (.int .u64 (x.natAbs:Int))∧w=w':=by
 by_cases h:x<0
 ·have e:=Lib.hid (size_num h0 h)
  go_enter Tryz.func205,Tryz.ntmps205
  go_wp2
  go_ret
  exact ⟨by rw [← e.out]; rfl,rfl⟩
 ·have e:=Lib.hid (show x=(x.natAbs:Int) by omega)
  go_enter Tryz.func205,Tryz.ntmps205
  go_wp2
  go_ret
  exact ⟨by rw [← e.out]; rfl,rfl⟩
theorem wrapi (x:Int):wrap64 x=s64 x:=by unfold wrap64 s64; rfl
theorem plus_num {ah al a bh bl b:Int} (x:IsW ah al a) (y:IsW bh bl b) :
  IsW (wrap64 ((IntKind.u64.wrap ah+IntKind.u64.wrap bh+(al+bl) / 18446744073709551616) % 18446744073709551616)) ((al+bl) % 18446744073709551616) (w128 (a+b)):=by
 have h:=isW_mk (ah+bh) (al+bl) (a+b) (by rw [← x.e,← y.e]; omega)
 rw [wrapi,wrapu,wrapu,s64_mod _ (ah+bh+(al+bl) / 18446744073709551616) (by omega)]
 exact h
theorem plus_any (ah al a bh bl b:Int) (x:IsW ah al a) (y:IsW bh bl b) (w:World) :
  Calls Tryz.prog 168 #[wv ah al,wv bh bl] w (RetW (w128 (a+b)) w):=by
 have x2:=x.l0; have x3:=x.l1
 have y2:=y.l0; have y3:=y.l1
 have k0:0≤(al+bl) / 18446744073709551616:=by omega
 have k1:(al+bl) / 18446744073709551616≤1:=by omega
 have k2:0≤IntKind.u64.wrap ah:=by rw [wrapu]; omega
 have k3:0≤IntKind.u64.wrap bh:=by rw [wrapu]; omega
 go_enter Tryz.func168,Tryz.ntmps168
 go_wp2_with (first | simp only [add64_0 al bl x2 y2] | simp only [add64 _ _ _ k2 k3 k0 k1])
 refine bodyPost_ret (v:=wv (wrap64 ((IntKind.u64.wrap ah+IntKind.u64.wrap bh+(al+bl) / 18446744073709551616) % 18446744073709551616)) ((al+bl) % 18446744073709551616)) (by simp [results,Tryz.results168,go_sem]) rfl ⟨_,_,rfl,plus_num x y,?_⟩
 exact b_alloc (b_alloc (b_alloc (Below.refl _ _)))
theorem minus_num {ah al a bh bl b:Int} (x:IsW ah al a) (y:IsW bh bl b) :
  IsW (wrap64 ((IntKind.u64.wrap ah - IntKind.u64.wrap bh - bor al bl) % 18446744073709551616)) ((al - bl) % 18446744073709551616) (w128 (a - b)):=by
 have h:=isW_mk (ah - bh) (al - bl) (a - b) (by rw [← x.e,← y.e]; omega)
 have hb:bor al bl=-((al - bl) / 18446744073709551616):=by
  obtain ⟨_,_,x2,x3,_⟩:=x; obtain ⟨_,_,y2,y3,_⟩:=y
  unfold bor; split <;> omega
 rw [wrapi,wrapu,wrapu,hb,s64_mod _ (ah - bh+(al - bl) / 18446744073709551616) (by omega)]
 exact h
theorem minus_any (ah al a bh bl b:Int) (x:IsW ah al a) (y:IsW bh bl b) (w:World) :
  Calls Tryz.prog 153 #[wv ah al,wv bh bl] w (RetW (w128 (a - b)) w):=by
 have x2:=x.l0; have x3:=x.l1
 have y2:=y.l0; have y3:=y.l1
 obtain ⟨k0,k1⟩:=bor_01 al bl
 have k2:0≤IntKind.u64.wrap ah:=by rw [wrapu]; omega
 have k3:0≤IntKind.u64.wrap bh:=by rw [wrapu]; omega
 have k4:IntKind.u64.wrap bh≤18446744073709551615:=by rw [wrapu]; omega
 go_enter Tryz.func153,Tryz.ntmps153
 go_wp2_with (first | simp only [sub64_0 al bl x2 y2 y3] | simp only [sub64_b _ _ _ k2 k3 k4 k0 k1])
 refine bodyPost_ret (v:=wv (wrap64 ((IntKind.u64.wrap ah - IntKind.u64.wrap bh - bor al bl) % 18446744073709551616)) ((al - bl) % 18446744073709551616)) (by simp [results,Tryz.results153,go_sem]) rfl ⟨_,_,rfl,minus_num x y,?_⟩
 exact b_alloc (b_alloc (b_alloc (Below.refl _ _)))
def cmp3 (a b:Int):Int:=if a=b then 0 else if a<b then -1 else 1
theorem cmp3_eq (a:Int):cmp3 a a=0:=by simp [cmp3]
theorem cmp3_lt {a b:Int} (h:a<b):cmp3 a b=-1:=by unfold cmp3; rw [if_neg (by omega),if_pos h]
theorem cmp3_gt {a b:Int} (h:b<a):cmp3 a b=1:=by unfold cmp3; rw [if_neg (by omega),if_neg (by omega)]
theorem cmp_any (ah al a bh bl b:Int) (x:IsW ah al a) (y:IsW bh bl b) (w:World) :
  Calls Tryz.prog 31 #[wv ah al,wv bh bl] w (RetV (.int .i64 (cmp3 a b)) w):=by
 by_cases e:a=b
 ·obtain ⟨rfl,rfl⟩:=(x.inj y).2 e
  subst e
  rw [cmp3_eq]
  clear x y
  go_enter Tryz.func31,Tryz.ntmps31
  go_wp2
  go_ret
  exact ⟨rfl,((Below.refl _ _).alloc (Nat.le_refl _) _).alloc (by simp) _⟩
 ·by_cases g:ah=bh
  ·subst g
   by_cases k:al<bl
   ·rw [cmp3_lt ((x.ltw y).1 (Or.inr ⟨rfl,k⟩))]
    clear x y e
    have k':(al == bl)=false:=by rw [beq_eq_false_iff_ne]; omega
    go_enter Tryz.func31,Tryz.ntmps31
    go_wp2
    go_ret
    exact ⟨rfl,((Below.refl _ _).alloc (Nat.le_refl _) _).alloc (by simp) _⟩
   ·have k2:bl<al:=by
     have:=(x.inj y).1
     by_cases z:al=bl
     ·exact absurd (this ⟨rfl,z⟩) e
     ·omega
    rw [cmp3_gt ((y.ltw x).1 (Or.inr ⟨rfl,k2⟩))]
    clear x y e k
    have k':(al == bl)=false:=by rw [beq_eq_false_iff_ne]; omega
    go_enter Tryz.func31,Tryz.ntmps31
    go_wp2
    go_ret
    exact ⟨rfl,((Below.refl _ _).alloc (Nat.le_refl _) _).alloc (by simp) _⟩
  ·by_cases k:ah<bh
   ·rw [cmp3_lt ((x.ltw y).1 (Or.inl k))]
    clear x y e
    have k':(ah == bh)=false:=by rw [beq_eq_false_iff_ne]; omega
    go_enter Tryz.func31,Tryz.ntmps31
    go_wp2
    go_ret
    exact ⟨rfl,((Below.refl _ _).alloc (Nat.le_refl _) _).alloc (by simp) _⟩
   ·have k2:bh<ah:=by omega
    rw [cmp3_gt ((y.ltw x).1 (Or.inl k2))]
    clear x y e k
    have k':(ah == bh)=false:=by rw [beq_eq_false_iff_ne]; omega
    go_enter Tryz.func31,Tryz.ntmps31
    go_wp2
    go_ret
    exact ⟨rfl,((Below.refl _ _).alloc (Nat.le_refl _) _).alloc (by simp) _⟩
theorem or_i64 (x y:Int) (n:Nat) (hn:n≤64) (k:Int) (hx:x % 18446744073709551616=k*2 ^ n % 18446744073709551616) (y0:0≤y) (y1:y<2 ^ n) :
  bits .or .i64 x y=s64 (k*2 ^ n+y):=by
 have e0:(18446744073709551616:Int)=2 ^ n*2 ^ (64 - n):=by rw [← Int.pow_add,show n+(64 - n)=64 by omega]; rfl
 obtain ⟨y,rfl⟩:=Int.eq_ofNat_of_zero_le y0
 have yl:y<2 ^ n:=by
  have:((2:Int) ^ n)=((2 ^ n:Nat):Int):=by norm_cast
  omega
 have p64:2 ^ n≤2 ^ 64:=Nat.pow_le_pow_right (by decide) hn
 have h2:(BitVec.ofInt 64 (y:Int)).toNat=y:=by
  rw [BitVec.ofInt_natCast,BitVec.toNat_ofNat]; exact Nat.mod_eq_of_lt (by omega)
 have h1:(BitVec.ofInt 64 x).toNat=(x % 18446744073709551616).toNat:=by
  rw [BitVec.toNat_ofInt]; rfl
 have h3:∃ m:Nat,(x % 18446744073709551616).toNat=m <<< n:=by
  have:x % 18446744073709551616=(k % 2 ^ (64 - n))*2 ^ n:=by
   rw [hx,e0,Int.mul_comm k,Int.mul_emod_mul_of_pos _ _ (Int.pow_pos (by decide)),Int.mul_comm]
  have k0:0≤k % 2 ^ (64 - n):=Int.emod_nonneg _ (by have:(0:Int)<2 ^ (64 - n):=Int.pow_pos (by decide); omega)
  obtain ⟨m,hm⟩:=Int.eq_ofNat_of_zero_le k0
  refine ⟨m,?_⟩
  rw [this,hm,Nat.shiftLeft_eq]
  norm_cast
 obtain ⟨m,hm⟩:=h3
 show IntKind.i64.wrap ((BitVec.ofInt 64 x ||| BitVec.ofInt 64 (y:Int)).toNat:Int)=_
 rw [BitVec.toNat_or,h1,h2,hm,← Nat.shiftLeft_add_eq_or_of_lt yl,← hm]
 rw [show ∀ z,IntKind.i64.wrap z=s64 z from fun z=>IntKind.wrap_i64 z]
 apply s64_mod
 omega
theorem or_u64 (x y:Int) (n:Nat) (hn:n≤64) (k:Int) (hx:x=k*2 ^ n % 18446744073709551616) (y0:0≤y) (y1:y<2 ^ n) :
  bits .or .u64 y x=y+x:=by
 have e0:(18446744073709551616:Int)=2 ^ n*2 ^ (64 - n):=by rw [← Int.pow_add,show n+(64 - n)=64 by omega]; rfl
 obtain ⟨y,rfl⟩:=Int.eq_ofNat_of_zero_le y0
 have yl:y<2 ^ n:=by
  have:((2:Int) ^ n)=((2 ^ n:Nat):Int):=by norm_cast
  omega
 have p64:2 ^ n≤2 ^ 64:=Nat.pow_le_pow_right (by decide) hn
 have x0:0≤x:=by omega
 have x1:x<18446744073709551616:=by omega
 have h3:∃ m:Nat,x=((m <<< n:Nat):Int):=by
  have:x=(k % 2 ^ (64 - n))*2 ^ n:=by
   rw [hx,e0,Int.mul_comm k,Int.mul_emod_mul_of_pos _ _ (Int.pow_pos (by decide)),Int.mul_comm]
  have k0:0≤k % 2 ^ (64 - n):=Int.emod_nonneg _ (by have:(0:Int)<2 ^ (64 - n):=Int.pow_pos (by decide); omega)
  obtain ⟨m,hm⟩:=Int.eq_ofNat_of_zero_le k0
  refine ⟨m,?_⟩
  rw [this,hm,Nat.shiftLeft_eq]
  norm_cast
 obtain ⟨m,hm⟩:=h3
 rw [hm,bits_or_u64_nat y (m <<< n) (by omega) (by omega),Nat.or_comm,← Nat.shiftLeft_add_eq_or_of_lt yl]
 omega
theorem pow_nat (n:Int):(2:Int) ^ n.toNat=((2 ^ n.toNat:Nat):Int):=by norm_cast
theorem up_num {ah al a n:Int} (x:IsW ah al a) (n0:0≤n) (n1:n≤63) :
  IsW (bits .or .i64 (wrap64 (ah*2 ^ n.toNat)) (wrap64 (al / 2 ^ (64 - n).toNat))) (IntKind.u64.wrap (al*2 ^ n.toNat)) (w128 (a*2 ^ n.toNat)):=by
 have h:=pq_of n n0 (by omega)
 have u:=h.isW_up x
 have l1:=h.up_lt al x.l1
 have l0:=(h.up al x.l0).2
 have p63:(2:Int) ^ n.toNat≤9223372036854775808:=by
  rw [pow_nat]
  have:2 ^ n.toNat≤2 ^ 63:=Nat.pow_le_pow_right (by decide) (by omega)
  omega
 rw [wrapi,wrapi,wrapu]
 rw [show s64 (al / 2 ^ (64 - n).toNat)=al / 2 ^ (64 - n).toNat by unfold s64; omega]
 rw [or_i64 (s64 (ah*2 ^ n.toNat)) (al / 2 ^ (64 - n).toNat) n.toNat (by omega) ah (by unfold s64; omega) l0 l1]
 exact u
theorem up_low (ah al a n:Int) (x:IsW ah al a) (n0:0≤n) (n1:n≤63) (w:World) :
  Calls Tryz.prog 141 #[wv ah al,.int .i64 n] w (RetW (w128 (a*2 ^ n.toNat)) w):=by
 have hn:=Lib.hid (up_num x n0 n1)
 have x0:=x.l0; have x1:=x.l1
 clear x
 go_enter Tryz.func141,Tryz.ntmps141
 go_wp2
 go_region
 go_wp2
 refine bodyPost_ret (v:=wv (bits BinOp.or IntKind.i64 (wrap64 (ah*2 ^ n.toNat)) (wrap64 (al / 2 ^ (64 - n).toNat))) (IntKind.u64.wrap (al*2 ^ n.toNat))) (by simp [results,Tryz.results141,go_sem]) rfl ⟨_,_,rfl,hn.out,?_⟩
 exact b_drew (b_alloc (b_alloc (Below.refl _ _)))
theorem up_high (ah al a n:Int) (x:IsW ah al a) (n0:64≤n) (n1:n≤127) (w:World) :
  Calls Tryz.prog 141 #[wv ah al,.int .i64 n] w (RetW (w128 (a*2 ^ n.toNat)) w):=by
 have hn:=isW_upHigh x (2 ^ (n - 64).toNat)
 rw [← pow_high n n0,s64_mod _ (al*2 ^ (n - 64).toNat % 18446744073709551616) (by omega),← wrapu,← wrapi] at hn
 go_enter Tryz.func141,Tryz.ntmps141
 go_wp2
 refine bodyPost_ret (v:=wv (wrap64 (IntKind.u64.wrap (al*2 ^ (n - 64).toNat))) 0) (by simp [results,Tryz.results141,go_sem]) rfl ⟨_,_,rfl,hn,?_⟩
 exact b_alloc (b_alloc (Below.refl _ _))
theorem down_num {ah al a n:Int} (x:IsW ah al a) (n0:0≤n) (n1:n≤63) :
  IsW (ah / 2 ^ n.toNat) (bits .or .u64 (al / 2 ^ n.toNat) (IntKind.u64.wrap (IntKind.u64.wrap ah*2 ^ (64 - n).toNat))) (a / 2 ^ n.toNat):=by
 have h:=pq_of n n0 (by omega)
 have u:=h.down x
 have h':Pq (2 ^ (64 - n).toNat) (2 ^ n.toNat):=⟨h.q0,h.p0,by rw [Int.mul_comm]; exact h.e⟩
 have l0:=(h'.up al x.l0).2
 have l1:=h'.up_lt al x.l1
 have e:IntKind.u64.wrap (IntKind.u64.wrap ah*2 ^ (64 - n).toNat)=ah*2 ^ (64 - n).toNat % 18446744073709551616:=by
  rw [wrapu,wrapu,Int.mul_emod,Int.emod_emod,← Int.mul_emod]
 rw [e,or_u64 _ (al / 2 ^ n.toNat) (64 - n).toNat (by omega) ah rfl l0 l1]
 exact u
theorem down_low (ah al a n:Int) (x:IsW ah al a) (n0:0≤n) (n1:n≤63) (w:World) :
  Calls Tryz.prog 142 #[wv ah al,.int .i64 n] w (RetW (a / 2 ^ n.toNat) w):=by
 have hn:=Lib.hid (down_num x n0 n1)
 have x0:=x.l0; have x1:=x.l1
 clear x
 go_enter Tryz.func142,Tryz.ntmps142
 go_wp2
 go_region
 go_wp2
 refine bodyPost_ret (v:=wv (ah / 2 ^ n.toNat) (bits BinOp.or IntKind.u64 (al / 2 ^ n.toNat) (IntKind.u64.wrap (IntKind.u64.wrap ah*2 ^ (64 - n).toNat)))) (by simp [results,Tryz.results142,go_sem]) rfl ⟨_,_,rfl,hn.out,?_⟩
 exact b_drew (b_alloc (b_alloc (Below.refl _ _)))
theorem down_high (ah al a n:Int) (x:IsW ah al a) (n0:64≤n) (n1:n≤127) (w:World) :
  Calls Tryz.prog 142 #[wv ah al,.int .i64 n] w (RetW (a / 2 ^ n.toNat) w):=by
 obtain ⟨e,e0,e1⟩:=downHigh x (2 ^ (n - 64).toNat) (by have:(0:Int)<2 ^ (n - 64).toNat:=Int.pow_pos (by decide); omega)
 rw [← pow_high n n0] at e
 have E:=Lib.hid e; clear e
 go_enter Tryz.func142,Tryz.ntmps142
 go_wp2_with (go_at_call 95; refine (of_any _ e0 e1 _).mono ?_; rintro e w' ⟨rh,rl,rfl,hr,hb⟩; obtain ⟨hc,hf⟩:=bcell hb)
 refine bodyPost_ret (v:=wv rh rl) (by simp [results,Tryz.results142,go_sem,hc]) rfl ⟨_,_,rfl,by rw [E.out]; exact hr,?_⟩
 exact b_set (b_set (b_trans (b_alloc (b_alloc (Below.refl _ _))) hb) (Nat.le_add_right _ _)) (Nat.le_add_right _ _)
theorem up_any (ah al a n:Int) (x:IsW ah al a) (n0:0≤n) (n1:n≤127) (w:World) :
  Calls Tryz.prog 141 #[wv ah al,.int .i64 n] w (RetW (w128 (a*2 ^ n.toNat)) w):=by
 by_cases h:n≤63
 ·exact up_low ah al a n x n0 h w
 ·exact up_high ah al a n x (by omega) n1 w
theorem down_any (ah al a n:Int) (x:IsW ah al a) (n0:0≤n) (n1:n≤127) (w:World) :
  Calls Tryz.prog 142 #[wv ah al,.int .i64 n] w (RetW (a / 2 ^ n.toNat) w):=by
 by_cases h:n≤63
 ·exact down_low ah al a n x n0 h w
 ·exact down_high ah al a n x (by omega) n1 w
end Go.Proofs.YthnofhjgfhapiaaGreatDoor
namespace Go.Proofs.YthnofhjgfhapiaaGreatDoor
structure DI (u b hi lo r p:Int):Prop where
 h0:0≤hi
 h1:hi≤18446744073709551615
 l0:0≤lo
 l1:lo≤18446744073709551615
 r0:0≤r
 r1:r<b
 ex:∃ q S P:Int,hi*18446744073709551616+lo=S*P+q∧P*p=340282366920938463463374607431768211456∧0≤q∧q<P∧0≤S∧S<p∧u=(q*b+r)*p+S
theorem di_start {u b hi lo:Int} (b0:1≤b) (h0:0≤hi) (h1:hi≤18446744073709551615) (l0:0≤lo) (l1:lo≤18446744073709551615) (e:hi*18446744073709551616+lo=u) :
  DI u b hi lo 0 340282366920938463463374607431768211456 :=
 ⟨h0,h1,l0,l1,by omega,by omega,0,u,1,by omega,by omega,by omega,by omega,by omega,by omega,by omega⟩
theorem di_end {u b hi lo r:Int} (h:DI u b hi lo r 1) (b0:1≤b):hi*18446744073709551616+lo=u / b∧r=u % b:=by
 obtain ⟨_,_,_,_,r0,r1,q,S,P,e1,e2,q0,q1,s0,s1,e3⟩:=h
 obtain rfl:S=0:=by omega
 have e4:u=r+b*q:=by rw [e3,Int.mul_comm b q]; omega
 have e5:u / b=q:=by rw [e4,Int.add_mul_ediv_left _ _ (by omega),Int.ediv_eq_zero_of_lt r0 r1]; omega
 have e6:u % b=r:=by rw [e4,Int.add_mul_emod_self_left,Int.emod_eq_of_lt r0 r1]
 rw [e5,e6]
 exact ⟨by omega,rfl⟩
theorem di_step {u b hi lo r p:Int} (h:DI u b hi lo r (2*p)) (p0:1≤p) :
  (b≤2*r+hi / 9223372036854775808→DI u b (2*hi % 18446744073709551616+lo / 9223372036854775808) (2*lo % 18446744073709551616+1) (2*r+hi / 9223372036854775808 - b) p) ∧
  (2*r+hi / 9223372036854775808<b→DI u b (2*hi % 18446744073709551616+lo / 9223372036854775808) (2*lo % 18446744073709551616) (2*r+hi / 9223372036854775808) p):=by
 obtain ⟨h0,h1,l0,l1,r0,r1,q,S,P,e1,e2,q0,q1,s0,s1,e3⟩:=h
 have hS:p*(S / p)+S % p=S:=Int.mul_ediv_add_emod S p
 have t0:0≤S % p:=Int.emod_nonneg _ (by omega)
 have t1:S % p≤p - 1:=by have:=Int.emod_lt_of_pos S (show 0<p by omega); omega
 have c0:0≤S / p:=Int.ediv_nonneg s0 (by omega)
 have c1:S / p<2:=Int.ediv_lt_of_lt_mul (by omega) (by omega)
 generalize S / p=c at *
 generalize S % p=t at *
 have e2':P*p=170141183460469231731687303715884105728:=by
  rw [Int.mul_left_comm] at e2; omega
 have P0:1≤P:=by omega
 have tP:t*P≤(p - 1)*P:=Int.mul_le_mul_of_nonneg_right t1 (by omega)
 have tP2:(p - 1)*P=170141183460469231731687303715884105728 - P:=by rw [Int.sub_mul,Int.mul_comm p P,e2']; omega
 have tP0:0≤t*P:=Int.mul_nonneg t0 (by omega)
 have eV:S*P=c*170141183460469231731687303715884105728+t*P:=by
  rw [← hS,Int.add_mul,Int.mul_comm p c,Int.mul_assoc,Int.mul_comm p P,e2']
 rw [eV] at e1
 have hbit:hi / 9223372036854775808=c:=by
  have:c=0∨c=1:=by omega
  rcases this with rfl | rfl <;> omega
 have eu:u=(2*q*b+(2*r+c))*p+t:=by
  rw [e3,← hS]
  have:(q*b+r)*(2*p)=(2*q*b+2*r)*p:=by
   rw [← Int.mul_assoc,Int.add_mul,Int.mul_comm r 2,Int.mul_assoc q b 2,Int.mul_comm b 2,← Int.mul_assoc q 2 b,Int.mul_comm q 2]
  rw [this,Int.add_mul,Int.add_mul,Int.add_mul (2*r) c p,Int.mul_comm p c]
  omega
 have eP:2*P*p=340282366920938463463374607431768211456:=by rw [Int.mul_assoc,e2']; omega
 have eT:t*(2*P)=2*(t*P):=by rw [Int.mul_left_comm]
 rw [hbit]
 constructor
 ·intro hc
  refine ⟨by omega,by omega,by omega,by omega,by omega,by omega,2*q+1,t,2*P,?_,eP,by omega,by omega,t0,by omega,?_⟩
  ·rw [eT]
   have:c=0∨c=1:=by omega
   rcases this with rfl | rfl <;> omega
  ·rw [eu,Int.add_mul (2*q) 1 b]
   congr 2
   omega
 ·intro hc
  refine ⟨by omega,by omega,by omega,by omega,by omega,by omega,2*q,t,2*P,?_,eP,by omega,by omega,t0,by omega,eu⟩
  rw [eT]
  have:c=0∨c=1:=by omega
  rcases this with rfl | rfl <;> omega
end Go.Proofs.YthnofhjgfhapiaaGreatDoor
namespace Go.Proofs.YthnofhjgfhapiaaGreatDoor
open Go.RowKit Go.Shelf
def RetWU (z r:Int) (w:World) (e:Ending) (w':World):Prop :=
 ∃ h l:Int,e=.returned (.tuple #[wv h l,.int .u64 r])∧IsW h l z∧Below w.heap.size w w'
theorem bits_or_comm (k:IntKind) (x y:Int):bits .or k x y=bits .or k y x:=by
 show k.wrap _=k.wrap _
 rw [BitVec.or_comm]
theorem or_low (k y:Int) (y0:0≤y) (y1:y≤1):bits .or .u64 (IntKind.u64.wrap (k*2)) y=2*k % 18446744073709551616+y:=by
 rw [bits_or_comm,or_u64 (IntKind.u64.wrap (k*2)) y 1 (by decide) k (by rw [wrapu]; rfl) y0 (by show y<2; omega),wrapu]
 omega
theorem di_walk {u b hi lo r p:Int} (h:DI u b hi lo r (2*p)) (p0:1≤p) (b1:b≤9223372036854775808) :
  (b≤bits .or .u64 (IntKind.u64.wrap (r*2)) (hi / 9223372036854775808)→DI u b (bits .or .u64 (IntKind.u64.wrap (hi*2)) (lo / 9223372036854775808)) (bits .or .u64 (IntKind.u64.wrap (lo*2)) 1) (IntKind.u64.wrap (bits .or .u64 (IntKind.u64.wrap (r*2)) (hi / 9223372036854775808) - b)) p) ∧
  (bits .or .u64 (IntKind.u64.wrap (r*2)) (hi / 9223372036854775808)<b→DI u b (bits .or .u64 (IntKind.u64.wrap (hi*2)) (lo / 9223372036854775808)) (IntKind.u64.wrap (lo*2)) (bits .or .u64 (IntKind.u64.wrap (r*2)) (hi / 9223372036854775808)) p):=by
 have st:=di_step h p0
 obtain ⟨h0,h1,l0,l1,r0,r1,_⟩:=h
 rw [or_low r _ (by omega) (by omega),or_low hi _ (by omega) (by omega),or_low lo 1 (by omega) (by omega),wrapu (lo*2),wrapu]
 rw [show 2*r % 18446744073709551616=2*r by omega,show lo*2=2*lo by omega]
 constructor
 ·intro hc
  rw [show (2*r+hi / 9223372036854775808 - b) % 18446744073709551616=2*r+hi / 9223372036854775808 - b by omega]
  exact st.1 hc
 ·exact st.2
theorem di_first {u b hi lo:Int} (h:DI u b hi lo 0 340282366920938463463374607431768211456) (b1:b≤9223372036854775808) :
  (b≤bits .or .u64 0 (hi / 9223372036854775808)→DI u b (bits .or .u64 (IntKind.u64.wrap (hi*2)) (lo / 9223372036854775808)) (bits .or .u64 (IntKind.u64.wrap (lo*2)) 1) (IntKind.u64.wrap (bits .or .u64 0 (hi / 9223372036854775808) - b)) (2 ^ 127)) ∧
  (bits .or .u64 0 (hi / 9223372036854775808)<b→DI u b (bits .or .u64 (IntKind.u64.wrap (hi*2)) (lo / 9223372036854775808)) (IntKind.u64.wrap (lo*2)) (bits .or .u64 0 (hi / 9223372036854775808)) (2 ^ 127)):=by
 have:=di_walk (p:=2 ^ 127) h (by decide) b1
 rw [show IntKind.u64.wrap (0*2)=0 by decide] at this
 exact this
theorem div_done {u b hi lo r:Int} (h:DI u b hi lo r 1) (b0:1≤b):IsW (wrap64 hi) lo (w128 (u / b))∧r=u % b:=by
 obtain ⟨e1,e2⟩:=di_end h b0
 refine ⟨?_,e2⟩
 obtain ⟨h0,h1,l0,l1,_⟩:=h
 have q:=isW_mk hi lo (u / b) e1
 rw [show lo / 18446744073709551616=0 by omega,show lo % 18446744073709551616=lo by omega,Int.add_zero] at q
 rw [wrapi]
 exact q
def DivJ (w:World) (ah al u b:Int) (a':Act) (w':World):Prop :=
 w'=(((w.alloc (Obj.cells #[.int .i64 ah,.int .u64 al] 96)).alloc (Obj.cells #[.int .i64 0,.int .u64 0] 96))).drew∧∃ (hi lo r:Int) (m:Nat) (u10 u11 u12 u13 u14 u15 u16 u17 u18 u19 u20 u21 u22 u23 u24 u25 u26 u27 u28 u29 u30 u31 u32 u33 u34 u35 u36 u37 u38:Value),a' = { tmps:=#[wv ah al,.int .u64 b,.pointer (some ⟨w.heap.size,0,none⟩),undef,.pointer (some ⟨w.heap.size+1,0,none⟩),.int .u64 0,.int .u64 hi,.int .u64 lo,.int .u64 r,.int .i64 m,u10,u11,u12,u13,u14,u15,u16,u17,u18,u19,u20,u21,u22,u23,u24,u25,u26,u27,u28,u29,u30,u31,u32,u33,u34,u35,u36,u37,u38,undef,undef,undef,undef,undef],defers:=[] }∧DI u b hi lo r (2 ^ m)∧1≤m∧m≤127
theorem divide_any (ah al A u b:Int) (x:IsW ah al A) (hu:u=A % 340282366920938463463374607431768211456) (b0:1≤b) (b1:b≤9223372036854775808) (w:World) :
  Calls Tryz.prog 206 #[wv ah al,.int .u64 b] w (RetWU (w128 (u / b)) (u % b) w):=by
 have x0:=x.h0; have x1:=x.h1; have x2:=x.l0; have x3:=x.l1
 have d0:DI u b (IntKind.u64.wrap ah) al 0 340282366920938463463374607431768211456:=di_start b0 (by rw [wrapu]; omega) (by rw [wrapu]; omega) x2 x3 (by rw [wrapu,hu,← x.e]; omega)
 have f0:=di_first d0 b1
 clear hu x
 go_enter Tryz.func206,Tryz.ntmps206
 go_wp2
 refine wp_scope_jumps 0 (DivJ w ah al u b) (fun a' _=>(intOf (a'.tmps.getD 9 undef)).toNat) rfl ?_ ?_
 ·go_wp2
  go_region
  go_wp2
  go_step3
  go_wp2
  ·have f1:=f0.1 (by assumption)
   go_step3
   refine ⟨rfl,?_⟩
   unfold DivJ
   exact ⟨rfl,_,_,_,127,_,_,_,_,_,_,_,_,_,_,_,_,_,_,_,_,_,_,_,_,_,_,_,_,_,_,_,_,_,rfl,f1,by decide,by decide⟩
  ·have f1:=f0.2 (by assumption)
   go_step3
   refine ⟨rfl,?_⟩
   unfold DivJ
   exact ⟨rfl,_,_,_,127,_,_,_,_,_,_,_,_,_,_,_,_,_,_,_,_,_,_,_,_,_,_,_,_,_,_,_,_,_,rfl,f1,by decide,by decide⟩
 ·rintro a' w' ⟨rfl,hi,lo,r,m,u10,u11,u12,u13,u14,u15,u16,u17,u18,u19,u20,u21,u22,u23,u24,u25,u26,u27,u28,u29,u30,u31,u32,u33,u34,u35,u36,u37,u38,rfl,dI,m1,m2⟩
  obtain ⟨k,rfl⟩:∃ k,m=k+1:=⟨m - 1,by omega⟩
  have g:=di_walk (p:=2 ^ k) (by rw [Int.pow_succ,Int.mul_comm] at dI; exact dI) (by have:(0:Int)<2 ^ k:=Int.pow_pos (by decide); omega) b1
  have z0:=dI.h0; have z1:=dI.h1; have z2:=dI.l0; have z3:=dI.l1
  have G:=Lib.hid g
  clear g f0 d0 dI
  by_cases kz:k=0
  ·subst kz
   go_wp2
   ·have dn:=div_done (G.out.1 (by assumption)) b0
    simp only [Exit.jump]
    refine bodyPost_ret (v:=.tuple #[wv (wrap64 (bits .or .u64 (IntKind.u64.wrap (hi*2)) (lo / 9223372036854775808))) (bits .or .u64 (IntKind.u64.wrap (lo*2)) 1),.int .u64 (IntKind.u64.wrap (bits .or .u64 (IntKind.u64.wrap (r*2)) (hi / 9223372036854775808) - b))]) (by simp [results,Tryz.results206,go_sem]) rfl ⟨_,_,by rw [← dn.2],dn.1,b_drew (b_alloc (b_alloc (Below.refl _ _)))⟩
   ·have dn:=div_done (G.out.2 (by assumption)) b0
    simp only [Exit.jump]
    refine bodyPost_ret (v:=.tuple #[wv (wrap64 (bits .or .u64 (IntKind.u64.wrap (hi*2)) (lo / 9223372036854775808))) (IntKind.u64.wrap (lo*2)),.int .u64 (bits .or .u64 (IntKind.u64.wrap (r*2)) (hi / 9223372036854775808))]) (by simp [results,Tryz.results206,go_sem]) rfl ⟨_,_,by rw [← dn.2],dn.1,b_drew (b_alloc (b_alloc (Below.refl _ _)))⟩
  ·go_wp2
   ·have dn:=G.out.1 (by assumption)
    go_step3
    refine ⟨rfl,?_,?_⟩
    ·unfold DivJ
     exact ⟨rfl,_,_,_,k,_,_,_,_,_,_,_,_,_,_,_,_,_,_,_,_,_,_,_,_,_,_,_,_,_,_,_,_,_,rfl,dn,by omega,by omega⟩
    ·simp [intOf]
   ·have dn:=G.out.2 (by assumption)
    go_step3
    refine ⟨rfl,?_,?_⟩
    ·unfold DivJ
     exact ⟨rfl,_,_,_,k,_,_,_,_,_,_,_,_,_,_,_,_,_,_,_,_,_,_,_,_,_,_,_,_,_,_,_,_,_,rfl,dn,by omega,by omega⟩
    ·simp [intOf]
end Go.Proofs.YthnofhjgfhapiaaGreatDoor

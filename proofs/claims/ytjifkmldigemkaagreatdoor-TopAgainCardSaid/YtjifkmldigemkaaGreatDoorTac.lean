import Derived.Test.YtjifkmldigemkaaGreatDoorTaa
namespace Go.Proofs.YtjifkmldigemkaaGreatDoor
structure DI (u b hi lo r p:Int):Prop where
 h0:0≤hi
 h1:hi≤18446744073709551615
 l0:0≤lo
 l1:lo≤18446744073709551615
 r0:0≤r
 r1:r<b
 ex:∃ q S P:Int,hi*18446744073709551616+lo=S*P+q∧P*p=340282366920938463463374607431768211456∧0≤q∧q<P∧0≤S∧S<p∧u=(q*b+r)*p+S
theorem di_start {u b hi lo:Int} (b0:1≤b) (h0:0≤hi) (h1:hi≤18446744073709551615) (l0:0≤lo) (l1:lo≤18446744073709551615) (e:hi*18446744073709551616+lo=u) :
  DI u b hi lo 0 340282366920938463463374607431768211456 :=
 ⟨h0,h1,l0,l1,by omega,by omega,0,u,1,by omega,by omega,by omega,by omega,by omega,by omega,by omega⟩
theorem di_end {u b hi lo r:Int} (h:DI u b hi lo r 1) (b0:1≤b):hi*18446744073709551616+lo=u / b∧r=u % b:=by
 obtain ⟨_,_,_,_,r0,r1,q,S,P,e1,e2,q0,q1,s0,s1,e3⟩:=h
 obtain rfl:S=0:=by omega
 have e4:u=r+b*q:=by rw [e3,Int.mul_comm b q]; omega
 have e5:u / b=q:=by rw [e4,Int.add_mul_ediv_left _ _ (by omega),Int.ediv_eq_zero_of_lt r0 r1]; omega
 have e6:u % b=r:=by rw [e4,Int.add_mul_emod_self_left,Int.emod_eq_of_lt r0 r1]
 rw [e5,e6]
 exact ⟨by omega,rfl⟩
theorem di_step {u b hi lo r p:Int} (h:DI u b hi lo r (2*p)) (p0:1≤p) :
  (b≤2*r+hi / 9223372036854775808→DI u b (2*hi % 18446744073709551616+lo / 9223372036854775808) (2*lo % 18446744073709551616+1) (2*r+hi / 9223372036854775808 - b) p) ∧
  (2*r+hi / 9223372036854775808<b→DI u b (2*hi % 18446744073709551616+lo / 9223372036854775808) (2*lo % 18446744073709551616) (2*r+hi / 9223372036854775808) p):=by
 obtain ⟨h0,h1,l0,l1,r0,r1,q,S,P,e1,e2,q0,q1,s0,s1,e3⟩:=h
 have hS:p*(S / p)+S % p=S:=Int.mul_ediv_add_emod S p
 have t0:0≤S % p:=Int.emod_nonneg _ (by omega)
 have t1:S % p≤p - 1:=by have:=Int.emod_lt_of_pos S (show 0<p by omega); omega
 have c0:0≤S / p:=Int.ediv_nonneg s0 (by omega)
 have c1:S / p<2:=Int.ediv_lt_of_lt_mul (by omega) (by omega)
 generalize S / p=c at *
 generalize S % p=t at *
 have e2':P*p=170141183460469231731687303715884105728:=by
  rw [Int.mul_left_comm] at e2; omega
 have P0:1≤P:=by omega
 have tP:t*P≤(p - 1)*P:=Int.mul_le_mul_of_nonneg_right t1 (by omega)
 have tP2:(p - 1)*P=170141183460469231731687303715884105728 - P:=by rw [Int.sub_mul,Int.mul_comm p P,e2']; omega
 have tP0:0≤t*P:=Int.mul_nonneg t0 (by omega)
 have eV:S*P=c*170141183460469231731687303715884105728+t*P:=by
  rw [← hS,Int.add_mul,Int.mul_comm p c,Int.mul_assoc,Int.mul_comm p P,e2']
 rw [eV] at e1
 have hbit:hi / 9223372036854775808=c:=by
  have:c=0∨c=1:=by omega
  rcases this with rfl | rfl <;> omega
 have eu:u=(2*q*b+(2*r+c))*p+t:=by
  rw [e3,← hS]
  have:(q*b+r)*(2*p)=(2*q*b+2*r)*p:=by
   rw [← Int.mul_assoc,Int.add_mul,Int.mul_comm r 2,Int.mul_assoc q b 2,Int.mul_comm b 2,← Int.mul_assoc q 2 b,Int.mul_comm q 2]
  rw [this,Int.add_mul,Int.add_mul,Int.add_mul (2*r) c p,Int.mul_comm p c]
  omega
 have eP:2*P*p=340282366920938463463374607431768211456:=by rw [Int.mul_assoc,e2']; omega
 have eT:t*(2*P)=2*(t*P):=by rw [Int.mul_left_comm]
 rw [hbit]
 constructor
 ·intro hc
  refine ⟨by omega,by omega,by omega,by omega,by omega,by omega,2*q+1,t,2*P,?_,eP,by omega,by omega,t0,by omega,?_⟩
  ·rw [eT]
   have:c=0∨c=1:=by omega
   rcases this with rfl | rfl <;> omega
  ·rw [eu,Int.add_mul (2*q) 1 b]
   congr 2
   omega
 ·intro hc
  refine ⟨by omega,by omega,by omega,by omega,by omega,by omega,2*q,t,2*P,?_,eP,by omega,by omega,t0,by omega,eu⟩
  rw [eT]
  have:c=0∨c=1:=by omega
  rcases this with rfl | rfl <;> omega
end Go.Proofs.YtjifkmldigemkaaGreatDoor

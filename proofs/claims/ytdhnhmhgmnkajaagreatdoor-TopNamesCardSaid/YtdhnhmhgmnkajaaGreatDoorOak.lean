import Derived.LoopN
import Derived.Test.YtdhnhmhgmnkajaaGreatDoorOae
import Derived.Test.YtdhnhmhgmnkajaaGreatDoorOag
import Derived.Test.YtdhnhmhgmnkajaaGreatDoorOab
import Derived.Test.YtdhnhmhgmnkajaaGreatDoorOaa
import Derived.Laws.Cover1
import Derived.ChangeKeysEq
import Derived.Test.YtdhnhmhgmnkajaaGreatDoorOac
import Derived.Deep.LoopGhost
import Derived.Test.YtdhnhmhgmnkajaaGreatDoorOad
import Derived.Lib.SmallJoins
import Derived.Maps.AppendAt
import Derived.Laws.OwnMore
import Derived.Deep.AppendLies
import Derived.Test.YtdhnhmhgmnkajaaGreatDoorOaf
import Derived.Orders
import Derived.RegionTactic
import Derived.Below
set_option maxHeartbeats 4000000
set_option maxRecDepth 10000
namespace Go.Proofs.YtdhnhmhgmnkajaaGreatDoor
open Go.RowKit Go.Shelf
def se (e:Nat→Int):Int:=if e 0≠0 then e 0 else if e 1≠0 then e 1 else if e 2≠0 then e 2 else if e 3≠0 then e 3 else if e 4≠0 then e 4 else e 5
def sz (x e:Nat→Int):Nat→Int:=fun i=>if se e=0 then x i else 0
theorem se_all {e:Nat→Int} (h:∀ i,i<6→e i=0):se e=0:=by
 have h0:=h 0 (by decide); have h1:=h 1 (by decide); have h2:=h 2 (by decide); have h3:=h 3 (by decide); have h4:=h 4 (by decide); have h5:=h 5 (by decide)
 simp [se,h0,h1,h2,h3,h4,h5]
theorem se_first {e:Nat→Int} {k:Nat} (hk:k<6) (h:∀ i,i<k→e i=0) (n:¬ e k=0):se e=e k:=by
 rcases seven (Nat.le_of_lt hk) with rfl | rfl | rfl | rfl | rfl | rfl | rfl
 ·exact absurd hk (by decide)
 ·simp [se,n]
 ·simp [se,n,h 0 (by decide)]
 ·simp [se,n,h 0 (by decide),h 1 (by decide)]
 ·simp [se,n,h 0 (by decide),h 1 (by decide),h 2 (by decide)]
 ·simp [se,n,h 0 (by decide),h 1 (by decide),h 2 (by decide),h 3 (by decide)]
 ·simp [se,h 0 (by decide),h 1 (by decide),h 2 (by decide),h 3 (by decide),h 4 (by decide)]
theorem se_zero {e:Nat→Int} (h:se e=0):∀ i,i<6→e i=0:=fun i hi=>Classical.byContradiction fun n=>by
 unfold se at h
 repeat (split at h; · contradiction)
 simp at *
 rcases seven (Nat.le_of_lt hi) with rfl | rfl | rfl | rfl | rfl | rfl | rfl <;> simp_all
theorem sz_all {x e:Nat→Int} (h:se e=0):sv (sz x e)=sv x:=by simp only [sv,sz,if_pos h]
theorem sz_no {x e:Nat→Int} (h:¬ se e=0):sv (sz x e)=sv (fun _=>0):=by simp only [sv,sz,if_neg h]
theorem sz_end {u v:Value} {c d:Int} (h:u=v) (k:c=d):Ending.returned (.tuple #[u,.int .i64 c])=Ending.returned (.tuple #[v,.int .i64 d]):=by subst h; subst k; rfl
theorem neb_of {e:Int} (h:¬ e=0):(e != 0)=true:=by simpa using h
def AJ (W:World) (A B R Q:Nat) (a b x:Nat→Int) (k:Nat) (w:World):Prop :=
 Below W.heap.size W w∧SC w A a∧SC w B b∧SC w R (fun _=>0)∧SF w R∧SC w Q (fun i=>if i<k then x i else 0)∧SF w Q
theorem aj_keep {W:World} {A B R Q:Nat} {a b x:Nat→Int} {k:Nat} {w w':World} (h:AJ W A B R Q a b x k w) (hb:Below w.heap.size w w'):AJ W A B R Q a b x k w' :=
 ⟨b_trans h.1 hb,sc_keep hb h.2.1,sc_keep hb h.2.2.1,sc_keep hb h.2.2.2.1,sf_keep hb h.2.2.2.1 h.2.2.2.2.1,sc_keep hb h.2.2.2.2.2.1,sf_keep hb h.2.2.2.2.2.1 h.2.2.2.2.2.2⟩
theorem aj_put {W:World} {A B R Q:Nat} {a b x:Nat→Int} {k:Nat} {w:World} (h:AJ W A B R Q a b x k w) (hk:k<6) (q:W.heap.size≤Q) (qa:Q≠A) (qb:Q≠B) (qr:Q≠R):AJ W A B R Q a b x (k+1) (w.setCell ⟨Q,k,none⟩ (.int .i64 (x k))):=by
 obtain ⟨h0,h1,h2,h3,h4,h5,h6⟩:=h
 refine ⟨b_set h0 q,sc_set h1 qa,sc_set h2 qb,sc_set h3 qr,sf_set h4,?_,sf_set h6⟩
 intro i hi
 by_cases e:i=k
 ·subst e
  rw [World.cell?_setCell_same' _ _ _ (by rw [h5 i hi]; rfl)]
  dsimp only
  rw [if_pos (by omega)]
 ·rw [World.cell?_setCell_other _ _ _ _ (by intro c; simp at c <;> omega)]
  rw [h5 i hi]
  dsimp only
  by_cases d:i<k
  ·rw [if_pos d,if_pos (by omega)]
  ·rw [if_neg d,if_neg (by omega)]
theorem bb_set {W w:World} {R:Nat} {v0 v1 v2 v3 v4 v5:Value} (h:Below W.heap.size W w) (q:W.heap.size≤R):Below W.heap.size W ((((((w.setCell ⟨R,0,none⟩ v0).setCell ⟨R,1,none⟩ v1).setCell ⟨R,2,none⟩ v2).setCell ⟨R,3,none⟩ v3).setCell ⟨R,4,none⟩ v4).setCell ⟨R,5,none⟩ v5) :=
 b_set (b_set (b_set (b_set (b_set (b_set h q) q) q) q) q) q
theorem add_sym_bad (a b:Nat→Int) (ha:I6 a) (hb:I6 b) (c:¬ (F6 a∧F6 b)) (w:World) :
  Calls Tryz.prog 103 #[sv a,sv b] w (RetV (.tuple #[sv (fun _=>0),.int .i64 1]) w):=by
 have kA:SC (((w.alloc (Obj.cells #[.int .i64 (a 0),.int .i64 (a 1),.int .i64 (a 2),.int .i64 (a 3),.int .i64 (a 4),.int .i64 (a 5)] 45)).alloc (Obj.cells #[.int .i64 (b 0),.int .i64 (b 1),.int .i64 (b 2),.int .i64 (b 3),.int .i64 (b 4),.int .i64 (b 5)] 45)).alloc (Obj.cells #[.int .i64 0,.int .i64 0,.int .i64 0,.int .i64 0,.int .i64 0,.int .i64 0] 45)) w.heap.size a:=sc_alloc (sc_alloc (sc_new rfl))
 have kB:SC (((w.alloc (Obj.cells #[.int .i64 (a 0),.int .i64 (a 1),.int .i64 (a 2),.int .i64 (a 3),.int .i64 (a 4),.int .i64 (a 5)] 45)).alloc (Obj.cells #[.int .i64 (b 0),.int .i64 (b 1),.int .i64 (b 2),.int .i64 (b 3),.int .i64 (b 4),.int .i64 (b 5)] 45)).alloc (Obj.cells #[.int .i64 0,.int .i64 0,.int .i64 0,.int .i64 0,.int .i64 0,.int .i64 0] 45)) (w.heap.size+1) b:=sc_alloc (sc_new (w:=(w.alloc (Obj.cells #[.int .i64 (a 0),.int .i64 (a 1),.int .i64 (a 2),.int .i64 (a 3),.int .i64 (a 4),.int .i64 (a 5)] 45))) (m:=b) (t:=45) (by simp))
 have kR:SC (((w.alloc (Obj.cells #[.int .i64 (a 0),.int .i64 (a 1),.int .i64 (a 2),.int .i64 (a 3),.int .i64 (a 4),.int .i64 (a 5)] 45)).alloc (Obj.cells #[.int .i64 (b 0),.int .i64 (b 1),.int .i64 (b 2),.int .i64 (b 3),.int .i64 (b 4),.int .i64 (b 5)] 45)).alloc (Obj.cells #[.int .i64 0,.int .i64 0,.int .i64 0,.int .i64 0,.int .i64 0,.int .i64 0] 45)) (w.heap.size+1+1) (fun _=>0):=sc_new (w:=((w.alloc (Obj.cells #[.int .i64 (a 0),.int .i64 (a 1),.int .i64 (a 2),.int .i64 (a 3),.int .i64 (a 4),.int .i64 (a 5)] 45)).alloc (Obj.cells #[.int .i64 (b 0),.int .i64 (b 1),.int .i64 (b 2),.int .i64 (b 3),.int .i64 (b 4),.int .i64 (b 5)] 45))) (m:=fun _=>0) (t:=45) (by simp)
 have kF:SF (((w.alloc (Obj.cells #[.int .i64 (a 0),.int .i64 (a 1),.int .i64 (a 2),.int .i64 (a 3),.int .i64 (a 4),.int .i64 (a 5)] 45)).alloc (Obj.cells #[.int .i64 (b 0),.int .i64 (b 1),.int .i64 (b 2),.int .i64 (b 3),.int .i64 (b 4),.int .i64 (b 5)] 45)).alloc (Obj.cells #[.int .i64 0,.int .i64 0,.int .i64 0,.int .i64 0,.int .i64 0,.int .i64 0] 45)) (w.heap.size+1+1):=sf_new (w:=((w.alloc (Obj.cells #[.int .i64 (a 0),.int .i64 (a 1),.int .i64 (a 2),.int .i64 (a 3),.int .i64 (a 4),.int .i64 (a 5)] 45)).alloc (Obj.cells #[.int .i64 (b 0),.int .i64 (b 1),.int .i64 (b 2),.int .i64 (b 3),.int .i64 (b 4),.int .i64 (b 5)] 45))) (t:=45) (by simp)
 have hB0:Below w.heap.size w (((w.alloc (Obj.cells #[.int .i64 (a 0),.int .i64 (a 1),.int .i64 (a 2),.int .i64 (a 3),.int .i64 (a 4),.int .i64 (a 5)] 45)).alloc (Obj.cells #[.int .i64 (b 0),.int .i64 (b 1),.int .i64 (b 2),.int .i64 (b 3),.int .i64 (b 4),.int .i64 (b 5)] 45)).alloc (Obj.cells #[.int .i64 0,.int .i64 0,.int .i64 0,.int .i64 0,.int .i64 0,.int .i64 0] 45)):=b_alloc (b_alloc (b_alloc (Below.refl _ _)))
 by_cases ca:F6 a
 ·have ea:=Lib.hid (f6b_yes ca)
  have eb:=Lib.hid (f6b_no (fun h=>c ⟨ca,h⟩))
  clear ca c
  go_enter Tryz.func103,Tryz.ntmps103
  have l6:=sc_six kA
  go_wp2_with fail
  refine (fits_sym a ha _).mono ?_
  rintro e1 w1 ⟨rfl,hb9⟩
  clear l6
  rw [ea.out]
  replace kF:=sf_keep hb9 kR kF
  replace kR:=sc_keep hb9 kR
  replace kA:=sc_keep hb9 kA
  replace kB:=sc_keep hb9 kB
  replace hB0:=b_trans hB0 hb9
  clear hb9
  have l6:=sc_six kB
  go_wp2_with fail
  refine (fits_sym b hb _).mono ?_
  rintro e2 w2 ⟨rfl,hb9⟩
  clear l6
  rw [eb.out]
  replace kF:=sf_keep hb9 kR kF
  replace kR:=sc_keep hb9 kR
  replace kA:=sc_keep hb9 kA
  replace kB:=sc_keep hb9 kB
  replace hB0:=b_trans hB0 hb9
  clear hb9
  clear kA kB
  replace kR:=sc_six kR
  replace kF:=sf_six kF
  go_wp2
  obtain ⟨r0,r1,r2,r3,r4,r5⟩:=kR
  exact bodyPost_ret (v:=.tuple #[sv (fun _=>0),.int .i64 1]) (by simp [results,Tryz.results103,go_sem,r0,r1,r2,r3,r4,r5]) rfl ⟨rfl,bb_set hB0 (by omega)⟩
 ·have ea:=Lib.hid (f6b_no ca)
  clear ca c
  go_enter Tryz.func103,Tryz.ntmps103
  have l6:=sc_six kA
  go_wp2_with fail
  refine (fits_sym a ha _).mono ?_
  rintro e1 w1 ⟨rfl,hb9⟩
  clear l6
  rw [ea.out]
  replace kF:=sf_keep hb9 kR kF
  replace kR:=sc_keep hb9 kR
  replace kA:=sc_keep hb9 kA
  replace kB:=sc_keep hb9 kB
  replace hB0:=b_trans hB0 hb9
  clear hb9
  clear kA kB
  replace kR:=sc_six kR
  replace kF:=sf_six kF
  go_wp2
  obtain ⟨r0,r1,r2,r3,r4,r5⟩:=kR
  exact bodyPost_ret (v:=.tuple #[sv (fun _=>0),.int .i64 1]) (by simp [results,Tryz.results103,go_sem,r0,r1,r2,r3,r4,r5]) rfl ⟨rfl,bb_set hB0 (by omega)⟩
theorem add_sym_ok (a b x e:Nat→Int) (ha:I6 a) (hb:I6 b) (ca:F6 a) (cb:F6 b)
  (hc:∀ k,k<6→∀ w,Calls Tryz.prog 110 #[.int .i64 (a k),.int .i64 (b k)] w (RetV (.tuple #[.int .i64 (x k),.int .i64 (e k)]) w)) (w:World) :
  Calls Tryz.prog 103 #[sv a,sv b] w (RetV (.tuple #[sv (sz x e),.int .i64 (se e)]) w):=by
 have kA:SC (((w.alloc (Obj.cells #[.int .i64 (a 0),.int .i64 (a 1),.int .i64 (a 2),.int .i64 (a 3),.int .i64 (a 4),.int .i64 (a 5)] 45)).alloc (Obj.cells #[.int .i64 (b 0),.int .i64 (b 1),.int .i64 (b 2),.int .i64 (b 3),.int .i64 (b 4),.int .i64 (b 5)] 45)).alloc (Obj.cells #[.int .i64 0,.int .i64 0,.int .i64 0,.int .i64 0,.int .i64 0,.int .i64 0] 45)) w.heap.size a:=sc_alloc (sc_alloc (sc_new rfl))
 have kB:SC (((w.alloc (Obj.cells #[.int .i64 (a 0),.int .i64 (a 1),.int .i64 (a 2),.int .i64 (a 3),.int .i64 (a 4),.int .i64 (a 5)] 45)).alloc (Obj.cells #[.int .i64 (b 0),.int .i64 (b 1),.int .i64 (b 2),.int .i64 (b 3),.int .i64 (b 4),.int .i64 (b 5)] 45)).alloc (Obj.cells #[.int .i64 0,.int .i64 0,.int .i64 0,.int .i64 0,.int .i64 0,.int .i64 0] 45)) (w.heap.size+1) b:=sc_alloc (sc_new (w:=(w.alloc (Obj.cells #[.int .i64 (a 0),.int .i64 (a 1),.int .i64 (a 2),.int .i64 (a 3),.int .i64 (a 4),.int .i64 (a 5)] 45))) (m:=b) (t:=45) (by simp))
 have kR:SC (((w.alloc (Obj.cells #[.int .i64 (a 0),.int .i64 (a 1),.int .i64 (a 2),.int .i64 (a 3),.int .i64 (a 4),.int .i64 (a 5)] 45)).alloc (Obj.cells #[.int .i64 (b 0),.int .i64 (b 1),.int .i64 (b 2),.int .i64 (b 3),.int .i64 (b 4),.int .i64 (b 5)] 45)).alloc (Obj.cells #[.int .i64 0,.int .i64 0,.int .i64 0,.int .i64 0,.int .i64 0,.int .i64 0] 45)) (w.heap.size+1+1) (fun _=>0):=sc_new (w:=((w.alloc (Obj.cells #[.int .i64 (a 0),.int .i64 (a 1),.int .i64 (a 2),.int .i64 (a 3),.int .i64 (a 4),.int .i64 (a 5)] 45)).alloc (Obj.cells #[.int .i64 (b 0),.int .i64 (b 1),.int .i64 (b 2),.int .i64 (b 3),.int .i64 (b 4),.int .i64 (b 5)] 45))) (m:=fun _=>0) (t:=45) (by simp)
 have kF:SF (((w.alloc (Obj.cells #[.int .i64 (a 0),.int .i64 (a 1),.int .i64 (a 2),.int .i64 (a 3),.int .i64 (a 4),.int .i64 (a 5)] 45)).alloc (Obj.cells #[.int .i64 (b 0),.int .i64 (b 1),.int .i64 (b 2),.int .i64 (b 3),.int .i64 (b 4),.int .i64 (b 5)] 45)).alloc (Obj.cells #[.int .i64 0,.int .i64 0,.int .i64 0,.int .i64 0,.int .i64 0,.int .i64 0] 45)) (w.heap.size+1+1):=sf_new (w:=((w.alloc (Obj.cells #[.int .i64 (a 0),.int .i64 (a 1),.int .i64 (a 2),.int .i64 (a 3),.int .i64 (a 4),.int .i64 (a 5)] 45)).alloc (Obj.cells #[.int .i64 (b 0),.int .i64 (b 1),.int .i64 (b 2),.int .i64 (b 3),.int .i64 (b 4),.int .i64 (b 5)] 45))) (t:=45) (by simp)
 have hB0:Below w.heap.size w (((w.alloc (Obj.cells #[.int .i64 (a 0),.int .i64 (a 1),.int .i64 (a 2),.int .i64 (a 3),.int .i64 (a 4),.int .i64 (a 5)] 45)).alloc (Obj.cells #[.int .i64 (b 0),.int .i64 (b 1),.int .i64 (b 2),.int .i64 (b 3),.int .i64 (b 4),.int .i64 (b 5)] 45)).alloc (Obj.cells #[.int .i64 0,.int .i64 0,.int .i64 0,.int .i64 0,.int .i64 0,.int .i64 0] 45)):=b_alloc (b_alloc (b_alloc (Below.refl _ _)))
 have ea:=Lib.hid (f6b_yes ca)
 have eb:=Lib.hid (f6b_yes cb)
 clear ca cb
 go_enter Tryz.func103,Tryz.ntmps103
 have l6:=sc_six kA
 go_wp2_with fail
 refine (fits_sym a ha _).mono ?_
 rintro e1 w1 ⟨rfl,hb9⟩
 clear l6
 rw [ea.out]
 replace kF:=sf_keep hb9 kR kF
 replace kR:=sc_keep hb9 kR
 replace kA:=sc_keep hb9 kA
 replace kB:=sc_keep hb9 kB
 replace hB0:=b_trans hB0 hb9
 clear hb9
 have l6:=sc_six kB
 go_wp2_with fail
 refine (fits_sym b hb _).mono ?_
 rintro e2 w2 ⟨rfl,hb9⟩
 clear l6
 rw [eb.out]
 replace kF:=sf_keep hb9 kR kF
 replace kR:=sc_keep hb9 kR
 replace kA:=sc_keep hb9 kA
 replace kB:=sc_keep hb9 kB
 replace hB0:=b_trans hB0 hb9
 clear hb9
 clear ea eb ha hb
 have z1:=sc_lt kR
 have hj0:AJ w w.heap.size (w.heap.size+1) (w.heap.size+1+1) w2.heap.size a b x 0 (w2.alloc (Obj.cells #[.int .i64 0,.int .i64 0,.int .i64 0,.int .i64 0,.int .i64 0,.int .i64 0] 45)):=⟨b_alloc hB0,sc_alloc kA,sc_alloc kB,sc_alloc kR,sf_keep (b_alloc (Below.refl _ _)) kR kF,by rw [show (fun i=>if i<0 then x i else 0)=(fun _=>(0:Int)) from funext fun i=>if_neg (by omega)]; exact sc_new (w:=w2) (m:=fun _=>0) (t:=45) rfl,sf_new rfl⟩
 replace hj0:=Lib.hid hj0
 clear kA kB kR kF hB0
 go_wp2
 generalize w2.heap.size=Q at *
 go_loopw [19] (fun iv wr=>∃ k:Nat,k≤6∧iv=.int .i64 k∧Hid (AJ w w.heap.size (w.heap.size+1) (w.heap.size+1+1) Q a b x k wr)∧Hid (∀ i,i<k→e i=0)) (fun iv _=>6 - (intOf iv).toNat)
 case atStart=>exact ⟨0,by decide,rfl,hj0,Lib.hid (fun i hi=>absurd hi (by omega))⟩
 case round =>
  obtain ⟨k,hk,rfl,hj,hz⟩:=hrel
  clear hj0
  by_cases c:k=6
  ·subst c
   have E1:=Lib.hid (se_all hz.out)
   obtain ⟨s0,_,_,s3,s4,s5,_⟩:=hj.out
   replace s3:=sc_six s3
   replace s4:=sf_six s4
   replace s5:SC6 wr Q x:=sc_six (fun i hi=>by have:=s5 i hi; dsimp only at this; rwa [if_pos hi] at this)
   go_wp2
   obtain ⟨r0,r1,r2,r3,r4,r5⟩:=s3
   refine bodyPost_ret (v:=.tuple #[sv x,.int .i64 0]) (by simp [results,Tryz.results103,go_sem,r0,r1,r2,r3,r4,r5]) rfl ⟨sz_end (sz_all E1.out).symm E1.out.symm,?_⟩
   exact bb_set s0 (by omega)
  replace hk:k<6:=by omega
  clear c
  have hk0:(0:Int)≤(k:Int):=by omega
  have hk6:(k:Int)<6:=by omega
  have kA:=hj.out.2.1
  have kB:=hj.out.2.2.1
  go_wp2
  refine region_late_k [23,24,25,26,27,28,29,22,30,31] 9 (fun i_=>match i_ with | 0=>.int .i64 ((k:Nat):Int) | 1=>.pointer (some ⟨w.heap.size,k,none⟩) | 2=>.int .i64 (a k) | 3=>.int .i64 ((k:Nat):Int) | 4=>.pointer (some ⟨w.heap.size+1,k,none⟩) | 5=>.int .i64 (b k) | 6=>.tuple #[.int .i64 (x k),.int .i64 (e k)] | 7=>.tuple #[.int .i64 (x k),.int .i64 (e k)] | 8=>.int .i64 (x k) | 9=>.int .i64 (e k) | _=>undef) (fun f=>(f.put (some 8) (.int .i64 (x k))).put (some 9) (.int .i64 (e k))) (fun U_=>Below wr.heap.size wr U_) (fun i_ X_ U_=>match i_ with | 0=>X_=.int .i64 ((k:Nat):Int) | 1=>X_=.pointer (some ⟨w.heap.size,k,none⟩) | 2=>X_=.int .i64 (a k) | 3=>X_=.int .i64 ((k:Nat):Int) | 4=>X_=.pointer (some ⟨w.heap.size+1,k,none⟩) | 5=>X_=.int .i64 (b k) | 6=>X_=.tuple #[.int .i64 (x k),.int .i64 (e k)] | 7=>X_=.tuple #[.int .i64 (x k),.int .i64 (e k)] | 8=>X_=.int .i64 (x k) | 9=>X_=.int .i64 (e k) | _=>True) (fun i_=>false) (by kernel_rfl) (by kernel_rfl) (by kernel_rfl) (by kernel_rfl) ?_ (fun i x w hi ha h=>by cases ha) ?_ ?_ ?_ ?_
  ·refine swp (upS (upS (upS (upS (upS (upS (upS (upS (upS (upS up0 ?_) ?_) ?_) ?_) ?_) ?_) ?_) ?_) ?_) ?_)
   all_goals exact fun _ _ _ h _=>h
  ·refine upS (upS (upS (upS (upS (upS (upS (upS (upS (upS up0 ?_) ?_) ?_) ?_) ?_) ?_) ?_) ?_) ?_) ?_
   all_goals intro v f w' hb hv hB hd
   ·have b7:f.tmps[7]?=some (.int .i64 ((k:Nat):Int)):=(hb 7 (by decide)).trans rfl
    clear hb hv hd
    refine wpOp_step rfl fun K hK=>?_
    go_simp
    exact hK _ _ ⟨_,rfl,Below.refl _ _,rfl,fun h=>absurd h (by decide)⟩
   ·have b2:f.tmps[2]?=some (.pointer (some ⟨w.heap.size,0,none⟩)):=(hb 2 (by decide)).trans rfl
    have d0:=got (hv 0 23 rfl) (hd 0 (by kernel_rfl))
    clear hb hv hd
    refine wpOp_step rfl fun K hK=>?_
    go_simp
    exact hK _ _ ⟨_,rfl,Below.refl _ _,rfl,fun h=>absurd h (by decide)⟩
   ·have d1:=got (hv 1 24 rfl) (hd 1 (by kernel_rfl))
    clear hb hv hd
    have c:=sc_keep hB kA k hk
    refine wpOp_step rfl fun K hK=>?_
    go_simp
    exact hK _ _ ⟨_,rfl,Below.refl _ _,rfl,fun h=>absurd h (by decide)⟩
   ·have b7:f.tmps[7]?=some (.int .i64 ((k:Nat):Int)):=(hb 7 (by decide)).trans rfl
    clear hb hv hd
    refine wpOp_step rfl fun K hK=>?_
    go_simp
    exact hK _ _ ⟨_,rfl,Below.refl _ _,rfl,fun h=>absurd h (by decide)⟩
   ·have b3:f.tmps[3]?=some (.pointer (some ⟨w.heap.size+1,0,none⟩)):=(hb 3 (by decide)).trans rfl
    have d3:=got (hv 3 26 rfl) (hd 3 (by kernel_rfl))
    clear hb hv hd
    refine wpOp_step rfl fun K hK=>?_
    go_simp
    exact hK _ _ ⟨_,rfl,Below.refl _ _,rfl,fun h=>absurd h (by decide)⟩
   ·have d4:=got (hv 4 27 rfl) (hd 4 (by kernel_rfl))
    clear hb hv hd
    have c:=sc_keep hB kB k hk
    refine wpOp_step rfl fun K hK=>?_
    go_simp
    exact hK _ _ ⟨_,rfl,Below.refl _ _,rfl,fun h=>absurd h (by decide)⟩
   ·have d2:=got (hv 2 25 rfl) (hd 2 (by kernel_rfl))
    have d5:=got (hv 5 28 rfl) (hd 5 (by kernel_rfl))
    clear hb hv hd
    refine wpOp_call rfl Tryz.call110 (args2 (eval_tmp d2) (eval_tmp d5)) (hc k hk _) ?_
    rintro e5 w5 ⟨rfl,hb5⟩
    exact ⟨_,rfl,_,rfl,hb5,rfl,fun h=>absurd h (by decide)⟩
   ·have d6:=got (hv 6 29 rfl) (hd 6 (by kernel_rfl))
    clear hb hv hd
    refine wpOp_step rfl fun K hK=>?_
    go_simp
    exact hK _ _ ⟨_,rfl,Below.refl _ _,rfl,fun h=>absurd h (by decide)⟩
   ·have d7:=got (hv 7 22 rfl) (hd 7 (by kernel_rfl))
    clear hb hv hd
    refine wpOp_step rfl fun K hK=>?_
    go_simp
    exact hK _ _ ⟨_,rfl,Below.refl _ _,rfl,fun h=>absurd h (by decide)⟩
   ·have d7:=got (hv 7 22 rfl) (hd 7 (by kernel_rfl))
    clear hb hv hd
    refine wpOp_step rfl fun K hK=>?_
    go_simp
    exact hK _ _ ⟨_,rfl,Below.refl _ _,rfl,fun h=>absurd h (by decide)⟩
  ·intro v w' hB hF hD
   have F0:v 0=_:=hF 0 (by simp)
   have F1:v 1=_:=hF 1 (by simp)
   have F2:v 2=_:=hF 2 (by simp)
   have F3:v 3=_:=hF 3 (by simp)
   have F4:v 4=_:=hF 4 (by simp)
   have F5:v 5=_:=hF 5 (by simp)
   have F6:v 6=_:=hF 6 (by simp)
   have F7:v 7=_:=hF 7 (by simp)
   have F8:v 8=_:=hF 8 (by simp)
   have F9:v 9=_:=hF 9 (by simp)
   clear hF
   simp only [frOf,frGo,Nat.zero_add,Nat.reduceAdd,F0,F1,F2,F3,F4,F5,F6,F7,F8,F9]
   clear F0 F1 F2 F3 F4 F5 F6 F7 F8 F9 hD hc kA kB
   go_wp2
  ·intro v w' hB hF hD
   have F0:v 0=_:=hF 0 (by simp) (by decide)
   have F1:v 1=_:=hF 1 (by simp) (by decide)
   have F2:v 2=_:=hF 2 (by simp) (by decide)
   have F3:v 3=_:=hF 3 (by simp) (by decide)
   have F4:v 4=_:=hF 4 (by simp) (by decide)
   have F5:v 5=_:=hF 5 (by simp) (by decide)
   have F6:v 6=_:=hF 6 (by simp) (by decide)
   have F7:v 7=_:=hF 7 (by simp) (by decide)
   have F8:v 8=_:=hF 8 (by simp) (by decide)
   clear hF
   simp only [frOf,frGo,Nat.zero_add,Nat.reduceAdd,F0,F1,F2,F3,F4,F5,F6,F7,F8]
   clear F0 F1 F2 F3 F4 F5 F6 F7 F8 hD hc kA kB
   refine wpOp_step rfl (fun K hK=>?_)
   go_simp
   refine hK _ _ ?_
   clear hK K
   refine wpOp_step rfl (fun K hK=>?_)
   go_simp
   refine hK _ _ ?_
   clear hK K
   go_wp2
  ·intro w' hst
   have hB:=hst
   clear hst
   simp only [frOf,frGo,Nat.zero_add,Nat.reduceAdd]
   clear hc kA kB
   have s1:=aj_keep hj.out hB
   clear hB hj
   generalize hek:e k=ek at *
   have EK:=Lib.hid hek
   clear hek
   generalize hxk:x k=xk at *
   have XK:=Lib.hid hxk
   clear hxk
   by_cases he:ek=0
   ·subst he
    have s2:=Lib.hid (aj_put s1 hk (by omega) (by omega) (by omega) (by omega))
    obtain ⟨_,_,_,_,_,s5,s6⟩:=s1
    have q1:=s5 k hk
    have q2:=s6 k hk
    clear s5 s6
    rw [XK.out] at s2
    go_wp2
    go_roundw
    case rel=>exact ⟨k+1,hk,by go_num,s2,Lib.hid (less_succ hz.out EK.out)⟩
    case measure=>simp [intOf]; omega
   ·have E1:=Lib.hid (se_first hk hz.out (by rw [EK.out]; exact he))
    have E2:=Lib.hid (show ¬ se e=0 by rw [E1.out,EK.out]; exact he)
    have hn:=neb_of he
    obtain ⟨s0,_,_,s3,s4,_,_⟩:=s1
    replace s3:=sc_six s3
    replace s4:=sf_six s4
    clear hk0 hk6 he
    go_wp2
    obtain ⟨r0,r1,r2,r3,r4,r5⟩:=s3
    refine bodyPost_ret (v:=.tuple #[sv (fun _=>0),.int .i64 ek]) (by simp [results,Tryz.results103,go_sem,r0,r1,r2,r3,r4,r5]) rfl ⟨sz_end (sz_no E2.out).symm (E1.out.trans EK.out).symm,?_⟩
    exact bb_set s0 (by omega)
def sumz (a b:Nat→Int):Nat→Int:=if F6 a∧F6 b then sz (fun i=>gz (a i) (b i) (a i+b i)) (fun i=>ge (a i) (b i) (a i+b i)) else fun _=>0
def sume (a b:Nat→Int):Int:=if F6 a∧F6 b then se (fun i=>ge (a i) (b i) (a i+b i)) else 1
theorem add_sym (a b:Nat→Int) (ha:I6 a) (hb:I6 b) (w:World) :
  Calls Tryz.prog 103 #[sv a,sv b] w (RetV (.tuple #[sv (sumz a b),.int .i64 (sume a b)]) w):=by
 unfold sumz sume
 by_cases c:F6 a∧F6 b
 ·rw [if_pos c,if_pos c]
  exact add_sym_ok a b _ _ ha hb c.1 c.2 (fun k hk w=>add_fix (a k) (b k) (ha k hk).1 (ha k hk).2 (hb k hk).1 (hb k hk).2 w) w
 ·rw [if_neg c,if_neg c]
  exact add_sym_bad a b ha hb c w
end Go.Proofs.YtdhnhmhgmnkajaaGreatDoor
namespace Go.Proofs.YtdhnhmhgmnkajaaGreatDoor
open Go.RowKit Go.Shelf
def mvh (x d:Int):Int:=evn (256*x+d) 32768
def mvs (d:Int):Int:=evn d 128
theorem mvh_bd {x d:Int} (hx:FitP x) (hd:FitP d):-2260595906707457≤mvh x d∧mvh x d≤2260595906707457:=by
 have h:mvh x d=_∨mvh x d=_:=evn_near (256*x+d) 32768
 omega
theorem mvs_bd {d:Int} (hd:FitP d):-2251799813685249≤mvs d∧mvs d≤2251799813685249:=by
 have h:mvs d=_∨mvs d=_:=evn_near d 128
 omega
theorem far_fits {x d:Int} (hx:FitP x) (hd:FitP d):Fits (256*x)∧Fits (0+256*x)∧Fits (0+256*x+d)∧Fits (0+d)∧Fits (evn (0+256*x+d) 32768)∧Fits (evn (0+d) 128):=by
 have e1:=evn_near (0+256*x+d) 32768
 have e2:=evn_near (0+d) 128
 exact ⟨⟨by omega,by omega⟩,⟨by omega,by omega⟩,⟨by omega,by omega⟩,⟨by omega,by omega⟩,⟨by omega,by omega⟩,⟨by omega,by omega⟩⟩
def oz (e f x:Int):Int:=if e=0∧f=0 then x else 0
def oe (e f:Int):Int:=if e=0∧f=0 then 0 else 3
theorem oz_yes (x:Int):oz 0 0 x=x∧oe 0 0=0:=⟨if_pos ⟨rfl,rfl⟩,if_pos ⟨rfl,rfl⟩⟩
theorem oz_no {e f:Int} (h:¬ (e=0∧f=0)) (x:Int):oz e f x=0∧oe e f=3:=⟨if_neg h,if_neg h⟩
end Go.Proofs.YtdhnhmhgmnkajaaGreatDoor
namespace Go.Proofs.YtdhnhmhgmnkajaaGreatDoor
open Go.RowKit Go.Shelf
abbrev J64 (x:Int):Prop:=-9223372036854775808≤x∧x≤9223372036854775807
abbrev MayP (y s:Int):Prop:=FitP y∧FitP s∧1≤s
def mayg (y s:Int):Bool:=decide (MayP y s)
theorem mayg_yes {y s:Int} (h:MayP y s):mayg y s=true:=decide_eq_true h
theorem mayg_no {y s:Int} (h:¬ MayP y s):mayg y s=false:=decide_eq_false h
abbrev PassP (y s g:Int):Prop:=MayP y s∧0≤g∧g≤1000∧y*y≤g*s*1099511627776
def pas (y s g:Int):Bool:=decide (PassP y s g)
theorem pas_no {y s g:Int} (h:¬ PassP y s g):pas y s g=false:=decide_eq_false h
def cg (y s:Int):Int:=-(-(y*y) / (s*1099511627776))
theorem wed {z c h l:Int} (x:IsW h l z) {w:World} {e:Ending} {w':World} (r:RetWE z c w e w'):RetV (.tuple #[wv h l,.int .i64 c]) w e w':=by
 obtain ⟨h',l',he,y,hb⟩:=r
 obtain ⟨rfl,rfl⟩:=(x.inj y).2 rfl
 exact ⟨he,hb⟩
theorem may_gate (y s:Int) (hy:J64 y) (hs:J64 s) (w:World) :
  Calls Tryz.prog 111 #[.int .i64 y,.int .i64 s] w fun e w'=>e=.returned (.bool (mayg y s))∧w=w':=by
 have cy:=fits_any y hy.1 hy.2
 have cs:=fits_any s hs.1 hs.2
 clear hy hs
 by_cases d:FitP y
 ·have ed:=Lib.hid (fitb_yes d)
  by_cases f:FitP s
  ·have ef:=Lib.hid (fitb_yes f)
   by_cases o:1≤s
   ·have R:=Lib.hid (mayg_yes ⟨d,f,o⟩)
    clear d f
    go_enter Tryz.func111,Tryz.ntmps111
    go_wp2_with fail
    refine (cy _).mono ?_
    rintro e w9 ⟨rfl,rfl⟩
    rw [ed.out]
    go_wp2_with fail
    refine (cs _).mono ?_
    rintro e w9 ⟨rfl,rfl⟩
    rw [ef.out]
    go_wp2
    go_ret
    exact ⟨by rw [R.out]; rfl,rfl⟩
   ·have R:=Lib.hid (mayg_no (y:=y) (s:=s) (fun h=>o h.2.2))
    clear d f
    go_enter Tryz.func111,Tryz.ntmps111
    go_wp2_with fail
    refine (cy _).mono ?_
    rintro e w9 ⟨rfl,rfl⟩
    rw [ed.out]
    go_wp2_with fail
    refine (cs _).mono ?_
    rintro e w9 ⟨rfl,rfl⟩
    rw [ef.out]
    go_wp2
    go_ret
    exact ⟨by rw [R.out]; show Ending.returned (.bool (decide (1≤s)))=_; rw [decide_eq_false (show ¬ 1≤s by omega)],rfl⟩
  ·have ef:=Lib.hid (fitb_no f)
   have R:=Lib.hid (mayg_no (y:=y) (s:=s) (fun h=>f h.2.1))
   clear d f
   go_enter Tryz.func111,Tryz.ntmps111
   go_wp2_with fail
   refine (cy _).mono ?_
   rintro e w9 ⟨rfl,rfl⟩
   rw [ed.out]
   go_wp2_with fail
   refine (cs _).mono ?_
   rintro e w9 ⟨rfl,rfl⟩
   rw [ef.out]
   go_wp2
   go_ret
   exact ⟨by rw [R.out]; rfl,rfl⟩
 ·have ed:=Lib.hid (fitb_no d)
  have R:=Lib.hid (mayg_no (y:=y) (s:=s) (fun h=>d h.1))
  clear d
  go_enter Tryz.func111,Tryz.ntmps111
  go_wp2_with fail
  refine (cy _).mono ?_
  rintro e w9 ⟨rfl,rfl⟩
  rw [ed.out]
  go_wp2
  go_ret
  exact ⟨by rw [R.out]; rfl,rfl⟩
theorem pass_go (y s g ph pl bh bl sh sl c:Int) (g0:¬ g<0) (g1:¬ 1000<g)
  (hm:∀ w,Calls Tryz.prog 111 #[.int .i64 y,.int .i64 s] w fun e w'=>e=.returned (.bool true)∧w=w')
  (cM:∀ w,Calls Tryz.prog 97 #[.int .i64 g,.int .i64 s] w (RetV (wv ph pl) w))
  (cU:∀ w,Calls Tryz.prog 112 #[wv ph pl,.int .i64 40] w (RetV (.tuple #[wv bh bl,.int .i64 0]) w))
  (cS:∀ w,Calls Tryz.prog 97 #[.int .i64 y,.int .i64 y] w (RetV (wv sh sl) w))
  (cC:∀ w,Calls Tryz.prog 113 #[wv sh sl,wv bh bl] w (RetV (.int .i64 c) w)) (w:World) :
  Calls Tryz.prog 72 #[.int .i64 y,.int .i64 s,.int .i64 g] w (RetV (.bool (decide (c≤0))) w):=by
 have ym:=hm
 clear hm
 go_enter Tryz.func72,Tryz.ntmps72
 go_wp2_with fail
 refine (ym _).mono ?_
 rintro e w1 ⟨rfl,rfl⟩
 clear ym
 go_wp2_with fail
 refine (cM _).mono ?_
 rintro e w2 ⟨rfl,hb2⟩
 clear cM
 go_wp2_with fail
 refine (cU _).mono ?_
 rintro e w3 ⟨rfl,hb3⟩
 clear cU
 have B4:Below w.heap.size w (w3.alloc (Obj.cells #[.int .i64 bh,.int .u64 bl] 145)):=b_alloc (b_trans hb2 hb3)
 have kb:WC (w3.alloc (Obj.cells #[.int .i64 bh,.int .u64 bl] 145)) w3.heap.size bh bl:=by simp [WC,go_sem]
 clear hb2 hb3
 go_wp2
 refine region_each [28,29,30,31,32,33] (fun i_ X_ U_=>match i_ with | 0=>X_=.int .i64 y | 1=>X_=.int .i64 y | 2=>X_=wv sh sl | 3=>X_=wv bh bl | 4=>X_=.int .i64 c | 5=>X_=.bool (decide (c≤0)) | _=>True) (fun i_=>false) (by kernel_rfl) (by kernel_rfl) (by kernel_rfl) (by kernel_rfl) (by kernel_rfl) ?_ (fun i x w hi ha h=>by cases ha) ?_ ?_
 ·refine swp (upS (upS (upS (upS (upS (upS up0 ?_) ?_) ?_) ?_) ?_) ?_)
  all_goals exact fun _ _ _ h _=>h
 ·refine upS (upS (upS (upS (upS (upS up0 ?_) ?_) ?_) ?_) ?_) ?_
  all_goals intro v f w' hb hv hB hd
  ·have b0:f.tmps[0]?=some (.int .i64 y):=(hb 0 (by decide)).trans rfl
   clear hb hv hd
   refine wpOp_step rfl fun K hK=>?_
   go_simp
   exact hK _ _ ⟨_,rfl,Below.refl _ _,rfl,fun h=>absurd h (by decide)⟩
  ·have b0:f.tmps[0]?=some (.int .i64 y):=(hb 0 (by decide)).trans rfl
   clear hb hv hd
   refine wpOp_step rfl fun K hK=>?_
   go_simp
   exact hK _ _ ⟨_,rfl,Below.refl _ _,rfl,fun h=>absurd h (by decide)⟩
  ·have d0:=got (hv 0 28 rfl) (hd 0 (by kernel_rfl))
   have d1:=got (hv 1 29 rfl) (hd 1 (by kernel_rfl))
   clear hb hv hd
   refine wpOp_call rfl Tryz.call97 (args2 (eval_tmp d0) (eval_tmp d1)) (cS _) ?_
   rintro e5 w5 ⟨rfl,hb5⟩
   exact ⟨_,rfl,_,rfl,hb5,rfl,fun h=>absurd h (by decide)⟩
  ·have b7:f.tmps[7]?=some (.pointer (some ⟨w3.heap.size,0,none⟩)):=(hb 7 (by decide)).trans rfl
   clear hb hv hd
   have c_:WC w' w3.heap.size bh bl:=wc_keep hB kb
   refine wpOp_step rfl fun K hK=>?_
   go_simp
   exact hK _ _ ⟨_,rfl,Below.refl _ _,rfl,fun h=>absurd h (by decide)⟩
  ·have d2:=got (hv 2 30 rfl) (hd 2 (by kernel_rfl))
   have d3:=got (hv 3 31 rfl) (hd 3 (by kernel_rfl))
   clear hb hv hd
   refine wpOp_call rfl Tryz.call113 (args2 (eval_tmp d2) (eval_tmp d3)) (cC _) ?_
   rintro e5 w5 ⟨rfl,hb5⟩
   exact ⟨_,rfl,_,rfl,hb5,rfl,fun h=>absurd h (by decide)⟩
  ·have d4:=got (hv 4 32 rfl) (hd 4 (by kernel_rfl))
   clear hb hv hd
   refine wpOp_step rfl fun K hK=>?_
   go_simp
   exact hK _ _ ⟨_,rfl,Below.refl _ _,rfl,fun h=>absurd h (by decide)⟩
 ·intro v w' hB hF hD
  have F0:v 0=_:=hF 0 (by simp)
  have F1:v 1=_:=hF 1 (by simp)
  have F2:v 2=_:=hF 2 (by simp)
  have F3:v 3=_:=hF 3 (by simp)
  have F4:v 4=_:=hF 4 (by simp)
  have F5:v 5=_:=hF 5 (by simp)
  clear hF
  simp only [frOf,frGo,Nat.zero_add,Nat.reduceAdd,F0,F1,F2,F3,F4,F5]
  have B5:=b_trans B4 hB
  clear hB hD cS cC F0 F1 F2 F3 F4 F5
  go_wp2
  go_ret
  exact ⟨rfl,B5⟩
theorem pass_bad (y s g:Int) (b:Bool) (h:b=true→g<0∨1000<g)
  (hm:∀ w,Calls Tryz.prog 111 #[.int .i64 y,.int .i64 s] w fun e w'=>e=.returned (.bool b)∧w=w') (w:World) :
  Calls Tryz.prog 72 #[.int .i64 y,.int .i64 s,.int .i64 g] w (RetV (.bool false) w):=by
 cases b
 ·clear h
  go_enter Tryz.func72,Tryz.ntmps72
  go_wp2_with fail
  refine (hm _).mono ?_
  rintro e w1 ⟨rfl,rfl⟩
  go_wp2
  go_ret
  exact ⟨rfl,Below.refl _ _⟩
 ·replace h:=h rfl
  by_cases g0:g<0
  ·clear h
   go_enter Tryz.func72,Tryz.ntmps72
   go_wp2_with fail
   refine (hm _).mono ?_
   rintro e w1 ⟨rfl,rfl⟩
   go_wp2
   go_ret
   exact ⟨rfl,Below.refl _ _⟩
  ·have g1:1000<g:=by omega
   clear h
   go_enter Tryz.func72,Tryz.ntmps72
   go_wp2_with fail
   refine (hm _).mono ?_
   rintro e w1 ⟨rfl,rfl⟩
   go_wp2
   go_ret
   exact ⟨rfl,Below.refl _ _⟩
theorem cmp3_le (a b:Int):decide (cmp3 a b≤0)=decide (a≤b):=by
 by_cases e:a=b
 ·subst e; rw [cmp3_eq]; simp
 ·by_cases l:a<b
  ·rw [cmp3_lt l]; simp; omega
  ·rw [cmp3_gt (by omega)]; simp; omega
theorem room_fits {s g:Int} (s1:1≤s) (f:FitP s) (g0:0≤g) (g1:g≤1000):J64 s∧J64 g∧0≤g*s∧g*s≤288230376151711744000:=by
 have a:0≤g*s:=Int.mul_nonneg g0 (by omega)
 have b:g*s≤1000*288230376151711744:=Int.mul_le_mul g1 f.2 (by omega) (by omega)
 exact ⟨⟨by omega,by omega⟩,⟨by omega,by omega⟩,a,by omega⟩
theorem pass_any (y s g:Int) (hy:J64 y) (hs:J64 s) (w:World) :
  Calls Tryz.prog 72 #[.int .i64 y,.int .i64 s,.int .i64 g] w (RetV (.bool (pas y s g)) w):=by
 have hm:=may_gate y s hy hs
 by_cases d:MayP y s
 ·rw [mayg_yes d] at hm
  by_cases e:0≤g∧g≤1000
  ·obtain ⟨js,jg,q0,q1⟩:=room_fits d.2.2 d.2.1 e.1 e.2
   obtain ⟨ph,pl,hp⟩:∃ ph pl,IsW ph pl (g*s):=⟨_,_,IsW.mk' ⟨by omega,by omega⟩⟩
   have fB:Fits (g*s*1099511627776):=⟨by omega,by omega⟩
   obtain ⟨bh,bl,hbb⟩:∃ bh bl,IsW bh bl (g*s*1099511627776):=⟨_,_,IsW.mk' fB⟩
   obtain ⟨sh,sl,hq⟩:∃ sh sl,IsW sh sl (y*y):=⟨_,_,IsW.mk' (mul_fits hy.1 hy.2 hy.1 hy.2)⟩
   have cU:=fun w=>up_all ph pl (g*s) 40 hp (by omega) (by omega) w
   rw [show (2:Int) ^ (40:Int).toNat=1099511627776 from rfl,fz_of fB,fe_of fB] at cU
   have r:=pass_go y s g ph pl bh bl sh sl (cmp3 (y*y) (g*s*1099511627776)) (by omega) (by omega) hm
    (fun w=>(mul_any g s jg.1 jg.2 js.1 js.2 w).mono fun _ _=>retW_det hp) (fun w=>(cU w).mono fun _ _=>wed hbb)
    (fun w=>(mul_any y y hy.1 hy.2 hy.1 hy.2 w).mono fun _ _=>retW_det hq) (fun w=>cmp_any _ _ _ _ _ _ hq hbb w) w
   rw [cmp3_le] at r
   have E:decide (y*y≤g*s*1099511627776)=pas y s g:=by
    unfold pas
    by_cases k:y*y≤g*s*1099511627776
    ·rw [decide_eq_true k,decide_eq_true (show PassP y s g from ⟨d,e.1,e.2,k⟩)]
    ·rw [decide_eq_false k,decide_eq_false (show ¬ PassP y s g from fun h=>k h.2.2.2)]
   rw [E] at r
   exact r
  ·rw [pas_no (fun h=>e ⟨h.2.1,h.2.2.1⟩)]
   exact pass_bad y s g true (fun _=>by omega) hm w
 ·rw [mayg_no d] at hm
  rw [pas_no (fun h=>d h.1)]
  exact pass_bad y s g false (fun h=>by cases h) hm w
end Go.Proofs.YtdhnhmhgmnkajaaGreatDoor
namespace Go.Proofs.YtdhnhmhgmnkajaaGreatDoor
open Go.RowKit Go.Shelf Go.Joins
def sm (z:Nat→Int):Nat→Int
 | 0=>0
 | n+1=>sm z n+z n
def ag (z:Nat→Int):Nat→Bool
 | 0=>true
 | n+1=>ag z n && gd (z n)
def lt (z:Nat→Int):Nat→Int
 | 0=>z 0
 | n+1=>if z n<lt z n then z n else lt z n
theorem sm_same {y z:Nat→Int}:∀ {n:Nat},(∀ k,k<n→y k=z k)→sm y n=sm z n
 | 0,_=>rfl
 | n+1,h=>by rw [sm,sm,sm_same (fun k hk=>h k (by omega)),h n (by omega)]
theorem ag_same {y z:Nat→Int}:∀ {n:Nat},(∀ k,k<n→y k=z k)→ag y n=ag z n
 | 0,_=>rfl
 | n+1,h=>by rw [ag,ag,ag_same (fun k hk=>h k (by omega)),h n (by omega)]
theorem ag_yes {z:Nat→Int} {n:Nat} (h:ag z n=true) (g:gd (z n)=true):ag z (n+1)=true:=by rw [ag,h,g]; rfl
theorem ag_at {z:Nat→Int}:∀ {n k:Nat},ag z n=true→k<n→gd (z k)=true
 | 0,_,_,h=>absurd h (Nat.not_lt_zero _)
 | n+1,k,a,h=>by
  rw [ag,Bool.and_eq_true] at a
  by_cases c:k=n
  ·rw [c]; exact a.2
  ·exact ag_at a.1 (by omega)
theorem ag_not {z:Nat→Int} {n k:Nat} (h:k<n) (g:gd (z k)=false):ag z n=false:=by
 cases a:ag z n
 ·rfl
 ·have:=ag_at a h
  rw [g] at this
  cases this
theorem ag_of {z:Nat→Int}:∀ {n:Nat},(∀ k,k<n→gd (z k)=true)→ag z n=true
 | 0,_=>rfl
 | n+1,h=>ag_yes (ag_of fun k hk=>h k (by omega)) (h n (by omega))
theorem sm_range {z:Nat→Int}:∀ {n:Nat},ag z n=true→90528*(n:Int)≤sm z n∧sm z n≤430515*(n:Int)
 | 0,_=>⟨Int.le_refl _,Int.le_refl _⟩
 | n+1,a=>by
  have g:=gd_range (ag_at a (Nat.lt_succ_self n))
  rw [ag,Bool.and_eq_true] at a
  have:=sm_range a.1
  rw [sm]
  omega
def mv (z:Nat→Int) (n:Nat):Int:=if n=0 then 0 else if ag z n then sm z n / n else 0
def me (z:Nat→Int) (n:Nat):Int:=if n=0 then 4 else if ag z n then 0 else 2
theorem m_bad {z:Nat→Int} {n:Nat} (h:ag z n=false):mv z n=0∧me z n=2:=by
 have hn:n≠0:=by
  intro e
  subst e
  cases h
 rw [mv,me,if_neg hn,if_neg hn,h]
 exact ⟨rfl,rfl⟩
theorem m_ok {z:Nat→Int} {n:Nat} (hn:0<n) (h:ag z n=true):mv z n=sm z n / n∧me z n=0:=by
 have h0:n≠0:=by omega
 rw [mv,me,if_neg h0,if_neg h0,h]
 exact ⟨rfl,rfl⟩
theorem m_same {y z:Nat→Int} {n:Nat} (h:∀ k,k<n→y k=z k):mv y n=mv z n∧me y n=me z n:=by
 rw [mv,mv,me,me,ag_same h,sm_same h]
 exact ⟨rfl,rfl⟩
end Go.Proofs.YtdhnhmhgmnkajaaGreatDoor
namespace Go.Proofs.YtdhnhmhgmnkajaaGreatDoor
open Go.RowKit Go.Shelf Go.Joins
theorem through_none (s:Int) (w:World):Calls Tryz.prog 91 #[.int .i64 s,.int .i64 0] w (RetV (.tuple #[.int .i64 0,.int .i64 4]) w):=by
 go_enter Tryz.func91,Tryz.ntmps91
 go_wp2
 go_ret2
 exact ⟨rfl,Below.refl _ _⟩
theorem through_some (s n:Int) (s0:0≤s) (s1:s≤1000000000000) (n0:0<n) (w:World):Calls Tryz.prog 91 #[.int .i64 s,.int .i64 n] w (RetV (.tuple #[.int .i64 (s / n),.int .i64 0]) w):=by
 have hn:¬ n=0:=by omega
 have hq:s.tdiv n=s / n:=Int.tdiv_eq_ediv_of_nonneg s0
 have q0:0≤s / n:=Int.ediv_nonneg s0 (by omega)
 have q1:s / n≤s:=Int.ediv_le_self _ s0
 generalize s / n=q at *
 have hw:IntKind.i64.wrap q=q:=by rw [IntKind.wrap_i64]; omega
 go_enter Tryz.func91,Tryz.ntmps91
 go_wp2
 go_ret2
 exact ⟨rfl,Below.refl _ _⟩
theorem through_any (z:Nat→Int) (n:Nat) (h:ag z n=true) (h1:n≤1000000) (w:World):Calls Tryz.prog 91 #[.int .i64 (sm z n),.int .i64 n] w (RetV (.tuple #[.int .i64 (mv z n),.int .i64 (me z n)]) w):=by
 have r:=sm_range h
 rcases Nat.eq_zero_or_pos n with rfl | hn
 ·exact through_none _ w
 ·rw [(m_ok hn h).1,(m_ok hn h).2]
  exact through_some _ _ (by omega) (by omega) (by omega) w
theorem heap_of (B:Nat) (z:Nat→Int) (sa:Option Addr) (len cap:Nat) (hm:len≤1000000) (w:World) (hc:IS w B sa len z) :
  Calls Tryz.prog 63 #[.slice sa len cap] w (RetV (.tuple #[.int .i64 (mv z len),.int .i64 (me z len)]) w):=by
 go_enter Tryz.func63,Tryz.ntmps63
 go_wp2
 go_loopw [4,9] (fun sv iv wr=>∃ k:Nat,k≤len∧iv=.int .i64 k∧sv=.int .i64 (sm z k)∧ag z k=true∧Below w.heap.size w wr) (fun _ iv _=>len - (intOf iv).toNat)
 case atStart=>exact ⟨0,Nat.zero_le _,rfl,rfl,rfl,Below.refl _ _⟩
 case round =>
  obtain ⟨k,hk,rfl,rfl,ha,E⟩:=hrel
  have r:=sm_range ha
  by_cases hlt:k<len
  ·obtain ⟨gb,off,rfl,-,c0⟩:=hc k hlt
   replace c0:=cell_keep E c0
   have hlk:(k:Int)<len:=by omega
   have hk0:(0:Int)≤k:=by omega
   have cg:=good_any (z k)
   have ws:IntKind.i64.wrap ((k:Int)+1)=(k:Int)+1:=by rw [IntKind.wrap_i64]; omega
   cases g:gd (z k)
   ·have hb:=m_bad (ag_not hlt g)
    rw [g] at cg
    have HB:=Lib.hid hb
    clear hb g r ha hc
    generalize mv z len=mm at *
    generalize me z len=ee at *
    generalize z k=v at *
    generalize sm z k=s at *
    go_wp2_with fail
    refine (cg _).mono ?_
    rintro e y0 ⟨rfl,hb⟩
    replace E:=b_trans E hb
    clear hb cg c0
    obtain ⟨rfl,rfl⟩:=HB.out
    go_wp2
    exact bodyPost_ret (v:=.tuple #[.int .i64 0,.int .i64 2]) (by simp [results,Tryz.results63,go_sem]) rfl ⟨rfl,E⟩
   ·have gr:=gd_range g
    have e0:=Lib.hid (ag_yes ha g)
    have e1:Hid (sm z (k+1)=sm z k+z k):=Lib.hid rfl
    rw [g] at cg
    clear g ha hc
    generalize z k=v at *
    generalize sm z k=s at *
    have wx:IntKind.i64.wrap (s+v)=s+v:=by rw [IntKind.wrap_i64]; omega
    go_wp2_with fail
    refine (cg _).mono ?_
    rintro e y0 ⟨rfl,hb⟩
    replace E:=b_trans E hb
    clear hb cg c0
    go_wp2
    refine ⟨⟨k+1,by omega,rfl,by rw [e1.out],e0.out,E⟩,?_⟩
    simp only [intOf]
    omega
  ·have hlk:¬ (k:Int)<len:=by omega
   have e:k=len:=by omega
   subst e
   have ct:=through_any z k ha hm
   clear hlt hk hc ha r
   go_wp2_with fail
   refine (ct _).mono ?_
   rintro e y0 ⟨rfl,hb⟩
   replace E:=b_trans E hb
   clear hb ct
   go_wp2
   exact bodyPost_ret (v:=.tuple #[.int .i64 (mv z k),.int .i64 (me z k)]) (by simp [results,Tryz.results63,go_sem]) rfl ⟨rfl,E⟩
end Go.Proofs.YtdhnhmhgmnkajaaGreatDoor

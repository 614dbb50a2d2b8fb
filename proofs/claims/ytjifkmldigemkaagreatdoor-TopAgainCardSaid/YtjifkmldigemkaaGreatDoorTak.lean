import Derived.LoopN
import Derived.Test.YtjifkmldigemkaaGreatDoorTaf
import Derived.Test.YtjifkmldigemkaaGreatDoorTag
import Derived.Test.YtjifkmldigemkaaGreatDoorTae
import Derived.Test.YtjifkmldigemkaaGreatDoorTab
import Derived.Test.YtjifkmldigemkaaGreatDoorTaa
import Derived.Deep.QuietTactic
import Derived.BigQuiet
import Derived.Lib.SmallJoins
import Derived.Deep.LoopGhost
import Derived.Orders
import Derived.RegionTactic
import Derived.Below
set_option maxHeartbeats 4000000
set_option maxRecDepth 10000
namespace Go.Proofs.YtjifkmldigemkaaGreatDoor
open Go.RowKit Go.Shelf
def se (e:Nat→Int):Int:=if e 0≠0 then e 0 else if e 1≠0 then e 1 else if e 2≠0 then e 2 else if e 3≠0 then e 3 else if e 4≠0 then e 4 else e 5
def sz (x e:Nat→Int):Nat→Int:=fun i=>if se e=0 then x i else 0
theorem se_all {e:Nat→Int} (h:∀ i,i<6→e i=0):se e=0:=by
 have h0:=h 0 (by decide); have h1:=h 1 (by decide); have h2:=h 2 (by decide); have h3:=h 3 (by decide); have h4:=h 4 (by decide); have h5:=h 5 (by decide)
 simp [se,h0,h1,h2,h3,h4,h5]
theorem se_first {e:Nat→Int} {k:Nat} (hk:k<6) (h:∀ i,i<k→e i=0) (n:¬ e k=0):se e=e k:=by
 rcases seven (Nat.le_of_lt hk) with rfl | rfl | rfl | rfl | rfl | rfl | rfl
 ·exact absurd hk (by decide)
 ·simp [se,n]
 ·simp [se,n,h 0 (by decide)]
 ·simp [se,n,h 0 (by decide),h 1 (by decide)]
 ·simp [se,n,h 0 (by decide),h 1 (by decide),h 2 (by decide)]
 ·simp [se,n,h 0 (by decide),h 1 (by decide),h 2 (by decide),h 3 (by decide)]
 ·simp [se,h 0 (by decide),h 1 (by decide),h 2 (by decide),h 3 (by decide),h 4 (by decide)]
theorem se_zero {e:Nat→Int} (h:se e=0):∀ i,i<6→e i=0:=fun i hi=>Classical.byContradiction fun n=>by
 unfold se at h
 repeat (split at h; · contradiction)
 simp at *
 rcases seven (Nat.le_of_lt hi) with rfl | rfl | rfl | rfl | rfl | rfl | rfl <;> simp_all
theorem sz_all {x e:Nat→Int} (h:se e=0):sv (sz x e)=sv x:=by simp only [sv,sz,if_pos h]
theorem sz_no {x e:Nat→Int} (h:¬ se e=0):sv (sz x e)=sv (fun _=>0):=by simp only [sv,sz,if_neg h]
theorem sz_end {u v:Value} {c d:Int} (h:u=v) (k:c=d):Ending.returned (.tuple #[u,.int .i64 c])=Ending.returned (.tuple #[v,.int .i64 d]):=by subst h; subst k; rfl
theorem neb_of {e:Int} (h:¬ e=0):(e != 0)=true:=by simpa using h
def AJ (W:World) (A B R Q:Nat) (a b x:Nat→Int) (k:Nat) (w:World):Prop :=
 Below W.heap.size W w∧SC w A a∧SC w B b∧SC w R (fun _=>0)∧SF w R∧SC w Q (fun i=>if i<k then x i else 0)∧SF w Q
theorem aj_keep {W:World} {A B R Q:Nat} {a b x:Nat→Int} {k:Nat} {w w':World} (h:AJ W A B R Q a b x k w) (hb:Below w.heap.size w w'):AJ W A B R Q a b x k w' :=
 ⟨b_trans h.1 hb,sc_keep hb h.2.1,sc_keep hb h.2.2.1,sc_keep hb h.2.2.2.1,sf_keep hb h.2.2.2.1 h.2.2.2.2.1,sc_keep hb h.2.2.2.2.2.1,sf_keep hb h.2.2.2.2.2.1 h.2.2.2.2.2.2⟩
theorem aj_put {W:World} {A B R Q:Nat} {a b x:Nat→Int} {k:Nat} {w:World} (h:AJ W A B R Q a b x k w) (hk:k<6) (q:W.heap.size≤Q) (qa:Q≠A) (qb:Q≠B) (qr:Q≠R):AJ W A B R Q a b x (k+1) (w.setCell ⟨Q,k,none⟩ (.int .i64 (x k))):=by
 obtain ⟨h0,h1,h2,h3,h4,h5,h6⟩:=h
 refine ⟨b_set h0 q,sc_set h1 qa,sc_set h2 qb,sc_set h3 qr,sf_set h4,?_,sf_set h6⟩
 intro i hi
 by_cases e:i=k
 ·subst e
  rw [World.cell?_setCell_same' _ _ _ (by rw [h5 i hi]; rfl)]
  dsimp only
  rw [if_pos (by omega)]
 ·rw [World.cell?_setCell_other _ _ _ _ (by intro c; simp at c <;> omega)]
  rw [h5 i hi]
  dsimp only
  by_cases d:i<k
  ·rw [if_pos d,if_pos (by omega)]
  ·rw [if_neg d,if_neg (by omega)]
theorem bb_set {W w:World} {R:Nat} {v0 v1 v2 v3 v4 v5:Value} (h:Below W.heap.size W w) (q:W.heap.size≤R):Below W.heap.size W ((((((w.setCell ⟨R,0,none⟩ v0).setCell ⟨R,1,none⟩ v1).setCell ⟨R,2,none⟩ v2).setCell ⟨R,3,none⟩ v3).setCell ⟨R,4,none⟩ v4).setCell ⟨R,5,none⟩ v5) :=
 b_set (b_set (b_set (b_set (b_set (b_set h q) q) q) q) q) q
theorem add_sym_bad (a b:Nat→Int) (ha:I6 a) (hb:I6 b) (c:¬ (F6 a∧F6 b)) (w:World) :
  Calls Tryz.prog 132 #[sv a,sv b] w (RetV (.tuple #[sv (fun _=>0),.int .i64 1]) w):=by
 have kA:SC (((w.alloc (Obj.cells #[.int .i64 (a 0),.int .i64 (a 1),.int .i64 (a 2),.int .i64 (a 3),.int .i64 (a 4),.int .i64 (a 5)] 40)).alloc (Obj.cells #[.int .i64 (b 0),.int .i64 (b 1),.int .i64 (b 2),.int .i64 (b 3),.int .i64 (b 4),.int .i64 (b 5)] 40)).alloc (Obj.cells #[.int .i64 0,.int .i64 0,.int .i64 0,.int .i64 0,.int .i64 0,.int .i64 0] 40)) w.heap.size a:=sc_alloc (sc_alloc (sc_new rfl))
 have kB:SC (((w.alloc (Obj.cells #[.int .i64 (a 0),.int .i64 (a 1),.int .i64 (a 2),.int .i64 (a 3),.int .i64 (a 4),.int .i64 (a 5)] 40)).alloc (Obj.cells #[.int .i64 (b 0),.int .i64 (b 1),.int .i64 (b 2),.int .i64 (b 3),.int .i64 (b 4),.int .i64 (b 5)] 40)).alloc (Obj.cells #[.int .i64 0,.int .i64 0,.int .i64 0,.int .i64 0,.int .i64 0,.int .i64 0] 40)) (w.heap.size+1) b:=sc_alloc (sc_new (w:=(w.alloc (Obj.cells #[.int .i64 (a 0),.int .i64 (a 1),.int .i64 (a 2),.int .i64 (a 3),.int .i64 (a 4),.int .i64 (a 5)] 40))) (m:=b) (t:=40) (by simp))
 have kR:SC (((w.alloc (Obj.cells #[.int .i64 (a 0),.int .i64 (a 1),.int .i64 (a 2),.int .i64 (a 3),.int .i64 (a 4),.int .i64 (a 5)] 40)).alloc (Obj.cells #[.int .i64 (b 0),.int .i64 (b 1),.int .i64 (b 2),.int .i64 (b 3),.int .i64 (b 4),.int .i64 (b 5)] 40)).alloc (Obj.cells #[.int .i64 0,.int .i64 0,.int .i64 0,.int .i64 0,.int .i64 0,.int .i64 0] 40)) (w.heap.size+1+1) (fun _=>0):=sc_new (w:=((w.alloc (Obj.cells #[.int .i64 (a 0),.int .i64 (a 1),.int .i64 (a 2),.int .i64 (a 3),.int .i64 (a 4),.int .i64 (a 5)] 40)).alloc (Obj.cells #[.int .i64 (b 0),.int .i64 (b 1),.int .i64 (b 2),.int .i64 (b 3),.int .i64 (b 4),.int .i64 (b 5)] 40))) (m:=fun _=>0) (t:=40) (by simp)
 have kF:SF (((w.alloc (Obj.cells #[.int .i64 (a 0),.int .i64 (a 1),.int .i64 (a 2),.int .i64 (a 3),.int .i64 (a 4),.int .i64 (a 5)] 40)).alloc (Obj.cells #[.int .i64 (b 0),.int .i64 (b 1),.int .i64 (b 2),.int .i64 (b 3),.int .i64 (b 4),.int .i64 (b 5)] 40)).alloc (Obj.cells #[.int .i64 0,.int .i64 0,.int .i64 0,.int .i64 0,.int .i64 0,.int .i64 0] 40)) (w.heap.size+1+1):=sf_new (w:=((w.alloc (Obj.cells #[.int .i64 (a 0),.int .i64 (a 1),.int .i64 (a 2),.int .i64 (a 3),.int .i64 (a 4),.int .i64 (a 5)] 40)).alloc (Obj.cells #[.int .i64 (b 0),.int .i64 (b 1),.int .i64 (b 2),.int .i64 (b 3),.int .i64 (b 4),.int .i64 (b 5)] 40))) (t:=40) (by simp)
 have hB0:Below w.heap.size w (((w.alloc (Obj.cells #[.int .i64 (a 0),.int .i64 (a 1),.int .i64 (a 2),.int .i64 (a 3),.int .i64 (a 4),.int .i64 (a 5)] 40)).alloc (Obj.cells #[.int .i64 (b 0),.int .i64 (b 1),.int .i64 (b 2),.int .i64 (b 3),.int .i64 (b 4),.int .i64 (b 5)] 40)).alloc (Obj.cells #[.int .i64 0,.int .i64 0,.int .i64 0,.int .i64 0,.int .i64 0,.int .i64 0] 40)):=b_alloc (b_alloc (b_alloc (Below.refl _ _)))
 by_cases ca:F6 a
 ·have ea:=Lib.hid (f6b_yes ca)
  have eb:=Lib.hid (f6b_no (fun h=>c ⟨ca,h⟩))
  clear ca c
  go_enter Tryz.func132,Tryz.ntmps132
  have l6:=sc_six kA
  go_wp2_with fail
  refine (fits_sym a ha _).mono ?_
  rintro e1 w1 ⟨rfl,hb9⟩
  clear l6
  rw [ea.out]
  replace kF:=sf_keep hb9 kR kF
  replace kR:=sc_keep hb9 kR
  replace kA:=sc_keep hb9 kA
  replace kB:=sc_keep hb9 kB
  replace hB0:=b_trans hB0 hb9
  clear hb9
  have l6:=sc_six kB
  go_wp2_with fail
  refine (fits_sym b hb _).mono ?_
  rintro e2 w2 ⟨rfl,hb9⟩
  clear l6
  rw [eb.out]
  replace kF:=sf_keep hb9 kR kF
  replace kR:=sc_keep hb9 kR
  replace kA:=sc_keep hb9 kA
  replace kB:=sc_keep hb9 kB
  replace hB0:=b_trans hB0 hb9
  clear hb9
  clear kA kB
  replace kR:=sc_six kR
  replace kF:=sf_six kF
  go_wp2
  obtain ⟨r0,r1,r2,r3,r4,r5⟩:=kR
  exact bodyPost_ret (v:=.tuple #[sv (fun _=>0),.int .i64 1]) (by simp [results,Tryz.results132,go_sem,r0,r1,r2,r3,r4,r5]) rfl ⟨rfl,bb_set hB0 (by omega)⟩
 ·have ea:=Lib.hid (f6b_no ca)
  clear ca c
  go_enter Tryz.func132,Tryz.ntmps132
  have l6:=sc_six kA
  go_wp2_with fail
  refine (fits_sym a ha _).mono ?_
  rintro e1 w1 ⟨rfl,hb9⟩
  clear l6
  rw [ea.out]
  replace kF:=sf_keep hb9 kR kF
  replace kR:=sc_keep hb9 kR
  replace kA:=sc_keep hb9 kA
  replace kB:=sc_keep hb9 kB
  replace hB0:=b_trans hB0 hb9
  clear hb9
  clear kA kB
  replace kR:=sc_six kR
  replace kF:=sf_six kF
  go_wp2
  obtain ⟨r0,r1,r2,r3,r4,r5⟩:=kR
  exact bodyPost_ret (v:=.tuple #[sv (fun _=>0),.int .i64 1]) (by simp [results,Tryz.results132,go_sem,r0,r1,r2,r3,r4,r5]) rfl ⟨rfl,bb_set hB0 (by omega)⟩
theorem add_sym_ok (a b x e:Nat→Int) (ha:I6 a) (hb:I6 b) (ca:F6 a) (cb:F6 b)
  (hc:∀ k,k<6→∀ w,Calls Tryz.prog 140 #[.int .i64 (a k),.int .i64 (b k)] w (RetV (.tuple #[.int .i64 (x k),.int .i64 (e k)]) w)) (w:World) :
  Calls Tryz.prog 132 #[sv a,sv b] w (RetV (.tuple #[sv (sz x e),.int .i64 (se e)]) w):=by
 have kA:SC (((w.alloc (Obj.cells #[.int .i64 (a 0),.int .i64 (a 1),.int .i64 (a 2),.int .i64 (a 3),.int .i64 (a 4),.int .i64 (a 5)] 40)).alloc (Obj.cells #[.int .i64 (b 0),.int .i64 (b 1),.int .i64 (b 2),.int .i64 (b 3),.int .i64 (b 4),.int .i64 (b 5)] 40)).alloc (Obj.cells #[.int .i64 0,.int .i64 0,.int .i64 0,.int .i64 0,.int .i64 0,.int .i64 0] 40)) w.heap.size a:=sc_alloc (sc_alloc (sc_new rfl))
 have kB:SC (((w.alloc (Obj.cells #[.int .i64 (a 0),.int .i64 (a 1),.int .i64 (a 2),.int .i64 (a 3),.int .i64 (a 4),.int .i64 (a 5)] 40)).alloc (Obj.cells #[.int .i64 (b 0),.int .i64 (b 1),.int .i64 (b 2),.int .i64 (b 3),.int .i64 (b 4),.int .i64 (b 5)] 40)).alloc (Obj.cells #[.int .i64 0,.int .i64 0,.int .i64 0,.int .i64 0,.int .i64 0,.int .i64 0] 40)) (w.heap.size+1) b:=sc_alloc (sc_new (w:=(w.alloc (Obj.cells #[.int .i64 (a 0),.int .i64 (a 1),.int .i64 (a 2),.int .i64 (a 3),.int .i64 (a 4),.int .i64 (a 5)] 40))) (m:=b) (t:=40) (by simp))
 have kR:SC (((w.alloc (Obj.cells #[.int .i64 (a 0),.int .i64 (a 1),.int .i64 (a 2),.int .i64 (a 3),.int .i64 (a 4),.int .i64 (a 5)] 40)).alloc (Obj.cells #[.int .i64 (b 0),.int .i64 (b 1),.int .i64 (b 2),.int .i64 (b 3),.int .i64 (b 4),.int .i64 (b 5)] 40)).alloc (Obj.cells #[.int .i64 0,.int .i64 0,.int .i64 0,.int .i64 0,.int .i64 0,.int .i64 0] 40)) (w.heap.size+1+1) (fun _=>0):=sc_new (w:=((w.alloc (Obj.cells #[.int .i64 (a 0),.int .i64 (a 1),.int .i64 (a 2),.int .i64 (a 3),.int .i64 (a 4),.int .i64 (a 5)] 40)).alloc (Obj.cells #[.int .i64 (b 0),.int .i64 (b 1),.int .i64 (b 2),.int .i64 (b 3),.int .i64 (b 4),.int .i64 (b 5)] 40))) (m:=fun _=>0) (t:=40) (by simp)
 have kF:SF (((w.alloc (Obj.cells #[.int .i64 (a 0),.int .i64 (a 1),.int .i64 (a 2),.int .i64 (a 3),.int .i64 (a 4),.int .i64 (a 5)] 40)).alloc (Obj.cells #[.int .i64 (b 0),.int .i64 (b 1),.int .i64 (b 2),.int .i64 (b 3),.int .i64 (b 4),.int .i64 (b 5)] 40)).alloc (Obj.cells #[.int .i64 0,.int .i64 0,.int .i64 0,.int .i64 0,.int .i64 0,.int .i64 0] 40)) (w.heap.size+1+1):=sf_new (w:=((w.alloc (Obj.cells #[.int .i64 (a 0),.int .i64 (a 1),.int .i64 (a 2),.int .i64 (a 3),.int .i64 (a 4),.int .i64 (a 5)] 40)).alloc (Obj.cells #[.int .i64 (b 0),.int .i64 (b 1),.int .i64 (b 2),.int .i64 (b 3),.int .i64 (b 4),.int .i64 (b 5)] 40))) (t:=40) (by simp)
 have hB0:Below w.heap.size w (((w.alloc (Obj.cells #[.int .i64 (a 0),.int .i64 (a 1),.int .i64 (a 2),.int .i64 (a 3),.int .i64 (a 4),.int .i64 (a 5)] 40)).alloc (Obj.cells #[.int .i64 (b 0),.int .i64 (b 1),.int .i64 (b 2),.int .i64 (b 3),.int .i64 (b 4),.int .i64 (b 5)] 40)).alloc (Obj.cells #[.int .i64 0,.int .i64 0,.int .i64 0,.int .i64 0,.int .i64 0,.int .i64 0] 40)):=b_alloc (b_alloc (b_alloc (Below.refl _ _)))
 have ea:=Lib.hid (f6b_yes ca)
 have eb:=Lib.hid (f6b_yes cb)
 clear ca cb
 go_enter Tryz.func132,Tryz.ntmps132
 have l6:=sc_six kA
 go_wp2_with fail
 refine (fits_sym a ha _).mono ?_
 rintro e1 w1 ⟨rfl,hb9⟩
 clear l6
 rw [ea.out]
 replace kF:=sf_keep hb9 kR kF
 replace kR:=sc_keep hb9 kR
 replace kA:=sc_keep hb9 kA
 replace kB:=sc_keep hb9 kB
 replace hB0:=b_trans hB0 hb9
 clear hb9
 have l6:=sc_six kB
 go_wp2_with fail
 refine (fits_sym b hb _).mono ?_
 rintro e2 w2 ⟨rfl,hb9⟩
 clear l6
 rw [eb.out]
 replace kF:=sf_keep hb9 kR kF
 replace kR:=sc_keep hb9 kR
 replace kA:=sc_keep hb9 kA
 replace kB:=sc_keep hb9 kB
 replace hB0:=b_trans hB0 hb9
 clear hb9
 clear ea eb ha hb
 have z1:=sc_lt kR
 have hj0:AJ w w.heap.size (w.heap.size+1) (w.heap.size+1+1) w2.heap.size a b x 0 (w2.alloc (Obj.cells #[.int .i64 0,.int .i64 0,.int .i64 0,.int .i64 0,.int .i64 0,.int .i64 0] 40)):=⟨b_alloc hB0,sc_alloc kA,sc_alloc kB,sc_alloc kR,sf_keep (b_alloc (Below.refl _ _)) kR kF,by rw [show (fun i=>if i<0 then x i else 0)=(fun _=>(0:Int)) from funext fun i=>if_neg (by omega)]; exact sc_new (w:=w2) (m:=fun _=>0) (t:=40) rfl,sf_new rfl⟩
 replace hj0:=Lib.hid hj0
 clear kA kB kR kF hB0
 go_wp2
 generalize w2.heap.size=Q at *
 go_loopw [19] (fun iv wr=>∃ k:Nat,k≤6∧iv=.int .i64 k∧Hid (AJ w w.heap.size (w.heap.size+1) (w.heap.size+1+1) Q a b x k wr)∧Hid (∀ i,i<k→e i=0)) (fun iv _=>6 - (intOf iv).toNat)
 case atStart=>exact ⟨0,by decide,rfl,hj0,Lib.hid (fun i hi=>absurd hi (by omega))⟩
 case round =>
  obtain ⟨k,hk,rfl,hj,hz⟩:=hrel
  clear hj0
  by_cases c:k=6
  ·subst c
   have E1:=Lib.hid (se_all hz.out)
   obtain ⟨s0,_,_,s3,s4,s5,_⟩:=hj.out
   replace s3:=sc_six s3
   replace s4:=sf_six s4
   replace s5:SC6 wr Q x:=sc_six (fun i hi=>by have:=s5 i hi; dsimp only at this; rwa [if_pos hi] at this)
   go_wp2
   obtain ⟨r0,r1,r2,r3,r4,r5⟩:=s3
   refine bodyPost_ret (v:=.tuple #[sv x,.int .i64 0]) (by simp [results,Tryz.results132,go_sem,r0,r1,r2,r3,r4,r5]) rfl ⟨sz_end (sz_all E1.out).symm E1.out.symm,?_⟩
   exact bb_set s0 (by omega)
  replace hk:k<6:=by omega
  clear c
  have hk0:(0:Int)≤(k:Int):=by omega
  have hk6:(k:Int)<6:=by omega
  have kA:=hj.out.2.1
  have kB:=hj.out.2.2.1
  go_wp2
  refine region_late_k [23,24,25,26,27,28,29,22,30,31] 9 (fun i_=>match i_ with | 0=>.int .i64 ((k:Nat):Int) | 1=>.pointer (some ⟨w.heap.size,k,none⟩) | 2=>.int .i64 (a k) | 3=>.int .i64 ((k:Nat):Int) | 4=>.pointer (some ⟨w.heap.size+1,k,none⟩) | 5=>.int .i64 (b k) | 6=>.tuple #[.int .i64 (x k),.int .i64 (e k)] | 7=>.tuple #[.int .i64 (x k),.int .i64 (e k)] | 8=>.int .i64 (x k) | 9=>.int .i64 (e k) | _=>undef) (fun f=>(f.put (some 8) (.int .i64 (x k))).put (some 9) (.int .i64 (e k))) (fun U_=>Below wr.heap.size wr U_) (fun i_ X_ U_=>match i_ with | 0=>X_=.int .i64 ((k:Nat):Int) | 1=>X_=.pointer (some ⟨w.heap.size,k,none⟩) | 2=>X_=.int .i64 (a k) | 3=>X_=.int .i64 ((k:Nat):Int) | 4=>X_=.pointer (some ⟨w.heap.size+1,k,none⟩) | 5=>X_=.int .i64 (b k) | 6=>X_=.tuple #[.int .i64 (x k),.int .i64 (e k)] | 7=>X_=.tuple #[.int .i64 (x k),.int .i64 (e k)] | 8=>X_=.int .i64 (x k) | 9=>X_=.int .i64 (e k) | _=>True) (fun i_=>false) (by kernel_rfl) (by kernel_rfl) (by kernel_rfl) (by kernel_rfl) ?_ (fun i x w hi ha h=>by cases ha) ?_ ?_ ?_ ?_
  ·refine swp (upS (upS (upS (upS (upS (upS (upS (upS (upS (upS up0 ?_) ?_) ?_) ?_) ?_) ?_) ?_) ?_) ?_) ?_)
   all_goals exact fun _ _ _ h _=>h
  ·refine upS (upS (upS (upS (upS (upS (upS (upS (upS (upS up0 ?_) ?_) ?_) ?_) ?_) ?_) ?_) ?_) ?_) ?_
   all_goals intro v f w' hb hv hB hd
   ·have b7:f.tmps[7]?=some (.int .i64 ((k:Nat):Int)):=(hb 7 (by decide)).trans rfl
    clear hb hv hd
    refine wpOp_step rfl fun K hK=>?_
    go_simp
    exact hK _ _ ⟨_,rfl,Below.refl _ _,rfl,fun h=>absurd h (by decide)⟩
   ·have b2:f.tmps[2]?=some (.pointer (some ⟨w.heap.size,0,none⟩)):=(hb 2 (by decide)).trans rfl
    have d0:=got (hv 0 23 rfl) (hd 0 (by kernel_rfl))
    clear hb hv hd
    refine wpOp_step rfl fun K hK=>?_
    go_simp
    exact hK _ _ ⟨_,rfl,Below.refl _ _,rfl,fun h=>absurd h (by decide)⟩
   ·have d1:=got (hv 1 24 rfl) (hd 1 (by kernel_rfl))
    clear hb hv hd
    have c:=sc_keep hB kA k hk
    refine wpOp_step rfl fun K hK=>?_
    go_simp
    exact hK _ _ ⟨_,rfl,Below.refl _ _,rfl,fun h=>absurd h (by decide)⟩
   ·have b7:f.tmps[7]?=some (.int .i64 ((k:Nat):Int)):=(hb 7 (by decide)).trans rfl
    clear hb hv hd
    refine wpOp_step rfl fun K hK=>?_
    go_simp
    exact hK _ _ ⟨_,rfl,Below.refl _ _,rfl,fun h=>absurd h (by decide)⟩
   ·have b3:f.tmps[3]?=some (.pointer (some ⟨w.heap.size+1,0,none⟩)):=(hb 3 (by decide)).trans rfl
    have d3:=got (hv 3 26 rfl) (hd 3 (by kernel_rfl))
    clear hb hv hd
    refine wpOp_step rfl fun K hK=>?_
    go_simp
    exact hK _ _ ⟨_,rfl,Below.refl _ _,rfl,fun h=>absurd h (by decide)⟩
   ·have d4:=got (hv 4 27 rfl) (hd 4 (by kernel_rfl))
    clear hb hv hd
    have c:=sc_keep hB kB k hk
    refine wpOp_step rfl fun K hK=>?_
    go_simp
    exact hK _ _ ⟨_,rfl,Below.refl _ _,rfl,fun h=>absurd h (by decide)⟩
   ·have d2:=got (hv 2 25 rfl) (hd 2 (by kernel_rfl))
    have d5:=got (hv 5 28 rfl) (hd 5 (by kernel_rfl))
    clear hb hv hd
    refine wpOp_call rfl Tryz.call140 (args2 (eval_tmp d2) (eval_tmp d5)) (hc k hk _) ?_
    rintro e5 w5 ⟨rfl,hb5⟩
    exact ⟨_,rfl,_,rfl,hb5,rfl,fun h=>absurd h (by decide)⟩
   ·have d6:=got (hv 6 29 rfl) (hd 6 (by kernel_rfl))
    clear hb hv hd
    refine wpOp_step rfl fun K hK=>?_
    go_simp
    exact hK _ _ ⟨_,rfl,Below.refl _ _,rfl,fun h=>absurd h (by decide)⟩
   ·have d7:=got (hv 7 22 rfl) (hd 7 (by kernel_rfl))
    clear hb hv hd
    refine wpOp_step rfl fun K hK=>?_
    go_simp
    exact hK _ _ ⟨_,rfl,Below.refl _ _,rfl,fun h=>absurd h (by decide)⟩
   ·have d7:=got (hv 7 22 rfl) (hd 7 (by kernel_rfl))
    clear hb hv hd
    refine wpOp_step rfl fun K hK=>?_
    go_simp
    exact hK _ _ ⟨_,rfl,Below.refl _ _,rfl,fun h=>absurd h (by decide)⟩
  ·intro v w' hB hF hD
   have F0:v 0=_:=hF 0 (by simp)
   have F1:v 1=_:=hF 1 (by simp)
   have F2:v 2=_:=hF 2 (by simp)
   have F3:v 3=_:=hF 3 (by simp)
   have F4:v 4=_:=hF 4 (by simp)
   have F5:v 5=_:=hF 5 (by simp)
   have F6:v 6=_:=hF 6 (by simp)
   have F7:v 7=_:=hF 7 (by simp)
   have F8:v 8=_:=hF 8 (by simp)
   have F9:v 9=_:=hF 9 (by simp)
   clear hF
   simp only [frOf,frGo,Nat.zero_add,Nat.reduceAdd,F0,F1,F2,F3,F4,F5,F6,F7,F8,F9]
   clear F0 F1 F2 F3 F4 F5 F6 F7 F8 F9 hD hc kA kB
   go_wp2
  ·intro v w' hB hF hD
   have F0:v 0=_:=hF 0 (by simp) (by decide)
   have F1:v 1=_:=hF 1 (by simp) (by decide)
   have F2:v 2=_:=hF 2 (by simp) (by decide)
   have F3:v 3=_:=hF 3 (by simp) (by decide)
   have F4:v 4=_:=hF 4 (by simp) (by decide)
   have F5:v 5=_:=hF 5 (by simp) (by decide)
   have F6:v 6=_:=hF 6 (by simp) (by decide)
   have F7:v 7=_:=hF 7 (by simp) (by decide)
   have F8:v 8=_:=hF 8 (by simp) (by decide)
   clear hF
   simp only [frOf,frGo,Nat.zero_add,Nat.reduceAdd,F0,F1,F2,F3,F4,F5,F6,F7,F8]
   clear F0 F1 F2 F3 F4 F5 F6 F7 F8 hD hc kA kB
   refine wpOp_step rfl (fun K hK=>?_)
   go_simp
   refine hK _ _ ?_
   clear hK K
   refine wpOp_step rfl (fun K hK=>?_)
   go_simp
   refine hK _ _ ?_
   clear hK K
   go_wp2
  ·intro w' hst
   have hB:=hst
   clear hst
   simp only [frOf,frGo,Nat.zero_add,Nat.reduceAdd]
   clear hc kA kB
   have s1:=aj_keep hj.out hB
   clear hB hj
   generalize hek:e k=ek at *
   have EK:=Lib.hid hek
   clear hek
   generalize hxk:x k=xk at *
   have XK:=Lib.hid hxk
   clear hxk
   by_cases he:ek=0
   ·subst he
    have s2:=Lib.hid (aj_put s1 hk (by omega) (by omega) (by omega) (by omega))
    obtain ⟨_,_,_,_,_,s5,s6⟩:=s1
    have q1:=s5 k hk
    have q2:=s6 k hk
    clear s5 s6
    rw [XK.out] at s2
    go_wp2
    go_roundw
    case rel=>exact ⟨k+1,hk,by go_num,s2,Lib.hid (less_succ hz.out EK.out)⟩
    case measure=>simp [intOf]; omega
   ·have E1:=Lib.hid (se_first hk hz.out (by rw [EK.out]; exact he))
    have E2:=Lib.hid (show ¬ se e=0 by rw [E1.out,EK.out]; exact he)
    have hn:=neb_of he
    obtain ⟨s0,_,_,s3,s4,_,_⟩:=s1
    replace s3:=sc_six s3
    replace s4:=sf_six s4
    clear hk0 hk6 he
    go_wp2
    obtain ⟨r0,r1,r2,r3,r4,r5⟩:=s3
    refine bodyPost_ret (v:=.tuple #[sv (fun _=>0),.int .i64 ek]) (by simp [results,Tryz.results132,go_sem,r0,r1,r2,r3,r4,r5]) rfl ⟨sz_end (sz_no E2.out).symm (E1.out.trans EK.out).symm,?_⟩
    exact bb_set s0 (by omega)
def sumz (a b:Nat→Int):Nat→Int:=if F6 a∧F6 b then sz (fun i=>gz (a i) (b i) (a i+b i)) (fun i=>ge (a i) (b i) (a i+b i)) else fun _=>0
def sume (a b:Nat→Int):Int:=if F6 a∧F6 b then se (fun i=>ge (a i) (b i) (a i+b i)) else 1
theorem add_sym (a b:Nat→Int) (ha:I6 a) (hb:I6 b) (w:World) :
  Calls Tryz.prog 132 #[sv a,sv b] w (RetV (.tuple #[sv (sumz a b),.int .i64 (sume a b)]) w):=by
 unfold sumz sume
 by_cases c:F6 a∧F6 b
 ·rw [if_pos c,if_pos c]
  exact add_sym_ok a b _ _ ha hb c.1 c.2 (fun k hk w=>add_fix (a k) (b k) (ha k hk).1 (ha k hk).2 (hb k hk).1 (hb k hk).2 w) w
 ·rw [if_neg c,if_neg c]
  exact add_sym_bad a b ha hb c w
end Go.Proofs.YtjifkmldigemkaaGreatDoor
namespace Go.Proofs.YtjifkmldigemkaaGreatDoor
open Go.RowKit Go.Shelf Go.Joins
abbrev cv (x:Nat→Int):Value:=.agg #[.int .i64 (x 0),.int .i64 (x 1),.int .i64 (x 2),.int .i64 (x 3),.int .i64 (x 4),.int .i64 (x 5),.int .i64 (x 6),.int .i64 (x 7),.int .i64 (x 8),.int .i64 (x 9),.int .i64 (x 10),.int .i64 (x 11),.int .i64 (x 12),.int .i64 (x 13),.int .i64 (x 14),.int .i64 (x 15),.int .i64 (x 16),.int .i64 (x 17),.int .i64 (x 18),.int .i64 (x 19),.int .i64 (x 20),.int .i64 (x 21),.int .i64 (x 22),.int .i64 (x 23),.int .i64 (x 24),.int .i64 (x 25),.int .i64 (x 26),.int .i64 (x 27),.int .i64 (x 28),.int .i64 (x 29),.int .i64 (x 30)]
abbrev CF (w:World) (b:Nat) (x:Nat→Int):Prop:=∀ i,i<31→w.cell? ⟨b,i,none⟩=some (.int .i64 (x i))
theorem cf_new {w:World} {b:Nat} {x:Nat→Int} {t:TypeId} (hn:b=w.heap.size):CF (w.alloc (Obj.cells #[.int .i64 (x 0),.int .i64 (x 1),.int .i64 (x 2),.int .i64 (x 3),.int .i64 (x 4),.int .i64 (x 5),.int .i64 (x 6),.int .i64 (x 7),.int .i64 (x 8),.int .i64 (x 9),.int .i64 (x 10),.int .i64 (x 11),.int .i64 (x 12),.int .i64 (x 13),.int .i64 (x 14),.int .i64 (x 15),.int .i64 (x 16),.int .i64 (x 17),.int .i64 (x 18),.int .i64 (x 19),.int .i64 (x 20),.int .i64 (x 21),.int .i64 (x 22),.int .i64 (x 23),.int .i64 (x 24),.int .i64 (x 25),.int .i64 (x 26),.int .i64 (x 27),.int .i64 (x 28),.int .i64 (x 29),.int .i64 (x 30)] t)) b x:=by
 subst hn
 intro i hi
 match i,hi with
 | 0,_=>simp [go_sem]
 | 1,_=>simp [go_sem]
 | 2,_=>simp [go_sem]
 | 3,_=>simp [go_sem]
 | 4,_=>simp [go_sem]
 | 5,_=>simp [go_sem]
 | 6,_=>simp [go_sem]
 | 7,_=>simp [go_sem]
 | 8,_=>simp [go_sem]
 | 9,_=>simp [go_sem]
 | 10,_=>simp [go_sem]
 | 11,_=>simp [go_sem]
 | 12,_=>simp [go_sem]
 | 13,_=>simp [go_sem]
 | 14,_=>simp [go_sem]
 | 15,_=>simp [go_sem]
 | 16,_=>simp [go_sem]
 | 17,_=>simp [go_sem]
 | 18,_=>simp [go_sem]
 | 19,_=>simp [go_sem]
 | 20,_=>simp [go_sem]
 | 21,_=>simp [go_sem]
 | 22,_=>simp [go_sem]
 | 23,_=>simp [go_sem]
 | 24,_=>simp [go_sem]
 | 25,_=>simp [go_sem]
 | 26,_=>simp [go_sem]
 | 27,_=>simp [go_sem]
 | 28,_=>simp [go_sem]
 | 29,_=>simp [go_sem]
 | 30,_=>simp [go_sem]
 | (n+31),h=>exact absurd h (by omega)
abbrev C64 (x:Nat→Int):Prop:=∀ i,i<31→I64 (x i)
def inb (x lo hi:Int):Bool:=decide (lo≤x) && decide (x≤hi)
theorem inb_iff {x lo hi:Int}:inb x lo hi=true↔lo≤x∧x≤hi:=by unfold inb; simp
theorem inb_no {x lo hi:Int}:inb x lo hi=false↔¬ (lo≤x∧x≤hi):=by
 rw [← inb_iff]
 cases inb x lo hi <;> simp
def b3 (v0 v1 v2 l0 l1 l2 h0 h1 h2:Int):Bool:=inb v0 l0 h0 && (inb v1 l1 h1 && inb v2 l2 h2)
def k1 (x:Nat→Int):Bool:=b3 (x 0) (x 1) (x 2) 0 0 0 1125899906842624 1125899906842624 1125899906842624
def k2 (x:Nat→Int):Bool:=b3 (x 3) (x 4) (x 5) (x 0) (x 1) (x 2) 1125899906842624 1125899906842624 1125899906842624
def k3 (x:Nat→Int):Bool:=inb (x 6) 274877906944 1125899906842624
def k4 (x:Nat→Int):Bool:=inb (x 7) (x 6) 1125899906842624
def k5 (x:Nat→Int):Bool:=mayb (x 11) (x 12) (x 13) (x 14) (x 15) (x 16) && b3 (x 14) (x 15) (x 16) (x 11) (x 12) (x 13) 72057594037927936 72057594037927936 72057594037927936
def k6 (x:Nat→Int):Bool:=b3 (x 8) (x 9) (x 10) (x 11) (x 12) (x 13) (x 14) (x 15) (x 16)
def k7 (x:Nat→Int):Bool:=b3 (x 17) (x 18) (x 19) 18014398509481984 0 0 72057594037927936 72057594037927936 72057594037927936
def k8 (x:Nat→Int):Bool:=inb (x 20) 1 1000
def k9 (x:Nat→Int):Bool:=b3 (x 21) (x 22) (x 23) 0 (-4398046511104) (-4398046511104) 1099511627776 4398046511104 4398046511104
def k10 (x:Nat→Int):Bool:=inb (x 24) 1 1099511627776
def k11 (x:Nat→Int):Bool:=inb (x 26) 1 131072 && inb (x 25) (1 - x 26) (x 26 - 1)
def k12 (x:Nat→Int):Bool:=inb (x 27) 0 1000
def k13 (x:Nat→Int):Bool:=inb (x 28) 1 (x 29) && decide (x 29≤100000)
def k14 (x:Nat→Int):Bool:=inb (x 30) 0 400000
def cks (x:Nat→Int):Int:=bif k1 x then (bif k2 x then (bif k3 x then (bif k4 x then (bif k5 x then (bif k6 x then (bif k7 x then (bif k8 x then (bif k9 x then (bif k10 x then (bif k11 x then (bif k12 x then (bif k13 x then (bif k14 x then 0 else 14) else 13) else 12) else 11) else 10) else 9) else 8) else 7) else 6) else 5) else 4) else 3) else 2) else 1
theorem conf_from (x lo hi:Int) (w:World):Calls Tryz.prog 92 #[.int .i64 x,.int .i64 lo,.int .i64 hi] w (RetV (.bool (inb x lo hi)) w):=by
 by_cases l:lo≤x
 ·go_enter Tryz.func92,Tryz.ntmps92
  go_wp2
  go_ret
  exact ⟨by rw [show inb x lo hi=decide (x≤hi) from by unfold inb; rw [decide_eq_true l,Bool.true_and]]; rfl,Below.refl _ _⟩
 ·go_enter Tryz.func92,Tryz.ntmps92
  go_wp2
  go_ret
  exact ⟨by rw [show inb x lo hi=false from by unfold inb; rw [decide_eq_false (by omega),Bool.false_and]]; rfl,Below.refl _ _⟩
theorem inside_any (n c:Int) (h1:1≤c) (h2:c≤131072) (w:World):Calls Tryz.prog 102 #[.int .i64 n,.int .i64 c] w (RetV (.bool (inb n (1 - c) (c - 1))) w):=by
 have hw:IntKind.i64.wrap (-c)=-c:=by rw [IntKind.wrap_i64]; omega
 by_cases l:-c<n
 ·go_enter Tryz.func102,Tryz.ntmps102
  go_wp2
  go_ret
  exact ⟨by rw [show inb n (1 - c) (c - 1)=decide (n<c) from by unfold inb; rw [show decide (1 - c≤n)=true from decide_eq_true (by omega),Bool.true_and]; exact decide_eq_decide.2 ⟨fun h=>by omega,fun h=>by omega⟩]; rfl,Below.refl _ _⟩
 ·go_enter Tryz.func102,Tryz.ntmps102
  go_wp2
  go_ret
  exact ⟨by rw [show inb n (1 - c) (c - 1)=false from inb_no.2 (fun h=>by omega)]; rfl,Below.refl _ _⟩
theorem same_any (x:Int) (w:World):Calls Tryz.prog 53 #[.int .i64 x] w (RetV (tv x x x) w):=by
 go_enter Tryz.func53,Tryz.ntmps53
 go_wp2
 exact bodyPost_ret (v:=tv x x x) (by simp [results,Tryz.results53,go_sem]) rfl ⟨rfl,b_alloc (Below.refl _ _)⟩
end Go.Proofs.YtjifkmldigemkaaGreatDoor
namespace Go.Proofs.YtjifkmldigemkaaGreatDoor
open Go.RowKit Go.Shelf Go.Joins
theorem under_any (p:Int) (g:gd p=true) (w:World) (hT:TB w):Calls Tryz.prog 121 #[.int .i64 p] w (RetV (.int .i64 (un p)) w):=by
 have r:=gd_range g
 go_enter Tryz.func121,Tryz.ntmps121
 go_wp2
 go_loopw [3] (fun iv wr=>∃ k:Nat,k≤45∧iv=.int .i64 k∧p≤tb k∧Below w.heap.size w wr) (fun iv _=>46 - (intOf iv).toNat)
 case atStart=>exact ⟨0,Nat.zero_le _,rfl,r.2,Below.refl _ _⟩
 case round =>
  obtain ⟨k,hk,rfl,hp,E⟩:=hrel
  have c0:=tb_keep E hT (k+1) (by omega)
  have k0:(0:Int)≤(k:Int)+1:=by omega
  have k1:(k:Int)+1<47:=by omega
  have ws:IntKind.i64.wrap ((k:Int)+1)=(k:Int)+1:=by rw [IntKind.wrap_i64]; omega
  have hn:((k:Int)+1).toNat=k+1:=by omega
  by_cases c:p≤tb (k+1)
  ·have c2:=Lib.hid c
   have hx:k+1≤45:=by
    rcases Nat.lt_or_ge k 45 with h | h
    ·omega
    ·have:k=45:=by omega
     subst this
     have:tb (45+1)=86822:=rfl
     omega
   obtain ⟨t,ht⟩:∃ t,tb (k+1)=t:=⟨_,rfl⟩
   rw [ht] at c c0
   clear hT ht
   go_wp2
   refine ⟨⟨k+1,hx,rfl,c2.out,E⟩,?_⟩
   simp only [intOf]
   omega
  ·have hu:=Lib.hid (un_only g hk hp (by omega))
   generalize tb (k+1)=t at *
   clear hT
   go_wp2
   exact bodyPost_ret (v:=.int .i64 k) (by simp [results,Tryz.results121,go_sem]) rfl ⟨by rw [hu.out],E⟩
theorem height_any (i:Nat) (hi:i≤46) (w:World):Calls Tryz.prog 122 #[.int .i64 i] w (RetV (.int .i64 (ht i)) w):=by
 have w1:IntKind.i64.wrap (281474976710656*(i:Int))=281474976710656*(i:Int):=by rw [IntKind.wrap_i64]; omega
 have w2:IntKind.i64.wrap (-562949953421312+281474976710656*(i:Int))=ht i:=by unfold ht; rw [IntKind.wrap_i64]; omega
 go_enter Tryz.func122,Tryz.ntmps122
 go_wp2
 go_ret
 exact ⟨rfl,Below.refl _ _⟩
theorem altitude_bad (p:Int) (g:gd p=false) (w:World):Calls Tryz.prog 59 #[.int .i64 p] w (RetV (.tuple #[.int .i64 0,.int .i64 2]) w):=by
 have cg:=good_any p
 rw [g] at cg
 clear g
 go_enter Tryz.func59,Tryz.ntmps59
 go_wp2_with fail
 refine (cg _).mono ?_
 rintro e y0 ⟨rfl,E⟩
 clear cg
 go_wp2
 go_ret2
 exact ⟨rfl,E⟩
theorem altitude_ok (p:Int) (g:gd p=true) (w:World) (hT:TB w):Calls Tryz.prog 59 #[.int .i64 p] w (RetV (.tuple #[.int .i64 (al p),.int .i64 0]) w):=by
 have cg:=good_any p
 rw [g] at cg
 have gr:=gd_range g
 have cu:=under_any p g
 obtain ⟨u0,u1,u2⟩:=un_spec g
 obtain ⟨d0,d1,d2⟩:=dn_wd g
 have pr:=pt_range g
 have r0:=tb_range (i:=un p) (by omega)
 have r1:=tb_range (i:=un p+1) (by omega)
 have ch:=height_any (un p) (by omega)
 have eal:=Lib.hid (show al p=ht (un p)+pt p from rfl)
 have hh:ht (un p)=-562949953421312+281474976710656*(un p:Int):=rfl
 have wd1:IntKind.i64.wrap (tb (un p) - p)=dn p:=by unfold dn; rw [IntKind.wrap_i64]; omega
 have wd2:IntKind.i64.wrap (tb (un p) - tb (un p+1))=wd p:=by unfold wd; rw [IntKind.wrap_i64]; omega
 have wd3:IntKind.i64.wrap (281474976710656*dn p)=281474976710656*dn p:=by rw [IntKind.wrap_i64]; omega
 have wd4:(281474976710656*dn p).tdiv (wd p)=pt p:=by unfold pt; rw [Int.tdiv_eq_ediv_of_nonneg (by omega)]
 have wd5:IntKind.i64.wrap (pt p)=pt p:=by rw [IntKind.wrap_i64]; omega
 have wd6:IntKind.i64.wrap (ht (un p)+pt p)=ht (un p)+pt p:=by rw [IntKind.wrap_i64]; omega
 have wn:¬ wd p=0:=by omega
 have k0:(0:Int)≤(un p:Int)+1:=by omega
 have k1:(un p:Int)+1<47:=by omega
 have k2:(un p:Int)<47:=by omega
 have ws:IntKind.i64.wrap ((un p:Int)+1)=(un p:Int)+1:=by rw [IntKind.wrap_i64]; omega
 have hn:((un p:Int)+1).toNat=un p+1:=by omega
 have T0:=fun (w:World) (h:TB w)=>h (un p) (by omega)
 have T1:=fun (w:World) (h:TB w)=>h (un p+1) (by omega)
 clear g u0 u1 u2 d0 d1 d2 pr r0 r1 hh gr
 generalize ht (un p)=H at *
 generalize pt p=f at *
 generalize dn p=d at *
 generalize wd p=v at *
 generalize tb (un p+1)=t1 at *
 generalize tb (un p)=t0 at *
 generalize un p=i at *
 go_enter Tryz.func59,Tryz.ntmps59
 go_wp2_with fail
 refine (cg _).mono ?_
 rintro e y0 ⟨rfl,E⟩
 replace hT:=tb_keep E hT
 clear cg
 go_wp2_with fail
 refine (cu _ hT).mono ?_
 rintro e y1 ⟨rfl,hb⟩
 replace hT:=tb_keep hb hT
 replace E:=b_trans E hb
 clear cu hb
 have q0:=cell_regrown (T0 _ hT)
 have q1:=cell_regrown (T1 _ hT)
 clear T0 T1 hT
 go_wp2
 refine wp_region_quiet_below (by kernel_rfl) (by kernel_rfl) ?_
 repeat (with_reducible refine wpQuiet_step (fun KQ hKQ=>?_); go_simp; (with_reducible refine hKQ _ ?_; clear hKQ KQ))
 refine wpQuiet_nil ?_
 intro _ hw'
 obtain ⟨⟨dq,osq⟩,hw''⟩:=hw'
 subst hw''
 replace E:=b_trans E (below_regrown _ dq osq)
 clear q0 q1
 generalize Sort.grow (redrawn y1 dq) osq=y2 at *
 have c0:=retV_regrown (w:=y2) ch
 clear ch
 go_wp2
 refine wp_region_quiet_below (by kernel_rfl) (by kernel_rfl) ?_
 repeat (with_reducible refine wpQuiet_step (fun KQ hKQ=>?_); go_simp; first | (with_reducible refine hKQ _ ?_; clear hKQ KQ) | (apply Exists.intro; with_reducible refine ⟨fun _=>?_,hKQ _ ?_⟩; (with_reducible exact c0 _ _); clear hKQ KQ))
 refine wpQuiet_nil ?_
 intro _ hw'
 obtain ⟨⟨dq,osq⟩,hw''⟩:=hw'
 subst hw''
 replace E:=b_trans E (below_regrown y2 dq osq)
 clear c0
 generalize Sort.grow (redrawn y2 dq) osq=y3 at *
 go_wp2
 go_ret2
 refine ⟨?_,E⟩
 rw [eal.out]
 rfl
theorem altitude_any (p:Int) (w:World) (hT:TB w):Calls Tryz.prog 59 #[.int .i64 p] w (RetV (.tuple #[.int .i64 (az p),.int .i64 (ae p)]) w):=by
 cases g:gd p
 ·rw [az_bad g,ae_bad g]
  exact altitude_bad p g w
 ·rw [az_ok g,ae_ok g]
  exact altitude_ok p g w hT
end Go.Proofs.YtjifkmldigemkaaGreatDoor
namespace Go.Proofs.YtjifkmldigemkaaGreatDoor
open Go.RowKit Go.Shelf Go.Joins
def bd (x:Int):Int:=if x<0 then 0 else x
theorem bd_range {x:Int} (h:x≤9223372036854775807):0≤bd x∧bd x≤9223372036854775807:=by
 unfold bd
 split <;> omega
def sc (c p:Int):Int:=if gd p=true∧c=0 then p else c
def sne (c p:Int):Int:=if gd p=true then (if c=0 then 0 else 7) else 2
theorem s_bad {c p:Int} (g:gd p=false):sc c p=c∧sne c p=2:=by simp [sc,sne,g]
theorem s_full {c p:Int} (g:gd p=true) (h:c≠0):sc c p=c∧sne c p=7:=by simp [sc,sne,g,h]
theorem s_ok {p:Int} (g:gd p=true):sc 0 p=p∧sne 0 p=0:=by simp [sc,sne,g]
def GK (c:Int):Prop:=c=0∨gd c=true
theorem gk_range {c:Int} (h:GK c):0≤c∧c≤430515:=by
 rcases h with h | h
 ·omega
 ·have:=gd_range h
  omega
theorem gk_set {c:Int} (h:GK c) (p:Int):GK (sc c p):=by
 unfold sc
 split
 ·rename_i g
  exact Or.inr g.1
 ·exact h
theorem gk_good {c:Int} (h:GK c) (n:c≠0):gd c=true:=by
 rcases h with h | h
 ·exact absurd h n
 ·exact h
abbrev GR (w:World) (b:Nat) (c m n r:Int):Prop:=w.heap[b]?=some (.cells #[.int .i64 c,.int .i64 m,.int .i64 n,.int .i64 r] 180 (0,0))
theorem gr_0 {w:World} {b:Nat} {c m n r v:Int} (h:GR w b c m n r):GR (w.setCell ⟨b,0,none⟩ (.int .i64 v)) b v m n r:=(heap_setCell_same w b 0 _ _ _ h).trans rfl
theorem newground_any (x y z:Int) (w:World):Calls Tryz.prog 54 #[.int .i64 x,.int .i64 y,.int .i64 z] w fun e w'=>∃ b,e=.returned (.pointer (some ⟨b,0,none⟩))∧w.heap.size≤b∧GR w' b 0 (bd x) y z∧Below w.heap.size w w':=by
 have hm:(if x<0 then 0 else x)=bd x:=rfl
 generalize bd x=m at *
 go_enter Tryz.func54,Tryz.ntmps54
 go_wp2
 go_ret
 exact ⟨_,rfl,Nat.le_refl _,heap_alloc_last _ _,b_alloc (Below.refl _ _)⟩
theorem isknown_any (b:Nat) (c m n r:Int) (w:World) (h:GR w b c m n r):Calls Tryz.prog 115 #[.pointer (some ⟨b,0,none⟩)] w (RetV (.bool (decide (c≠0))) w):=by
 have g0:w.cell? ⟨b,0,none⟩=some (.int .i64 c):=(cell_of_row _ _ 0 _ _ _ h).trans rfl
 clear h
 by_cases k:c=0
 ·subst k
  rw [show decide ((0:Int)≠0)=false from rfl]
  go_enter Tryz.func115,Tryz.ntmps115
  go_wp2
  go_ret
  exact ⟨rfl,Below.refl _ _⟩
 ·rw [decide_eq_true k]
  have k':(c != 0)=true:=by simpa using k
  clear k
  go_enter Tryz.func115,Tryz.ntmps115
  go_wp2
  go_ret
  exact ⟨rfl,Below.refl _ _⟩
theorem known_grown {b:Nat} {c m n r:Int} {w:World} (h:GR w b c m n r):∀ d os,Calls Tryz.prog 115 #[.pointer (some ⟨b,0,none⟩)] (Sort.grow (redrawn w d) os) fun e w''=>e=.returned (.bool (decide (c≠0)))∧∃ p:Regrown,w''=Sort.grow (redrawn w p.d) p.os :=
 fun d os=>Calls.regrown_of (isknown_any b c m n r _ (row_keep (below_regrown w d os) h))
theorem set_any (b:Nat) (c m n r p:Int) (w:World) (h:GR w b c m n r):Calls Tryz.prog 52 #[.pointer (some ⟨b,0,none⟩),.int .i64 p] w fun e w'=>e=.returned (.int .i64 (sne c p))∧GR w' b (sc c p) m n r∧But b w w':=by
 have cg:=good_any p
 cases g:gd p
 ·rw [(s_bad g).1,(s_bad g).2]
  rw [g] at cg
  clear g
  go_enter Tryz.func52,Tryz.ntmps52
  go_wp2_with fail
  refine (cg _).mono ?_
  rintro e y0 ⟨rfl,hb⟩
  replace h:=row_keep hb h
  go_wp2
  go_ret
  exact ⟨rfl,h,but_below hb⟩
 ·rw [g] at cg
  by_cases k:c=0
  ·subst k
   rw [(s_ok g).1,(s_ok g).2]
   clear g
   go_enter Tryz.func52,Tryz.ntmps52
   go_wp2_with fail
   refine (cg _).mono ?_
   rintro e y0 ⟨rfl,hb⟩
   replace h:=row_keep hb h
   have B:=but_below (b:=b) hb
   clear hb cg
   go_wp2_with fail
   refine (isknown_any b 0 m n r _ h).mono ?_
   rintro e y1 ⟨rfl,hb⟩
   rw [show decide ((0:Int)≠0)=false from rfl]
   replace h:=row_keep hb h
   replace B:=but_trans B (but_below (b:=b) hb)
   clear hb
   have z0:=frozen_of_row y1 b 0 _ _ h
   have g0:y1.cell? ⟨b,0,none⟩=some (.int .i64 0):=(cell_of_row _ _ 0 _ _ _ h).trans rfl
   replace h:=gr_0 (v:=p) h
   replace B:=but_trans B (but_set (i:=0) (v:=.int .i64 p))
   go_wp2
   go_ret
   exact ⟨rfl,h,B⟩
  ·rw [(s_full g k).1,(s_full g k).2]
   clear g
   go_enter Tryz.func52,Tryz.ntmps52
   go_wp2_with fail
   refine (cg _).mono ?_
   rintro e y0 ⟨rfl,hb⟩
   replace h:=row_keep hb h
   have B:=but_below (b:=b) hb
   clear hb cg
   go_wp2_with fail
   refine (isknown_any b c m n r _ h).mono ?_
   rintro e y1 ⟨rfl,hb⟩
   rw [decide_eq_true k]
   replace h:=row_keep hb h
   replace B:=but_trans B (but_below (b:=b) hb)
   clear hb
   go_wp2
   go_ret
   exact ⟨rfl,h,B⟩
theorem near_go (b:Nat) (c m n r p l:Int) (x y z:Bool) (hx:Hid (gd p=x)) (hy:Hid (decide (c≠0)=y)) (w:World) (h:GR w b c m n r)
  (hl:IntKind.i64.wrap (c - m)=l) (hz:Hid (decide (l≤p)=z)):Calls Tryz.prog 189 #[.pointer (some ⟨b,0,none⟩),.int .i64 p] w (RetV (.bool (x && y && z)) w):=by
 have c1:=retV_regrown (w:=w) (good_any p)
 have c0:=known_grown h
 rw [hx.out] at c1
 rw [hy.out] at c0
 clear hx hy
 have q0:=cell_regrown (show w.cell? ⟨b,0,none⟩=some (.int .i64 c) from (cell_of_row _ _ 0 _ _ _ h).trans rfl)
 have q1:=cell_regrown (show w.cell? ⟨b,1,none⟩=some (.int .i64 m) from (cell_of_row _ _ 1 _ _ _ h).trans rfl)
 clear h
 cases x
 ·clear hl hz
  go_enter Tryz.func189,Tryz.ntmps189
  go_wp2
  refine wp_region_quiet_below (by kernel_rfl) (by kernel_rfl) ?_
  repeat (with_reducible refine wpQuiet_step (fun KQ hKQ=>?_); go_simp; first | (with_reducible refine hKQ _ ?_; clear hKQ KQ) | (apply Exists.intro; with_reducible refine ⟨fun _=>?_,hKQ _ ?_⟩; (first | (with_reducible exact c0 _ _) | (with_reducible exact c1 _ _)); clear hKQ KQ))
  refine wpQuiet_nil ?_
  intro _ hw'
  obtain ⟨⟨dq,osq⟩,hw''⟩:=hw'
  subst hw''
  have E:=below_regrown w dq osq
  clear q0 q1 c0 c1
  generalize Sort.grow (redrawn w dq) osq=y1 at *
  go_wp2
  go_ret
  exact ⟨rfl,E⟩
 ·cases y
  ·clear hl hz
   go_enter Tryz.func189,Tryz.ntmps189
   go_wp2
   refine wp_region_quiet_below (by kernel_rfl) (by kernel_rfl) ?_
   repeat (with_reducible refine wpQuiet_step (fun KQ hKQ=>?_); go_simp; first | (with_reducible refine hKQ _ ?_; clear hKQ KQ) | (apply Exists.intro; with_reducible refine ⟨fun _=>?_,hKQ _ ?_⟩; (first | (with_reducible exact c0 _ _) | (with_reducible exact c1 _ _)); clear hKQ KQ))
   refine wpQuiet_nil ?_
   intro _ hw'
   obtain ⟨⟨dq,osq⟩,hw''⟩:=hw'
   subst hw''
   have E:=below_regrown w dq osq
   clear q0 q1 c0 c1
   generalize Sort.grow (redrawn w dq) osq=y1 at *
   go_wp2
   go_ret
   exact ⟨rfl,E⟩
  ·cases z
   ·have e:decide (l≤p)=false:=hz.out
    clear hz
    go_enter Tryz.func189,Tryz.ntmps189
    go_wp2
    refine wp_region_quiet_below (by kernel_rfl) (by kernel_rfl) ?_
    repeat (with_reducible refine wpQuiet_step (fun KQ hKQ=>?_); go_simp; first | (with_reducible refine hKQ _ ?_; clear hKQ KQ) | (apply Exists.intro; with_reducible refine ⟨fun _=>?_,hKQ _ ?_⟩; (first | (with_reducible exact c0 _ _) | (with_reducible exact c1 _ _)); clear hKQ KQ))
    refine wpQuiet_nil ?_
    intro _ hw'
    obtain ⟨⟨dq,osq⟩,hw''⟩:=hw'
    subst hw''
    have E:=below_regrown w dq osq
    clear q0 q1 c0 c1
    generalize Sort.grow (redrawn w dq) osq=y1 at *
    go_wp2
    go_ret
    exact ⟨rfl,E⟩
   ·have e:l≤p:=by simpa using hz.out
    clear hz
    go_enter Tryz.func189,Tryz.ntmps189
    go_wp2
    refine wp_region_quiet_below (by kernel_rfl) (by kernel_rfl) ?_
    repeat (with_reducible refine wpQuiet_step (fun KQ hKQ=>?_); go_simp; first | (with_reducible refine hKQ _ ?_; clear hKQ KQ) | (apply Exists.intro; with_reducible refine ⟨fun _=>?_,hKQ _ ?_⟩; (first | (with_reducible exact c0 _ _) | (with_reducible exact c1 _ _)); clear hKQ KQ))
    refine wpQuiet_nil ?_
    intro _ hw'
    obtain ⟨⟨dq,osq⟩,hw''⟩:=hw'
    subst hw''
    have E:=below_regrown w dq osq
    clear q0 q1 c0 c1
    generalize Sort.grow (redrawn w dq) osq=y1 at *
    go_wp2
    go_ret
    exact ⟨rfl,E⟩
theorem near_any (b:Nat) (c m n r p:Int) (hc:GK c) (m0:0≤m) (m1:m≤9223372036854775807) (w:World) (h:GR w b c m n r):Calls Tryz.prog 189 #[.pointer (some ⟨b,0,none⟩),.int .i64 p] w (RetV (.bool (nr c m p)) w):=by
 have:=gk_range hc
 exact near_go b c m n r p (c - m) _ _ _ (Lib.hid rfl) (Lib.hid rfl) w h (by rw [IntKind.wrap_i64]; omega) (Lib.hid rfl)
end Go.Proofs.YtjifkmldigemkaaGreatDoor

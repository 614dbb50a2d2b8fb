import Derived.LoopN
import Derived.Test.YthnofhjgfhapiaaGreatDoorWaf
import Derived.Test.YthnofhjgfhapiaaGreatDoorWac
import Derived.Test.YthnofhjgfhapiaaGreatDoorWag
import Derived.Test.YthnofhjgfhapiaaGreatDoorWab
import Derived.Test.YthnofhjgfhapiaaGreatDoorWae
import Derived.Test.YthnofhjgfhapiaaGreatDoorWaa
import Derived.Test.YthnofhjgfhapiaaGreatDoorWai
import Derived.Laws.Cover1
import Derived.ChangeKeysEq
import Derived.Test.YthnofhjgfhapiaaGreatDoorWad
import Derived.RangeFuncNested
import Derived.RangeFuncLeaves
import Derived.RangeFuncCalls
import Derived.Shelf.Abstract
import Derived.WalkKit
import Derived.OwnWalkIn
import Derived.TacticsInMore
import Derived.LoopNIn
import Derived.LoopIn
set_option maxHeartbeats 4000000
set_option maxRecDepth 100000
namespace Go.Proofs.YthnofhjgfhapiaaGreatDoor
open Go.RowKit Go.Shelf
def se (e:Nat→Int):Int:=if e 0≠0 then e 0 else if e 1≠0 then e 1 else if e 2≠0 then e 2 else if e 3≠0 then e 3 else if e 4≠0 then e 4 else e 5
def sz (x e:Nat→Int):Nat→Int:=fun i=>if se e=0 then x i else 0
theorem se_all {e:Nat→Int} (h:∀ i,i<6→e i=0):se e=0:=by
 have h0:=h 0 (by decide); have h1:=h 1 (by decide); have h2:=h 2 (by decide); have h3:=h 3 (by decide); have h4:=h 4 (by decide); have h5:=h 5 (by decide)
 simp [se,h0,h1,h2,h3,h4,h5]
theorem se_first {e:Nat→Int} {k:Nat} (hk:k<6) (h:∀ i,i<k→e i=0) (n:¬ e k=0):se e=e k:=by
 rcases seven (Nat.le_of_lt hk) with rfl | rfl | rfl | rfl | rfl | rfl | rfl
 ·exact absurd hk (by decide)
 ·simp [se,n]
 ·simp [se,n,h 0 (by decide)]
 ·simp [se,n,h 0 (by decide),h 1 (by decide)]
 ·simp [se,n,h 0 (by decide),h 1 (by decide),h 2 (by decide)]
 ·simp [se,n,h 0 (by decide),h 1 (by decide),h 2 (by decide),h 3 (by decide)]
 ·simp [se,h 0 (by decide),h 1 (by decide),h 2 (by decide),h 3 (by decide),h 4 (by decide)]
theorem se_zero {e:Nat→Int} (h:se e=0):∀ i,i<6→e i=0:=fun i hi=>Classical.byContradiction fun n=>by
 unfold se at h
 repeat (split at h; · contradiction)
 simp at *
 rcases seven (Nat.le_of_lt hi) with rfl | rfl | rfl | rfl | rfl | rfl | rfl <;> simp_all
theorem sz_all {x e:Nat→Int} (h:se e=0):sv (sz x e)=sv x:=by simp only [sv,sz,if_pos h]
theorem sz_no {x e:Nat→Int} (h:¬ se e=0):sv (sz x e)=sv (fun _=>0):=by simp only [sv,sz,if_neg h]
theorem sz_end {u v:Value} {c d:Int} (h:u=v) (k:c=d):Ending.returned (.tuple #[u,.int .i64 c])=Ending.returned (.tuple #[v,.int .i64 d]):=by subst h; subst k; rfl
theorem neb_of {e:Int} (h:¬ e=0):(e != 0)=true:=by simpa using h
def AJ (W:World) (A B R Q:Nat) (a b x:Nat→Int) (k:Nat) (w:World):Prop :=
 Below W.heap.size W w∧SC w A a∧SC w B b∧SC w R (fun _=>0)∧SF w R∧SC w Q (fun i=>if i<k then x i else 0)∧SF w Q
theorem aj_keep {W:World} {A B R Q:Nat} {a b x:Nat→Int} {k:Nat} {w w':World} (h:AJ W A B R Q a b x k w) (hb:Below w.heap.size w w'):AJ W A B R Q a b x k w' :=
 ⟨b_trans h.1 hb,sc_keep hb h.2.1,sc_keep hb h.2.2.1,sc_keep hb h.2.2.2.1,sf_keep hb h.2.2.2.1 h.2.2.2.2.1,sc_keep hb h.2.2.2.2.2.1,sf_keep hb h.2.2.2.2.2.1 h.2.2.2.2.2.2⟩
theorem aj_put {W:World} {A B R Q:Nat} {a b x:Nat→Int} {k:Nat} {w:World} (h:AJ W A B R Q a b x k w) (hk:k<6) (q:W.heap.size≤Q) (qa:Q≠A) (qb:Q≠B) (qr:Q≠R):AJ W A B R Q a b x (k+1) (w.setCell ⟨Q,k,none⟩ (.int .i64 (x k))):=by
 obtain ⟨h0,h1,h2,h3,h4,h5,h6⟩:=h
 refine ⟨b_set h0 q,sc_set h1 qa,sc_set h2 qb,sc_set h3 qr,sf_set h4,?_,sf_set h6⟩
 intro i hi
 by_cases e:i=k
 ·subst e
  rw [World.cell?_setCell_same' _ _ _ (by rw [h5 i hi]; rfl)]
  dsimp only
  rw [if_pos (by omega)]
 ·rw [World.cell?_setCell_other _ _ _ _ (by intro c; simp at c <;> omega)]
  rw [h5 i hi]
  dsimp only
  by_cases d:i<k
  ·rw [if_pos d,if_pos (by omega)]
  ·rw [if_neg d,if_neg (by omega)]
theorem bb_set {W w:World} {R:Nat} {v0 v1 v2 v3 v4 v5:Value} (h:Below W.heap.size W w) (q:W.heap.size≤R):Below W.heap.size W ((((((w.setCell ⟨R,0,none⟩ v0).setCell ⟨R,1,none⟩ v1).setCell ⟨R,2,none⟩ v2).setCell ⟨R,3,none⟩ v3).setCell ⟨R,4,none⟩ v4).setCell ⟨R,5,none⟩ v5) :=
 b_set (b_set (b_set (b_set (b_set (b_set h q) q) q) q) q) q
theorem add_sym_bad (a b:Nat→Int) (ha:I6 a) (hb:I6 b) (c:¬ (F6 a∧F6 b)) (w:World) :
  Calls Tryz.prog 99 #[sv a,sv b] w (RetV (.tuple #[sv (fun _=>0),.int .i64 1]) w):=by
 have kA:SC (((w.alloc (Obj.cells #[.int .i64 (a 0),.int .i64 (a 1),.int .i64 (a 2),.int .i64 (a 3),.int .i64 (a 4),.int .i64 (a 5)] 42)).alloc (Obj.cells #[.int .i64 (b 0),.int .i64 (b 1),.int .i64 (b 2),.int .i64 (b 3),.int .i64 (b 4),.int .i64 (b 5)] 42)).alloc (Obj.cells #[.int .i64 0,.int .i64 0,.int .i64 0,.int .i64 0,.int .i64 0,.int .i64 0] 42)) w.heap.size a:=sc_alloc (sc_alloc (sc_new rfl))
 have kB:SC (((w.alloc (Obj.cells #[.int .i64 (a 0),.int .i64 (a 1),.int .i64 (a 2),.int .i64 (a 3),.int .i64 (a 4),.int .i64 (a 5)] 42)).alloc (Obj.cells #[.int .i64 (b 0),.int .i64 (b 1),.int .i64 (b 2),.int .i64 (b 3),.int .i64 (b 4),.int .i64 (b 5)] 42)).alloc (Obj.cells #[.int .i64 0,.int .i64 0,.int .i64 0,.int .i64 0,.int .i64 0,.int .i64 0] 42)) (w.heap.size+1) b:=sc_alloc (sc_new (w:=(w.alloc (Obj.cells #[.int .i64 (a 0),.int .i64 (a 1),.int .i64 (a 2),.int .i64 (a 3),.int .i64 (a 4),.int .i64 (a 5)] 42))) (m:=b) (t:=42) (by simp))
 have kR:SC (((w.alloc (Obj.cells #[.int .i64 (a 0),.int .i64 (a 1),.int .i64 (a 2),.int .i64 (a 3),.int .i64 (a 4),.int .i64 (a 5)] 42)).alloc (Obj.cells #[.int .i64 (b 0),.int .i64 (b 1),.int .i64 (b 2),.int .i64 (b 3),.int .i64 (b 4),.int .i64 (b 5)] 42)).alloc (Obj.cells #[.int .i64 0,.int .i64 0,.int .i64 0,.int .i64 0,.int .i64 0,.int .i64 0] 42)) (w.heap.size+1+1) (fun _=>0):=sc_new (w:=((w.alloc (Obj.cells #[.int .i64 (a 0),.int .i64 (a 1),.int .i64 (a 2),.int .i64 (a 3),.int .i64 (a 4),.int .i64 (a 5)] 42)).alloc (Obj.cells #[.int .i64 (b 0),.int .i64 (b 1),.int .i64 (b 2),.int .i64 (b 3),.int .i64 (b 4),.int .i64 (b 5)] 42))) (m:=fun _=>0) (t:=42) (by simp)
 have kF:SF (((w.alloc (Obj.cells #[.int .i64 (a 0),.int .i64 (a 1),.int .i64 (a 2),.int .i64 (a 3),.int .i64 (a 4),.int .i64 (a 5)] 42)).alloc (Obj.cells #[.int .i64 (b 0),.int .i64 (b 1),.int .i64 (b 2),.int .i64 (b 3),.int .i64 (b 4),.int .i64 (b 5)] 42)).alloc (Obj.cells #[.int .i64 0,.int .i64 0,.int .i64 0,.int .i64 0,.int .i64 0,.int .i64 0] 42)) (w.heap.size+1+1):=sf_new (w:=((w.alloc (Obj.cells #[.int .i64 (a 0),.int .i64 (a 1),.int .i64 (a 2),.int .i64 (a 3),.int .i64 (a 4),.int .i64 (a 5)] 42)).alloc (Obj.cells #[.int .i64 (b 0),.int .i64 (b 1),.int .i64 (b 2),.int .i64 (b 3),.int .i64 (b 4),.int .i64 (b 5)] 42))) (t:=42) (by simp)
 have hB0:Below w.heap.size w (((w.alloc (Obj.cells #[.int .i64 (a 0),.int .i64 (a 1),.int .i64 (a 2),.int .i64 (a 3),.int .i64 (a 4),.int .i64 (a 5)] 42)).alloc (Obj.cells #[.int .i64 (b 0),.int .i64 (b 1),.int .i64 (b 2),.int .i64 (b 3),.int .i64 (b 4),.int .i64 (b 5)] 42)).alloc (Obj.cells #[.int .i64 0,.int .i64 0,.int .i64 0,.int .i64 0,.int .i64 0,.int .i64 0] 42)):=b_alloc (b_alloc (b_alloc (Below.refl _ _)))
 by_cases ca:F6 a
 ·have ea:=Lib.hid (f6b_yes ca)
  have eb:=Lib.hid (f6b_no (fun h=>c ⟨ca,h⟩))
  clear ca c
  go_enter Tryz.func99,Tryz.ntmps99
  have l6:=sc_six kA
  go_wp2_with fail
  refine (fits_sym a ha _).mono ?_
  rintro e1 w1 ⟨rfl,hb9⟩
  clear l6
  rw [ea.out]
  replace kF:=sf_keep hb9 kR kF
  replace kR:=sc_keep hb9 kR
  replace kA:=sc_keep hb9 kA
  replace kB:=sc_keep hb9 kB
  replace hB0:=b_trans hB0 hb9
  clear hb9
  have l6:=sc_six kB
  go_wp2_with fail
  refine (fits_sym b hb _).mono ?_
  rintro e2 w2 ⟨rfl,hb9⟩
  clear l6
  rw [eb.out]
  replace kF:=sf_keep hb9 kR kF
  replace kR:=sc_keep hb9 kR
  replace kA:=sc_keep hb9 kA
  replace kB:=sc_keep hb9 kB
  replace hB0:=b_trans hB0 hb9
  clear hb9
  clear kA kB
  replace kR:=sc_six kR
  replace kF:=sf_six kF
  go_wp2
  obtain ⟨r0,r1,r2,r3,r4,r5⟩:=kR
  exact bodyPost_ret (v:=.tuple #[sv (fun _=>0),.int .i64 1]) (by simp [results,Tryz.results99,go_sem,r0,r1,r2,r3,r4,r5]) rfl ⟨rfl,bb_set hB0 (by omega)⟩
 ·have ea:=Lib.hid (f6b_no ca)
  clear ca c
  go_enter Tryz.func99,Tryz.ntmps99
  have l6:=sc_six kA
  go_wp2_with fail
  refine (fits_sym a ha _).mono ?_
  rintro e1 w1 ⟨rfl,hb9⟩
  clear l6
  rw [ea.out]
  replace kF:=sf_keep hb9 kR kF
  replace kR:=sc_keep hb9 kR
  replace kA:=sc_keep hb9 kA
  replace kB:=sc_keep hb9 kB
  replace hB0:=b_trans hB0 hb9
  clear hb9
  clear kA kB
  replace kR:=sc_six kR
  replace kF:=sf_six kF
  go_wp2
  obtain ⟨r0,r1,r2,r3,r4,r5⟩:=kR
  exact bodyPost_ret (v:=.tuple #[sv (fun _=>0),.int .i64 1]) (by simp [results,Tryz.results99,go_sem,r0,r1,r2,r3,r4,r5]) rfl ⟨rfl,bb_set hB0 (by omega)⟩
theorem add_sym_ok (a b x e:Nat→Int) (ha:I6 a) (hb:I6 b) (ca:F6 a) (cb:F6 b)
  (hc:∀ k,k<6→∀ w,Calls Tryz.prog 106 #[.int .i64 (a k),.int .i64 (b k)] w (RetV (.tuple #[.int .i64 (x k),.int .i64 (e k)]) w)) (w:World) :
  Calls Tryz.prog 99 #[sv a,sv b] w (RetV (.tuple #[sv (sz x e),.int .i64 (se e)]) w):=by
 have kA:SC (((w.alloc (Obj.cells #[.int .i64 (a 0),.int .i64 (a 1),.int .i64 (a 2),.int .i64 (a 3),.int .i64 (a 4),.int .i64 (a 5)] 42)).alloc (Obj.cells #[.int .i64 (b 0),.int .i64 (b 1),.int .i64 (b 2),.int .i64 (b 3),.int .i64 (b 4),.int .i64 (b 5)] 42)).alloc (Obj.cells #[.int .i64 0,.int .i64 0,.int .i64 0,.int .i64 0,.int .i64 0,.int .i64 0] 42)) w.heap.size a:=sc_alloc (sc_alloc (sc_new rfl))
 have kB:SC (((w.alloc (Obj.cells #[.int .i64 (a 0),.int .i64 (a 1),.int .i64 (a 2),.int .i64 (a 3),.int .i64 (a 4),.int .i64 (a 5)] 42)).alloc (Obj.cells #[.int .i64 (b 0),.int .i64 (b 1),.int .i64 (b 2),.int .i64 (b 3),.int .i64 (b 4),.int .i64 (b 5)] 42)).alloc (Obj.cells #[.int .i64 0,.int .i64 0,.int .i64 0,.int .i64 0,.int .i64 0,.int .i64 0] 42)) (w.heap.size+1) b:=sc_alloc (sc_new (w:=(w.alloc (Obj.cells #[.int .i64 (a 0),.int .i64 (a 1),.int .i64 (a 2),.int .i64 (a 3),.int .i64 (a 4),.int .i64 (a 5)] 42))) (m:=b) (t:=42) (by simp))
 have kR:SC (((w.alloc (Obj.cells #[.int .i64 (a 0),.int .i64 (a 1),.int .i64 (a 2),.int .i64 (a 3),.int .i64 (a 4),.int .i64 (a 5)] 42)).alloc (Obj.cells #[.int .i64 (b 0),.int .i64 (b 1),.int .i64 (b 2),.int .i64 (b 3),.int .i64 (b 4),.int .i64 (b 5)] 42)).alloc (Obj.cells #[.int .i64 0,.int .i64 0,.int .i64 0,.int .i64 0,.int .i64 0,.int .i64 0] 42)) (w.heap.size+1+1) (fun _=>0):=sc_new (w:=((w.alloc (Obj.cells #[.int .i64 (a 0),.int .i64 (a 1),.int .i64 (a 2),.int .i64 (a 3),.int .i64 (a 4),.int .i64 (a 5)] 42)).alloc (Obj.cells #[.int .i64 (b 0),.int .i64 (b 1),.int .i64 (b 2),.int .i64 (b 3),.int .i64 (b 4),.int .i64 (b 5)] 42))) (m:=fun _=>0) (t:=42) (by simp)
 have kF:SF (((w.alloc (Obj.cells #[.int .i64 (a 0),.int .i64 (a 1),.int .i64 (a 2),.int .i64 (a 3),.int .i64 (a 4),.int .i64 (a 5)] 42)).alloc (Obj.cells #[.int .i64 (b 0),.int .i64 (b 1),.int .i64 (b 2),.int .i64 (b 3),.int .i64 (b 4),.int .i64 (b 5)] 42)).alloc (Obj.cells #[.int .i64 0,.int .i64 0,.int .i64 0,.int .i64 0,.int .i64 0,.int .i64 0] 42)) (w.heap.size+1+1):=sf_new (w:=((w.alloc (Obj.cells #[.int .i64 (a 0),.int .i64 (a 1),.int .i64 (a 2),.int .i64 (a 3),.int .i64 (a 4),.int .i64 (a 5)] 42)).alloc (Obj.cells #[.int .i64 (b 0),.int .i64 (b 1),.int .i64 (b 2),.int .i64 (b 3),.int .i64 (b 4),.int .i64 (b 5)] 42))) (t:=42) (by simp)
 have hB0:Below w.heap.size w (((w.alloc (Obj.cells #[.int .i64 (a 0),.int .i64 (a 1),.int .i64 (a 2),.int .i64 (a 3),.int .i64 (a 4),.int .i64 (a 5)] 42)).alloc (Obj.cells #[.int .i64 (b 0),.int .i64 (b 1),.int .i64 (b 2),.int .i64 (b 3),.int .i64 (b 4),.int .i64 (b 5)] 42)).alloc (Obj.cells #[.int .i64 0,.int .i64 0,.int .i64 0,.int .i64 0,.int .i64 0,.int .i64 0] 42)):=b_alloc (b_alloc (b_alloc (Below.refl _ _)))
 have ea:=Lib.hid (f6b_yes ca)
 have eb:=Lib.hid (f6b_yes cb)
 clear ca cb
 go_enter Tryz.func99,Tryz.ntmps99
 have l6:=sc_six kA
 go_wp2_with fail
 refine (fits_sym a ha _).mono ?_
 rintro e1 w1 ⟨rfl,hb9⟩
 clear l6
 rw [ea.out]
 replace kF:=sf_keep hb9 kR kF
 replace kR:=sc_keep hb9 kR
 replace kA:=sc_keep hb9 kA
 replace kB:=sc_keep hb9 kB
 replace hB0:=b_trans hB0 hb9
 clear hb9
 have l6:=sc_six kB
 go_wp2_with fail
 refine (fits_sym b hb _).mono ?_
 rintro e2 w2 ⟨rfl,hb9⟩
 clear l6
 rw [eb.out]
 replace kF:=sf_keep hb9 kR kF
 replace kR:=sc_keep hb9 kR
 replace kA:=sc_keep hb9 kA
 replace kB:=sc_keep hb9 kB
 replace hB0:=b_trans hB0 hb9
 clear hb9
 clear ea eb ha hb
 have z1:=sc_lt kR
 have hj0:AJ w w.heap.size (w.heap.size+1) (w.heap.size+1+1) w2.heap.size a b x 0 (w2.alloc (Obj.cells #[.int .i64 0,.int .i64 0,.int .i64 0,.int .i64 0,.int .i64 0,.int .i64 0] 42)):=⟨b_alloc hB0,sc_alloc kA,sc_alloc kB,sc_alloc kR,sf_keep (b_alloc (Below.refl _ _)) kR kF,by rw [show (fun i=>if i<0 then x i else 0)=(fun _=>(0:Int)) from funext fun i=>if_neg (by omega)]; exact sc_new (w:=w2) (m:=fun _=>0) (t:=42) rfl,sf_new rfl⟩
 replace hj0:=Lib.hid hj0
 clear kA kB kR kF hB0
 go_wp2
 generalize w2.heap.size=Q at *
 go_loopw [19] (fun iv wr=>∃ k:Nat,k≤6∧iv=.int .i64 k∧Hid (AJ w w.heap.size (w.heap.size+1) (w.heap.size+1+1) Q a b x k wr)∧Hid (∀ i,i<k→e i=0)) (fun iv _=>6 - (intOf iv).toNat)
 case atStart=>exact ⟨0,by decide,rfl,hj0,Lib.hid (fun i hi=>absurd hi (by omega))⟩
 case round =>
  obtain ⟨k,hk,rfl,hj,hz⟩:=hrel
  clear hj0
  by_cases c:k=6
  ·subst c
   have E1:=Lib.hid (se_all hz.out)
   obtain ⟨s0,_,_,s3,s4,s5,_⟩:=hj.out
   replace s3:=sc_six s3
   replace s4:=sf_six s4
   replace s5:SC6 wr Q x:=sc_six (fun i hi=>by have:=s5 i hi; dsimp only at this; rwa [if_pos hi] at this)
   go_wp2
   obtain ⟨r0,r1,r2,r3,r4,r5⟩:=s3
   refine bodyPost_ret (v:=.tuple #[sv x,.int .i64 0]) (by simp [results,Tryz.results99,go_sem,r0,r1,r2,r3,r4,r5]) rfl ⟨sz_end (sz_all E1.out).symm E1.out.symm,?_⟩
   exact bb_set s0 (by omega)
  replace hk:k<6:=by omega
  clear c
  have hk0:(0:Int)≤(k:Int):=by omega
  have hk6:(k:Int)<6:=by omega
  have kA:=hj.out.2.1
  have kB:=hj.out.2.2.1
  go_wp2
  refine region_late_k [23,24,25,26,27,28,29,22,30,31] 9 (fun i_=>match i_ with | 0=>.int .i64 ((k:Nat):Int) | 1=>.pointer (some ⟨w.heap.size,k,none⟩) | 2=>.int .i64 (a k) | 3=>.int .i64 ((k:Nat):Int) | 4=>.pointer (some ⟨w.heap.size+1,k,none⟩) | 5=>.int .i64 (b k) | 6=>.tuple #[.int .i64 (x k),.int .i64 (e k)] | 7=>.tuple #[.int .i64 (x k),.int .i64 (e k)] | 8=>.int .i64 (x k) | 9=>.int .i64 (e k) | _=>undef) (fun f=>(f.put (some 8) (.int .i64 (x k))).put (some 9) (.int .i64 (e k))) (fun U_=>Below wr.heap.size wr U_) (fun i_ X_ U_=>match i_ with | 0=>X_=.int .i64 ((k:Nat):Int) | 1=>X_=.pointer (some ⟨w.heap.size,k,none⟩) | 2=>X_=.int .i64 (a k) | 3=>X_=.int .i64 ((k:Nat):Int) | 4=>X_=.pointer (some ⟨w.heap.size+1,k,none⟩) | 5=>X_=.int .i64 (b k) | 6=>X_=.tuple #[.int .i64 (x k),.int .i64 (e k)] | 7=>X_=.tuple #[.int .i64 (x k),.int .i64 (e k)] | 8=>X_=.int .i64 (x k) | 9=>X_=.int .i64 (e k) | _=>True) (fun i_=>false) (by kernel_rfl) (by kernel_rfl) (by kernel_rfl) (by kernel_rfl) ?_ (fun i x w hi ha h=>by cases ha) ?_ ?_ ?_ ?_
  ·refine swp (upS (upS (upS (upS (upS (upS (upS (upS (upS (upS up0 ?_) ?_) ?_) ?_) ?_) ?_) ?_) ?_) ?_) ?_)
   all_goals exact fun _ _ _ h _=>h
  ·refine upS (upS (upS (upS (upS (upS (upS (upS (upS (upS up0 ?_) ?_) ?_) ?_) ?_) ?_) ?_) ?_) ?_) ?_
   all_goals intro v f w' hb hv hB hd
   ·have b7:f.tmps[7]?=some (.int .i64 ((k:Nat):Int)):=(hb 7 (by decide)).trans rfl
    clear hb hv hd
    refine wpOp_step rfl fun K hK=>?_
    go_simp
    exact hK _ _ ⟨_,rfl,Below.refl _ _,rfl,fun h=>absurd h (by decide)⟩
   ·have b2:f.tmps[2]?=some (.pointer (some ⟨w.heap.size,0,none⟩)):=(hb 2 (by decide)).trans rfl
    have d0:=got (hv 0 23 rfl) (hd 0 (by kernel_rfl))
    clear hb hv hd
    refine wpOp_step rfl fun K hK=>?_
    go_simp
    exact hK _ _ ⟨_,rfl,Below.refl _ _,rfl,fun h=>absurd h (by decide)⟩
   ·have d1:=got (hv 1 24 rfl) (hd 1 (by kernel_rfl))
    clear hb hv hd
    have c:=sc_keep hB kA k hk
    refine wpOp_step rfl fun K hK=>?_
    go_simp
    exact hK _ _ ⟨_,rfl,Below.refl _ _,rfl,fun h=>absurd h (by decide)⟩
   ·have b7:f.tmps[7]?=some (.int .i64 ((k:Nat):Int)):=(hb 7 (by decide)).trans rfl
    clear hb hv hd
    refine wpOp_step rfl fun K hK=>?_
    go_simp
    exact hK _ _ ⟨_,rfl,Below.refl _ _,rfl,fun h=>absurd h (by decide)⟩
   ·have b3:f.tmps[3]?=some (.pointer (some ⟨w.heap.size+1,0,none⟩)):=(hb 3 (by decide)).trans rfl
    have d3:=got (hv 3 26 rfl) (hd 3 (by kernel_rfl))
    clear hb hv hd
    refine wpOp_step rfl fun K hK=>?_
    go_simp
    exact hK _ _ ⟨_,rfl,Below.refl _ _,rfl,fun h=>absurd h (by decide)⟩
   ·have d4:=got (hv 4 27 rfl) (hd 4 (by kernel_rfl))
    clear hb hv hd
    have c:=sc_keep hB kB k hk
    refine wpOp_step rfl fun K hK=>?_
    go_simp
    exact hK _ _ ⟨_,rfl,Below.refl _ _,rfl,fun h=>absurd h (by decide)⟩
   ·have d2:=got (hv 2 25 rfl) (hd 2 (by kernel_rfl))
    have d5:=got (hv 5 28 rfl) (hd 5 (by kernel_rfl))
    clear hb hv hd
    refine wpOp_call rfl Tryz.call106 (args2 (eval_tmp d2) (eval_tmp d5)) (hc k hk _) ?_
    rintro e5 w5 ⟨rfl,hb5⟩
    exact ⟨_,rfl,_,rfl,hb5,rfl,fun h=>absurd h (by decide)⟩
   ·have d6:=got (hv 6 29 rfl) (hd 6 (by kernel_rfl))
    clear hb hv hd
    refine wpOp_step rfl fun K hK=>?_
    go_simp
    exact hK _ _ ⟨_,rfl,Below.refl _ _,rfl,fun h=>absurd h (by decide)⟩
   ·have d7:=got (hv 7 22 rfl) (hd 7 (by kernel_rfl))
    clear hb hv hd
    refine wpOp_step rfl fun K hK=>?_
    go_simp
    exact hK _ _ ⟨_,rfl,Below.refl _ _,rfl,fun h=>absurd h (by decide)⟩
   ·have d7:=got (hv 7 22 rfl) (hd 7 (by kernel_rfl))
    clear hb hv hd
    refine wpOp_step rfl fun K hK=>?_
    go_simp
    exact hK _ _ ⟨_,rfl,Below.refl _ _,rfl,fun h=>absurd h (by decide)⟩
  ·intro v w' hB hF hD
   have F0:v 0=_:=hF 0 (by simp)
   have F1:v 1=_:=hF 1 (by simp)
   have F2:v 2=_:=hF 2 (by simp)
   have F3:v 3=_:=hF 3 (by simp)
   have F4:v 4=_:=hF 4 (by simp)
   have F5:v 5=_:=hF 5 (by simp)
   have F6:v 6=_:=hF 6 (by simp)
   have F7:v 7=_:=hF 7 (by simp)
   have F8:v 8=_:=hF 8 (by simp)
   have F9:v 9=_:=hF 9 (by simp)
   clear hF
   simp only [frOf,frGo,Nat.zero_add,Nat.reduceAdd,F0,F1,F2,F3,F4,F5,F6,F7,F8,F9]
   clear F0 F1 F2 F3 F4 F5 F6 F7 F8 F9 hD hc kA kB
   go_wp2
  ·intro v w' hB hF hD
   have F0:v 0=_:=hF 0 (by simp) (by decide)
   have F1:v 1=_:=hF 1 (by simp) (by decide)
   have F2:v 2=_:=hF 2 (by simp) (by decide)
   have F3:v 3=_:=hF 3 (by simp) (by decide)
   have F4:v 4=_:=hF 4 (by simp) (by decide)
   have F5:v 5=_:=hF 5 (by simp) (by decide)
   have F6:v 6=_:=hF 6 (by simp) (by decide)
   have F7:v 7=_:=hF 7 (by simp) (by decide)
   have F8:v 8=_:=hF 8 (by simp) (by decide)
   clear hF
   simp only [frOf,frGo,Nat.zero_add,Nat.reduceAdd,F0,F1,F2,F3,F4,F5,F6,F7,F8]
   clear F0 F1 F2 F3 F4 F5 F6 F7 F8 hD hc kA kB
   refine wpOp_step rfl (fun K hK=>?_)
   go_simp
   refine hK _ _ ?_
   clear hK K
   refine wpOp_step rfl (fun K hK=>?_)
   go_simp
   refine hK _ _ ?_
   clear hK K
   go_wp2
  ·intro w' hst
   have hB:=hst
   clear hst
   simp only [frOf,frGo,Nat.zero_add,Nat.reduceAdd]
   clear hc kA kB
   have s1:=aj_keep hj.out hB
   clear hB hj
   generalize hek:e k=ek at *
   have EK:=Lib.hid hek
   clear hek
   generalize hxk:x k=xk at *
   have XK:=Lib.hid hxk
   clear hxk
   by_cases he:ek=0
   ·subst he
    have s2:=Lib.hid (aj_put s1 hk (by omega) (by omega) (by omega) (by omega))
    obtain ⟨_,_,_,_,_,s5,s6⟩:=s1
    have q1:=s5 k hk
    have q2:=s6 k hk
    clear s5 s6
    rw [XK.out] at s2
    go_wp2
    go_roundw
    case rel=>exact ⟨k+1,hk,by go_num,s2,Lib.hid (less_succ hz.out EK.out)⟩
    case measure=>simp [intOf]; omega
   ·have E1:=Lib.hid (se_first hk hz.out (by rw [EK.out]; exact he))
    have E2:=Lib.hid (show ¬ se e=0 by rw [E1.out,EK.out]; exact he)
    have hn:=neb_of he
    obtain ⟨s0,_,_,s3,s4,_,_⟩:=s1
    replace s3:=sc_six s3
    replace s4:=sf_six s4
    clear hk0 hk6 he
    go_wp2
    obtain ⟨r0,r1,r2,r3,r4,r5⟩:=s3
    refine bodyPost_ret (v:=.tuple #[sv (fun _=>0),.int .i64 ek]) (by simp [results,Tryz.results99,go_sem,r0,r1,r2,r3,r4,r5]) rfl ⟨sz_end (sz_no E2.out).symm (E1.out.trans EK.out).symm,?_⟩
    exact bb_set s0 (by omega)
def sumz (a b:Nat→Int):Nat→Int:=if F6 a∧F6 b then sz (fun i=>gz (a i) (b i) (a i+b i)) (fun i=>ge (a i) (b i) (a i+b i)) else fun _=>0
def sume (a b:Nat→Int):Int:=if F6 a∧F6 b then se (fun i=>ge (a i) (b i) (a i+b i)) else 1
theorem add_sym (a b:Nat→Int) (ha:I6 a) (hb:I6 b) (w:World) :
  Calls Tryz.prog 99 #[sv a,sv b] w (RetV (.tuple #[sv (sumz a b),.int .i64 (sume a b)]) w):=by
 unfold sumz sume
 by_cases c:F6 a∧F6 b
 ·rw [if_pos c,if_pos c]
  exact add_sym_ok a b _ _ ha hb c.1 c.2 (fun k hk w=>add_fix (a k) (b k) (ha k hk).1 (ha k hk).2 (hb k hk).1 (hb k hk).2 w) w
 ·rw [if_neg c,if_neg c]
  exact add_sym_bad a b ha hb c w
end Go.Proofs.YthnofhjgfhapiaaGreatDoor
namespace Go.Proofs.YthnofhjgfhapiaaGreatDoor
open Go.RowKit Go.Shelf Go.Joins
def bd (x:Int):Int:=if x<0 then 0 else x
theorem bd_range {x:Int} (h:x≤9223372036854775807):0≤bd x∧bd x≤9223372036854775807:=by
 unfold bd
 split <;> omega
def sc (c p:Int):Int:=if gd p=true∧c=0 then p else c
def sne (c p:Int):Int:=if gd p=true then (if c=0 then 0 else 7) else 2
theorem s_bad {c p:Int} (g:gd p=false):sc c p=c∧sne c p=2:=by simp [sc,sne,g]
theorem s_full {c p:Int} (g:gd p=true) (h:c≠0):sc c p=c∧sne c p=7:=by simp [sc,sne,g,h]
theorem s_ok {p:Int} (g:gd p=true):sc 0 p=p∧sne 0 p=0:=by simp [sc,sne,g]
def GK (c:Int):Prop:=c=0∨gd c=true
theorem gk_range {c:Int} (h:GK c):0≤c∧c≤430515:=by
 rcases h with h | h
 ·omega
 ·have:=gd_range h
  omega
theorem gk_set {c:Int} (h:GK c) (p:Int):GK (sc c p):=by
 unfold sc
 split
 ·rename_i g
  exact Or.inr g.1
 ·exact h
theorem gk_good {c:Int} (h:GK c) (n:c≠0):gd c=true:=by
 rcases h with h | h
 ·exact absurd h n
 ·exact h
abbrev GR (w:World) (b:Nat) (c m n r:Int):Prop:=w.heap[b]?=some (.cells #[.int .i64 c,.int .i64 m,.int .i64 n,.int .i64 r] 146 (0,0))
theorem gr_0 {w:World} {b:Nat} {c m n r v:Int} (h:GR w b c m n r):GR (w.setCell ⟨b,0,none⟩ (.int .i64 v)) b v m n r:=(heap_setCell_same w b 0 _ _ _ h).trans rfl
theorem newground_any (x y z:Int) (w:World):Calls Tryz.prog 40 #[.int .i64 x,.int .i64 y,.int .i64 z] w fun e w'=>∃ b,e=.returned (.pointer (some ⟨b,0,none⟩))∧w.heap.size≤b∧GR w' b 0 (bd x) y z∧Below w.heap.size w w':=by
 have hm:(if x<0 then 0 else x)=bd x:=rfl
 generalize bd x=m at *
 go_enter Tryz.func40,Tryz.ntmps40
 go_wp2
 go_ret
 exact ⟨_,rfl,Nat.le_refl _,heap_alloc_last _ _,b_alloc (Below.refl _ _)⟩
theorem isknown_any (b:Nat) (c m n r:Int) (w:World) (h:GR w b c m n r):Calls Tryz.prog 91 #[.pointer (some ⟨b,0,none⟩)] w (RetV (.bool (decide (c≠0))) w):=by
 have g0:w.cell? ⟨b,0,none⟩=some (.int .i64 c):=(cell_of_row _ _ 0 _ _ _ h).trans rfl
 clear h
 by_cases k:c=0
 ·subst k
  rw [show decide ((0:Int)≠0)=false from rfl]
  go_enter Tryz.func91,Tryz.ntmps91
  go_wp2
  go_ret
  exact ⟨rfl,Below.refl _ _⟩
 ·rw [decide_eq_true k]
  have k':(c != 0)=true:=by simpa using k
  clear k
  go_enter Tryz.func91,Tryz.ntmps91
  go_wp2
  go_ret
  exact ⟨rfl,Below.refl _ _⟩
theorem known_grown {b:Nat} {c m n r:Int} {w:World} (h:GR w b c m n r):∀ d os,Calls Tryz.prog 91 #[.pointer (some ⟨b,0,none⟩)] (Sort.grow (redrawn w d) os) fun e w''=>e=.returned (.bool (decide (c≠0)))∧∃ p:Regrown,w''=Sort.grow (redrawn w p.d) p.os :=
 fun d os=>Calls.regrown_of (isknown_any b c m n r _ (row_keep (below_regrown w d os) h))
theorem set_any (b:Nat) (c m n r p:Int) (w:World) (h:GR w b c m n r):Calls Tryz.prog 67 #[.pointer (some ⟨b,0,none⟩),.int .i64 p] w fun e w'=>e=.returned (.int .i64 (sne c p))∧GR w' b (sc c p) m n r∧But b w w':=by
 have cg:=good_any p
 cases g:gd p
 ·rw [(s_bad g).1,(s_bad g).2]
  rw [g] at cg
  clear g
  go_enter Tryz.func67,Tryz.ntmps67
  go_wp2_with fail
  refine (cg _).mono ?_
  rintro e y0 ⟨rfl,hb⟩
  replace h:=row_keep hb h
  go_wp2
  go_ret
  exact ⟨rfl,h,but_below hb⟩
 ·rw [g] at cg
  by_cases k:c=0
  ·subst k
   rw [(s_ok g).1,(s_ok g).2]
   clear g
   go_enter Tryz.func67,Tryz.ntmps67
   go_wp2_with fail
   refine (cg _).mono ?_
   rintro e y0 ⟨rfl,hb⟩
   replace h:=row_keep hb h
   have B:=but_below (b:=b) hb
   clear hb cg
   go_wp2_with fail
   refine (isknown_any b 0 m n r _ h).mono ?_
   rintro e y1 ⟨rfl,hb⟩
   rw [show decide ((0:Int)≠0)=false from rfl]
   replace h:=row_keep hb h
   replace B:=but_trans B (but_below (b:=b) hb)
   clear hb
   have z0:=frozen_of_row y1 b 0 _ _ h
   have g0:y1.cell? ⟨b,0,none⟩=some (.int .i64 0):=(cell_of_row _ _ 0 _ _ _ h).trans rfl
   replace h:=gr_0 (v:=p) h
   replace B:=but_trans B (but_set (i:=0) (v:=.int .i64 p))
   go_wp2
   go_ret
   exact ⟨rfl,h,B⟩
  ·rw [(s_full g k).1,(s_full g k).2]
   clear g
   go_enter Tryz.func67,Tryz.ntmps67
   go_wp2_with fail
   refine (cg _).mono ?_
   rintro e y0 ⟨rfl,hb⟩
   replace h:=row_keep hb h
   have B:=but_below (b:=b) hb
   clear hb cg
   go_wp2_with fail
   refine (isknown_any b c m n r _ h).mono ?_
   rintro e y1 ⟨rfl,hb⟩
   rw [decide_eq_true k]
   replace h:=row_keep hb h
   replace B:=but_trans B (but_below (b:=b) hb)
   clear hb
   go_wp2
   go_ret
   exact ⟨rfl,h,B⟩
theorem near_go (b:Nat) (c m n r p l:Int) (x y z:Bool) (hx:Hid (gd p=x)) (hy:Hid (decide (c≠0)=y)) (w:World) (h:GR w b c m n r)
  (hl:IntKind.i64.wrap (c - m)=l) (hz:Hid (decide (l≤p)=z)):Calls Tryz.prog 138 #[.pointer (some ⟨b,0,none⟩),.int .i64 p] w (RetV (.bool (x && y && z)) w):=by
 have c1:=retV_regrown (w:=w) (good_any p)
 have c0:=known_grown h
 rw [hx.out] at c1
 rw [hy.out] at c0
 clear hx hy
 have q0:=cell_regrown (show w.cell? ⟨b,0,none⟩=some (.int .i64 c) from (cell_of_row _ _ 0 _ _ _ h).trans rfl)
 have q1:=cell_regrown (show w.cell? ⟨b,1,none⟩=some (.int .i64 m) from (cell_of_row _ _ 1 _ _ _ h).trans rfl)
 clear h
 cases x
 ·clear hl hz
  go_enter Tryz.func138,Tryz.ntmps138
  go_wp2
  refine wp_region_quiet_below (by kernel_rfl) (by kernel_rfl) ?_
  repeat (with_reducible refine wpQuiet_step (fun KQ hKQ=>?_); go_simp; first | (with_reducible refine hKQ _ ?_; clear hKQ KQ) | (apply Exists.intro; with_reducible refine ⟨fun _=>?_,hKQ _ ?_⟩; (first | (with_reducible exact c0 _ _) | (with_reducible exact c1 _ _)); clear hKQ KQ))
  refine wpQuiet_nil ?_
  intro _ hw'
  obtain ⟨⟨dq,osq⟩,hw''⟩:=hw'
  subst hw''
  have E:=below_regrown w dq osq
  clear q0 q1 c0 c1
  generalize Sort.grow (redrawn w dq) osq=y1 at *
  go_wp2
  go_ret
  exact ⟨rfl,E⟩
 ·cases y
  ·clear hl hz
   go_enter Tryz.func138,Tryz.ntmps138
   go_wp2
   refine wp_region_quiet_below (by kernel_rfl) (by kernel_rfl) ?_
   repeat (with_reducible refine wpQuiet_step (fun KQ hKQ=>?_); go_simp; first | (with_reducible refine hKQ _ ?_; clear hKQ KQ) | (apply Exists.intro; with_reducible refine ⟨fun _=>?_,hKQ _ ?_⟩; (first | (with_reducible exact c0 _ _) | (with_reducible exact c1 _ _)); clear hKQ KQ))
   refine wpQuiet_nil ?_
   intro _ hw'
   obtain ⟨⟨dq,osq⟩,hw''⟩:=hw'
   subst hw''
   have E:=below_regrown w dq osq
   clear q0 q1 c0 c1
   generalize Sort.grow (redrawn w dq) osq=y1 at *
   go_wp2
   go_ret
   exact ⟨rfl,E⟩
  ·cases z
   ·have e:decide (l≤p)=false:=hz.out
    clear hz
    go_enter Tryz.func138,Tryz.ntmps138
    go_wp2
    refine wp_region_quiet_below (by kernel_rfl) (by kernel_rfl) ?_
    repeat (with_reducible refine wpQuiet_step (fun KQ hKQ=>?_); go_simp; first | (with_reducible refine hKQ _ ?_; clear hKQ KQ) | (apply Exists.intro; with_reducible refine ⟨fun _=>?_,hKQ _ ?_⟩; (first | (with_reducible exact c0 _ _) | (with_reducible exact c1 _ _)); clear hKQ KQ))
    refine wpQuiet_nil ?_
    intro _ hw'
    obtain ⟨⟨dq,osq⟩,hw''⟩:=hw'
    subst hw''
    have E:=below_regrown w dq osq
    clear q0 q1 c0 c1
    generalize Sort.grow (redrawn w dq) osq=y1 at *
    go_wp2
    go_ret
    exact ⟨rfl,E⟩
   ·have e:l≤p:=by simpa using hz.out
    clear hz
    go_enter Tryz.func138,Tryz.ntmps138
    go_wp2
    refine wp_region_quiet_below (by kernel_rfl) (by kernel_rfl) ?_
    repeat (with_reducible refine wpQuiet_step (fun KQ hKQ=>?_); go_simp; first | (with_reducible refine hKQ _ ?_; clear hKQ KQ) | (apply Exists.intro; with_reducible refine ⟨fun _=>?_,hKQ _ ?_⟩; (first | (with_reducible exact c0 _ _) | (with_reducible exact c1 _ _)); clear hKQ KQ))
    refine wpQuiet_nil ?_
    intro _ hw'
    obtain ⟨⟨dq,osq⟩,hw''⟩:=hw'
    subst hw''
    have E:=below_regrown w dq osq
    clear q0 q1 c0 c1
    generalize Sort.grow (redrawn w dq) osq=y1 at *
    go_wp2
    go_ret
    exact ⟨rfl,E⟩
theorem near_any (b:Nat) (c m n r p:Int) (hc:GK c) (m0:0≤m) (m1:m≤9223372036854775807) (w:World) (h:GR w b c m n r):Calls Tryz.prog 138 #[.pointer (some ⟨b,0,none⟩),.int .i64 p] w (RetV (.bool (nr c m p)) w):=by
 have:=gk_range hc
 exact near_go b c m n r p (c - m) _ _ _ (Lib.hid rfl) (Lib.hid rfl) w h (by rw [IntKind.wrap_i64]; omega) (Lib.hid rfl)
end Go.Proofs.YthnofhjgfhapiaaGreatDoor
namespace Go.Proofs.YthnofhjgfhapiaaGreatDoor
open Go.RowKit Go.Shelf
def mvh (x d:Int):Int:=evn (256*x+d) 32768
def mvs (d:Int):Int:=evn d 128
theorem mvh_bd {x d:Int} (hx:FitP x) (hd:FitP d):-2260595906707457≤mvh x d∧mvh x d≤2260595906707457:=by
 have h:mvh x d=_∨mvh x d=_:=evn_near (256*x+d) 32768
 omega
theorem mvs_bd {d:Int} (hd:FitP d):-2251799813685249≤mvs d∧mvs d≤2251799813685249:=by
 have h:mvs d=_∨mvs d=_:=evn_near d 128
 omega
theorem far_fits {x d:Int} (hx:FitP x) (hd:FitP d):Fits (256*x)∧Fits (0+256*x)∧Fits (0+256*x+d)∧Fits (0+d)∧Fits (evn (0+256*x+d) 32768)∧Fits (evn (0+d) 128):=by
 have e1:=evn_near (0+256*x+d) 32768
 have e2:=evn_near (0+d) 128
 exact ⟨⟨by omega,by omega⟩,⟨by omega,by omega⟩,⟨by omega,by omega⟩,⟨by omega,by omega⟩,⟨by omega,by omega⟩,⟨by omega,by omega⟩⟩
def oz (e f x:Int):Int:=if e=0∧f=0 then x else 0
def oe (e f:Int):Int:=if e=0∧f=0 then 0 else 3
theorem oz_yes (x:Int):oz 0 0 x=x∧oe 0 0=0:=⟨if_pos ⟨rfl,rfl⟩,if_pos ⟨rfl,rfl⟩⟩
theorem oz_no {e f:Int} (h:¬ (e=0∧f=0)) (x:Int):oz e f x=0∧oe e f=3:=⟨if_neg h,if_neg h⟩
end Go.Proofs.YthnofhjgfhapiaaGreatDoor
namespace Go.Proofs.YthnofhjgfhapiaaGreatDoor
open Go.RowKit Go.Shelf
attribute [local go_sem] Oper.semAt_some
structure TI (n:Nat) (W:World) (P I J:Nat) (m:Nat→Int) (i j:Nat):Prop where
 bP:P<n
 bI:I<n
 bJ:J<n
 b1:3<n
 b0:0<n
 sc:SC W P m
 ci:W.cell? ⟨I,0,none⟩=some (.int .i64 i)
 cj:W.cell? ⟨J,0,none⟩=some (.int .i64 j)
 ml:ML W
 pl:PL W
theorem ti_below {n:Nat} {W W':World} {P I J:Nat} {m:Nat→Int} {i j:Nat} (h:TI n W P I J m i j) (hb:Below n W W'):TI n W' P I J m i j:=by
 obtain ⟨bP,bI,bJ,b1,b0,sc,ci,cj,ml,p0,p1,p2,p3,p4,p5,p6,p7,p8⟩:=h
 exact ⟨bP,bI,bJ,b1,b0,fun k hk=>(hb.cell (p:=⟨P,k,none⟩) bP).trans (sc k hk),(hb.cell (p:=⟨I,0,none⟩) bI).trans ci,(hb.cell (p:=⟨J,0,none⟩) bJ).trans cj,
  fun a ha c hc=>(hb.cell (p:=⟨3,a*3+c,none⟩) b1).trans (ml a ha c hc),(hb.cell (p:=⟨0,0,none⟩) b0).trans p0,(hb.cell (p:=⟨0,1,none⟩) b0).trans p1,(hb.cell (p:=⟨0,2,none⟩) b0).trans p2,(hb.cell (p:=⟨0,3,none⟩) b0).trans p3,
  (hb.cell (p:=⟨0,4,none⟩) b0).trans p4,(hb.cell (p:=⟨0,5,none⟩) b0).trans p5,(hb.cell (p:=⟨0,6,none⟩) b0).trans p6,(hb.cell (p:=⟨0,7,none⟩) b0).trans p7,(hb.cell (p:=⟨0,8,none⟩) b0).trans p8⟩
theorem iter_in (n:Nat) (hn:1≤n) (l n₀ P I J:Nat) (m:Nat→Int) (i j:Nat) (hm:F6 m) (hi:i<3) (hj:j<3) (J1 Jx:List Nat→World→Prop) (W:World) (hA:AbidesFrom W.heap.size J1) (hn₀:n₀≤W.heap.size)
  (hY:∀ pre x W,J1 pre W→pre.length<9→YieldAt Fence.wide (n - 1) Tryz.prog l #[wof (tmn m i j x)] W fun e W' =>
   (e=.returned (.bool true)∧J1 (pre ++ [x]) W'∧Below n₀ W W')∨(e=.returned (.bool false)∧Jx (pre ++ [x]) W'))
  (hT:TI n₀ W P I J m i j) (h0:J1 [] W) :
  CallsIn Fence.wide n Tryz.prog 170 #[.func (.yield l) #[] #[],.pointer (some ⟨I,0,none⟩),.pointer (some ⟨J,0,none⟩),.pointer (some ⟨P,0,none⟩)] W fun e W'=>(∃ v,e=.returned v) ∧
   ((∃ ys,ys=List.range 9∧J1 ys W')∨(∃ pre,(∃ k,k≤9∧pre=List.range k)∧Jx pre W')):=by
 refine callsIn_of_wp Tryz.func170 rfl trivial ?_ rfl
 simp only [Tryz.ntmps170,List.size_toArray,List.length_cons,List.length_nil,Nat.reduceAdd,Nat.reduceSub,Array.replicate_succ,Array.replicate_zero,List.push_toArray,List.append_toArray,List.nil_append,List.cons_append]
 have ci:=hT.ci
 have r0:W.cell? ⟨3,i*3,none⟩=some (.int .i64 (mvn i 0)):=hT.ml i hi 0 (by decide)
 have r1:=hT.ml i hi 1 (by decide)
 have r2:=hT.ml i hi 2 (by decide)
 have q0:(0:Int)≤(i:Int):=by omega
 have q3:(i:Int)<3:=by omega
 gi_wp2
 clear ci r0 r1 r2
 gi_loopw [14] (fun av wr=>∃ a:Nat,a≤3∧av=.int .i64 a∧J1 (List.range (3*a)) wr∧Below n₀ W wr∧W.heap.size≤wr.heap.size) (fun av _=>3 - (intOf av).toNat)
 case atStart=>exact ⟨0,by decide,rfl,h0,Below.refl _ _,Nat.le_refl _⟩
 case round =>
  obtain ⟨a,ha,rfl,hJ,hb,hs⟩:=hrel
  by_cases c:a<3
  ·have x1:=ix_row (mvn i) c
   have c3:(a:Int)<3:=by omega
   have tU:=ti_below hT hb
   have cj:=tU.cj
   have r0:wr.cell? ⟨3,j*3,none⟩=some (.int .i64 (mvn j 0)):=tU.ml j hj 0 (by decide)
   have r1:=tU.ml j hj 1 (by decide)
   have r2:=tU.ml j hj 2 (by decide)
   have p0:(0:Int)≤(j:Int):=by omega
   have p3:(j:Int)<3:=by omega
   gi_wp2
   clear cj r0 r1 r2 x1 tU
   gi_loopw [21] (fun bv wr'=>∃ b:Nat,b≤3∧bv=.int .i64 b∧J1 (List.range (3*a+b)) wr'∧Below n₀ W wr'∧W.heap.size≤wr'.heap.size) (fun bv _=>3 - (intOf bv).toNat)
   case atStart=>exact ⟨0,by decide,rfl,hJ,hb,hs⟩
   case round =>
    obtain ⟨b,hb3,rfl,hJ2,hb2,hs2⟩:=hrel
    by_cases d:b<3
    ·have x2:=ix_row (mvn j) d
     have d3:(b:Int)<3:=by omega
     have tU:=ti_below hT hb2
     have l6:=sc_six tU.sc
     have AT:=Lib.hid (pln_at c d)
     have e2:=tmn_eq m i j a b d
     have k2:=tmn_bd hm i j (3*a+b)
     have ml:I64 (m (pln a b)):=by have:=hm _ (pln_lt a b); exact ⟨by omega,by omega⟩
     have lb:-1073741824≤mvn i a*mvn j b∧mvn i a*mvn j b≤1073741824:=by
      have h1:=mvn_bd i a
      have h2:=mvn_bd j b
      have:=abs_mul (x:=mvn i a) (y:=mvn j b) (A:=32768) (B:=32768) (by omega) (by omega)
      exact ⟨by omega,by omega⟩
     obtain ⟨lr,hlr⟩:∃ lr,mvn i a*mvn j b=lr:=⟨_,rfl⟩
     rw [hlr] at e2 lb
     have wr1:IntKind.i64.wrap lr=lr:=by rw [IntKind.wrap_i64]; omega
     have cM:∀ w,Calls Tryz.prog 32 #[.int .i64 lr,.int .i64 (m (pln a b))] w (RetV (wof (tmn m i j (3*a+b))) w):=fun w=>by
      have h:=mul_any lr (m (pln a b)) (by omega) (by omega) ml.1 ml.2 w
      rw [← e2] at h
      exact h.mono fun _ _=>retW_det (IsW.mk' ⟨by omega,by omega⟩)
     replace e2:=Lib.hid e2
     clear k2 lb ml
     gi_wp2_with fail
     refine ⟨trivial,(callsIn_wide.2 (at_ok m a b (pln a b) AT.out _ tU.pl)).mono ?_⟩
     rintro e w1 ⟨rfl,hb9⟩
     have hJ3:=hA _ _ _ none hJ2 (grown_of hb9) (fun r e=>by cases e)
     have hb3':=hb2.trans (hb9.mono (by omega:n₀≤wr.heap.size))
     have hs3:=Nat.le_trans hs2 hb9.size
     clear hb9 x2 tU l6 AT
     gi_wp2_with fail
     refine ⟨trivial,(callsIn_wide.2 (cM _)).mono ?_⟩
     rintro e w2 ⟨rfl,hb9⟩
     have hJ4:=hA _ _ _ none hJ3 (grown_of hb9) (fun r e=>by cases e)
     have hb4:=hb3'.trans (hb9.mono (by omega:n₀≤w1.heap.size))
     have hs4:=Nat.le_trans hs3 hb9.size
     clear hb9 wr1 cM hJ2 hb2 hs2 hJ3 hb3' hs3
     obtain ⟨fn,tmps,assign,body,hy,hR⟩:=hY _ (3*a+b) w2 hJ4 (by simp; omega)
     clear hJ4
     gi_wp2
     refine hR.mono ?_
     rintro e W3 (⟨rfl,hJ5,hk5⟩ | ⟨rfl,hJx5⟩)
     ·gi_wp2
      go_roundw
      case rel=>exact ⟨b+1,by omega,by simp,by rw [show 3*a+(b+1)=3*a+b+1 by omega,List.range_succ]; exact hJ5,hb4.trans hk5,Nat.le_trans hs4 (hk5.size)⟩
      case measure=>simp [intOf]; omega
     ·gi_wp2
      refine bodyPost_ret (results_none rfl _ _ _) rfl ?_
      exact ⟨⟨_,rfl⟩,.inr ⟨_,⟨3*a+b+1,by omega,(List.range_succ).symm⟩,hJx5⟩⟩
    ·obtain rfl:b=3:=by omega
     gi_wp2
     go_roundw
     case rel=>exact ⟨a+1,by omega,by simp,by rw [show 3*(a+1)=3*a+3 by omega]; exact hJ2,hb2,hs2⟩
     case measure=>simp [intOf]; omega
  ·obtain rfl:a=3:=by omega
   gi_wp2
   go_end0
   exact ⟨⟨_,rfl⟩,.inl ⟨_,rfl,hJ⟩⟩
end Go.Proofs.YthnofhjgfhapiaaGreatDoor

import Derived.Test.YthnofhjgfhapiaaGreatDoorWba
import Derived.Test.YthnofhjgfhapiaaGreatDoorWaa
import Derived.Test.YthnofhjgfhapiaaGreatDoorWae
import Derived.Test.YthnofhjgfhapiaaGreatDoorWaf
import Derived.Test.YthnofhjgfhapiaaGreatDoorWad
import Derived.Test.YthnofhjgfhapiaaGreatDoorWaz
import Derived.Test.YthnofhjgfhapiaaGreatDoorWac
import Derived.Test.YthnofhjgfhapiaaGreatDoorWat
set_option maxHeartbeats 8000000
set_option maxRecDepth 10000
namespace Go.Proofs.YthnofhjgfhapiaaGreatDoor
open Go.RowKit Go.Shelf
theorem bj_set {W w:World} {R:Nat} {v0 v1 v2 v3 v4 v5:Value} (h:Below W.heap.size W w) (q:W.heap.size≤R):Below W.heap.size W ((((((w.setCell ⟨R,0,none⟩ v0).setCell ⟨R,1,none⟩ v1).setCell ⟨R,2,none⟩ v2).setCell ⟨R,3,none⟩ v3).setCell ⟨R,4,none⟩ v4).setCell ⟨R,5,none⟩ v5) :=
 b_set (b_set (b_set (b_set (b_set (b_set h q) q) q) q) q) q
theorem six_sf {w:World} {b:Nat} (c:SF6 w b):SF w b:=fun i hi=>by
 obtain ⟨c0,c1,c2,c3,c4,c5⟩:=c
 match i,hi with
 | 0,_=>exact c0
 | 1,_=>exact c1
 | 2,_=>exact c2
 | 3,_=>exact c3
 | 4,_=>exact c4
 | 5,_=>exact c5
theorem sc_full {U:World} {Q:Nat} {M M':Nat→Int} (c:SC U Q M):SC ((((((U.setCell ⟨Q,0,none⟩ (.int .i64 (M' 0))).setCell ⟨Q,1,none⟩ (.int .i64 (M' 1))).setCell ⟨Q,2,none⟩ (.int .i64 (M' 2))).setCell ⟨Q,3,none⟩ (.int .i64 (M' 3))).setCell ⟨Q,4,none⟩ (.int .i64 (M' 4))).setCell ⟨Q,5,none⟩ (.int .i64 (M' 5))) Q M':=by
 obtain ⟨c0,c1,c2,c3,c4,c5⟩:=sc_six c
 exact six_sc (by simp [SC6,go_sem,c0,c1,c2,c3,c4,c5])
structure DJ (W:World) (Q:Nat) (m k M:Nat→Int) (U:World):Prop where
 b:Below W.heap.size W U
 pl:PL U
 z:0<W.heap.size
 q:W.heap.size+1+1<Q
 s:SC U W.heap.size m
 k:TC U (W.heap.size+1) (k 0) (k 1) (k 2)
 r:SC U (W.heap.size+1+1) (fun _=>0)
 rf:SF U (W.heap.size+1+1)
 n:SC U Q M
 nf:SF U Q
theorem dj_keep {W:World} {Q:Nat} {m k M:Nat→Int} {U U':World} (h:DJ W Q m k M U) (hb:Below U.heap.size U U'):DJ W Q m k M U' :=
 ⟨b_trans h.b hb,pl_keep hb h.pl,h.z,h.q,sc_keep hb h.s,tc_keep hb h.k,sc_keep hb h.r,sf_keep hb h.r h.rf,sc_keep hb h.n,sf_keep hb h.n h.nf⟩
theorem dj_put {W:World} {Q:Nat} {m k M M':Nat→Int} {U:World} (h:DJ W Q m k M U):DJ W Q m k M' ((((((U.setCell ⟨Q,0,none⟩ (.int .i64 (M' 0))).setCell ⟨Q,1,none⟩ (.int .i64 (M' 1))).setCell ⟨Q,2,none⟩ (.int .i64 (M' 2))).setCell ⟨Q,3,none⟩ (.int .i64 (M' 3))).setCell ⟨Q,4,none⟩ (.int .i64 (M' 4))).setCell ⟨Q,5,none⟩ (.int .i64 (M' 5))):=by
 have q:=h.q
 have a0:W.heap.size≤Q:=by omega
 have a1:0<Q:=by omega
 have a2:Q≠W.heap.size:=by omega
 have a3:Q≠W.heap.size+1:=by omega
 have a4:Q≠W.heap.size+1+1:=by omega
 exact ⟨b_set (b_set (b_set (b_set (b_set (b_set h.b a0) a0) a0) a0) a0) a0,pj_set (pj_set (pj_set (pj_set (pj_set (pj_set h.pl a1) a1) a1) a1) a1) a1,h.z,q,sc_set (sc_set (sc_set (sc_set (sc_set (sc_set h.s a2) a2) a2) a2) a2) a2,tc_set (tc_set (tc_set (tc_set (tc_set (tc_set h.k a3) a3) a3) a3) a3) a3,sc_set (sc_set (sc_set (sc_set (sc_set (sc_set h.r a4) a4) a4) a4) a4) a4,sf_set (sf_set (sf_set (sf_set (sf_set (sf_set h.rf))))),sc_full h.n,sf_set (sf_set (sf_set (sf_set (sf_set (sf_set h.nf)))))⟩
theorem doubt_0 (m k:Nat→Int) (s:Int)
  (cP:∀ w,Calls Tryz.prog 114 #[sv m] w (RetV (.bool false) w)) (w:World) (hp:PL w) :
  Calls Tryz.prog 78 #[sv m,tv (k 0) (k 1) (k 2),.int .i64 s] w (RetV (.tuple #[.agg #[.int .i64 0,.int .i64 0,.int .i64 0,.int .i64 0,.int .i64 0,.int .i64 0],.int .i64 1]) w):=by
 have z0:=pl_lt hp
 have B:Below w.heap.size w (((w.alloc (Obj.cells #[.int .i64 (m 0),.int .i64 (m 1),.int .i64 (m 2),.int .i64 (m 3),.int .i64 (m 4),.int .i64 (m 5)] 42)).alloc (Obj.cells #[.int .i64 (k 0),.int .i64 (k 1),.int .i64 (k 2)] 25)).alloc (Obj.cells #[.int .i64 0,.int .i64 0,.int .i64 0,.int .i64 0,.int .i64 0,.int .i64 0] 42)):=b_alloc (b_alloc (b_alloc (Below.refl _ _)))
 have P:=pl_keep B hp
 clear hp
 have S:SC6 (((w.alloc (Obj.cells #[.int .i64 (m 0),.int .i64 (m 1),.int .i64 (m 2),.int .i64 (m 3),.int .i64 (m 4),.int .i64 (m 5)] 42)).alloc (Obj.cells #[.int .i64 (k 0),.int .i64 (k 1),.int .i64 (k 2)] 25)).alloc (Obj.cells #[.int .i64 0,.int .i64 0,.int .i64 0,.int .i64 0,.int .i64 0,.int .i64 0] 42)) w.heap.size m:=sc_six (sc_alloc (sc_alloc (sc_new rfl)))
 have K:TC (((w.alloc (Obj.cells #[.int .i64 (m 0),.int .i64 (m 1),.int .i64 (m 2),.int .i64 (m 3),.int .i64 (m 4),.int .i64 (m 5)] 42)).alloc (Obj.cells #[.int .i64 (k 0),.int .i64 (k 1),.int .i64 (k 2)] 25)).alloc (Obj.cells #[.int .i64 0,.int .i64 0,.int .i64 0,.int .i64 0,.int .i64 0,.int .i64 0] 42)) (w.heap.size+1) (k 0) (k 1) (k 2):=tc_alloc (tc_new (by simp))
 have R:SC6 (((w.alloc (Obj.cells #[.int .i64 (m 0),.int .i64 (m 1),.int .i64 (m 2),.int .i64 (m 3),.int .i64 (m 4),.int .i64 (m 5)] 42)).alloc (Obj.cells #[.int .i64 (k 0),.int .i64 (k 1),.int .i64 (k 2)] 25)).alloc (Obj.cells #[.int .i64 0,.int .i64 0,.int .i64 0,.int .i64 0,.int .i64 0,.int .i64 0] 42)) (w.heap.size+1+1) (fun _=>0):=sc_six (sc_new (m:=fun _=>0) (by simp))
 have RF:SF6 (((w.alloc (Obj.cells #[.int .i64 (m 0),.int .i64 (m 1),.int .i64 (m 2),.int .i64 (m 3),.int .i64 (m 4),.int .i64 (m 5)] 42)).alloc (Obj.cells #[.int .i64 (k 0),.int .i64 (k 1),.int .i64 (k 2)] 25)).alloc (Obj.cells #[.int .i64 0,.int .i64 0,.int .i64 0,.int .i64 0,.int .i64 0,.int .i64 0] 42)) (w.heap.size+1+1):=sf_six (sf_new (by simp))
 go_enter Tryz.func78,Tryz.ntmps78
 go_wp2_with fail
 refine (cP _).mono ?_
 rintro e w1 ⟨rfl,hb⟩
 replace RF:=sf_six (sf_keep hb (six_sc R) (six_sf RF))
 replace R:=sc_six (sc_keep hb (six_sc R))
 replace S:=sc_six (sc_keep hb (six_sc S))
 replace K:=tc_keep hb K
 replace P:=pl_keep hb P
 replace B:=b_trans B hb
 clear hb
 clear cP
 clear S K
 go_wp2
 obtain ⟨r0,r1,r2,r3,r4,r5⟩:=R
 refine bodyPost_ret (v:=.tuple #[.agg #[.int .i64 0,.int .i64 0,.int .i64 0,.int .i64 0,.int .i64 0,.int .i64 0],.int .i64 1]) (by simp [results,Tryz.results78,go_sem,r0,r1,r2,r3,r4,r5]) rfl ⟨rfl,?_⟩
 have g2:w.heap.size≤w.heap.size+1+1:=Nat.le_trans (Nat.le_succ _) (Nat.le_succ _)
 exact bj_set B g2
theorem doubt_1 (m k:Nat→Int) (s:Int)
  (cP:∀ w,Calls Tryz.prog 114 #[sv m] w (RetV (.bool true) w))
  (cK:∀ w,Calls Tryz.prog 92 #[tv (k 0) (k 1) (k 2)] w (RetV (.bool false) w)) (w:World) (hp:PL w) :
  Calls Tryz.prog 78 #[sv m,tv (k 0) (k 1) (k 2),.int .i64 s] w (RetV (.tuple #[.agg #[.int .i64 0,.int .i64 0,.int .i64 0,.int .i64 0,.int .i64 0,.int .i64 0],.int .i64 1]) w):=by
 have z0:=pl_lt hp
 have B:Below w.heap.size w (((w.alloc (Obj.cells #[.int .i64 (m 0),.int .i64 (m 1),.int .i64 (m 2),.int .i64 (m 3),.int .i64 (m 4),.int .i64 (m 5)] 42)).alloc (Obj.cells #[.int .i64 (k 0),.int .i64 (k 1),.int .i64 (k 2)] 25)).alloc (Obj.cells #[.int .i64 0,.int .i64 0,.int .i64 0,.int .i64 0,.int .i64 0,.int .i64 0] 42)):=b_alloc (b_alloc (b_alloc (Below.refl _ _)))
 have P:=pl_keep B hp
 clear hp
 have S:SC6 (((w.alloc (Obj.cells #[.int .i64 (m 0),.int .i64 (m 1),.int .i64 (m 2),.int .i64 (m 3),.int .i64 (m 4),.int .i64 (m 5)] 42)).alloc (Obj.cells #[.int .i64 (k 0),.int .i64 (k 1),.int .i64 (k 2)] 25)).alloc (Obj.cells #[.int .i64 0,.int .i64 0,.int .i64 0,.int .i64 0,.int .i64 0,.int .i64 0] 42)) w.heap.size m:=sc_six (sc_alloc (sc_alloc (sc_new rfl)))
 have K:TC (((w.alloc (Obj.cells #[.int .i64 (m 0),.int .i64 (m 1),.int .i64 (m 2),.int .i64 (m 3),.int .i64 (m 4),.int .i64 (m 5)] 42)).alloc (Obj.cells #[.int .i64 (k 0),.int .i64 (k 1),.int .i64 (k 2)] 25)).alloc (Obj.cells #[.int .i64 0,.int .i64 0,.int .i64 0,.int .i64 0,.int .i64 0,.int .i64 0] 42)) (w.heap.size+1) (k 0) (k 1) (k 2):=tc_alloc (tc_new (by simp))
 have R:SC6 (((w.alloc (Obj.cells #[.int .i64 (m 0),.int .i64 (m 1),.int .i64 (m 2),.int .i64 (m 3),.int .i64 (m 4),.int .i64 (m 5)] 42)).alloc (Obj.cells #[.int .i64 (k 0),.int .i64 (k 1),.int .i64 (k 2)] 25)).alloc (Obj.cells #[.int .i64 0,.int .i64 0,.int .i64 0,.int .i64 0,.int .i64 0,.int .i64 0] 42)) (w.heap.size+1+1) (fun _=>0):=sc_six (sc_new (m:=fun _=>0) (by simp))
 have RF:SF6 (((w.alloc (Obj.cells #[.int .i64 (m 0),.int .i64 (m 1),.int .i64 (m 2),.int .i64 (m 3),.int .i64 (m 4),.int .i64 (m 5)] 42)).alloc (Obj.cells #[.int .i64 (k 0),.int .i64 (k 1),.int .i64 (k 2)] 25)).alloc (Obj.cells #[.int .i64 0,.int .i64 0,.int .i64 0,.int .i64 0,.int .i64 0,.int .i64 0] 42)) (w.heap.size+1+1):=sf_six (sf_new (by simp))
 go_enter Tryz.func78,Tryz.ntmps78
 go_wp2_with fail
 refine (cP _).mono ?_
 rintro e w1 ⟨rfl,hb⟩
 replace RF:=sf_six (sf_keep hb (six_sc R) (six_sf RF))
 replace R:=sc_six (sc_keep hb (six_sc R))
 replace S:=sc_six (sc_keep hb (six_sc S))
 replace K:=tc_keep hb K
 replace P:=pl_keep hb P
 replace B:=b_trans B hb
 clear hb
 clear cP
 go_wp2_with fail
 refine (cK _).mono ?_
 rintro e w1 ⟨rfl,hb⟩
 replace RF:=sf_six (sf_keep hb (six_sc R) (six_sf RF))
 replace R:=sc_six (sc_keep hb (six_sc R))
 replace S:=sc_six (sc_keep hb (six_sc S))
 replace K:=tc_keep hb K
 replace P:=pl_keep hb P
 replace B:=b_trans B hb
 clear hb
 clear cK
 clear S K
 go_wp2
 obtain ⟨r0,r1,r2,r3,r4,r5⟩:=R
 refine bodyPost_ret (v:=.tuple #[.agg #[.int .i64 0,.int .i64 0,.int .i64 0,.int .i64 0,.int .i64 0,.int .i64 0],.int .i64 1]) (by simp [results,Tryz.results78,go_sem,r0,r1,r2,r3,r4,r5]) rfl ⟨rfl,?_⟩
 have g2:w.heap.size≤w.heap.size+1+1:=Nat.le_trans (Nat.le_succ _) (Nat.le_succ _)
 exact bj_set B g2
theorem doubt_2 (m k:Nat→Int) (s:Int)
  (cP:∀ w,Calls Tryz.prog 114 #[sv m] w (RetV (.bool true) w))
  (cK:∀ w,Calls Tryz.prog 92 #[tv (k 0) (k 1) (k 2)] w (RetV (.bool true) w))
  (cS:∀ w,Calls Tryz.prog 82 #[.int .i64 s] w fun e w'=>e=.returned (.bool false)∧w=w') (w:World) (hp:PL w) :
  Calls Tryz.prog 78 #[sv m,tv (k 0) (k 1) (k 2),.int .i64 s] w (RetV (.tuple #[.agg #[.int .i64 0,.int .i64 0,.int .i64 0,.int .i64 0,.int .i64 0,.int .i64 0],.int .i64 1]) w):=by
 have z0:=pl_lt hp
 have B:Below w.heap.size w (((w.alloc (Obj.cells #[.int .i64 (m 0),.int .i64 (m 1),.int .i64 (m 2),.int .i64 (m 3),.int .i64 (m 4),.int .i64 (m 5)] 42)).alloc (Obj.cells #[.int .i64 (k 0),.int .i64 (k 1),.int .i64 (k 2)] 25)).alloc (Obj.cells #[.int .i64 0,.int .i64 0,.int .i64 0,.int .i64 0,.int .i64 0,.int .i64 0] 42)):=b_alloc (b_alloc (b_alloc (Below.refl _ _)))
 have P:=pl_keep B hp
 clear hp
 have S:SC6 (((w.alloc (Obj.cells #[.int .i64 (m 0),.int .i64 (m 1),.int .i64 (m 2),.int .i64 (m 3),.int .i64 (m 4),.int .i64 (m 5)] 42)).alloc (Obj.cells #[.int .i64 (k 0),.int .i64 (k 1),.int .i64 (k 2)] 25)).alloc (Obj.cells #[.int .i64 0,.int .i64 0,.int .i64 0,.int .i64 0,.int .i64 0,.int .i64 0] 42)) w.heap.size m:=sc_six (sc_alloc (sc_alloc (sc_new rfl)))
 have K:TC (((w.alloc (Obj.cells #[.int .i64 (m 0),.int .i64 (m 1),.int .i64 (m 2),.int .i64 (m 3),.int .i64 (m 4),.int .i64 (m 5)] 42)).alloc (Obj.cells #[.int .i64 (k 0),.int .i64 (k 1),.int .i64 (k 2)] 25)).alloc (Obj.cells #[.int .i64 0,.int .i64 0,.int .i64 0,.int .i64 0,.int .i64 0,.int .i64 0] 42)) (w.heap.size+1) (k 0) (k 1) (k 2):=tc_alloc (tc_new (by simp))
 have R:SC6 (((w.alloc (Obj.cells #[.int .i64 (m 0),.int .i64 (m 1),.int .i64 (m 2),.int .i64 (m 3),.int .i64 (m 4),.int .i64 (m 5)] 42)).alloc (Obj.cells #[.int .i64 (k 0),.int .i64 (k 1),.int .i64 (k 2)] 25)).alloc (Obj.cells #[.int .i64 0,.int .i64 0,.int .i64 0,.int .i64 0,.int .i64 0,.int .i64 0] 42)) (w.heap.size+1+1) (fun _=>0):=sc_six (sc_new (m:=fun _=>0) (by simp))
 have RF:SF6 (((w.alloc (Obj.cells #[.int .i64 (m 0),.int .i64 (m 1),.int .i64 (m 2),.int .i64 (m 3),.int .i64 (m 4),.int .i64 (m 5)] 42)).alloc (Obj.cells #[.int .i64 (k 0),.int .i64 (k 1),.int .i64 (k 2)] 25)).alloc (Obj.cells #[.int .i64 0,.int .i64 0,.int .i64 0,.int .i64 0,.int .i64 0,.int .i64 0] 42)) (w.heap.size+1+1):=sf_six (sf_new (by simp))
 go_enter Tryz.func78,Tryz.ntmps78
 go_wp2_with fail
 refine (cP _).mono ?_
 rintro e w1 ⟨rfl,hb⟩
 replace RF:=sf_six (sf_keep hb (six_sc R) (six_sf RF))
 replace R:=sc_six (sc_keep hb (six_sc R))
 replace S:=sc_six (sc_keep hb (six_sc S))
 replace K:=tc_keep hb K
 replace P:=pl_keep hb P
 replace B:=b_trans B hb
 clear hb
 clear cP
 go_wp2_with fail
 refine (cK _).mono ?_
 rintro e w1 ⟨rfl,hb⟩
 replace RF:=sf_six (sf_keep hb (six_sc R) (six_sf RF))
 replace R:=sc_six (sc_keep hb (six_sc R))
 replace S:=sc_six (sc_keep hb (six_sc S))
 replace K:=tc_keep hb K
 replace P:=pl_keep hb P
 replace B:=b_trans B hb
 clear hb
 clear cK
 go_wp2_with fail
 refine (cS _).mono ?_
 rintro e w9 ⟨rfl,rfl⟩
 clear cS
 clear S K
 go_wp2
 obtain ⟨r0,r1,r2,r3,r4,r5⟩:=R
 refine bodyPost_ret (v:=.tuple #[.agg #[.int .i64 0,.int .i64 0,.int .i64 0,.int .i64 0,.int .i64 0,.int .i64 0],.int .i64 1]) (by simp [results,Tryz.results78,go_sem,r0,r1,r2,r3,r4,r5]) rfl ⟨rfl,?_⟩
 have g2:w.heap.size≤w.heap.size+1+1:=Nat.le_trans (Nat.le_succ _) (Nat.le_succ _)
 exact bj_set B g2
theorem doubt_jos (m k:Nat→Int) (s x0 x1 x2 x3 x4 x5 e0 e1 e2 e3 e4 e5 z0 z1 z2 z3 z4 z5 f:Int)
  (cP:∀ w,Calls Tryz.prog 114 #[sv m] w (RetV (.bool true) w))
  (cK:∀ w,Calls Tryz.prog 92 #[tv (k 0) (k 1) (k 2)] w (RetV (.bool true) w))
  (cS:∀ w,Calls Tryz.prog 82 #[.int .i64 s] w fun e w'=>e=.returned (.bool true)∧w=w')
  (c0:∀ w,PL w→Calls Tryz.prog 115 #[sv m,tv (k 0) (k 1) (k 2),.int .i64 s,.int .i64 0,.int .i64 0] w (RetV (.tuple #[.int .i64 x0,.int .i64 e0]) w)) (q0:e0=0∨e0=3)
  (c1:∀ w,PL w→Calls Tryz.prog 115 #[sv m,tv (k 0) (k 1) (k 2),.int .i64 s,.int .i64 1,.int .i64 0] w (RetV (.tuple #[.int .i64 x1,.int .i64 e1]) w)) (q1:e1=0∨e1=3)
  (c3:∀ w,PL w→Calls Tryz.prog 115 #[sv m,tv (k 0) (k 1) (k 2),.int .i64 s,.int .i64 1,.int .i64 1] w (RetV (.tuple #[.int .i64 x3,.int .i64 e3]) w)) (q3:e3=0∨e3=3)
  (c2:∀ w,PL w→Calls Tryz.prog 115 #[sv m,tv (k 0) (k 1) (k 2),.int .i64 s,.int .i64 2,.int .i64 0] w (RetV (.tuple #[.int .i64 x2,.int .i64 e2]) w)) (q2:e2=0∨e2=3)
  (c4:∀ w,PL w→Calls Tryz.prog 115 #[sv m,tv (k 0) (k 1) (k 2),.int .i64 s,.int .i64 2,.int .i64 1] w (RetV (.tuple #[.int .i64 x4,.int .i64 e4]) w)) (q4:e4=0∨e4=3)
  (c5:∀ w,PL w→Calls Tryz.prog 115 #[sv m,tv (k 0) (k 1) (k 2),.int .i64 s,.int .i64 2,.int .i64 2] w (RetV (.tuple #[.int .i64 x5,.int .i64 e5]) w)) (q5:e5=0∨e5=3)
  (hy:Hid ((e0=0∧e1=0∧e2=0∧e3=0∧e4=0∧e5=0→z0=x0∧z1=x1∧z2=x2∧z3=x3∧z4=x4∧z5=x5∧f=0)∧(¬ (e0=0∧e1=0∧e2=0∧e3=0∧e4=0∧e5=0)→z0=0∧z1=0∧z2=0∧z3=0∧z4=0∧z5=0∧f=3))) (w:World) (hp:PL w) :
  Calls Tryz.prog 78 #[sv m,tv (k 0) (k 1) (k 2),.int .i64 s] w (RetV (.tuple #[.agg #[.int .i64 z0,.int .i64 z1,.int .i64 z2,.int .i64 z3,.int .i64 z4,.int .i64 z5],.int .i64 f]) w):=by
 have z0:=pl_lt hp
 have B:Below w.heap.size w (((w.alloc (Obj.cells #[.int .i64 (m 0),.int .i64 (m 1),.int .i64 (m 2),.int .i64 (m 3),.int .i64 (m 4),.int .i64 (m 5)] 42)).alloc (Obj.cells #[.int .i64 (k 0),.int .i64 (k 1),.int .i64 (k 2)] 25)).alloc (Obj.cells #[.int .i64 0,.int .i64 0,.int .i64 0,.int .i64 0,.int .i64 0,.int .i64 0] 42)):=b_alloc (b_alloc (b_alloc (Below.refl _ _)))
 have P:=pl_keep B hp
 clear hp
 have S:SC6 (((w.alloc (Obj.cells #[.int .i64 (m 0),.int .i64 (m 1),.int .i64 (m 2),.int .i64 (m 3),.int .i64 (m 4),.int .i64 (m 5)] 42)).alloc (Obj.cells #[.int .i64 (k 0),.int .i64 (k 1),.int .i64 (k 2)] 25)).alloc (Obj.cells #[.int .i64 0,.int .i64 0,.int .i64 0,.int .i64 0,.int .i64 0,.int .i64 0] 42)) w.heap.size m:=sc_six (sc_alloc (sc_alloc (sc_new rfl)))
 have K:TC (((w.alloc (Obj.cells #[.int .i64 (m 0),.int .i64 (m 1),.int .i64 (m 2),.int .i64 (m 3),.int .i64 (m 4),.int .i64 (m 5)] 42)).alloc (Obj.cells #[.int .i64 (k 0),.int .i64 (k 1),.int .i64 (k 2)] 25)).alloc (Obj.cells #[.int .i64 0,.int .i64 0,.int .i64 0,.int .i64 0,.int .i64 0,.int .i64 0] 42)) (w.heap.size+1) (k 0) (k 1) (k 2):=tc_alloc (tc_new (by simp))
 have R:SC6 (((w.alloc (Obj.cells #[.int .i64 (m 0),.int .i64 (m 1),.int .i64 (m 2),.int .i64 (m 3),.int .i64 (m 4),.int .i64 (m 5)] 42)).alloc (Obj.cells #[.int .i64 (k 0),.int .i64 (k 1),.int .i64 (k 2)] 25)).alloc (Obj.cells #[.int .i64 0,.int .i64 0,.int .i64 0,.int .i64 0,.int .i64 0,.int .i64 0] 42)) (w.heap.size+1+1) (fun _=>0):=sc_six (sc_new (m:=fun _=>0) (by simp))
 have RF:SF6 (((w.alloc (Obj.cells #[.int .i64 (m 0),.int .i64 (m 1),.int .i64 (m 2),.int .i64 (m 3),.int .i64 (m 4),.int .i64 (m 5)] 42)).alloc (Obj.cells #[.int .i64 (k 0),.int .i64 (k 1),.int .i64 (k 2)] 25)).alloc (Obj.cells #[.int .i64 0,.int .i64 0,.int .i64 0,.int .i64 0,.int .i64 0,.int .i64 0] 42)) (w.heap.size+1+1):=sf_six (sf_new (by simp))
 go_enter Tryz.func78,Tryz.ntmps78
 go_wp2_with fail
 refine (cP _).mono ?_
 rintro e w1 ⟨rfl,hb⟩
 replace RF:=sf_six (sf_keep hb (six_sc R) (six_sf RF))
 replace R:=sc_six (sc_keep hb (six_sc R))
 replace S:=sc_six (sc_keep hb (six_sc S))
 replace K:=tc_keep hb K
 replace P:=pl_keep hb P
 replace B:=b_trans B hb
 clear hb
 clear cP
 go_wp2_with fail
 refine (cK _).mono ?_
 rintro e w1 ⟨rfl,hb⟩
 replace RF:=sf_six (sf_keep hb (six_sc R) (six_sf RF))
 replace R:=sc_six (sc_keep hb (six_sc R))
 replace S:=sc_six (sc_keep hb (six_sc S))
 replace K:=tc_keep hb K
 replace P:=pl_keep hb P
 replace B:=b_trans B hb
 clear hb
 clear cK
 go_wp2_with fail
 refine (cS _).mono ?_
 rintro e w9 ⟨rfl,rfl⟩
 clear cS
 have zr:=sc_lt (six_sc R)
 have hb:Below w1.heap.size w1 (w1.alloc (Obj.cells #[.int .i64 0,.int .i64 0,.int .i64 0,.int .i64 0,.int .i64 0,.int .i64 0] 42)):=b_alloc (Below.refl _ _)
 have h:DJ w w1.heap.size m k (fun _=>0) (w1.alloc (Obj.cells #[.int .i64 0,.int .i64 0,.int .i64 0,.int .i64 0,.int .i64 0,.int .i64 0] 42)):=⟨b_trans B hb,pl_keep hb P,z0,zr,sc_keep hb (six_sc S),tc_keep hb K,sc_keep hb (six_sc R),sf_keep hb (six_sc R) (six_sf RF),sc_new (m:=fun _=>0) rfl,sf_new rfl⟩
 clear S K R RF B hb zr P z0
 go_wp2
 generalize w1.alloc (Obj.cells #[.int .i64 0,.int .i64 0,.int .i64 0,.int .i64 0,.int .i64 0,.int .i64 0] 42)=u0 at *
 generalize w1.heap.size=Q at *
 generalize w1.heap.size=Q at *
 obtain ⟨M0,hM0⟩:∃ M:Nat→Int,M=fun _=>0:=⟨_,rfl⟩
 rw [← hM0] at h
 replace hM0:=Lib.hid hM0
 refine wp_loop_rounds 4 ?_
 rw [rounds_succ]
 go_wp2
 refine wp_loop_rounds 2 ?_
 rw [rounds_succ]
 have S:=sc_six h.s
 have K:=h.k
 go_wp2_with fail
 refine (c0 _ h.pl).mono ?_
 clear c0 S K
 rintro e y0 ⟨rfl,hb⟩
 replace h:=dj_keep h hb
 clear hb
 rcases q0 with rfl | rfl
 rotate_left
 ·obtain ⟨rfl,rfl,rfl,rfl,rfl,rfl,rfl⟩:=hy.out.2 (by simp)
  have R:=sc_six h.r
  have RF:=sf_six h.rf
  have B:=h.b
  clear h hy
  go_wp2
  obtain ⟨r0,r1,r2,r3,r4,r5⟩:=R
  refine bodyPost_ret (v:=.tuple #[.agg #[.int .i64 0,.int .i64 0,.int .i64 0,.int .i64 0,.int .i64 0,.int .i64 0],.int .i64 3]) (by simp [results,Tryz.results78,go_sem,r0,r1,r2,r3,r4,r5]) rfl ⟨rfl,?_⟩
  have g2:w.heap.size≤w.heap.size+1+1:=Nat.le_trans (Nat.le_succ _) (Nat.le_succ _)
  exact bj_set B g2
 have N:=sc_six h.n
 go_wp2_with fail
 refine (put_ok M0 0 0 x0 0 (by simp [At9]) _ h.pl).mono ?_
 clear N
 rintro e v0 ⟨rfl,hb⟩
 replace h:=dj_keep h hb
 clear hb
 obtain ⟨M1,hM1⟩:∃ M:Nat→Int,M=umk M0 0 x0:=⟨_,rfl⟩
 rw [← hM1]
 replace hM1:=Lib.hid hM1
 have KK:=Lib.hid (dj_put (M':=M1) h)
 have N:=sc_six h.n
 have NF:=sf_six h.nf
 clear h
 go_wp2
 clear N NF
 generalize (((((v0.setCell ⟨Q,0,none⟩ (.int .i64 (M1 0))).setCell ⟨Q,1,none⟩ (.int .i64 (M1 1))).setCell ⟨Q,2,none⟩ (.int .i64 (M1 2))).setCell ⟨Q,3,none⟩ (.int .i64 (M1 3))).setCell ⟨Q,4,none⟩ (.int .i64 (M1 4))).setCell ⟨Q,5,none⟩ (.int .i64 (M1 5))=u1 at *
 have h:=KK.out
 clear KK
 rw [rounds_succ]
 go_wp2
 rw [rounds_succ]
 go_wp2
 refine wp_loop_rounds 3 ?_
 rw [rounds_succ]
 have S:=sc_six h.s
 have K:=h.k
 go_wp2_with fail
 refine (c1 _ h.pl).mono ?_
 clear c1 S K
 rintro e y1 ⟨rfl,hb⟩
 replace h:=dj_keep h hb
 clear hb
 rcases q1 with rfl | rfl
 rotate_left
 ·obtain ⟨rfl,rfl,rfl,rfl,rfl,rfl,rfl⟩:=hy.out.2 (by simp)
  have R:=sc_six h.r
  have RF:=sf_six h.rf
  have B:=h.b
  clear h hy
  go_wp2
  obtain ⟨r0,r1,r2,r3,r4,r5⟩:=R
  refine bodyPost_ret (v:=.tuple #[.agg #[.int .i64 0,.int .i64 0,.int .i64 0,.int .i64 0,.int .i64 0,.int .i64 0],.int .i64 3]) (by simp [results,Tryz.results78,go_sem,r0,r1,r2,r3,r4,r5]) rfl ⟨rfl,?_⟩
  have g2:w.heap.size≤w.heap.size+1+1:=Nat.le_trans (Nat.le_succ _) (Nat.le_succ _)
  exact bj_set B g2
 have N:=sc_six h.n
 go_wp2_with fail
 refine (put_ok M1 1 0 x1 1 (by simp [At9]) _ h.pl).mono ?_
 clear N
 rintro e v1 ⟨rfl,hb⟩
 replace h:=dj_keep h hb
 clear hb
 obtain ⟨M2,hM2⟩:∃ M:Nat→Int,M=umk M1 1 x1:=⟨_,rfl⟩
 rw [← hM2]
 replace hM2:=Lib.hid hM2
 have KK:=Lib.hid (dj_put (M':=M2) h)
 have N:=sc_six h.n
 have NF:=sf_six h.nf
 clear h
 go_wp2
 clear N NF
 generalize (((((v1.setCell ⟨Q,0,none⟩ (.int .i64 (M2 0))).setCell ⟨Q,1,none⟩ (.int .i64 (M2 1))).setCell ⟨Q,2,none⟩ (.int .i64 (M2 2))).setCell ⟨Q,3,none⟩ (.int .i64 (M2 3))).setCell ⟨Q,4,none⟩ (.int .i64 (M2 4))).setCell ⟨Q,5,none⟩ (.int .i64 (M2 5))=u2 at *
 have h:=KK.out
 clear KK
 rw [rounds_succ]
 have S:=sc_six h.s
 have K:=h.k
 go_wp2_with fail
 refine (c3 _ h.pl).mono ?_
 clear c3 S K
 rintro e y2 ⟨rfl,hb⟩
 replace h:=dj_keep h hb
 clear hb
 rcases q3 with rfl | rfl
 rotate_left
 ·obtain ⟨rfl,rfl,rfl,rfl,rfl,rfl,rfl⟩:=hy.out.2 (by simp)
  have R:=sc_six h.r
  have RF:=sf_six h.rf
  have B:=h.b
  clear h hy
  go_wp2
  obtain ⟨r0,r1,r2,r3,r4,r5⟩:=R
  refine bodyPost_ret (v:=.tuple #[.agg #[.int .i64 0,.int .i64 0,.int .i64 0,.int .i64 0,.int .i64 0,.int .i64 0],.int .i64 3]) (by simp [results,Tryz.results78,go_sem,r0,r1,r2,r3,r4,r5]) rfl ⟨rfl,?_⟩
  have g2:w.heap.size≤w.heap.size+1+1:=Nat.le_trans (Nat.le_succ _) (Nat.le_succ _)
  exact bj_set B g2
 have N:=sc_six h.n
 go_wp2_with fail
 refine (put_ok M2 1 1 x3 3 (by simp [At9]) _ h.pl).mono ?_
 clear N
 rintro e v2 ⟨rfl,hb⟩
 replace h:=dj_keep h hb
 clear hb
 obtain ⟨M3,hM3⟩:∃ M:Nat→Int,M=umk M2 3 x3:=⟨_,rfl⟩
 rw [← hM3]
 replace hM3:=Lib.hid hM3
 have KK:=Lib.hid (dj_put (M':=M3) h)
 have N:=sc_six h.n
 have NF:=sf_six h.nf
 clear h
 go_wp2
 clear N NF
 generalize (((((v2.setCell ⟨Q,0,none⟩ (.int .i64 (M3 0))).setCell ⟨Q,1,none⟩ (.int .i64 (M3 1))).setCell ⟨Q,2,none⟩ (.int .i64 (M3 2))).setCell ⟨Q,3,none⟩ (.int .i64 (M3 3))).setCell ⟨Q,4,none⟩ (.int .i64 (M3 4))).setCell ⟨Q,5,none⟩ (.int .i64 (M3 5))=u3 at *
 have h:=KK.out
 clear KK
 rw [rounds_succ]
 go_wp2
 rw [rounds_succ]
 go_wp2
 refine wp_loop_rounds 4 ?_
 rw [rounds_succ]
 have S:=sc_six h.s
 have K:=h.k
 go_wp2_with fail
 refine (c2 _ h.pl).mono ?_
 clear c2 S K
 rintro e y3 ⟨rfl,hb⟩
 replace h:=dj_keep h hb
 clear hb
 rcases q2 with rfl | rfl
 rotate_left
 ·obtain ⟨rfl,rfl,rfl,rfl,rfl,rfl,rfl⟩:=hy.out.2 (by simp)
  have R:=sc_six h.r
  have RF:=sf_six h.rf
  have B:=h.b
  clear h hy
  go_wp2
  obtain ⟨r0,r1,r2,r3,r4,r5⟩:=R
  refine bodyPost_ret (v:=.tuple #[.agg #[.int .i64 0,.int .i64 0,.int .i64 0,.int .i64 0,.int .i64 0,.int .i64 0],.int .i64 3]) (by simp [results,Tryz.results78,go_sem,r0,r1,r2,r3,r4,r5]) rfl ⟨rfl,?_⟩
  have g2:w.heap.size≤w.heap.size+1+1:=Nat.le_trans (Nat.le_succ _) (Nat.le_succ _)
  exact bj_set B g2
 have N:=sc_six h.n
 go_wp2_with fail
 refine (put_ok M3 2 0 x2 2 (by simp [At9]) _ h.pl).mono ?_
 clear N
 rintro e v3 ⟨rfl,hb⟩
 replace h:=dj_keep h hb
 clear hb
 obtain ⟨M4,hM4⟩:∃ M:Nat→Int,M=umk M3 2 x2:=⟨_,rfl⟩
 rw [← hM4]
 replace hM4:=Lib.hid hM4
 have KK:=Lib.hid (dj_put (M':=M4) h)
 have N:=sc_six h.n
 have NF:=sf_six h.nf
 clear h
 go_wp2
 clear N NF
 generalize (((((v3.setCell ⟨Q,0,none⟩ (.int .i64 (M4 0))).setCell ⟨Q,1,none⟩ (.int .i64 (M4 1))).setCell ⟨Q,2,none⟩ (.int .i64 (M4 2))).setCell ⟨Q,3,none⟩ (.int .i64 (M4 3))).setCell ⟨Q,4,none⟩ (.int .i64 (M4 4))).setCell ⟨Q,5,none⟩ (.int .i64 (M4 5))=u4 at *
 have h:=KK.out
 clear KK
 rw [rounds_succ]
 have S:=sc_six h.s
 have K:=h.k
 go_wp2_with fail
 refine (c4 _ h.pl).mono ?_
 clear c4 S K
 rintro e y4 ⟨rfl,hb⟩
 replace h:=dj_keep h hb
 clear hb
 rcases q4 with rfl | rfl
 rotate_left
 ·obtain ⟨rfl,rfl,rfl,rfl,rfl,rfl,rfl⟩:=hy.out.2 (by simp)
  have R:=sc_six h.r
  have RF:=sf_six h.rf
  have B:=h.b
  clear h hy
  go_wp2
  obtain ⟨r0,r1,r2,r3,r4,r5⟩:=R
  refine bodyPost_ret (v:=.tuple #[.agg #[.int .i64 0,.int .i64 0,.int .i64 0,.int .i64 0,.int .i64 0,.int .i64 0],.int .i64 3]) (by simp [results,Tryz.results78,go_sem,r0,r1,r2,r3,r4,r5]) rfl ⟨rfl,?_⟩
  have g2:w.heap.size≤w.heap.size+1+1:=Nat.le_trans (Nat.le_succ _) (Nat.le_succ _)
  exact bj_set B g2
 have N:=sc_six h.n
 go_wp2_with fail
 refine (put_ok M4 2 1 x4 4 (by simp [At9]) _ h.pl).mono ?_
 clear N
 rintro e v4 ⟨rfl,hb⟩
 replace h:=dj_keep h hb
 clear hb
 obtain ⟨M5,hM5⟩:∃ M:Nat→Int,M=umk M4 4 x4:=⟨_,rfl⟩
 rw [← hM5]
 replace hM5:=Lib.hid hM5
 have KK:=Lib.hid (dj_put (M':=M5) h)
 have N:=sc_six h.n
 have NF:=sf_six h.nf
 clear h
 go_wp2
 clear N NF
 generalize (((((v4.setCell ⟨Q,0,none⟩ (.int .i64 (M5 0))).setCell ⟨Q,1,none⟩ (.int .i64 (M5 1))).setCell ⟨Q,2,none⟩ (.int .i64 (M5 2))).setCell ⟨Q,3,none⟩ (.int .i64 (M5 3))).setCell ⟨Q,4,none⟩ (.int .i64 (M5 4))).setCell ⟨Q,5,none⟩ (.int .i64 (M5 5))=u5 at *
 have h:=KK.out
 clear KK
 rw [rounds_succ]
 have S:=sc_six h.s
 have K:=h.k
 go_wp2_with fail
 refine (c5 _ h.pl).mono ?_
 clear c5 S K
 rintro e y5 ⟨rfl,hb⟩
 replace h:=dj_keep h hb
 clear hb
 rcases q5 with rfl | rfl
 rotate_left
 ·obtain ⟨rfl,rfl,rfl,rfl,rfl,rfl,rfl⟩:=hy.out.2 (by simp)
  have R:=sc_six h.r
  have RF:=sf_six h.rf
  have B:=h.b
  clear h hy
  go_wp2
  obtain ⟨r0,r1,r2,r3,r4,r5⟩:=R
  refine bodyPost_ret (v:=.tuple #[.agg #[.int .i64 0,.int .i64 0,.int .i64 0,.int .i64 0,.int .i64 0,.int .i64 0],.int .i64 3]) (by simp [results,Tryz.results78,go_sem,r0,r1,r2,r3,r4,r5]) rfl ⟨rfl,?_⟩
  have g2:w.heap.size≤w.heap.size+1+1:=Nat.le_trans (Nat.le_succ _) (Nat.le_succ _)
  exact bj_set B g2
 have N:=sc_six h.n
 go_wp2_with fail
 refine (put_ok M5 2 2 x5 5 (by simp [At9]) _ h.pl).mono ?_
 clear N
 rintro e v5 ⟨rfl,hb⟩
 replace h:=dj_keep h hb
 clear hb
 obtain ⟨M6,hM6⟩:∃ M:Nat→Int,M=umk M5 5 x5:=⟨_,rfl⟩
 rw [← hM6]
 replace hM6:=Lib.hid hM6
 have KK:=Lib.hid (dj_put (M':=M6) h)
 have N:=sc_six h.n
 have NF:=sf_six h.nf
 clear h
 go_wp2
 clear N NF
 generalize (((((v5.setCell ⟨Q,0,none⟩ (.int .i64 (M6 0))).setCell ⟨Q,1,none⟩ (.int .i64 (M6 1))).setCell ⟨Q,2,none⟩ (.int .i64 (M6 2))).setCell ⟨Q,3,none⟩ (.int .i64 (M6 3))).setCell ⟨Q,4,none⟩ (.int .i64 (M6 4))).setCell ⟨Q,5,none⟩ (.int .i64 (M6 5))=u6 at *
 have h:=KK.out
 clear KK
 rw [rounds_succ]
 go_wp2
 rw [rounds_succ]
 obtain ⟨rfl,rfl,rfl,rfl,rfl,rfl,rfl⟩:=hy.out.1 (by simp)
 clear hy
 have E:sv M6=.agg #[.int .i64 z0,.int .i64 z1,.int .i64 z2,.int .i64 z3,.int .i64 z4,.int .i64 z5]:=by
  have e0:=hM0.out
  have e1:=hM1.out
  have e2:=hM2.out
  have e3:=hM3.out
  have e4:=hM4.out
  have e5:=hM5.out
  have e6:=hM6.out
  subst e0 e1 e2 e3 e4 e5 e6
  rfl
 clear hM0 hM1 hM2 hM3 hM4 hM5 hM6
 have E':=Lib.hid E
 clear E
 have N:=sc_six h.n
 have R:=sc_six h.r
 have RF:=sf_six h.rf
 have B:=h.b
 clear h
 go_wp2
 obtain ⟨r0,r1,r2,r3,r4,r5⟩:=R
 refine bodyPost_ret (v:=.tuple #[sv M6,.int .i64 0]) (by simp [results,Tryz.results78,go_sem,r0,r1,r2,r3,r4,r5]) rfl ⟨by rw [E'.out],?_⟩
 have g2:w.heap.size≤w.heap.size+1+1:=Nat.le_trans (Nat.le_succ _) (Nat.le_succ _)
 exact bj_set B g2
end Go.Proofs.YthnofhjgfhapiaaGreatDoor
namespace Go.Proofs.YthnofhjgfhapiaaGreatDoor
open Go.RowKit Go.Shelf
theorem jsym_eq_self (x0 x1 x2 x3 x4 x5:Int) (w:World):(Op.equalIn 10000 42 (.agg #[.int .i64 x0,.int .i64 x1,.int .i64 x2,.int .i64 x3,.int .i64 x4,.int .i64 x5]) (.agg #[.int .i64 x0,.int .i64 x1,.int .i64 x2,.int .i64 x3,.int .i64 x4,.int .i64 x5])).run Tryz.prog w=.ok true w:=by
 have hs:(Tryz.prog.info? 2).isSome=true:=by kernel_rfl
 obtain ⟨i,hi⟩:=Option.isSome_iff_exists.1 hs
 have hc:Tryz.prog.cellsOf 2=1:=by kernel_rfl
 have hp:Tryz.prog.plainKey 2=true:=by kernel_rfl
 rw [run_equalIn_array w 9999 _ _ Tryz.underlying42 hi]
 rw [hc]
 have P:=fun (k:Nat) (v:Value) (h:(#[Value.int IntKind.i64 x0,Value.int IntKind.i64 x1,Value.int IntKind.i64 x2,Value.int IntKind.i64 x3,Value.int IntKind.i64 x4,Value.int IntKind.i64 x5]:Array Value)[k*1]?=some v) (w:World)=>run_part_plain w hp h
 have E:=fun (a:Int) (w:World)=>run_equalIn_int w 9998 2 .i64 .i64 a a Tryz.underlying2
 simp only [List.range,List.range.loop,Op.eqItems,Sem.run_bind,P 0 _ rfl,Result.andThen_ok]
 simp [P 1 _ rfl,P 2 _ rfl,P 3 _ rfl,P 4 _ rfl,P 5 _ rfl,E]
def DK (m k:Nat→Int) (s:Int):Prop:=F6 m∧F3 (k 0) (k 1) (k 2)∧FitP s
def DA (m k:Nat→Int) (s:Int):Prop:=jf m k s 0 0 0=0∧jf m k s 1 0 1=0∧jf m k s 2 0 2=0∧jf m k s 1 1 3=0∧jf m k s 2 1 4=0∧jf m k s 2 2 5=0
def dby (m k:Nat→Int) (s:Int) (g:Nat):Int:=match g with | 0=>jy m k s 0 0 0 | 1=>jy m k s 1 0 1 | 2=>jy m k s 2 0 2 | 3=>jy m k s 1 1 3 | 4=>jy m k s 2 1 4 | _=>jy m k s 2 2 5
open Classical in
noncomputable def dbv (m k:Nat→Int) (s:Int) (g:Nat):Int:=if DK m k s∧DA m k s then dby m k s g else 0
open Classical in
noncomputable def dbe (m k:Nat→Int) (s:Int):Int:=if DK m k s then (if DA m k s then 0 else 3) else 1
theorem d_wrong {m k:Nat→Int} {s:Int} (h:¬ DK m k s):dbv m k s=(fun _=>0)∧dbe m k s=1:=⟨funext fun _=>if_neg (fun c=>h c.1),if_neg h⟩
theorem d_far {m k:Nat→Int} {s:Int} (h:DK m k s) (n:¬ DA m k s):dbv m k s=(fun _=>0)∧dbe m k s=3:=⟨funext fun _=>if_neg (fun c=>n c.2),(if_pos h).trans (if_neg n)⟩
theorem d_ok {m k:Nat→Int} {s:Int} (h:DK m k s) (a:DA m k s):dbv m k s=dby m k s∧dbe m k s=0:=⟨funext fun _=>if_pos ⟨h,a⟩,(if_pos h).trans (if_pos a)⟩
theorem d_hid {m k:Nat→Int} {s:Int} (h:DK m k s):Hid ((jf m k s 0 0 0=0∧jf m k s 1 0 1=0∧jf m k s 2 0 2=0∧jf m k s 1 1 3=0∧jf m k s 2 1 4=0∧jf m k s 2 2 5=0→dbv m k s 0=jy m k s 0 0 0∧dbv m k s 1=jy m k s 1 0 1∧dbv m k s 2=jy m k s 2 0 2∧dbv m k s 3=jy m k s 1 1 3∧dbv m k s 4=jy m k s 2 1 4∧dbv m k s 5=jy m k s 2 2 5∧dbe m k s=0)∧(¬ (jf m k s 0 0 0=0∧jf m k s 1 0 1=0∧jf m k s 2 0 2=0∧jf m k s 1 1 3=0∧jf m k s 2 1 4=0∧jf m k s 2 2 5=0)→dbv m k s 0=0∧dbv m k s 1=0∧dbv m k s 2=0∧dbv m k s 3=0∧dbv m k s 4=0∧dbv m k s 5=0∧dbe m k s=3)):=by
 refine Lib.hid ⟨fun a=>?_,fun n=>?_⟩
 ·obtain ⟨e,e'⟩:=d_ok h a
  rw [e,e']
  exact ⟨rfl,rfl,rfl,rfl,rfl,rfl,rfl⟩
 ·obtain ⟨e,e'⟩:=d_far h n
  rw [e,e']
  exact ⟨rfl,rfl,rfl,rfl,rfl,rfl,rfl⟩
theorem k_three {k:Nat→Int} (h:F3 (k 0) (k 1) (k 2)):∀ i,i<3→FitP (k i):=fun i hi=>by
 rcases (show i=0∨i=1∨i=2 by omega) with rfl | rfl | rfl
 ·exact h.1
 ·exact h.2.1
 ·exact h.2.2
theorem doubt_any (m k:Nat→Int) (s:Int) (hm:I6 m) (hk0:I64 (k 0)) (hk1:I64 (k 1)) (hk2:I64 (k 2)) (hs:I64 s) (w:World) (hp:PL w) :
  Calls Tryz.prog 78 #[sv m,tv (k 0) (k 1) (k 2),.int .i64 s] w (RetV (.tuple #[sv (dbv m k s),.int .i64 (dbe m k s)]) w):=by
 have vm:=fits_jos m hm
 have vk:=fits3_vec (k 0) (k 1) (k 2) hk0 hk1 hk2
 have vs:=fits_any s hs.1 hs.2
 by_cases cm:F6 m
 rotate_left
 ·rw [(d_wrong (k:=k) (s:=s) (fun h:DK m k s=>cm h.1)).1,(d_wrong (k:=k) (s:=s) (fun h:DK m k s=>cm h.1)).2]
  rw [f6b_no cm] at vm
  exact doubt_0 m k s vm w hp
 rw [f6b_yes cm] at vm
 by_cases ck:F3 (k 0) (k 1) (k 2)
 rotate_left
 ·rw [(d_wrong (m:=m) (s:=s) (fun h:DK m k s=>ck h.2.1)).1,(d_wrong (m:=m) (s:=s) (fun h:DK m k s=>ck h.2.1)).2]
  rw [f3b_no ck] at vk
  exact doubt_1 m k s vm vk w hp
 rw [f3b_yes ck] at vk
 by_cases cs:FitP s
 rotate_left
 ·rw [(d_wrong (m:=m) (k:=k) (fun h:DK m k s=>cs h.2.2)).1,(d_wrong (m:=m) (k:=k) (fun h:DK m k s=>cs h.2.2)).2]
  rw [fitb_no cs] at vs
  exact doubt_2 m k s vm vk vs w hp
 rw [fitb_yes cs] at vs
 have hk:=k_three ck
 have c0:=fun w hp=>entry_any m k s 0 0 0 (by decide) (by decide) (by simp [At9]) cm hk cs w hp
 have c1:=fun w hp=>entry_any m k s 1 0 1 (by decide) (by decide) (by simp [At9]) cm hk cs w hp
 have c3:=fun w hp=>entry_any m k s 1 1 3 (by decide) (by decide) (by simp [At9]) cm hk cs w hp
 have c2:=fun w hp=>entry_any m k s 2 0 2 (by decide) (by decide) (by simp [At9]) cm hk cs w hp
 have c4:=fun w hp=>entry_any m k s 2 1 4 (by decide) (by decide) (by simp [At9]) cm hk cs w hp
 have c5:=fun w hp=>entry_any m k s 2 2 5 (by decide) (by decide) (by simp [At9]) cm hk cs w hp
 exact doubt_jos m k s (jy m k s 0 0 0) (jy m k s 1 0 1) (jy m k s 2 0 2) (jy m k s 1 1 3) (jy m k s 2 1 4) (jy m k s 2 2 5) (jf m k s 0 0 0) (jf m k s 1 0 1) (jf m k s 2 0 2) (jf m k s 1 1 3) (jf m k s 2 1 4) (jf m k s 2 2 5) (dbv m k s 0) (dbv m k s 1) (dbv m k s 2) (dbv m k s 3) (dbv m k s 4) (dbv m k s 5) (dbe m k s) vm vk vs c0 (jf_two _ _ _ _ _ _) c1 (jf_two _ _ _ _ _ _) c3 (jf_two _ _ _ _ _ _) c2 (jf_two _ _ _ _ _ _) c4 (jf_two _ _ _ _ _ _) c5 (jf_two _ _ _ _ _ _) (d_hid ⟨cm,ck,cs⟩) w hp
end Go.Proofs.YthnofhjgfhapiaaGreatDoor
namespace Go.Proofs.YthnofhjgfhapiaaGreatDoor
open Go.RowKit Go.Shelf
theorem t3_none {a b c:Int} (h:¬ F3 a b c) (x:Int):tz x (ne a) (ne b) (ne c)=0∧te (ne a) (ne b) (ne c)=3:=by
 have n:¬ (ne a=0∧ne b=0∧ne c=0):=fun q=>h ⟨ne_zero q.1,ne_zero q.2.1,ne_zero q.2.2⟩
 refine ⟨if_neg n,?_⟩
 rcases te_two a b c with e | e
 ·exfalso
  apply n
  unfold te at e
  rcases ne_two a with h | h <;> rcases ne_two b with k | k <;> rcases ne_two c with l | l <;> simp [h,k,l] at e ⊢
 ·exact e
def jsd (k:Nat→Int) (y:Int) (i:Nat):Int:=evn (k i*y) 1099511627776
abbrev JSK (v k:Nat→Int) (y:Int):Prop:=F3 (v 0) (v 1) (v 2)∧F3 (k 0) (k 1) (k 2)∧FitP y
abbrev JSF (v k:Nat→Int) (y:Int):Prop:=F3 (jsd k y 0) (jsd k y 1) (jsd k y 2)∧F3 (v 0+jsd k y 0) (v 1+jsd k y 1) (v 2+jsd k y 2)
def jse (v k:Nat→Int) (y:Int):Int:=if JSK v k y then (if JSF v k y then 0 else 3) else 1
def jsz (v k:Nat→Int) (y:Int) (i:Nat):Int:=if JSK v k y∧JSF v k y then v i+jsd k y i else 0
theorem js_bad {v k:Nat→Int} {y:Int} (h:¬ JSK v k y):jsz v k y=(fun _=>0)∧jse v k y=1:=⟨funext fun _=>if_neg (fun c=>h c.1),if_neg h⟩
theorem js_far {v k:Nat→Int} {y:Int} (h:JSK v k y) (n:¬ JSF v k y):jsz v k y=(fun _=>0)∧jse v k y=3:=⟨funext fun _=>if_neg (fun c=>n c.2),(if_pos h).trans (if_neg n)⟩
theorem js_ok {v k:Nat→Int} {y:Int} (h:JSK v k y) (n:JSF v k y):jsz v k y=(fun i=>v i+jsd k y i)∧jse v k y=0:=⟨funext fun _=>if_pos ⟨h,n⟩,(if_pos h).trans (if_pos n)⟩
theorem state_any (v k:Nat→Int) (y:Int) (hx0:I64 (v 0)) (hx1:I64 (v 1)) (hx2:I64 (v 2)) (hk0:I64 (k 0)) (hk1:I64 (k 1)) (hk2:I64 (k 2)) (hy:I64 y) (w:World) :
  Calls Tryz.prog 77 #[tv (v 0) (v 1) (v 2),tv (k 0) (k 1) (k 2),.int .i64 y] w (RetV (.tuple #[tv (jsz v k y 0) (jsz v k y 1) (jsz v k y 2),.int .i64 (jse v k y)]) w):=by
 have vx:=fits3_vec (v 0) (v 1) (v 2) hx0 hx1 hx2
 by_cases cx:F3 (v 0) (v 1) (v 2)
 rotate_left
 ·rw [f3b_no cx] at vx
  rw [(js_bad (k:=k) (y:=y) (fun h=>cx h.1)).1,(js_bad (k:=k) (y:=y) (fun h=>cx h.1)).2]
  exact state_no _ _ _ _ _ _ y vx w
 rw [f3b_yes cx] at vx
 by_cases ck:F3 (k 0) (k 1) (k 2)∧FitP y
 rotate_left
 ·have cS:=scale3_vec_bad (k 0) (k 1) (k 2) y hk0 hk1 hk2 hy ck
  rw [(js_bad (v:=v) (k:=k) (y:=y) (fun h=>ck h.2)).1,(js_bad (v:=v) (k:=k) (y:=y) (fun h=>ck h.2)).2]
  exact state_go _ _ _ _ _ _ y 0 0 0 1 0 0 0 0 0 0 0 1 vx cS (fun h=>absurd h (by decide)) (Lib.hid ⟨fun _=>⟨rfl,rfl,rfl,rfl⟩,fun h=>absurd h (by decide)⟩) w
 obtain ⟨ck,cy⟩:=ck
 have pS:=fun w=>scale3_vec_ok (k 0) (k 1) (k 2) y _ _ _ _ _ _ hk0 hk1 hk2 hy ck cy (fx_mul ck.1 cy) (fx_mul ck.2.1 cy) (fx_mul ck.2.2 cy) w
 by_cases cd:F3 (jsd k y 0) (jsd k y 1) (jsd k y 2)
 ·obtain ⟨d0,d1,d2,de⟩:=t3_all cd
  have pS':∀ w,Calls Tryz.prog 112 #[tv (k 0) (k 1) (k 2),.int .i64 y] w (RetV (.tuple #[tv (jsd k y 0) (jsd k y 1) (jsd k y 2),.int .i64 0]) w):=fun w=>by
   have h:=pS w
   unfold jsd at d0 d1 d2 de
   rw [d0,d1,d2,de] at h
   exact h
  clear pS d0 d1 d2 de
  obtain ⟨j0,j1,j2⟩:=f3_i64 cd
  have pA:=fun w=>add3_vec_ok (v 0) (v 1) (v 2) (jsd k y 0) (jsd k y 1) (jsd k y 2) _ _ _ _ _ _ hx0 hx1 hx2 j0 j1 j2 cx cd (fx_add cx.1 cd.1) (fx_add cx.2.1 cd.2.1) (fx_add cx.2.2 cd.2.2) w
  by_cases cn:F3 (v 0+jsd k y 0) (v 1+jsd k y 1) (v 2+jsd k y 2)
  ·obtain ⟨n0,n1,n2,n3⟩:=t3_all cn
   rw [(js_ok ⟨cx,ck,cy⟩ ⟨cd,cn⟩).1,(js_ok ⟨cx,ck,cy⟩ ⟨cd,cn⟩).2]
   rw [n0,n1,n2,n3] at pA
   exact state_go _ _ _ _ _ _ y _ _ _ 0 _ _ _ 0 _ _ _ 0 vx pS' (fun _=>pA) (Lib.hid ⟨fun h=>absurd rfl h,fun _=>⟨rfl,rfl,rfl,rfl⟩⟩) w
  ·rw [(js_far ⟨cx,ck,cy⟩ (fun h=>cn h.2)).1,(js_far ⟨cx,ck,cy⟩ (fun h=>cn h.2)).2]
   rw [(t3_none cn _).1,(t3_none cn _).1,(t3_none cn _).1,(t3_none cn 0).2] at pA
   exact state_go _ _ _ _ _ _ y _ _ _ 0 _ _ _ 3 _ _ _ 3 vx pS' (fun _=>pA) (Lib.hid ⟨fun h=>absurd rfl h,fun _=>⟨rfl,rfl,rfl,rfl⟩⟩) w
 ·rw [(js_far ⟨cx,ck,cy⟩ (fun h=>cd h.1)).1,(js_far ⟨cx,ck,cy⟩ (fun h=>cd h.1)).2]
  have e3:=(t3_none cd 0).2
  unfold jsd at e3
  rw [e3] at pS
  exact state_go _ _ _ _ _ _ y _ _ _ 3 0 0 0 0 0 0 0 3 vx pS (fun h=>absurd h (by decide)) (Lib.hid ⟨fun _=>⟨rfl,rfl,rfl,rfl⟩,fun h=>absurd h (by decide)⟩) w
end Go.Proofs.YthnofhjgfhapiaaGreatDoor

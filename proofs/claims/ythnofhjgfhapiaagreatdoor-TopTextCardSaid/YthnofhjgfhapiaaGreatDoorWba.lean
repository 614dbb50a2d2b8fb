import Derived.Test.YthnofhjgfhapiaaGreatDoorWaz
import Derived.Test.YthnofhjgfhapiaaGreatDoorWat
import Derived.Test.YthnofhjgfhapiaaGreatDoorWaf
import Derived.Test.YthnofhjgfhapiaaGreatDoorWae
import Derived.Test.YthnofhjgfhapiaaGreatDoorWad
import Derived.Test.YthnofhjgfhapiaaGreatDoorWaa
import Derived.Test.YthnofhjgfhapiaaGreatDoorWag
import Derived.Test.YthnofhjgfhapiaaGreatDoorWai
import Derived.Test.YthnofhjgfhapiaaGreatDoorWac
import Derived.Test.YthnofhjgfhapiaaGreatDoorWab
set_option maxHeartbeats 8000000
set_option maxRecDepth 10000
namespace Go.Proofs.YthnofhjgfhapiaaGreatDoor
open Go.RowKit Go.Shelf
theorem pj_set {w:World} {b o:Nat} {v:Value} (h:PL w) (hb:0<b):PL (w.setCell ⟨b,o,none⟩ v):=by
 have n:b≠0:=by omega
 obtain ⟨a0,a1,a2,a3,a4,a5,a6,a7,a8⟩:=h
 refine ⟨?_,?_,?_,?_,?_,?_,?_,?_,?_⟩
 all_goals rw [World.cell?_setCell_far _ _ _ _ n]; assumption
structure EJ (W:World) (a:Nat) (m k:Nat→Int) (s i j v t l q u x:Int) (U:World):Prop where
 b:Below W.heap.size W U
 z:0<W.heap.size
 za:W.heap.size+1+1+1+1+1≤a
 pl:PL U
 p:SC6 U W.heap.size m
 k:TC U (W.heap.size+1) (k 0) (k 1) (k 2)
 s:IC U (W.heap.size+1+1) s
 i:IC U (W.heap.size+1+1+1) i
 j:IC U (W.heap.size+1+1+1+1) j
 v:IC U a v
 t:IC U (a+1) t
 tf:IF U (a+1)
 l:IC U (a+1+1) l
 lf:IF U (a+1+1)
 q:IC U (a+1+1+1) q
 qf:IF U (a+1+1+1)
 u:IC U (a+1+1+1+1) u
 uf:IF U (a+1+1+1+1)
 x:IC U (a+1+1+1+1+1) x
 xf:IF U (a+1+1+1+1+1)
 g:GC U (a+1+1+1+1+1+1) W.heap.size (W.heap.size+1) (W.heap.size+1+1) (W.heap.size+1+1+1) (W.heap.size+1+1+1+1) a (a+1) (a+1+1) (a+1+1+1) (a+1+1+1+1) (a+1+1+1+1+1)
theorem ej_keep {W:World} {a:Nat} {m k:Nat→Int} {s i j v t l q u x:Int} {U U':World} (h:EJ W a m k s i j v t l q u x U) (hb:Below U.heap.size U U'):EJ W a m k s i j v t l q u x U' :=
 ⟨b_trans h.b hb,h.z,h.za,pl_keep hb h.pl,sc_six (sc_keep hb (six_sc h.p)),tc_keep hb h.k,ic_keep hb h.s,ic_keep hb h.i,ic_keep hb h.j,ic_keep hb h.v,ic_keep hb h.t,if_keep hb h.t h.tf,ic_keep hb h.l,if_keep hb h.l h.lf,ic_keep hb h.q,if_keep hb h.q h.qf,ic_keep hb h.u,if_keep hb h.u h.uf,ic_keep hb h.x,if_keep hb h.x h.xf,gc_keep hb h.g⟩
theorem ej_t {W:World} {a:Nat} {m k:Nat→Int} {s i j v t l q u x y:Int} {U:World} (h:EJ W a m k s i j v t l q u x U):EJ W a m k s i j v y l q u x (U.setCell ⟨a+1,0,none⟩ (.int .i64 y)):=by
 have z:=h.z
 have za:=h.za
 exact ⟨b_set h.b (by show _≤a+1; omega),z,za,pj_set h.pl (by omega),sc_six (sc_set (six_sc h.p) (by omega)),tc_set h.k (by omega),ic_set h.s (by omega),ic_set h.i (by omega),ic_set h.j (by omega),ic_set h.v (by omega),ic_put h.t,if_set h.tf,ic_set h.l (by omega),if_set h.lf,ic_set h.q (by omega),if_set h.qf,ic_set h.u (by omega),if_set h.uf,ic_set h.x (by omega),if_set h.xf,gc_set h.g (by omega)⟩
theorem ej_l {W:World} {a:Nat} {m k:Nat→Int} {s i j v t l q u x y:Int} {U:World} (h:EJ W a m k s i j v t l q u x U):EJ W a m k s i j v t y q u x (U.setCell ⟨a+1+1,0,none⟩ (.int .i64 y)):=by
 have z:=h.z
 have za:=h.za
 exact ⟨b_set h.b (by show _≤a+1+1; omega),z,za,pj_set h.pl (by omega),sc_six (sc_set (six_sc h.p) (by omega)),tc_set h.k (by omega),ic_set h.s (by omega),ic_set h.i (by omega),ic_set h.j (by omega),ic_set h.v (by omega),ic_set h.t (by omega),if_set h.tf,ic_put h.l,if_set h.lf,ic_set h.q (by omega),if_set h.qf,ic_set h.u (by omega),if_set h.uf,ic_set h.x (by omega),if_set h.xf,gc_set h.g (by omega)⟩
theorem ej_q {W:World} {a:Nat} {m k:Nat→Int} {s i j v t l q u x y:Int} {U:World} (h:EJ W a m k s i j v t l q u x U):EJ W a m k s i j v t l y u x (U.setCell ⟨a+1+1+1,0,none⟩ (.int .i64 y)):=by
 have z:=h.z
 have za:=h.za
 exact ⟨b_set h.b (by show _≤a+1+1+1; omega),z,za,pj_set h.pl (by omega),sc_six (sc_set (six_sc h.p) (by omega)),tc_set h.k (by omega),ic_set h.s (by omega),ic_set h.i (by omega),ic_set h.j (by omega),ic_set h.v (by omega),ic_set h.t (by omega),if_set h.tf,ic_set h.l (by omega),if_set h.lf,ic_put h.q,if_set h.qf,ic_set h.u (by omega),if_set h.uf,ic_set h.x (by omega),if_set h.xf,gc_set h.g (by omega)⟩
theorem ej_u {W:World} {a:Nat} {m k:Nat→Int} {s i j v t l q u x y:Int} {U:World} (h:EJ W a m k s i j v t l q u x U):EJ W a m k s i j v t l q y x (U.setCell ⟨a+1+1+1+1,0,none⟩ (.int .i64 y)):=by
 have z:=h.z
 have za:=h.za
 exact ⟨b_set h.b (by show _≤a+1+1+1+1; omega),z,za,pj_set h.pl (by omega),sc_six (sc_set (six_sc h.p) (by omega)),tc_set h.k (by omega),ic_set h.s (by omega),ic_set h.i (by omega),ic_set h.j (by omega),ic_set h.v (by omega),ic_set h.t (by omega),if_set h.tf,ic_set h.l (by omega),if_set h.lf,ic_set h.q (by omega),if_set h.qf,ic_put h.u,if_set h.uf,ic_set h.x (by omega),if_set h.xf,gc_set h.g (by omega)⟩
theorem ej_x {W:World} {a:Nat} {m k:Nat→Int} {s i j v t l q u x y:Int} {U:World} (h:EJ W a m k s i j v t l q u x U):EJ W a m k s i j v t l q u y (U.setCell ⟨a+1+1+1+1+1,0,none⟩ (.int .i64 y)):=by
 have z:=h.z
 have za:=h.za
 exact ⟨b_set h.b (by show _≤a+1+1+1+1+1; omega),z,za,pj_set h.pl (by omega),sc_six (sc_set (six_sc h.p) (by omega)),tc_set h.k (by omega),ic_set h.s (by omega),ic_set h.i (by omega),ic_set h.j (by omega),ic_set h.v (by omega),ic_set h.t (by omega),if_set h.tf,ic_set h.l (by omega),if_set h.lf,ic_set h.q (by omega),if_set h.qf,ic_set h.u (by omega),if_set h.uf,ic_put h.x,if_set h.xf,gc_set h.g (by omega)⟩
structure SJj (W:World) (a:Nat) (x0 x1 x2 k0 k1 k2 y d0 d1 d2 n0 n1 n2:Int) (U:World):Prop where
 b:Below W.heap.size W U
 za:W.heap.size+1+1+1+1≤a
 x:TC U W.heap.size x0 x1 x2
 k:TC U (W.heap.size+1) k0 k1 k2
 y:IC U (W.heap.size+1+1) y
 r:TC U (W.heap.size+1+1+1) 0 0 0
 rf:TF U (W.heap.size+1+1+1)
 d:TC U a d0 d1 d2
 df:TF U a
 n:TC U (a+1) n0 n1 n2
 nf:TF U (a+1)
 g:GD U (a+1+1) W.heap.size (W.heap.size+1) (W.heap.size+1+1) a (a+1)
theorem sjj_keep {W:World} {a:Nat} {x0 x1 x2 k0 k1 k2 y d0 d1 d2 n0 n1 n2:Int} {U U':World} (h:SJj W a x0 x1 x2 k0 k1 k2 y d0 d1 d2 n0 n1 n2 U) (hb:Below U.heap.size U U'):SJj W a x0 x1 x2 k0 k1 k2 y d0 d1 d2 n0 n1 n2 U' :=
 ⟨b_trans h.b hb,h.za,tc_keep hb h.x,tc_keep hb h.k,ic_keep hb h.y,tc_keep hb h.r,tf_keep hb h.r h.rf,tc_keep hb h.d,tf_keep hb h.d h.df,tc_keep hb h.n,tf_keep hb h.n h.nf,gd_keep hb h.g⟩
theorem sj_d {W:World} {a:Nat} {x0 x1 x2 k0 k1 k2 y d0 d1 d2 n0 n1 n2 z0 z1 z2:Int} {U:World} (h:SJj W a x0 x1 x2 k0 k1 k2 y d0 d1 d2 n0 n1 n2 U):SJj W a x0 x1 x2 k0 k1 k2 y z0 z1 z2 n0 n1 n2 (((U.setCell ⟨a,0,none⟩ (.int .i64 z0)).setCell ⟨a,1,none⟩ (.int .i64 z1)).setCell ⟨a,2,none⟩ (.int .i64 z2)):=by
 have za:=h.za
 have zb:W.heap.size≤a:=by omega
 exact ⟨b_set (b_set (b_set h.b zb) zb) zb,za,tc_set (tc_set (tc_set h.x (by omega)) (by omega)) (by omega),tc_set (tc_set (tc_set h.k (by omega)) (by omega)) (by omega),ic_set (ic_set (ic_set h.y (by omega)) (by omega)) (by omega),tc_set (tc_set (tc_set h.r (by omega)) (by omega)) (by omega),tf_set (tf_set (tf_set h.rf)),tc_put2 (tc_put1 (tc_put0 h.d)),tf_set (tf_set (tf_set h.df)),tc_set (tc_set (tc_set h.n (by omega)) (by omega)) (by omega),tf_set (tf_set (tf_set h.nf)),gd_set (gd_set (gd_set h.g (by omega)) (by omega)) (by omega)⟩
theorem sj_n {W:World} {a:Nat} {x0 x1 x2 k0 k1 k2 y d0 d1 d2 n0 n1 n2 z0 z1 z2:Int} {U:World} (h:SJj W a x0 x1 x2 k0 k1 k2 y d0 d1 d2 n0 n1 n2 U):SJj W a x0 x1 x2 k0 k1 k2 y d0 d1 d2 z0 z1 z2 (((U.setCell ⟨a+1,0,none⟩ (.int .i64 z0)).setCell ⟨a+1,1,none⟩ (.int .i64 z1)).setCell ⟨a+1,2,none⟩ (.int .i64 z2)):=by
 have za:=h.za
 have zb:W.heap.size≤a+1:=by omega
 exact ⟨b_set (b_set (b_set h.b zb) zb) zb,za,tc_set (tc_set (tc_set h.x (by omega)) (by omega)) (by omega),tc_set (tc_set (tc_set h.k (by omega)) (by omega)) (by omega),ic_set (ic_set (ic_set h.y (by omega)) (by omega)) (by omega),tc_set (tc_set (tc_set h.r (by omega)) (by omega)) (by omega),tf_set (tf_set (tf_set h.rf)),tc_set (tc_set (tc_set h.d (by omega)) (by omega)) (by omega),tf_set (tf_set (tf_set h.df)),tc_put2 (tc_put1 (tc_put0 h.n)),tf_set (tf_set (tf_set h.nf)),gd_set (gd_set (gd_set h.g (by omega)) (by omega)) (by omega)⟩
theorem entry_go (m k:Nat→Int) (s:Int) (i j g:Nat) (hi:i<3) (hj:j<3) (t l q u x e0 e1 e2 e3 e4 y f:Int)
  (cA:∀ w,PL w→Calls Tryz.prog 105 #[sv m,.int .i64 ((i:Nat):Int),.int .i64 ((j:Nat):Int)] w (RetV (.tuple #[.int .i64 (m g),.int .i64 0]) w))
  (cC:∀ w,PL w→Calls Tryz.prog 148 #[sv m,tv (k 0) (k 1) (k 2),.int .i64 ((i:Nat):Int),.int .i64 ((j:Nat):Int)] w (RetV (.tuple #[.int .i64 t,.int .i64 e0]) w))
  (cS:∀ w,Calls Tryz.prog 93 #[.int .i64 (m g),.int .i64 t] w (RetV (.tuple #[.int .i64 l,.int .i64 e1]) w))
  (cM:∀ w,Calls Tryz.prog 146 #[.int .i64 (k i),.int .i64 (k j)] w (RetV (.tuple #[.int .i64 q,.int .i64 e2]) w))
  (cN:∀ w,Calls Tryz.prog 146 #[.int .i64 q,.int .i64 s] w (RetV (.tuple #[.int .i64 u,.int .i64 e3]) w))
  (cD:∀ w,Calls Tryz.prog 106 #[.int .i64 l,.int .i64 u] w (RetV (.tuple #[.int .i64 x,.int .i64 e4]) w))
  (q0:e0=0∨e0=3) (q1:e1=0∨e1=3) (q2:e2=0∨e2=3) (q3:e3=0∨e3=3) (q4:e4=0∨e4=3) (xz:¬ e4=0→x=0)
  (hy:Hid ((e0=0∧e1=0∧e2=0∧e3=0∧e4=0→y=x∧f=0)∧(¬ (e0=0∧e1=0∧e2=0∧e3=0∧e4=0)→y=0∧f=3))) (w:World) (hp:PL w) :
  Calls Tryz.prog 115 #[sv m,tv (k 0) (k 1) (k 2),.int .i64 s,.int .i64 ((i:Nat):Int),.int .i64 ((j:Nat):Int)] w (RetV (.tuple #[.int .i64 y,.int .i64 f]) w):=by
 have z0:=pl_lt hp
 have B:Below w.heap.size w (((((w.alloc (Obj.cells #[.int .i64 (m 0),.int .i64 (m 1),.int .i64 (m 2),.int .i64 (m 3),.int .i64 (m 4),.int .i64 (m 5)] 42)).alloc (Obj.cells #[.int .i64 (k 0),.int .i64 (k 1),.int .i64 (k 2)] 25)).alloc (Obj.cells #[.int .i64 s] 2)).alloc (Obj.cells #[.int .i64 ((i:Nat):Int)] 3)).alloc (Obj.cells #[.int .i64 ((j:Nat):Int)] 3)):=b_alloc (b_alloc (b_alloc (b_alloc (b_alloc (Below.refl _ _)))))
 have P:=pl_keep B hp
 clear hp
 have S:SC6 (((((w.alloc (Obj.cells #[.int .i64 (m 0),.int .i64 (m 1),.int .i64 (m 2),.int .i64 (m 3),.int .i64 (m 4),.int .i64 (m 5)] 42)).alloc (Obj.cells #[.int .i64 (k 0),.int .i64 (k 1),.int .i64 (k 2)] 25)).alloc (Obj.cells #[.int .i64 s] 2)).alloc (Obj.cells #[.int .i64 ((i:Nat):Int)] 3)).alloc (Obj.cells #[.int .i64 ((j:Nat):Int)] 3)) w.heap.size m:=sc_six (sc_alloc (sc_alloc (sc_alloc (sc_alloc (sc_new rfl)))))
 have K:TC (((((w.alloc (Obj.cells #[.int .i64 (m 0),.int .i64 (m 1),.int .i64 (m 2),.int .i64 (m 3),.int .i64 (m 4),.int .i64 (m 5)] 42)).alloc (Obj.cells #[.int .i64 (k 0),.int .i64 (k 1),.int .i64 (k 2)] 25)).alloc (Obj.cells #[.int .i64 s] 2)).alloc (Obj.cells #[.int .i64 ((i:Nat):Int)] 3)).alloc (Obj.cells #[.int .i64 ((j:Nat):Int)] 3)) (w.heap.size+1) (k 0) (k 1) (k 2):=tc_alloc (tc_alloc (tc_alloc (tc_new (by simp))))
 have cs:IC (((((w.alloc (Obj.cells #[.int .i64 (m 0),.int .i64 (m 1),.int .i64 (m 2),.int .i64 (m 3),.int .i64 (m 4),.int .i64 (m 5)] 42)).alloc (Obj.cells #[.int .i64 (k 0),.int .i64 (k 1),.int .i64 (k 2)] 25)).alloc (Obj.cells #[.int .i64 s] 2)).alloc (Obj.cells #[.int .i64 ((i:Nat):Int)] 3)).alloc (Obj.cells #[.int .i64 ((j:Nat):Int)] 3)) (w.heap.size+1+1) s:=ic_keep (b_alloc (b_alloc (Below.refl _ _))) (ic_new (by simp))
 have ci:IC (((((w.alloc (Obj.cells #[.int .i64 (m 0),.int .i64 (m 1),.int .i64 (m 2),.int .i64 (m 3),.int .i64 (m 4),.int .i64 (m 5)] 42)).alloc (Obj.cells #[.int .i64 (k 0),.int .i64 (k 1),.int .i64 (k 2)] 25)).alloc (Obj.cells #[.int .i64 s] 2)).alloc (Obj.cells #[.int .i64 ((i:Nat):Int)] 3)).alloc (Obj.cells #[.int .i64 ((j:Nat):Int)] 3)) (w.heap.size+1+1+1) (i:Int):=ic_keep (b_alloc (Below.refl _ _)) (ic_new (by simp))
 have cj:IC (((((w.alloc (Obj.cells #[.int .i64 (m 0),.int .i64 (m 1),.int .i64 (m 2),.int .i64 (m 3),.int .i64 (m 4),.int .i64 (m 5)] 42)).alloc (Obj.cells #[.int .i64 (k 0),.int .i64 (k 1),.int .i64 (k 2)] 25)).alloc (Obj.cells #[.int .i64 s] 2)).alloc (Obj.cells #[.int .i64 ((i:Nat):Int)] 3)).alloc (Obj.cells #[.int .i64 ((j:Nat):Int)] 3)) (w.heap.size+1+1+1+1) (j:Int):=ic_new (by simp)
 have hmf:∀ (fn:Fn) (first cap:Array Value) (w:World),(Instr.makeFunc fn first cap).run Tryz.prog w=.ok (.func fn first cap) w:=fun _ _ _ _=>rfl
 go_enter Tryz.func115,Tryz.ntmps115
 go_wp2_with fail
 refine (cA _ P).mono ?_
 rintro e1 w1 ⟨rfl,hb⟩
 have za:w.heap.size+1+1+1+1+1≤w1.heap.size:=by have h:=hb.size; simp [go_sem] at h; omega
 replace S:=sc_six (sc_keep hb (six_sc S))
 replace K:=tc_keep hb K
 replace cs:=ic_keep hb cs
 replace ci:=ic_keep hb ci
 replace cj:=ic_keep hb cj
 replace P:=pl_keep hb P
 replace B:=b_trans B hb
 clear hb cA
 have BB:Below w1.heap.size w1 (((((((w1.alloc (Obj.cells #[.int .i64 (m g)] 2)).alloc (Obj.cells #[.int .i64 0] 2)).alloc (Obj.cells #[.int .i64 0] 2)).alloc (Obj.cells #[.int .i64 0] 2)).alloc (Obj.cells #[.int .i64 0] 2)).alloc (Obj.cells #[.int .i64 0] 2)).alloc (Obj.cells #[.func (.func 147) #[] #[.pointer (some ⟨w.heap.size,0,none⟩),.pointer (some ⟨w.heap.size+1,0,none⟩),.pointer (some ⟨w.heap.size+1+1+1,0,none⟩),.pointer (some ⟨w.heap.size+1+1+1+1,0,none⟩),.pointer (some ⟨w1.heap.size+1,0,none⟩)],.func (.func 149) #[] #[.pointer (some ⟨w1.heap.size,0,none⟩),.pointer (some ⟨w1.heap.size+1,0,none⟩),.pointer (some ⟨w1.heap.size+1+1,0,none⟩)],.func (.func 150) #[] #[.pointer (some ⟨w.heap.size+1,0,none⟩),.pointer (some ⟨w.heap.size+1+1+1,0,none⟩),.pointer (some ⟨w.heap.size+1+1+1+1,0,none⟩),.pointer (some ⟨w1.heap.size+1+1+1,0,none⟩)],.func (.func 151) #[] #[.pointer (some ⟨w1.heap.size+1+1+1,0,none⟩),.pointer (some ⟨w.heap.size+1+1,0,none⟩),.pointer (some ⟨w1.heap.size+1+1+1+1,0,none⟩)],.func (.func 152) #[] #[.pointer (some ⟨w1.heap.size+1+1,0,none⟩),.pointer (some ⟨w1.heap.size+1+1+1+1,0,none⟩),.pointer (some ⟨w1.heap.size+1+1+1+1+1,0,none⟩)]] 175)):=(b_alloc (b_alloc (b_alloc (b_alloc (b_alloc (b_alloc (b_alloc (Below.refl _ _))))))))
 have GG:GC (((((((w1.alloc (Obj.cells #[.int .i64 (m g)] 2)).alloc (Obj.cells #[.int .i64 0] 2)).alloc (Obj.cells #[.int .i64 0] 2)).alloc (Obj.cells #[.int .i64 0] 2)).alloc (Obj.cells #[.int .i64 0] 2)).alloc (Obj.cells #[.int .i64 0] 2)).alloc (Obj.cells #[.func (.func 147) #[] #[.pointer (some ⟨w.heap.size,0,none⟩),.pointer (some ⟨w.heap.size+1,0,none⟩),.pointer (some ⟨w.heap.size+1+1+1,0,none⟩),.pointer (some ⟨w.heap.size+1+1+1+1,0,none⟩),.pointer (some ⟨w1.heap.size+1,0,none⟩)],.func (.func 149) #[] #[.pointer (some ⟨w1.heap.size,0,none⟩),.pointer (some ⟨w1.heap.size+1,0,none⟩),.pointer (some ⟨w1.heap.size+1+1,0,none⟩)],.func (.func 150) #[] #[.pointer (some ⟨w.heap.size+1,0,none⟩),.pointer (some ⟨w.heap.size+1+1+1,0,none⟩),.pointer (some ⟨w.heap.size+1+1+1+1,0,none⟩),.pointer (some ⟨w1.heap.size+1+1+1,0,none⟩)],.func (.func 151) #[] #[.pointer (some ⟨w1.heap.size+1+1+1,0,none⟩),.pointer (some ⟨w.heap.size+1+1,0,none⟩),.pointer (some ⟨w1.heap.size+1+1+1+1,0,none⟩)],.func (.func 152) #[] #[.pointer (some ⟨w1.heap.size+1+1,0,none⟩),.pointer (some ⟨w1.heap.size+1+1+1+1,0,none⟩),.pointer (some ⟨w1.heap.size+1+1+1+1+1,0,none⟩)]] 175)) (w1.heap.size+1+1+1+1+1+1) w.heap.size (w.heap.size+1) (w.heap.size+1+1) (w.heap.size+1+1+1) (w.heap.size+1+1+1+1) w1.heap.size (w1.heap.size+1) (w1.heap.size+1+1) (w1.heap.size+1+1+1) (w1.heap.size+1+1+1+1) (w1.heap.size+1+1+1+1+1):=by simp [GC,go_sem]
 have j0:EJ w w1.heap.size m k s (i:Int) (j:Int) (m g) 0 0 0 0 0 (((((((w1.alloc (Obj.cells #[.int .i64 (m g)] 2)).alloc (Obj.cells #[.int .i64 0] 2)).alloc (Obj.cells #[.int .i64 0] 2)).alloc (Obj.cells #[.int .i64 0] 2)).alloc (Obj.cells #[.int .i64 0] 2)).alloc (Obj.cells #[.int .i64 0] 2)).alloc (Obj.cells #[.func (.func 147) #[] #[.pointer (some ⟨w.heap.size,0,none⟩),.pointer (some ⟨w.heap.size+1,0,none⟩),.pointer (some ⟨w.heap.size+1+1+1,0,none⟩),.pointer (some ⟨w.heap.size+1+1+1+1,0,none⟩),.pointer (some ⟨w1.heap.size+1,0,none⟩)],.func (.func 149) #[] #[.pointer (some ⟨w1.heap.size,0,none⟩),.pointer (some ⟨w1.heap.size+1,0,none⟩),.pointer (some ⟨w1.heap.size+1+1,0,none⟩)],.func (.func 150) #[] #[.pointer (some ⟨w.heap.size+1,0,none⟩),.pointer (some ⟨w.heap.size+1+1+1,0,none⟩),.pointer (some ⟨w.heap.size+1+1+1+1,0,none⟩),.pointer (some ⟨w1.heap.size+1+1+1,0,none⟩)],.func (.func 151) #[] #[.pointer (some ⟨w1.heap.size+1+1+1,0,none⟩),.pointer (some ⟨w.heap.size+1+1,0,none⟩),.pointer (some ⟨w1.heap.size+1+1+1+1,0,none⟩)],.func (.func 152) #[] #[.pointer (some ⟨w1.heap.size+1+1,0,none⟩),.pointer (some ⟨w1.heap.size+1+1+1+1,0,none⟩),.pointer (some ⟨w1.heap.size+1+1+1+1+1,0,none⟩)]] 175)):=⟨b_trans B BB,z0,za,pl_keep BB P,sc_six (sc_keep BB (six_sc S)),tc_keep BB K,ic_keep BB cs,ic_keep BB ci,ic_keep BB cj,ic_keep (b_alloc (b_alloc (b_alloc (b_alloc (b_alloc (b_alloc (Below.refl _ _))))))) (ic_new rfl),ic_keep (b_alloc (b_alloc (b_alloc (b_alloc (b_alloc (Below.refl _ _)))))) (ic_new (by simp)),if_keep (b_alloc (b_alloc (b_alloc (b_alloc (b_alloc (Below.refl _ _)))))) (ic_new (by simp)) (if_new (by simp)),ic_keep (b_alloc (b_alloc (b_alloc (b_alloc (Below.refl _ _))))) (ic_new (by simp)),if_keep (b_alloc (b_alloc (b_alloc (b_alloc (Below.refl _ _))))) (ic_new (by simp)) (if_new (by simp)),ic_keep (b_alloc (b_alloc (b_alloc (Below.refl _ _)))) (ic_new (by simp)),if_keep (b_alloc (b_alloc (b_alloc (Below.refl _ _)))) (ic_new (by simp)) (if_new (by simp)),ic_keep (b_alloc (b_alloc (Below.refl _ _))) (ic_new (by simp)),if_keep (b_alloc (b_alloc (Below.refl _ _))) (ic_new (by simp)) (if_new (by simp)),ic_keep (b_alloc (Below.refl _ _)) (ic_new (by simp)),if_keep (b_alloc (Below.refl _ _)) (ic_new (by simp)) (if_new (by simp)),GG⟩
 clear S K cs ci cj P B BB GG
 have C0:∀ U,EJ w w1.heap.size m k s (i:Int) (j:Int) (m g) 0 0 0 0 0 U→Calls Tryz.prog 147 #[.pointer (some ⟨w.heap.size,0,none⟩),.pointer (some ⟨w.heap.size+1,0,none⟩),.pointer (some ⟨w.heap.size+1+1+1,0,none⟩),.pointer (some ⟨w.heap.size+1+1+1+1,0,none⟩),.pointer (some ⟨w1.heap.size+1,0,none⟩)] U (fun e w'=>e=.returned (.int .i64 e0)∧EJ w w1.heap.size m k s (i:Int) (j:Int) (m g) t 0 0 0 0 w'):=fun U h=>(step1 _ _ _ _ _ i j m k t e0 0 U h.p h.k h.i h.j h.pl h.t h.tf cC).mono fun e w' ⟨he,y,hb,hw⟩=>⟨he,by subst hw; exact ej_t (ej_keep h hb)⟩
 have C1:∀ U,EJ w w1.heap.size m k s (i:Int) (j:Int) (m g) t 0 0 0 0 U→Calls Tryz.prog 149 #[.pointer (some ⟨w1.heap.size,0,none⟩),.pointer (some ⟨w1.heap.size+1,0,none⟩),.pointer (some ⟨w1.heap.size+1+1,0,none⟩)] U (fun e w'=>e=.returned (.int .i64 e1)∧EJ w w1.heap.size m k s (i:Int) (j:Int) (m g) t l 0 0 0 w'):=fun U h=>(step2 _ _ _ (m g) t l e1 0 U h.v h.t h.l h.lf cS).mono fun e w' ⟨he,y,hb,hw⟩=>⟨he,by subst hw; exact ej_l (ej_keep h hb)⟩
 have C2:∀ U,EJ w w1.heap.size m k s (i:Int) (j:Int) (m g) t l 0 0 0 U→Calls Tryz.prog 150 #[.pointer (some ⟨w.heap.size+1,0,none⟩),.pointer (some ⟨w.heap.size+1+1+1,0,none⟩),.pointer (some ⟨w.heap.size+1+1+1+1,0,none⟩),.pointer (some ⟨w1.heap.size+1+1+1,0,none⟩)] U (fun e w'=>e=.returned (.int .i64 e2)∧EJ w w1.heap.size m k s (i:Int) (j:Int) (m g) t l q 0 0 w'):=fun U h=>(step3 _ _ _ _ i j k hi hj q e2 0 U h.k h.i h.j h.q h.qf cM).mono fun e w' ⟨he,y,hb,hw⟩=>⟨he,by subst hw; exact ej_q (ej_keep h hb)⟩
 have C3:∀ U,EJ w w1.heap.size m k s (i:Int) (j:Int) (m g) t l q 0 0 U→Calls Tryz.prog 151 #[.pointer (some ⟨w1.heap.size+1+1+1,0,none⟩),.pointer (some ⟨w.heap.size+1+1,0,none⟩),.pointer (some ⟨w1.heap.size+1+1+1+1,0,none⟩)] U (fun e w'=>e=.returned (.int .i64 e3)∧EJ w w1.heap.size m k s (i:Int) (j:Int) (m g) t l q u 0 w'):=fun U h=>(step4 _ _ _ q s u e3 0 U h.q h.s h.u h.uf cN).mono fun e w' ⟨he,y,hb,hw⟩=>⟨he,by subst hw; exact ej_u (ej_keep h hb)⟩
 have C4:∀ U,EJ w w1.heap.size m k s (i:Int) (j:Int) (m g) t l q u 0 U→Calls Tryz.prog 152 #[.pointer (some ⟨w1.heap.size+1+1,0,none⟩),.pointer (some ⟨w1.heap.size+1+1+1+1,0,none⟩),.pointer (some ⟨w1.heap.size+1+1+1+1+1,0,none⟩)] U (fun e w'=>e=.returned (.int .i64 e4)∧EJ w w1.heap.size m k s (i:Int) (j:Int) (m g) t l q u x w'):=fun U h=>(step5 _ _ _ l u x e4 0 U h.l h.u h.x h.xf cD).mono fun e w' ⟨he,y,hb,hw⟩=>⟨he,by subst hw; exact ej_x (ej_keep h hb)⟩
 have CC:=Lib.hid (turn5 (w1.heap.size+1+1+1+1+1+1) w.heap.size (w.heap.size+1) (w.heap.size+1+1) (w.heap.size+1+1+1) (w.heap.size+1+1+1+1) w1.heap.size (w1.heap.size+1) (w1.heap.size+1+1) (w1.heap.size+1+1+1) (w1.heap.size+1+1+1+1) (w1.heap.size+1+1+1+1+1) e0 e1 e2 e3 e4 (EJ w w1.heap.size m k s (i:Int) (j:Int) (m g) 0 0 0 0 0) (EJ w w1.heap.size m k s (i:Int) (j:Int) (m g) t 0 0 0 0) (EJ w w1.heap.size m k s (i:Int) (j:Int) (m g) t l 0 0 0) (EJ w w1.heap.size m k s (i:Int) (j:Int) (m g) t l q 0 0) (EJ w w1.heap.size m k s (i:Int) (j:Int) (m g) t l q u 0) (EJ w w1.heap.size m k s (i:Int) (j:Int) (m g) t l q u x) (fun U=>Below w.heap.size w U∧IC U (w1.heap.size+1+1+1+1+1) 0) (fun _ h=>h.g) C0 (fun _ h=>h.g) C1 (fun _ h=>h.g) C2 (fun _ h=>h.g) C3 (fun _ h=>h.g) C4 q0 (fun _ _ h=>⟨h.b,h.x⟩) q1 (fun _ _ h=>⟨h.b,h.x⟩) q2 (fun _ _ h=>⟨h.b,h.x⟩) q3 (fun _ _ h=>⟨h.b,h.x⟩) q4 (fun n _ h=>⟨h.b,by have:=h.x; rwa [xz n] at this⟩) _ j0)
 clear C0 C1 C2 C3 C4 cC cS cM cN cD q0 q1 q2 q3 q4 xz j0
 go_wp2_with fail
 refine CC.out.mono ?_
 clear CC
 rintro e w2 (⟨rfl,al,h⟩ | ⟨rfl,na,h⟩)
 ·obtain ⟨rfl,rfl⟩:=hy.out.1 al
  have hx:=h.x
  have B:=h.b
  clear h al hy
  go_wp2
  go_ret2
  exact ⟨rfl,B⟩
 ·obtain ⟨rfl,rfl⟩:=hy.out.2 na
  obtain ⟨B,hx⟩:=h
  clear na hy
  go_wp2
  go_ret2
  exact ⟨rfl,B⟩
theorem state_no (x0 x1 x2 k0 k1 k2 y:Int) (cF:∀ w,Calls Tryz.prog 92 #[tv x0 x1 x2] w (RetV (.bool false) w)) (w:World) :
  Calls Tryz.prog 77 #[tv x0 x1 x2,tv k0 k1 k2,.int .i64 y] w (RetV (.tuple #[tv 0 0 0,.int .i64 1]) w):=by
 have B:Below w.heap.size w ((((w.alloc (Obj.cells #[.int .i64 x0,.int .i64 x1,.int .i64 x2] 25)).alloc (Obj.cells #[.int .i64 k0,.int .i64 k1,.int .i64 k2] 25)).alloc (Obj.cells #[.int .i64 y] 2)).alloc (Obj.cells #[.int .i64 0,.int .i64 0,.int .i64 0] 25)):=b_alloc (b_alloc (b_alloc (b_alloc (Below.refl _ _))))
 have X:TC ((((w.alloc (Obj.cells #[.int .i64 x0,.int .i64 x1,.int .i64 x2] 25)).alloc (Obj.cells #[.int .i64 k0,.int .i64 k1,.int .i64 k2] 25)).alloc (Obj.cells #[.int .i64 y] 2)).alloc (Obj.cells #[.int .i64 0,.int .i64 0,.int .i64 0] 25)) w.heap.size x0 x1 x2:=tc_alloc (tc_alloc (tc_alloc (tc_new rfl)))
 have K:TC ((((w.alloc (Obj.cells #[.int .i64 x0,.int .i64 x1,.int .i64 x2] 25)).alloc (Obj.cells #[.int .i64 k0,.int .i64 k1,.int .i64 k2] 25)).alloc (Obj.cells #[.int .i64 y] 2)).alloc (Obj.cells #[.int .i64 0,.int .i64 0,.int .i64 0] 25)) (w.heap.size+1) k0 k1 k2:=tc_alloc (tc_alloc (tc_new (by simp)))
 have cy:IC ((((w.alloc (Obj.cells #[.int .i64 x0,.int .i64 x1,.int .i64 x2] 25)).alloc (Obj.cells #[.int .i64 k0,.int .i64 k1,.int .i64 k2] 25)).alloc (Obj.cells #[.int .i64 y] 2)).alloc (Obj.cells #[.int .i64 0,.int .i64 0,.int .i64 0] 25)) (w.heap.size+1+1) y:=ic_keep (b_alloc (Below.refl _ _)) (ic_new (by simp))
 have R:TC ((((w.alloc (Obj.cells #[.int .i64 x0,.int .i64 x1,.int .i64 x2] 25)).alloc (Obj.cells #[.int .i64 k0,.int .i64 k1,.int .i64 k2] 25)).alloc (Obj.cells #[.int .i64 y] 2)).alloc (Obj.cells #[.int .i64 0,.int .i64 0,.int .i64 0] 25)) (w.heap.size+1+1+1) 0 0 0:=tc_new (by simp)
 have RF:TF ((((w.alloc (Obj.cells #[.int .i64 x0,.int .i64 x1,.int .i64 x2] 25)).alloc (Obj.cells #[.int .i64 k0,.int .i64 k1,.int .i64 k2] 25)).alloc (Obj.cells #[.int .i64 y] 2)).alloc (Obj.cells #[.int .i64 0,.int .i64 0,.int .i64 0] 25)) (w.heap.size+1+1+1):=tf_new (by simp)
 have hmf:∀ (fn:Fn) (first cap:Array Value) (w:World),(Instr.makeFunc fn first cap).run Tryz.prog w=.ok (.func fn first cap) w:=fun _ _ _ _=>rfl
 go_enter Tryz.func77,Tryz.ntmps77
 go_wp2_with fail
 refine (cF _).mono ?_
 rintro e1 w1 ⟨rfl,hb⟩
 have za:w.heap.size+1+1+1+1≤w1.heap.size:=by have h:=hb.size; simp [go_sem] at h; omega
 replace RF:=tf_keep hb R RF
 replace R:=tc_keep hb R
 replace X:=tc_keep hb X
 replace K:=tc_keep hb K
 replace cy:=ic_keep hb cy
 replace B:=b_trans B hb
 clear hb cF
 clear X K cy
 go_wp2
 obtain ⟨q0,q1,q2⟩:=R
 refine bodyPost_ret (v:=.tuple #[tv 0 0 0,.int .i64 1]) (by simp [results,Tryz.results77,go_sem,q0,q1,q2]) rfl ⟨rfl,?_⟩
 have g3:w.heap.size≤w.heap.size+1+1+1:=by omega
 repeat (first | exact B | refine b_set ?_ g3)
theorem state_go (x0 x1 x2 k0 k1 k2 y d0 d1 d2 e0 n0 n1 n2 e1 z0 z1 z2 f:Int) (cF:∀ w,Calls Tryz.prog 92 #[tv x0 x1 x2] w (RetV (.bool true) w))
  (cS:∀ w,Calls Tryz.prog 112 #[tv k0 k1 k2,.int .i64 y] w (RetV (.tuple #[tv d0 d1 d2,.int .i64 e0]) w))
  (cA:e0=0→∀ w,Calls Tryz.prog 96 #[tv x0 x1 x2,tv d0 d1 d2] w (RetV (.tuple #[tv n0 n1 n2,.int .i64 e1]) w))
  (hy:Hid ((¬ e0=0→z0=0∧z1=0∧z2=0∧f=e0)∧(e0=0→z0=n0∧z1=n1∧z2=n2∧f=e1))) (w:World) :
  Calls Tryz.prog 77 #[tv x0 x1 x2,tv k0 k1 k2,.int .i64 y] w (RetV (.tuple #[tv z0 z1 z2,.int .i64 f]) w):=by
 have B:Below w.heap.size w ((((w.alloc (Obj.cells #[.int .i64 x0,.int .i64 x1,.int .i64 x2] 25)).alloc (Obj.cells #[.int .i64 k0,.int .i64 k1,.int .i64 k2] 25)).alloc (Obj.cells #[.int .i64 y] 2)).alloc (Obj.cells #[.int .i64 0,.int .i64 0,.int .i64 0] 25)):=b_alloc (b_alloc (b_alloc (b_alloc (Below.refl _ _))))
 have X:TC ((((w.alloc (Obj.cells #[.int .i64 x0,.int .i64 x1,.int .i64 x2] 25)).alloc (Obj.cells #[.int .i64 k0,.int .i64 k1,.int .i64 k2] 25)).alloc (Obj.cells #[.int .i64 y] 2)).alloc (Obj.cells #[.int .i64 0,.int .i64 0,.int .i64 0] 25)) w.heap.size x0 x1 x2:=tc_alloc (tc_alloc (tc_alloc (tc_new rfl)))
 have K:TC ((((w.alloc (Obj.cells #[.int .i64 x0,.int .i64 x1,.int .i64 x2] 25)).alloc (Obj.cells #[.int .i64 k0,.int .i64 k1,.int .i64 k2] 25)).alloc (Obj.cells #[.int .i64 y] 2)).alloc (Obj.cells #[.int .i64 0,.int .i64 0,.int .i64 0] 25)) (w.heap.size+1) k0 k1 k2:=tc_alloc (tc_alloc (tc_new (by simp)))
 have cy:IC ((((w.alloc (Obj.cells #[.int .i64 x0,.int .i64 x1,.int .i64 x2] 25)).alloc (Obj.cells #[.int .i64 k0,.int .i64 k1,.int .i64 k2] 25)).alloc (Obj.cells #[.int .i64 y] 2)).alloc (Obj.cells #[.int .i64 0,.int .i64 0,.int .i64 0] 25)) (w.heap.size+1+1) y:=ic_keep (b_alloc (Below.refl _ _)) (ic_new (by simp))
 have R:TC ((((w.alloc (Obj.cells #[.int .i64 x0,.int .i64 x1,.int .i64 x2] 25)).alloc (Obj.cells #[.int .i64 k0,.int .i64 k1,.int .i64 k2] 25)).alloc (Obj.cells #[.int .i64 y] 2)).alloc (Obj.cells #[.int .i64 0,.int .i64 0,.int .i64 0] 25)) (w.heap.size+1+1+1) 0 0 0:=tc_new (by simp)
 have RF:TF ((((w.alloc (Obj.cells #[.int .i64 x0,.int .i64 x1,.int .i64 x2] 25)).alloc (Obj.cells #[.int .i64 k0,.int .i64 k1,.int .i64 k2] 25)).alloc (Obj.cells #[.int .i64 y] 2)).alloc (Obj.cells #[.int .i64 0,.int .i64 0,.int .i64 0] 25)) (w.heap.size+1+1+1):=tf_new (by simp)
 have hmf:∀ (fn:Fn) (first cap:Array Value) (w:World),(Instr.makeFunc fn first cap).run Tryz.prog w=.ok (.func fn first cap) w:=fun _ _ _ _=>rfl
 go_enter Tryz.func77,Tryz.ntmps77
 go_wp2_with fail
 refine (cF _).mono ?_
 rintro e1 w1 ⟨rfl,hb⟩
 have za:w.heap.size+1+1+1+1≤w1.heap.size:=by have h:=hb.size; simp [go_sem] at h; omega
 replace RF:=tf_keep hb R RF
 replace R:=tc_keep hb R
 replace X:=tc_keep hb X
 replace K:=tc_keep hb K
 replace cy:=ic_keep hb cy
 replace B:=b_trans B hb
 clear hb cF
 have BB:Below w1.heap.size w1 (((w1.alloc (Obj.cells #[.int .i64 0,.int .i64 0,.int .i64 0] 25)).alloc (Obj.cells #[.int .i64 0,.int .i64 0,.int .i64 0] 25)).alloc (Obj.cells #[.func (.func 111) #[] #[.pointer (some ⟨w.heap.size+1,0,none⟩),.pointer (some ⟨w.heap.size+1+1,0,none⟩),.pointer (some ⟨w1.heap.size,0,none⟩)],.func (.func 113) #[] #[.pointer (some ⟨w.heap.size,0,none⟩),.pointer (some ⟨w1.heap.size,0,none⟩),.pointer (some ⟨w1.heap.size+1,0,none⟩)]] 175)):=(b_alloc (b_alloc (b_alloc (Below.refl _ _))))
 have GG:GD (((w1.alloc (Obj.cells #[.int .i64 0,.int .i64 0,.int .i64 0] 25)).alloc (Obj.cells #[.int .i64 0,.int .i64 0,.int .i64 0] 25)).alloc (Obj.cells #[.func (.func 111) #[] #[.pointer (some ⟨w.heap.size+1,0,none⟩),.pointer (some ⟨w.heap.size+1+1,0,none⟩),.pointer (some ⟨w1.heap.size,0,none⟩)],.func (.func 113) #[] #[.pointer (some ⟨w.heap.size,0,none⟩),.pointer (some ⟨w1.heap.size,0,none⟩),.pointer (some ⟨w1.heap.size+1,0,none⟩)]] 175)) (w1.heap.size+1+1) w.heap.size (w.heap.size+1) (w.heap.size+1+1) w1.heap.size (w1.heap.size+1):=by simp [GD,go_sem]
 have j0:SJj w w1.heap.size x0 x1 x2 k0 k1 k2 y 0 0 0 0 0 0 (((w1.alloc (Obj.cells #[.int .i64 0,.int .i64 0,.int .i64 0] 25)).alloc (Obj.cells #[.int .i64 0,.int .i64 0,.int .i64 0] 25)).alloc (Obj.cells #[.func (.func 111) #[] #[.pointer (some ⟨w.heap.size+1,0,none⟩),.pointer (some ⟨w.heap.size+1+1,0,none⟩),.pointer (some ⟨w1.heap.size,0,none⟩)],.func (.func 113) #[] #[.pointer (some ⟨w.heap.size,0,none⟩),.pointer (some ⟨w1.heap.size,0,none⟩),.pointer (some ⟨w1.heap.size+1,0,none⟩)]] 175)):=⟨b_trans B BB,za,tc_keep BB X,tc_keep BB K,ic_keep BB cy,tc_keep BB R,tf_keep BB R RF,tc_keep (b_alloc (b_alloc (Below.refl _ _))) (tc_new rfl),tf_keep (b_alloc (b_alloc (Below.refl _ _))) (tc_new rfl) (tf_new rfl),tc_keep (b_alloc (Below.refl _ _)) (tc_new (by simp)),tf_keep (b_alloc (Below.refl _ _)) (tc_new (by simp)) (tf_new (by simp)),GG⟩
 clear X K cy R RF B BB GG
 have C0:∀ U,SJj w w1.heap.size x0 x1 x2 k0 k1 k2 y 0 0 0 0 0 0 U→Calls Tryz.prog 111 #[.pointer (some ⟨w.heap.size+1,0,none⟩),.pointer (some ⟨w.heap.size+1+1,0,none⟩),.pointer (some ⟨w1.heap.size,0,none⟩)] U (fun e w'=>e=.returned (.int .i64 e0)∧SJj w w1.heap.size x0 x1 x2 k0 k1 k2 y d0 d1 d2 0 0 0 w'):=fun U h=>(stepS _ _ _ k0 k1 k2 y d0 d1 d2 e0 0 0 0 U h.k h.y h.d h.df cS).mono fun e w' ⟨he,y,hb,hw⟩=>⟨he,by subst hw; exact sj_d (sjj_keep h hb)⟩
 have C1:e0=0→∀ U,SJj w w1.heap.size x0 x1 x2 k0 k1 k2 y d0 d1 d2 0 0 0 U→Calls Tryz.prog 113 #[.pointer (some ⟨w.heap.size,0,none⟩),.pointer (some ⟨w1.heap.size,0,none⟩),.pointer (some ⟨w1.heap.size+1,0,none⟩)] U (fun e w'=>e=.returned (.int .i64 e1)∧SJj w w1.heap.size x0 x1 x2 k0 k1 k2 y d0 d1 d2 n0 n1 n2 w'):=fun E U h=>(stepA _ _ _ x0 x1 x2 d0 d1 d2 n0 n1 n2 e1 0 0 0 U h.x h.d h.n h.nf (cA E)).mono fun e w' ⟨he,y,hb,hw⟩=>⟨he,by subst hw; exact sj_n (sjj_keep h hb)⟩
 have CC:=Lib.hid (turn2 (w1.heap.size+1+1) w.heap.size (w.heap.size+1) (w.heap.size+1+1) w1.heap.size (w1.heap.size+1) e0 e1 (SJj w w1.heap.size x0 x1 x2 k0 k1 k2 y 0 0 0 0 0 0) (SJj w w1.heap.size x0 x1 x2 k0 k1 k2 y d0 d1 d2 0 0 0) (SJj w w1.heap.size x0 x1 x2 k0 k1 k2 y d0 d1 d2 n0 n1 n2) (fun _ h=>h.g) (fun _ h=>h.g) C0 C1 _ j0)
 clear C0 C1 cS cA j0
 go_wp2_with fail
 refine CC.out.mono ?_
 clear CC
 rintro e w2 (⟨n,rfl,h⟩ | ⟨rfl,rfl,h⟩)
 ·obtain ⟨rfl,rfl,rfl,rfl⟩:=hy.out.1 n
  have R:=h.r
  have RF:=h.rf
  have NN:=h.n
  have B:=h.b
  clear h n hy
  go_wp2
  obtain ⟨q0,q1,q2⟩:=R
  refine bodyPost_ret (v:=.tuple #[tv 0 0 0,.int .i64 f]) (by simp [results,Tryz.results77,go_sem,q0,q1,q2]) rfl ⟨rfl,?_⟩
  have g3:w.heap.size≤w.heap.size+1+1+1:=by omega
  repeat (first | exact B | refine b_set ?_ g3)
 ·obtain ⟨rfl,rfl,rfl,rfl⟩:=hy.out.2 (by simp)
  have R:=h.r
  have RF:=h.rf
  have NN:=h.n
  have B:=h.b
  clear h hy
  go_wp2
  obtain ⟨q0,q1,q2⟩:=R
  refine bodyPost_ret (v:=.tuple #[tv z0 z1 z2,.int .i64 f]) (by simp [results,Tryz.results77,go_sem,q0,q1,q2]) rfl ⟨rfl,?_⟩
  have g3:w.heap.size≤w.heap.size+1+1+1:=by omega
  repeat (first | exact B | refine b_set ?_ g3)
end Go.Proofs.YthnofhjgfhapiaaGreatDoor
namespace Go.Proofs.YthnofhjgfhapiaaGreatDoor
open Go.RowKit Go.Shelf
theorem fx_sub {a b:Int} (ha:FitP a) (hb:FitP b) (w:World):Calls Tryz.prog 93 #[.int .i64 a,.int .i64 b] w (RetV (.tuple #[.int .i64 (nz (a - b)),.int .i64 (ne (a - b))]) w):=by
 have h:=sub_fix a b (by omega) (by omega) (by omega) (by omega) w
 rwa [(gz_of ⟨ha,hb⟩ _).1,(gz_of ⟨ha,hb⟩ _).2] at h
theorem fx_add {a b:Int} (ha:FitP a) (hb:FitP b) (w:World):Calls Tryz.prog 106 #[.int .i64 a,.int .i64 b] w (RetV (.tuple #[.int .i64 (nz (a+b)),.int .i64 (ne (a+b))]) w):=by
 have h:=add_fix a b (by omega) (by omega) (by omega) (by omega) w
 rwa [(gz_of ⟨ha,hb⟩ _).1,(gz_of ⟨ha,hb⟩ _).2] at h
theorem fx_mul {a b:Int} (ha:FitP a) (hb:FitP b) (w:World):Calls Tryz.prog 146 #[.int .i64 a,.int .i64 b] w (RetV (.tuple #[.int .i64 (nz (evn (a*b) 1099511627776)),.int .i64 (ne (evn (a*b) 1099511627776))]) w):=by
 have h:=mul_fix a b (by omega) (by omega) (by omega) (by omega) w
 rwa [(gz_of ⟨ha,hb⟩ _).1,(gz_of ⟨ha,hb⟩ _).2] at h
def jt (m k:Nat→Int) (i j:Nat):Int:=nz (jT m k i j)
def jl (m k:Nat→Int) (i j g:Nat):Int:=nz (m g - jt m k i j)
def jq (k:Nat→Int) (i j:Nat):Int:=nz (evn (k i*k j) 1099511627776)
def ju (k:Nat→Int) (s:Int) (i j:Nat):Int:=nz (evn (jq k i j*s) 1099511627776)
def jx (m k:Nat→Int) (s:Int) (i j g:Nat):Int:=nz (jl m k i j g+ju k s i j)
def JA (m k:Nat→Int) (s:Int) (i j g:Nat):Prop:=ne (jT m k i j)=0∧ne (m g - jt m k i j)=0∧ne (evn (k i*k j) 1099511627776)=0∧ne (evn (jq k i j*s) 1099511627776)=0∧ne (jl m k i j g+ju k s i j)=0
instance (m k:Nat→Int) (s:Int) (i j g:Nat):Decidable (JA m k s i j g):=by unfold JA; exact inferInstance
def jy (m k:Nat→Int) (s:Int) (i j g:Nat):Int:=if JA m k s i j g then jx m k s i j g else 0
def jf (m k:Nat→Int) (s:Int) (i j g:Nat):Int:=if JA m k s i j g then 0 else 3
theorem j_yes {m k:Nat→Int} {s:Int} {i j g:Nat} (h:JA m k s i j g):jy m k s i j g=jx m k s i j g∧jf m k s i j g=0:=⟨if_pos h,if_pos h⟩
theorem j_no {m k:Nat→Int} {s:Int} {i j g:Nat} (h:¬ JA m k s i j g):jy m k s i j g=0∧jf m k s i j g=3:=⟨if_neg h,if_neg h⟩
theorem jf_two (m k:Nat→Int) (s:Int) (i j g:Nat):jf m k s i j g=0∨jf m k s i j g=3:=by
 unfold jf
 split
 ·exact Or.inl rfl
 ·exact Or.inr rfl
theorem j_hid (m k:Nat→Int) (s:Int) (i j g:Nat):Hid ((ne (jT m k i j)=0∧ne (m g - jt m k i j)=0∧ne (evn (k i*k j) 1099511627776)=0∧ne (evn (jq k i j*s) 1099511627776)=0∧ne (jl m k i j g+ju k s i j)=0→jy m k s i j g=jx m k s i j g∧jf m k s i j g=0) ∧
  (¬ (ne (jT m k i j)=0∧ne (m g - jt m k i j)=0∧ne (evn (k i*k j) 1099511627776)=0∧ne (evn (jq k i j*s) 1099511627776)=0∧ne (jl m k i j g+ju k s i j)=0)→jy m k s i j g=0∧jf m k s i j g=3)) :=
 Lib.hid ⟨fun h=>j_yes h,fun h=>j_no h⟩
theorem at9_lt {i j:Int} {g:Nat} (h:At9 i j g):g<6:=by
 rcases h with h | h | h | h | h | h | h | h | h <;> omega
theorem entry_any (m k:Nat→Int) (s:Int) (i j g:Nat) (hi:i<3) (hj:j<3) (hg:At9 (i:Int) (j:Int) g) (hm:F6 m) (hk:∀ i,i<3→FitP (k i)) (hs:FitP s) (w:World) (hp:PL w) :
  Calls Tryz.prog 115 #[sv m,tv (k 0) (k 1) (k 2),.int .i64 s,.int .i64 ((i:Nat):Int),.int .i64 ((j:Nat):Int)] w (RetV (.tuple #[.int .i64 (jy m k s i j g),.int .i64 (jf m k s i j g)]) w) :=
 entry_go m k s i j g hi hj (jt m k i j) (jl m k i j g) (jq k i j) (ju k s i j) (jx m k s i j g) (ne (jT m k i j)) (ne (m g - jt m k i j)) (ne (evn (k i*k j) 1099511627776)) (ne (evn (jq k i j*s) 1099511627776)) (ne (jl m k i j g+ju k s i j)) (jy m k s i j g) (jf m k s i j g)
  (fun w hp=>at_ok m i j g hg w hp) (fun w hp=>crossed_any m k i j hi hj hm hk w hp) (fx_sub (hm g (at9_lt hg)) (nz_fit _)) (fx_mul (hk i hi) (hk j hj)) (fx_mul (nz_fit _) hs) (fx_add (nz_fit _) (nz_fit _))
  (ne_two _) (ne_two _) (ne_two _) (ne_two _) (ne_two _) ne_nz (j_hid m k s i j g) w hp
theorem te_two (a b c:Int):te (ne a) (ne b) (ne c)=0∨te (ne a) (ne b) (ne c)=3:=by
 unfold te
 rcases ne_two a with h | h <;> rcases ne_two b with k | k <;> rcases ne_two c with l | l <;> simp [h,k,l]
theorem t3_all {a b c:Int} (h:F3 a b c):tz (nz a) (ne a) (ne b) (ne c)=a∧tz (nz b) (ne a) (ne b) (ne c)=b∧tz (nz c) (ne a) (ne b) (ne c)=c∧te (ne a) (ne b) (ne c)=0:=by
 rw [(nz_of h.1).1,(nz_of h.1).2,(nz_of h.2.1).1,(nz_of h.2.1).2,(nz_of h.2.2).1,(nz_of h.2.2).2]
 exact ⟨(tz_3 a).1,(tz_3 b).1,(tz_3 c).1,(tz_3 a).2⟩
theorem f3_i64 {a b c:Int} (h:F3 a b c):I64 a∧I64 b∧I64 c:=⟨⟨by omega,by omega⟩,⟨by omega,by omega⟩,⟨by omega,by omega⟩⟩
end Go.Proofs.YthnofhjgfhapiaaGreatDoor

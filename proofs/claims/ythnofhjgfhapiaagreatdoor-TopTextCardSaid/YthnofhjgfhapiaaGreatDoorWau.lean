import Derived.Test.YthnofhjgfhapiaaGreatDoorWap
import Derived.Test.YthnofhjgfhapiaaGreatDoorWat
import Derived.Test.YthnofhjgfhapiaaGreatDoorWae
import Derived.Test.YthnofhjgfhapiaaGreatDoorWad
import Derived.Test.YthnofhjgfhapiaaGreatDoorWaa
import Derived.Test.YthnofhjgfhapiaaGreatDoorWac
import Derived.Test.YthnofhjgfhapiaaGreatDoorWan
import Derived.Test.YthnofhjgfhapiaaGreatDoorWai
import Derived.Test.YthnofhjgfhapiaaGreatDoorWab
import Derived.Test.YthnofhjgfhapiaaGreatDoorWav
import Derived.Test.YthnofhjgfhapiaaGreatDoorWag
import Derived.Test.YthnofhjgfhapiaaGreatDoorWaf
set_option maxHeartbeats 8000000
set_option maxRecDepth 10000
namespace Go.Proofs.YthnofhjgfhapiaaGreatDoor
open Go.RowKit Go.Shelf
structure OS (w:World) (A Q S:Nat) (x0 x1 x2 y0 y1 y2:Int) (U:World):Prop where
 b:Below w.heap.size w U
 ka:TC U A x0 x1 x2
 qc:TC U Q 0 0 0
 qf:TF U Q
 ks:TC U S y0 y1 y2
 fs:TF U S
theorem os_keep {w U U':World} {A Q S:Nat} {x0 x1 x2 y0 y1 y2:Int} (s:OS w A Q S x0 x1 x2 y0 y1 y2 U) (hb:Below U.heap.size U U'):OS w A Q S x0 x1 x2 y0 y1 y2 U' :=
 ⟨b_trans s.b hb,tc_keep hb s.ka,tc_keep hb s.qc,tf_keep hb s.qc s.qf,tc_keep hb s.ks,tf_keep hb s.ks s.fs⟩
theorem os_put0 {w U:World} {A Q S:Nat} {x0 x1 x2 y0 y1 y2 v:Int} (s:OS w A Q S x0 x1 x2 y0 y1 y2 U) (nA:S≠A) (nQ:S≠Q) (h:w.heap.size≤S):OS w A Q S x0 x1 x2 v y1 y2 (U.setCell ⟨S,0,none⟩ (.int .i64 v)) :=
 ⟨b_set s.b h,tc_set s.ka nA,tc_set s.qc nQ,tf_set s.qf,tc_put0 s.ks,tf_set s.fs⟩
theorem os_put1 {w U:World} {A Q S:Nat} {x0 x1 x2 y0 y1 y2 v:Int} (s:OS w A Q S x0 x1 x2 y0 y1 y2 U) (nA:S≠A) (nQ:S≠Q) (h:w.heap.size≤S):OS w A Q S x0 x1 x2 y0 v y2 (U.setCell ⟨S,1,none⟩ (.int .i64 v)) :=
 ⟨b_set s.b h,tc_set s.ka nA,tc_set s.qc nQ,tf_set s.qf,tc_put1 s.ks,tf_set s.fs⟩
theorem on_mot_bad (x0 x1 x2 t:Int) (hx0:I64 x0) (hx1:I64 x1) (hx2:I64 x2) (_ht:I64 t) (c:¬ F3 x0 x1 x2) (w:World) :
  Calls Tryz.prog 68 #[tv x0 x1 x2,.int .i64 t] w (RetV (.tuple #[tv 0 0 0,.int .i64 1]) w):=by
 have ea:=Lib.hid (f3b_no c)
 clear c
 have kA:TC ((w.alloc (Obj.cells #[.int .i64 x0,.int .i64 x1,.int .i64 x2] 25)).alloc (Obj.cells #[.int .i64 0,.int .i64 0,.int .i64 0] 25)) (w.heap.size) x0 x1 x2:=tc_alloc (tc_new rfl)
 have qc:TC ((w.alloc (Obj.cells #[.int .i64 x0,.int .i64 x1,.int .i64 x2] 25)).alloc (Obj.cells #[.int .i64 0,.int .i64 0,.int .i64 0] 25)) (w.heap.size+1) 0 0 0:=tc_new (by simp)
 have qf:TF ((w.alloc (Obj.cells #[.int .i64 x0,.int .i64 x1,.int .i64 x2] 25)).alloc (Obj.cells #[.int .i64 0,.int .i64 0,.int .i64 0] 25)) (w.heap.size+1):=tf_new (by simp)
 have B0:Below w.heap.size w ((w.alloc (Obj.cells #[.int .i64 x0,.int .i64 x1,.int .i64 x2] 25)).alloc (Obj.cells #[.int .i64 0,.int .i64 0,.int .i64 0] 25)):=b_alloc (b_alloc (Below.refl _ _))
 go_enter Tryz.func68,Tryz.ntmps68
 go_wp2_with fail
 refine (fits3_vec x0 x1 x2 hx0 hx1 hx2 _).mono ?_
 rintro e1 w1 ⟨rfl,hb9⟩
 rw [ea.out]
 have qf9:=tf_keep hb9 qc qf
 replace kA:=tc_keep hb9 kA
 replace qc:=tc_keep hb9 qc
 replace B0:=b_trans B0 hb9
 clear qf
 have qf:=qf9
 clear qf9 hb9
 clear kA
 have B9:=b_set (p:=⟨w.heap.size+1,2,none⟩) (v:=.int .i64 0) (b_set (p:=⟨w.heap.size+1,1,none⟩) (v:=.int .i64 0) (b_set (p:=⟨w.heap.size+1,0,none⟩) (v:=.int .i64 0) B0 (Nat.le_succ _)) (Nat.le_succ _)) (Nat.le_succ _)
 go_wp2
 exact bodyPost_ret (v:=.tuple #[tv 0 0 0,.int .i64 1]) (by simp [results,Tryz.results68,go_sem,qc]) rfl ⟨rfl,B9⟩
theorem on_mot_sub (x0 x1 x2 t y e:Int) (hx0:I64 x0) (hx1:I64 x1) (hx2:I64 x2) (_ht:I64 t) (c:F3 x0 x1 x2) (e0:(e == 0)=false)
  (cS:∀ w,Calls Tryz.prog 93 #[.int .i64 t,.int .i64 x2] w (RetV (.tuple #[.int .i64 y,.int .i64 e]) w)) (w:World) :
  Calls Tryz.prog 68 #[tv x0 x1 x2,.int .i64 t] w (RetV (.tuple #[tv 0 0 0,.int .i64 e]) w):=by
 have ea:=Lib.hid (f3b_yes c)
 clear c
 have kA:TC ((w.alloc (Obj.cells #[.int .i64 x0,.int .i64 x1,.int .i64 x2] 25)).alloc (Obj.cells #[.int .i64 0,.int .i64 0,.int .i64 0] 25)) (w.heap.size) x0 x1 x2:=tc_alloc (tc_new rfl)
 have qc:TC ((w.alloc (Obj.cells #[.int .i64 x0,.int .i64 x1,.int .i64 x2] 25)).alloc (Obj.cells #[.int .i64 0,.int .i64 0,.int .i64 0] 25)) (w.heap.size+1) 0 0 0:=tc_new (by simp)
 have qf:TF ((w.alloc (Obj.cells #[.int .i64 x0,.int .i64 x1,.int .i64 x2] 25)).alloc (Obj.cells #[.int .i64 0,.int .i64 0,.int .i64 0] 25)) (w.heap.size+1):=tf_new (by simp)
 have B0:Below w.heap.size w ((w.alloc (Obj.cells #[.int .i64 x0,.int .i64 x1,.int .i64 x2] 25)).alloc (Obj.cells #[.int .i64 0,.int .i64 0,.int .i64 0] 25)):=b_alloc (b_alloc (Below.refl _ _))
 go_enter Tryz.func68,Tryz.ntmps68
 go_wp2_with fail
 refine (fits3_vec x0 x1 x2 hx0 hx1 hx2 _).mono ?_
 rintro e1 w1 ⟨rfl,hb9⟩
 rw [ea.out]
 have qf9:=tf_keep hb9 qc qf
 replace kA:=tc_keep hb9 kA
 replace qc:=tc_keep hb9 qc
 replace B0:=b_trans B0 hb9
 clear qf
 have qf:=qf9
 clear qf9 hb9
 go_wp2_with fail
 refine (cS _).mono ?_
 rintro e2 w2 ⟨rfl,hb9⟩
 have qf9:=tf_keep hb9 qc qf
 replace kA:=tc_keep hb9 kA
 replace qc:=tc_keep hb9 qc
 replace B0:=b_trans B0 hb9
 clear qf
 have qf:=qf9
 clear qf9 hb9
 clear kA
 have B9:=b_set (p:=⟨w.heap.size+1,2,none⟩) (v:=.int .i64 0) (b_set (p:=⟨w.heap.size+1,1,none⟩) (v:=.int .i64 0) (b_set (p:=⟨w.heap.size+1,0,none⟩) (v:=.int .i64 0) B0 (Nat.le_succ _)) (Nat.le_succ _)) (Nat.le_succ _)
 go_wp2
 exact bodyPost_ret (v:=.tuple #[tv 0 0 0,.int .i64 e]) (by simp [results,Tryz.results68,go_sem,qc]) rfl ⟨rfl,B9⟩
theorem on_mot_go (x0 x1 x2 t d mh ml dh dl h v y0 y1 y2 e:Int) (hx0:I64 x0) (hx1:I64 x1) (hx2:I64 x2) (_ht:I64 t) (c:F3 x0 x1 x2)
  (cS:∀ w,Calls Tryz.prog 93 #[.int .i64 t,.int .i64 x2] w (RetV (.tuple #[.int .i64 d,.int .i64 0]) w))
  (cM:∀ w,Calls Tryz.prog 32 #[.int .i64 256,.int .i64 x1] w (RetV (wv mh ml) w))
  (cO:∀ w,Calls Tryz.prog 95 #[.int .i64 d] w (RetV (wv dh dl) w))
  (r2:∀ G w,W2 w G mh ml dh dl→Calls Tryz.prog 94 #[.int .i64 15,.slice (some ⟨G,0,none⟩) 2 2] w (RetV (.int .i64 h) w))
  (r1:∀ G w,WC w G dh dl→Calls Tryz.prog 94 #[.int .i64 7,.slice (some ⟨G,0,none⟩) 1 1] w (RetV (.int .i64 v) w))
  (cA:∀ w,Calls Tryz.prog 96 #[tv x0 x1 x2,tv h v 0] w (RetV (.tuple #[tv y0 y1 y2,.int .i64 e]) w)) (w:World) :
  Calls Tryz.prog 68 #[tv x0 x1 x2,.int .i64 t] w (RetV (.tuple #[tv y0 y1 y2,.int .i64 e]) w):=by
 have ea:=Lib.hid (f3b_yes c)
 clear c
 have kA:TC ((w.alloc (Obj.cells #[.int .i64 x0,.int .i64 x1,.int .i64 x2] 25)).alloc (Obj.cells #[.int .i64 0,.int .i64 0,.int .i64 0] 25)) (w.heap.size) x0 x1 x2:=tc_alloc (tc_new rfl)
 have qc:TC ((w.alloc (Obj.cells #[.int .i64 x0,.int .i64 x1,.int .i64 x2] 25)).alloc (Obj.cells #[.int .i64 0,.int .i64 0,.int .i64 0] 25)) (w.heap.size+1) 0 0 0:=tc_new (by simp)
 have qf:TF ((w.alloc (Obj.cells #[.int .i64 x0,.int .i64 x1,.int .i64 x2] 25)).alloc (Obj.cells #[.int .i64 0,.int .i64 0,.int .i64 0] 25)) (w.heap.size+1):=tf_new (by simp)
 have B0:Below w.heap.size w ((w.alloc (Obj.cells #[.int .i64 x0,.int .i64 x1,.int .i64 x2] 25)).alloc (Obj.cells #[.int .i64 0,.int .i64 0,.int .i64 0] 25)):=b_alloc (b_alloc (Below.refl _ _))
 go_enter Tryz.func68,Tryz.ntmps68
 go_wp2_with fail
 refine (fits3_vec x0 x1 x2 hx0 hx1 hx2 _).mono ?_
 rintro e1 w1 ⟨rfl,hb9⟩
 rw [ea.out]
 have qf9:=tf_keep hb9 qc qf
 replace kA:=tc_keep hb9 kA
 replace qc:=tc_keep hb9 qc
 replace B0:=b_trans B0 hb9
 clear qf
 have qf:=qf9
 clear qf9 hb9
 go_wp2_with fail
 refine (cS _).mono ?_
 rintro e2 w2 ⟨rfl,hb9⟩
 have qf9:=tf_keep hb9 qc qf
 replace kA:=tc_keep hb9 kA
 replace qc:=tc_keep hb9 qc
 replace B0:=b_trans B0 hb9
 clear qf
 have qf:=qf9
 clear qf9 hb9
 clear cS
 have hS:w.heap.size≤w2.heap.size:=B0.size
 have nA:w2.heap.size≠w.heap.size:=fun c=>by have:=tc_lt kA; omega
 have nQ:w2.heap.size≠w.heap.size+1:=fun c=>by have:=tc_lt qc; omega
 have s0:OS w (w.heap.size) (w.heap.size+1) w2.heap.size x0 x1 x2 0 0 0 (w2.alloc (Obj.cells #[.int .i64 0,.int .i64 0,.int .i64 0] 25)):=⟨b_alloc B0,tc_alloc kA,tc_alloc qc,tf_keep (b_alloc (Below.refl _ _)) qc qf,tc_new rfl,tf_new rfl⟩
 clear kA qc qf B0
 have kA:=s0.ka
 have kS:=s0.ks
 have kF:=s0.fs
 go_wp2_with fail
 generalize w2.alloc (Obj.cells #[.int .i64 0,.int .i64 0,.int .i64 0] 25)=u0 at *
 generalize w2.heap.size=S at *
 refine (cM _).mono ?_
 rintro e3 w3 ⟨rfl,hb9⟩
 replace s0:=os_keep s0 hb9
 clear hb9 kA kS kF cM
 have kA:=s0.ka
 have kS:=s0.ks
 have kF:=s0.fs
 go_wp2_with fail
 refine (cO _).mono ?_
 rintro e4 w4 ⟨rfl,hb9⟩
 replace s0:=os_keep s0 hb9
 clear hb9 kA kS kF
 have kA:=s0.ka
 have kS:=s0.ks
 have kF:=s0.fs
 go_wp2_with fail
 refine (r2 _ _ ?hG).mono ?_
 case hG=>simp [W2,WC,go_sem]
 rintro e5 w5 ⟨rfl,hb9⟩
 replace s0:=os_keep (os_keep s0 (b_alloc (o:=(Obj.cells #[.int .i64 mh,.int .u64 ml,.int .i64 dh,.int .u64 dl] 96)) (Below.refl _ _))) hb9
 clear hb9 kA kS kF r2
 have kS:=s0.ks
 have kF:=s0.fs
 have KK:=Lib.hid (os_put0 (v:=h) s0 nA nQ hS)
 clear s0
 go_wp2_with fail
 generalize w5.setCell ⟨S,0,none⟩ (.int .i64 h)=u1 at *
 have s0:=KK.out
 clear KK kS kF
 refine (cO _).mono ?_
 rintro e6 w6 ⟨rfl,hb9⟩
 replace s0:=os_keep s0 hb9
 clear hb9 cO
 have kA:=s0.ka
 have kS:=s0.ks
 have kF:=s0.fs
 go_wp2_with fail
 refine (r1 _ _ ?hG).mono ?_
 case hG=>simp [WC,go_sem]
 rintro e7 w7 ⟨rfl,hb9⟩
 replace s0:=os_keep (os_keep s0 (b_alloc (o:=(Obj.cells #[.int .i64 dh,.int .u64 dl] 96)) (Below.refl _ _))) hb9
 clear hb9 kA kS kF r1
 have kS:=s0.ks
 have kF:=s0.fs
 have KK:=Lib.hid (os_put1 (v:=v) s0 nA nQ hS)
 have kA:=tc_set (b1:=S) (o:=1) (v:=.int .i64 v) s0.ka nA
 have kS1:=tc_put1 (v:=v) kS
 clear s0
 go_wp2_with fail
 generalize w7.setCell ⟨S,1,none⟩ (.int .i64 v)=u2 at *
 have s0:=KK.out
 clear KK kS kF kA kS1
 refine (cA _).mono ?_
 rintro e8 w8 ⟨rfl,hb9⟩
 obtain ⟨B0,kA,qc,qf,kS,kF⟩:=os_keep s0 hb9
 clear hb9 cA s0 kA kS kF
 have B9:=b_set (p:=⟨w.heap.size+1,2,none⟩) (v:=.int .i64 y2) (b_set (p:=⟨w.heap.size+1,1,none⟩) (v:=.int .i64 y1) (b_set (p:=⟨w.heap.size+1,0,none⟩) (v:=.int .i64 y0) B0 (Nat.le_succ _)) (Nat.le_succ _)) (Nat.le_succ _)
 go_wp2
 exact bodyPost_ret (v:=.tuple #[tv y0 y1 y2,.int .i64 e]) (by simp [results,Tryz.results68,go_sem,qc]) rfl ⟨rfl,B9⟩
theorem tz_oz (a b x:Int):tz x (ne a) (ne b) 0=oz (ne a) (ne b) x∧te (ne a) (ne b) 0=oe (ne a) (ne b):=by
 unfold tz te oz oe ne
 by_cases ca:FitP a
 ·rw [if_pos ca]
  by_cases cb:FitP b
  ·rw [if_pos cb]
   exact ⟨rfl,rfl⟩
  ·rw [if_neg cb]
   exact ⟨rfl,rfl⟩
 ·rw [if_neg ca]
  exact ⟨rfl,rfl⟩
theorem on_mot_ok (x0 x1 x2 t:Int) (hx0:I64 x0) (hx1:I64 x1) (hx2:I64 x2) (ht:I64 t) (c:F3 x0 x1 x2) (ct:FitP t) (cd:FitP (t - x2)) (w:World) :
  Calls Tryz.prog 68 #[tv x0 x1 x2,.int .i64 t] w (RetV (.tuple #[tv (oz (ne (x0+mvh x1 (t - x2))) (ne (x1+mvs (t - x2))) (nz (x0+mvh x1 (t - x2)))) (oz (ne (x0+mvh x1 (t - x2))) (ne (x1+mvs (t - x2))) (nz (x1+mvs (t - x2)))) (oz (ne (x0+mvh x1 (t - x2))) (ne (x1+mvs (t - x2))) x2),.int .i64 (oe (ne (x0+mvh x1 (t - x2))) (ne (x1+mvs (t - x2))))]) w):=by
 have cS:∀ w,Calls Tryz.prog 93 #[.int .i64 t,.int .i64 x2] w (RetV (.tuple #[.int .i64 (t - x2),.int .i64 0]) w):=fun w=>by
  have h:=sub_fix t x2 ht.1 ht.2 hx2.1 hx2.2 w
  rwa [(gz_of ⟨ct,c.2.2⟩ _).1,(gz_of ⟨ct,c.2.2⟩ _).2,(nz_of cd).1,(nz_of cd).2] at h
 have hd:I64 (t - x2):=⟨by omega,by omega⟩
 generalize t - x2=d at *
 obtain ⟨f1,f2,f3,f4,f5,f6⟩:=far_fits c.2.1 cd
 have b1:=mvh_bd c.2.1 cd
 have b2:=mvs_bd cd
 have E1:evn (0+256*x1+d) (2 ^ (15:Int).toNat)=mvh x1 d:=by
  rw [show 0+256*x1+d=256*x1+d by omega]
  rfl
 have E2:evn (0+d) (2 ^ (7:Int).toNat)=mvs d:=by
  rw [show 0+d=d by omega]
  rfl
 have F1:evn (0+256*x1+d) 32768=mvh x1 d:=E1
 have F2:evn (0+d) 128=mvs d:=E2
 rw [F1] at f5
 rw [F2] at f6
 obtain ⟨mh,ml,m⟩:∃ h l,IsW h l (256*x1):=⟨_,_,IsW.mk' f1⟩
 obtain ⟨dh,dl,dw⟩:∃ h l,IsW h l d:=⟨_,_,IsW.mk' ⟨by omega,by omega⟩⟩
 have P:∀ {a b:Int},FitP a→I64 b→FitP b→∀ w,Calls Tryz.prog 106 #[.int .i64 a,.int .i64 b] w (RetV (.tuple #[.int .i64 (nz (a+b)),.int .i64 (ne (a+b))]) w):=fun {a b} fa hb fb w=>by
  have h:=add_fix a b (by omega) (by omega) hb.1 hb.2 w
  rwa [(gz_of ⟨fa,fb⟩ _).1,(gz_of ⟨fa,fb⟩ _).2] at h
 have cA:=fun w=>add3_vec_ok x0 x1 x2 (mvh x1 d) (mvs d) 0 _ _ _ _ _ _ hx0 hx1 hx2 ⟨by omega,by omega⟩ ⟨by omega,by omega⟩ (by decide) c ⟨⟨by omega,by omega⟩,⟨by omega,by omega⟩,by decide⟩
  (P c.1 ⟨by omega,by omega⟩ ⟨by omega,by omega⟩) (P c.2.1 ⟨by omega,by omega⟩ ⟨by omega,by omega⟩) (P c.2.2 (by decide) (by decide)) w
 rw [show x2+0=x2 by omega,(nz_of c.2.2).1,(nz_of c.2.2).2,(tz_oz _ _ _).1,(tz_oz _ _ _).1,(tz_oz _ _ _).1,(tz_oz _ _ 0).2] at cA
 exact on_mot_go x0 x1 x2 t d mh ml dh dl (mvh x1 d) (mvs d) _ _ _ _ hx0 hx1 hx2 ht c cS
  (fun w=>(mul_any 256 x1 (by decide) (by decide) hx1.1 hx1.2 w).mono fun _ _=>retW_det m)
  (fun w=>(of_any d hd.1 hd.2 w).mono fun _ _=>retW_det dw)
  (fun G w k=>by have h:=rounded_2 15 (256*x1) d m dw (by decide) (by decide) f2 f3 (by rw [E1]; exact f5) (by rw [E1]; exact ⟨by omega,by omega⟩) G w k; rwa [E1] at h)
  (fun G w k=>by have h:=rounded_1 7 d dw (by decide) (by decide) f4 (by rw [E2]; exact f6) (by rw [E2]; exact ⟨by omega,by omega⟩) G w k; rwa [E2] at h)
  cA w
theorem kept_mot (a0 a1 a2 b0 b1 b2:Int) (ha0:I64 a0) (ha1:I64 a1) (ha2:I64 a2) (hb0:I64 b0) (hb1:I64 b1) (hb2:I64 b2) (w:World) :
  Calls Tryz.prog 69 #[tv a0 a1 a2,tv b0 b1 b2] w (RetV (tv (clz a0 b0) (clz a1 b1) (clz a2 b2)) w):=by
 have cC:=clamp_vec a0 a1 a2 b0 b1 b2 ha0 ha1 ha2 hb0 hb1 hb2
 clear ha0 ha1 ha2 hb0 hb1 hb2
 generalize clz a0 b0=x0 at *
 generalize clz a1 b1=x1 at *
 generalize clz a2 b2=x2 at *
 have kA:TC (((w.alloc (Obj.cells #[.int .i64 a0,.int .i64 a1,.int .i64 a2] 25)).alloc (Obj.cells #[.int .i64 b0,.int .i64 b1,.int .i64 b2] 25)).alloc (Obj.cells #[.int .i64 0,.int .i64 0,.int .i64 0] 25)) w.heap.size a0 a1 a2:=tc_alloc (tc_alloc (tc_new rfl))
 have kB:TC (((w.alloc (Obj.cells #[.int .i64 a0,.int .i64 a1,.int .i64 a2] 25)).alloc (Obj.cells #[.int .i64 b0,.int .i64 b1,.int .i64 b2] 25)).alloc (Obj.cells #[.int .i64 0,.int .i64 0,.int .i64 0] 25)) (w.heap.size+1) b0 b1 b2:=tc_alloc (tc_new (by simp))
 have q0:TC (((w.alloc (Obj.cells #[.int .i64 a0,.int .i64 a1,.int .i64 a2] 25)).alloc (Obj.cells #[.int .i64 b0,.int .i64 b1,.int .i64 b2] 25)).alloc (Obj.cells #[.int .i64 0,.int .i64 0,.int .i64 0] 25)) (w.heap.size+1+1) 0 0 0:=tc_new (by simp)
 have B0:Below w.heap.size w (((w.alloc (Obj.cells #[.int .i64 a0,.int .i64 a1,.int .i64 a2] 25)).alloc (Obj.cells #[.int .i64 b0,.int .i64 b1,.int .i64 b2] 25)).alloc (Obj.cells #[.int .i64 0,.int .i64 0,.int .i64 0] 25)):=b_alloc (b_alloc (b_alloc (Below.refl _ _)))
 have f0:TF (((w.alloc (Obj.cells #[.int .i64 a0,.int .i64 a1,.int .i64 a2] 25)).alloc (Obj.cells #[.int .i64 b0,.int .i64 b1,.int .i64 b2] 25)).alloc (Obj.cells #[.int .i64 0,.int .i64 0,.int .i64 0] 25)) (w.heap.size+1+1):=tf_new (by simp)
 go_enter Tryz.func69,Tryz.ntmps69
 go_wp2_with fail
 refine (cC _).mono ?_
 rintro e w1 ⟨rfl,hb1⟩
 have q1:=tc_keep hb1 q0
 have f1:=tf_keep hb1 q0 f0
 have B2:=b_set (p:=⟨w.heap.size+1+1,2,none⟩) (v:=.int .i64 x2) (b_set (p:=⟨w.heap.size+1+1,1,none⟩) (v:=.int .i64 x1) (b_set (p:=⟨w.heap.size+1+1,0,none⟩) (v:=.int .i64 x0) (b_trans B0 hb1) (Nat.le_trans (Nat.le_succ _) (Nat.le_succ _))) (Nat.le_trans (Nat.le_succ _) (Nat.le_succ _))) (Nat.le_trans (Nat.le_succ _) (Nat.le_succ _))
 clear hb1 q0 f0 B0 cC kA kB
 go_wp2
 exact bodyPost_ret (v:=tv x0 x1 x2) (by simp [results,Tryz.results69,go_sem,q1]) rfl ⟨rfl,B2⟩
end Go.Proofs.YthnofhjgfhapiaaGreatDoor
namespace Go.Proofs.YthnofhjgfhapiaaGreatDoor
open Go.RowKit Go.Shelf
theorem evn30_bd {z:Int} (h:z.natAbs≤2785365088392105618523029504):-2594073385365405697≤evn z 1073741824∧evn z 1073741824≤2594073385365405697:=by
 unfold evn near
 split <;> omega
theorem rounded_go (h l hz lz q:Int) (hF:∀ w,Calls Tryz.prog 118 #[wv h l,.int .i64 30] w (RetV (.tuple #[wv hz lz,.int .i64 0]) w))
  (hI:∀ w,Calls Tryz.prog 119 #[wv hz lz] w (RetV (.tuple #[.int .i64 q,.int .i64 0]) w)) (iq:I64 q) (w:World) :
  Calls Tryz.prog 98 #[wv h l] w (RetV (.tuple #[.int .i64 (nz q),.int .i64 (ne q)]) w):=by
 have B0:Below w.heap.size w (w.alloc (Obj.cells #[.int .i64 h,.int .u64 l] 96)):=b_alloc (Below.refl _ _)
 go_enter Tryz.func98,Tryz.ntmps98
 go_wp2_with fail
 refine (hF _).mono ?_
 rintro e5 w5 ⟨rfl,hb5⟩
 replace B0:=b_alloc (o:=(Obj.cells #[.int .i64 hz,.int .u64 lz] 96)) (b_trans B0 hb5)
 clear hb5 hF
 go_wp2_with fail
 refine (hI _).mono ?_
 rintro e6 w6 ⟨rfl,hb6⟩
 replace B0:=b_trans B0 hb6
 clear hb6 hI
 by_cases c:FitP q
 ·have ea:=Lib.hid (fitb_yes c)
  have en:=Lib.hid (nz_of c)
  clear c
  go_wp2_with fail
  refine (fits_any q iq.1 iq.2 _).mono ?_
  rintro e7 w7 ⟨rfl,rfl⟩
  rw [ea.out]
  go_wp2
  go_ret2
  exact ⟨by rw [en.out.1,en.out.2]; rfl,B0⟩
 ·have ea:=Lib.hid (fitb_no c)
  have en:=Lib.hid (nz_no c)
  clear c
  go_wp2_with fail
  refine (fits_any q iq.1 iq.2 _).mono ?_
  rintro e7 w7 ⟨rfl,rfl⟩
  rw [ea.out]
  go_wp2
  go_ret2
  exact ⟨by rw [en.out.1,en.out.2]; rfl,B0⟩
theorem rounded_spr (z:Int) (h:z.natAbs≤2785365088392105618523029504) (w:World) :
  Calls Tryz.prog 98 #[wof z] w (RetV (.tuple #[.int .i64 (nz (evn z 1073741824)),.int .i64 (ne (evn z 1073741824))]) w):=by
 have b:=evn30_bd h
 have e1:(2:Int) ^ (30:Int).toNat=1073741824:=by decide
 exact rounded_go _ _ _ _ _ (fun w=>by have k:=half_any _ _ z 30 (IsW.mk' ⟨by omega,by omega⟩) (by decide) (by decide) w; rw [e1] at k; exact k.mono fun _ _=>retWE_det (IsW.mk' ⟨by omega,by omega⟩))
  (fun w=>by have k:=int_any _ _ (evn z 1073741824) (IsW.mk' ⟨by omega,by omega⟩) w; rwa [(iz_of ⟨by omega,by omega⟩).1,(iz_of ⟨by omega,by omega⟩).2] at k) ⟨by omega,by omega⟩ w
theorem ix_wide (f g:Nat→Int) {k:Nat} (hk:k<6) (w:World):(Instr.index 156 (srv f g) (.int .i64 k)).run Tryz.prog w=.ok (wv (f k) (g k)) w:=by
 rcases (show k=0∨k=1∨k=2∨k=3∨k=4∨k=5 by omega) with rfl | rfl | rfl | rfl | rfl | rfl
 all_goals kernel_rfl
theorem rawn_bd {m:Nat→Int} (h:F6 m) (k:Nat):(rawn m k).natAbs≤2785365088392105618523029504:=by
 have B:∀ i j,(rwn m i j).natAbs≤2785365088392105618523029504:=fun i j=>by
  have:=smT_bd (tmn_bd h i j) (List.range 9)
  simpa [rwn] using this
 unfold rawn
 split <;> exact B _ _
def qun (m:Nat→Int) (k:Nat):Int:=evn (rawn m k) 1073741824
def onz (m:Nat→Int) (d0 d1 d2:Int):Nat→Int:=if F6 m∧F3 d0 d1 d2 then (if F6 (qun m) then sumz (qun m) (dgm d0 d1 d2) else fun _=>0) else fun _=>0
def one (m:Nat→Int) (d0 d1 d2:Int):Int:=if F6 m∧F3 d0 d1 d2 then (if F6 (qun m) then sume (qun m) (dgm d0 d1 d2) else 3) else 1
theorem on_bad {m:Nat→Int} {d0 d1 d2:Int} (h:¬ (F6 m∧F3 d0 d1 d2)):onz m d0 d1 d2=(fun _=>0)∧one m d0 d1 d2=1:=⟨if_neg h,if_neg h⟩
theorem on_far {m:Nat→Int} {d0 d1 d2:Int} (h:F6 m∧F3 d0 d1 d2) (k:¬ F6 (qun m)):onz m d0 d1 d2=(fun _=>0)∧one m d0 d1 d2=3:=⟨(if_pos h).trans (if_neg k),(if_pos h).trans (if_neg k)⟩
theorem on_good {m:Nat→Int} {d0 d1 d2:Int} (h:F6 m∧F3 d0 d1 d2) (k:F6 (qun m)):onz m d0 d1 d2=sumz (qun m) (dgm d0 d1 d2)∧one m d0 d1 d2=sume (qun m) (dgm d0 d1 d2):=⟨(if_pos h).trans (if_pos k),(if_pos h).trans (if_pos k)⟩
structure ON (W:World) (A B R:Nat) (m:Nat→Int) (d0 d1 d2:Int) (U:World):Prop where
 b:Below W.heap.size W U
 a:SC U A m
 d:TC U B d0 d1 d2
 r:SC U R (fun _=>0)
 rf:SF U R
 pl:PL U
theorem on_keep {W U U':World} {A B R:Nat} {m:Nat→Int} {d0 d1 d2:Int} (h:ON W A B R m d0 d1 d2 U) (hb:Below U.heap.size U U'):ON W A B R m d0 d1 d2 U' :=
 ⟨b_trans h.b hb,sc_keep hb h.a,tc_keep hb h.d,sc_keep hb h.r,sf_keep hb h.r h.rf,pl_keep hb h.pl⟩
structure OQ (W:World) (A B R Q:Nat) (m:Nat→Int) (d0 d1 d2:Int) (q:Nat→Int) (k:Nat) (U:World):Prop where
 o:ON W A B R m d0 d1 d2 U
 q:SC U Q (fun i=>if i<k then q i else 0)
 f:SF U Q
theorem oq_keep {W U U':World} {A B R Q:Nat} {m:Nat→Int} {d0 d1 d2:Int} {q:Nat→Int} {k:Nat} (h:OQ W A B R Q m d0 d1 d2 q k U) (hb:Below U.heap.size U U'):OQ W A B R Q m d0 d1 d2 q k U' :=
 ⟨on_keep h.o hb,sc_keep hb h.q,sf_keep hb h.q h.f⟩
theorem oq_put {W U:World} {A B R Q:Nat} {m:Nat→Int} {d0 d1 d2:Int} {q:Nat→Int} {k:Nat} (h:OQ W A B R Q m d0 d1 d2 q k U) (hk:k<6) (z:W.heap.size≤Q) (z0:0<Q) (qa:Q≠A) (qb:Q≠B) (qr:Q≠R) :
  OQ W A B R Q m d0 d1 d2 q (k+1) (U.setCell ⟨Q,k,none⟩ (.int .i64 (q k))):=by
 refine ⟨⟨b_set h.o.b z,sc_set h.o.a qa,tc_set h.o.d qb,sc_set h.o.r qr,sf_set h.o.rf,pl_put h.o.pl z0⟩,?_,sf_set h.f⟩
 intro i hi
 by_cases e:i=k
 ·subst e
  rw [World.cell?_setCell_same' _ _ _ (by rw [h.q i hi]; rfl)]
  dsimp only
  rw [if_pos (by omega)]
 ·rw [World.cell?_setCell_other _ _ _ _ (by intro c; simp at c <;> omega)]
  rw [h.q i hi]
  dsimp only
  by_cases d:i<k
  ·rw [if_pos d,if_pos (by omega)]
  ·rw [if_neg d,if_neg (by omega)]
theorem on_spr_no (m:Nat→Int) (d0 d1 d2:Int) (hm:I6 m) (ca:¬ F6 m) (w:World) (hl:ML w) (hp:PL w) :
  Calls Tryz.prog 70 #[sv m,tv d0 d1 d2] w (RetV (.tuple #[sv (onz m d0 d1 d2),.int .i64 (one m d0 d1 d2)]) w):=by
 have eq:=Lib.hid (on_bad (m:=m) (d0:=d0) (d1:=d1) (d2:=d2) (fun h=>ca h.1))
 have CA:=Lib.hid ca
 clear ca
 have z1:=ml_lt hl
 have zp:=pl_lt hp
 have s0:ON w w.heap.size (w.heap.size+1) (w.heap.size+1+1) m d0 d1 d2 (((w.alloc (Obj.cells #[.int .i64 (m 0),.int .i64 (m 1),.int .i64 (m 2),.int .i64 (m 3),.int .i64 (m 4),.int .i64 (m 5)] 42)).alloc (Obj.cells #[.int .i64 d0,.int .i64 d1,.int .i64 d2] 25)).alloc (Obj.cells #[.int .i64 0,.int .i64 0,.int .i64 0,.int .i64 0,.int .i64 0,.int .i64 0] 42)):=⟨b_alloc (b_alloc (b_alloc (Below.refl _ _))),sc_alloc (sc_alloc (sc_new (w:=w) (m:=m) (t:=42) rfl)),tc_alloc (tc_new (by simp)),sc_new (m:=fun _=>0) (by simp),sf_new (by simp),pl_keep (b_alloc (b_alloc (b_alloc (Below.refl _ _)))) hp⟩
 replace hl:=ml_keep (b_alloc (o:=(Obj.cells #[.int .i64 0,.int .i64 0,.int .i64 0,.int .i64 0,.int .i64 0,.int .i64 0] 42)) (b_alloc (o:=(Obj.cells #[.int .i64 d0,.int .i64 d1,.int .i64 d2] 25)) (b_alloc (o:=(Obj.cells #[.int .i64 (m 0),.int .i64 (m 1),.int .i64 (m 2),.int .i64 (m 3),.int .i64 (m 4),.int .i64 (m 5)] 42)) (Below.refl _ _)))) hl
 clear hp
 have l6:=sc_six s0.a
 go_enter Tryz.func70,Tryz.ntmps70
 go_wp2_with fail
 refine (raw_bad m hm CA.out _ hl s0.pl).mono ?_
 rintro e1 w1 ⟨rfl,hb9⟩
 replace s0:=on_keep s0 hb9
 clear hb9 l6 hl
 replace s0:=on_keep s0 (b_alloc (o:=(Obj.cells #[.int .i64 0,.int .u64 0,.int .i64 0,.int .u64 0,.int .i64 0,.int .u64 0,.int .i64 0,.int .u64 0,.int .i64 0,.int .u64 0,.int .i64 0,.int .u64 0] 156)) (Below.refl _ _))
 have r6:=sc_six s0.r
 have f6:=sf_six s0.rf
 have B9:=s0.b
 clear s0
 go_wp2
 obtain ⟨r0,r1,r2,r3,r4,r5⟩:=r6
 refine bodyPost_ret (v:=.tuple #[sv (fun _=>0),.int .i64 1]) (by simp [results,Tryz.results70,go_sem,r0,r1,r2,r3,r4,r5]) rfl ⟨by rw [eq.out.1,eq.out.2],?_⟩
 exact bb_set B9 (by omega)
theorem on_spr_add (m:Nat→Int) (d0 d1 d2:Int) (hm:I6 m) (hd0:I64 d0) (hd1:I64 d1) (hd2:I64 d2) (ca:F6 m) (cb:¬ F3 d0 d1 d2) (w:World) (hl:ML w) (hp:PL w) :
  Calls Tryz.prog 70 #[sv m,tv d0 d1 d2] w (RetV (.tuple #[sv (onz m d0 d1 d2),.int .i64 (one m d0 d1 d2)]) w):=by
 have eq:=Lib.hid (on_bad (m:=m) (d0:=d0) (d1:=d1) (d2:=d2) (fun h=>cb h.2))
 have CA:=Lib.hid ca
 have eb:=Lib.hid (f3b_no cb)
 clear ca cb
 have z1:=ml_lt hl
 have zp:=pl_lt hp
 have s0:ON w w.heap.size (w.heap.size+1) (w.heap.size+1+1) m d0 d1 d2 (((w.alloc (Obj.cells #[.int .i64 (m 0),.int .i64 (m 1),.int .i64 (m 2),.int .i64 (m 3),.int .i64 (m 4),.int .i64 (m 5)] 42)).alloc (Obj.cells #[.int .i64 d0,.int .i64 d1,.int .i64 d2] 25)).alloc (Obj.cells #[.int .i64 0,.int .i64 0,.int .i64 0,.int .i64 0,.int .i64 0,.int .i64 0] 42)):=⟨b_alloc (b_alloc (b_alloc (Below.refl _ _))),sc_alloc (sc_alloc (sc_new (w:=w) (m:=m) (t:=42) rfl)),tc_alloc (tc_new (by simp)),sc_new (m:=fun _=>0) (by simp),sf_new (by simp),pl_keep (b_alloc (b_alloc (b_alloc (Below.refl _ _)))) hp⟩
 replace hl:=ml_keep (b_alloc (o:=(Obj.cells #[.int .i64 0,.int .i64 0,.int .i64 0,.int .i64 0,.int .i64 0,.int .i64 0] 42)) (b_alloc (o:=(Obj.cells #[.int .i64 d0,.int .i64 d1,.int .i64 d2] 25)) (b_alloc (o:=(Obj.cells #[.int .i64 (m 0),.int .i64 (m 1),.int .i64 (m 2),.int .i64 (m 3),.int .i64 (m 4),.int .i64 (m 5)] 42)) (Below.refl _ _)))) hl
 clear hp
 have l6:=sc_six s0.a
 go_enter Tryz.func70,Tryz.ntmps70
 go_wp2_with fail
 refine (raw_ok m hm CA.out _ hl s0.pl).mono ?_
 rintro e1 w1 ⟨rfl,hb9⟩
 replace s0:=on_keep s0 hb9
 clear hb9 l6 hl
 generalize hin (rawn m)=f at *
 generalize lon (rawn m)=g at *
 replace s0:=on_keep s0 (b_alloc (o:=(Obj.cells #[.int .i64 (f 0),.int .u64 (g 0),.int .i64 (f 1),.int .u64 (g 1),.int .i64 (f 2),.int .u64 (g 2),.int .i64 (f 3),.int .u64 (g 3),.int .i64 (f 4),.int .u64 (g 4),.int .i64 (f 5),.int .u64 (g 5)] 156)) (Below.refl _ _))
 have l3:=s0.d
 go_wp2_with fail
 refine (fits3_vec d0 d1 d2 hd0 hd1 hd2 _).mono ?_
 rintro e2 w2 ⟨rfl,hb9⟩
 rw [eb.out]
 replace s0:=on_keep s0 hb9
 clear hb9 l3
 have r6:=sc_six s0.r
 have f6:=sf_six s0.rf
 have B9:=s0.b
 clear s0
 go_wp2
 obtain ⟨r0,r1,r2,r3,r4,r5⟩:=r6
 refine bodyPost_ret (v:=.tuple #[sv (fun _=>0),.int .i64 1]) (by simp [results,Tryz.results70,go_sem,r0,r1,r2,r3,r4,r5]) rfl ⟨by rw [eq.out.1,eq.out.2],?_⟩
 exact bb_set B9 (by omega)
theorem dgm_i6 {x y z:Int} (hx:I64 x) (hy:I64 y) (hz:I64 z):I6 (dgm x y z):=six (P:=fun i=>I64 (dgm x y z i)) hx (show I64 0 by decide) (show I64 0 by decide) hy (show I64 0 by decide) hz
theorem on_spr_go (m:Nat→Int) (d0 d1 d2:Int) (hm:I6 m) (hd0:I64 d0) (hd1:I64 d1) (hd2:I64 d2) (ca:F6 m) (cb:F3 d0 d1 d2) (w:World) (hl:ML w) (hp:PL w) :
  Calls Tryz.prog 70 #[sv m,tv d0 d1 d2] w (RetV (.tuple #[sv (onz m d0 d1 d2),.int .i64 (one m d0 d1 d2)]) w):=by
 have AB:=Lib.hid (And.intro ca cb)
 have CA:=Lib.hid ca
 have eb:=Lib.hid (f3b_yes cb)
 clear ca cb
 have z1:=ml_lt hl
 have zp:=pl_lt hp
 have s0:ON w w.heap.size (w.heap.size+1) (w.heap.size+1+1) m d0 d1 d2 (((w.alloc (Obj.cells #[.int .i64 (m 0),.int .i64 (m 1),.int .i64 (m 2),.int .i64 (m 3),.int .i64 (m 4),.int .i64 (m 5)] 42)).alloc (Obj.cells #[.int .i64 d0,.int .i64 d1,.int .i64 d2] 25)).alloc (Obj.cells #[.int .i64 0,.int .i64 0,.int .i64 0,.int .i64 0,.int .i64 0,.int .i64 0] 42)):=⟨b_alloc (b_alloc (b_alloc (Below.refl _ _))),sc_alloc (sc_alloc (sc_new (w:=w) (m:=m) (t:=42) rfl)),tc_alloc (tc_new (by simp)),sc_new (m:=fun _=>0) (by simp),sf_new (by simp),pl_keep (b_alloc (b_alloc (b_alloc (Below.refl _ _)))) hp⟩
 replace hl:=ml_keep (b_alloc (o:=(Obj.cells #[.int .i64 0,.int .i64 0,.int .i64 0,.int .i64 0,.int .i64 0,.int .i64 0] 42)) (b_alloc (o:=(Obj.cells #[.int .i64 d0,.int .i64 d1,.int .i64 d2] 25)) (b_alloc (o:=(Obj.cells #[.int .i64 (m 0),.int .i64 (m 1),.int .i64 (m 2),.int .i64 (m 3),.int .i64 (m 4),.int .i64 (m 5)] 42)) (Below.refl _ _)))) hl
 clear hp
 have l6:=sc_six s0.a
 go_enter Tryz.func70,Tryz.ntmps70
 go_wp2_with fail
 refine (raw_ok m hm CA.out _ hl s0.pl).mono ?_
 rintro e1 w1 ⟨rfl,hb9⟩
 replace s0:=on_keep s0 hb9
 clear hb9 l6 hl
 have hz:∀ k,k<6→∀ w,Calls Tryz.prog 98 #[wv (hin (rawn m) k) (lon (rawn m) k)] w (RetV (.tuple #[.int .i64 (nz (qun m k)),.int .i64 (ne (qun m k))]) w):=fun k _ w=>rounded_spr (rawn m k) (rawn_bd CA.out k) w
 have IX:=fun (k:Nat) (hk:k<6)=>ix_wide (hin (rawn m)) (lon (rawn m)) hk
 generalize hin (rawn m)=f at *
 generalize lon (rawn m)=g at *
 have kX:YC (w1.alloc (Obj.cells #[.int .i64 (f 0),.int .u64 (g 0),.int .i64 (f 1),.int .u64 (g 1),.int .i64 (f 2),.int .u64 (g 2),.int .i64 (f 3),.int .u64 (g 3),.int .i64 (f 4),.int .u64 (g 4),.int .i64 (f 5),.int .u64 (g 5)] 156)) w1.heap.size f g:=yc_of (by simp [YC12,go_sem])
 replace s0:=on_keep s0 (b_alloc (o:=(Obj.cells #[.int .i64 (f 0),.int .u64 (g 0),.int .i64 (f 1),.int .u64 (g 1),.int .i64 (f 2),.int .u64 (g 2),.int .i64 (f 3),.int .u64 (g 3),.int .i64 (f 4),.int .u64 (g 4),.int .i64 (f 5),.int .u64 (g 5)] 156)) (Below.refl _ _))
 have l3:=s0.d
 go_wp2_with fail
 refine (fits3_vec d0 d1 d2 hd0 hd1 hd2 _).mono ?_
 rintro e2 w2 ⟨rfl,hb9⟩
 rw [eb.out]
 replace s0:=on_keep s0 hb9
 replace kX:=yc_keep hb9 kX
 clear hb9 l3
 generalize w1.heap.size=X at *
 have zr:=sc_lt s0.r
 have z2:=s0.b.size
 have j0:OQ w w.heap.size (w.heap.size+1) (w.heap.size+1+1) w2.heap.size m d0 d1 d2 (qun m) 0 (w2.alloc (Obj.cells #[.int .i64 0,.int .i64 0,.int .i64 0,.int .i64 0,.int .i64 0,.int .i64 0] 42)):=⟨on_keep s0 (b_alloc (Below.refl _ _)),by rw [show (fun i=>if i<0 then qun m i else 0)=(fun _=>0) by funext i; rw [if_neg (Nat.not_lt_zero i)]]; exact sc_new (m:=fun _=>0) rfl,sf_new rfl⟩
 have x12:=yc_12 (yc_keep (b_alloc (o:=(Obj.cells #[.int .i64 0,.int .i64 0,.int .i64 0,.int .i64 0,.int .i64 0,.int .i64 0] 42)) (Below.refl _ _)) kX)
 clear kX s0
 replace j0:=Lib.hid j0
 go_wp2
 generalize w2.heap.size=Q at *
 clear x12
 go_loopw [27] (fun iv wr=>∃ k:Nat,k≤6∧iv=.int .i64 k∧Hid (OQ w w.heap.size (w.heap.size+1) (w.heap.size+1+1) Q m d0 d1 d2 (qun m) k wr)∧Hid (∀ i,i<k→FitP (qun m i))) (fun iv _=>6 - (intOf iv).toNat)
 case atStart=>exact ⟨0,by decide,rfl,j0,Lib.hid (fun i hi=>absurd hi (by omega))⟩
 case round =>
  obtain ⟨k,hk,rfl,hj,hq⟩:=hrel
  clear j0
  by_cases c:k=6
  ·subst c
   have FQ:=Lib.hid hq.out
   have eq:=Lib.hid (on_good (m:=m) (d0:=d0) (d1:=d1) (d2:=d2) AB.out hq.out)
   have iq:I6 (qun m):=fun i hi=>by have:=hq.out i hi; exact ⟨by omega,by omega⟩
   have id:I6 (dgm d0 d1 d2):=dgm_i6 hd0 hd1 hd2
   have kQ:SC wr Q (qun m):=fun i hi=>by have:=hj.out.q i hi; dsimp only at this; rwa [if_pos hi] at this
   have s0:=hj.out.o
   have cD:=fun w h=>diag_any d0 d1 d2 w h
   have cS:=add_sym (qun m) (dgm d0 d1 d2) iq id
   clear hj hq hd0 hd1 hd2 hz IX iq id
   have r6:=sc_six s0.r
   have f6:=sf_six s0.rf
   go_wp2
   refine region_late [44,45,46,47,48,49] 5 (fun i_ X_ U_=>match i_ with | 0=>X_=sv (qun m) | 1=>X_=tv d0 d1 d2 | 2=>X_=sv (dgm d0 d1 d2) | 3=>X_=.tuple #[sv (sumz (qun m) (dgm d0 d1 d2)),.int .i64 (sume (qun m) (dgm d0 d1 d2))] | 4=>X_=sv (sumz (qun m) (dgm d0 d1 d2)) | 5=>X_=.int .i64 (sume (qun m) (dgm d0 d1 d2)) | _=>True) (fun i_=>false) (by kernel_rfl) (by kernel_rfl) (by kernel_rfl) (by kernel_rfl) ?_ (fun i x w hi ha h=>by cases ha) ?_ ?_ ?_
   ·refine swp (upS (upS (upS (upS (upS (upS up0 ?_) ?_) ?_) ?_) ?_) ?_)
    all_goals exact fun _ _ _ h _=>h
   ·refine upS (upS (upS (upS (upS (upS up0 ?_) ?_) ?_) ?_) ?_) ?_
    all_goals intro v f w' hb hv hB hd
    ·have b8:f.tmps[8]?=some (.pointer (some ⟨Q,0,none⟩)):=(hb 8 (by decide)).trans rfl
     clear hb hv hd
     have c:=sc_six (sc_keep hB kQ)
     refine wpOp_step rfl fun K hK=>?_
     go_simp
     exact hK _ _ ⟨_,rfl,Below.refl _ _,rfl,fun h=>absurd h (by decide)⟩
    ·have b3:f.tmps[3]?=some (.pointer (some ⟨w.heap.size+1,0,none⟩)):=(hb 3 (by decide)).trans rfl
     clear hb hv hd
     have c:=tc_keep hB s0.d
     refine wpOp_step rfl fun K hK=>?_
     go_simp
     exact hK _ _ ⟨_,rfl,Below.refl _ _,rfl,fun h=>absurd h (by decide)⟩
    ·have d1:=got (hv 1 45 rfl) (hd 1 (by kernel_rfl))
     clear hb hv hd
     refine wpOp_call rfl Tryz.call66 (args1 (eval_tmp d1)) (cD _ (pl_keep hB s0.pl)) ?_
     rintro e5 w5 ⟨rfl,hb5⟩
     exact ⟨_,rfl,_,rfl,hb5,rfl,fun h=>absurd h (by decide)⟩
    ·have d0:=got (hv 0 44 rfl) (hd 0 (by kernel_rfl))
     have d2:=got (hv 2 46 rfl) (hd 2 (by kernel_rfl))
     clear hb hv hd
     refine wpOp_call rfl Tryz.call99 (args2 (eval_tmp d0) (eval_tmp d2)) (cS _) ?_
     rintro e5 w5 ⟨rfl,hb5⟩
     exact ⟨_,rfl,_,rfl,hb5,rfl,fun h=>absurd h (by decide)⟩
    ·have d3:=got (hv 3 47 rfl) (hd 3 (by kernel_rfl))
     clear hb hv hd
     refine wpOp_step rfl fun K hK=>?_
     go_simp
     exact hK _ _ ⟨_,rfl,Below.refl _ _,rfl,fun h=>absurd h (by decide)⟩
    ·have d3:=got (hv 3 47 rfl) (hd 3 (by kernel_rfl))
     clear hb hv hd
     refine wpOp_step rfl fun K hK=>?_
     go_simp
     exact hK _ _ ⟨_,rfl,Below.refl _ _,rfl,fun h=>absurd h (by decide)⟩
   ·intro v w' hB hF hD
    have F0:v 0=_:=hF 0 (by simp)
    have F1:v 1=_:=hF 1 (by simp)
    have F2:v 2=_:=hF 2 (by simp)
    have F3:v 3=_:=hF 3 (by simp)
    have F4:v 4=_:=hF 4 (by simp)
    have F5:v 5=_:=hF 5 (by simp)
    clear hF
    simp only [frOf,frGo,Nat.zero_add,Nat.reduceAdd,F0,F1,F2,F3,F4,F5]
    replace s0:=on_keep s0 hB
    clear F0 F1 F2 F3 F4 F5 hD hB cD cS kQ r6 f6
    have r6:=sc_six s0.r
    have f6:=sf_six s0.rf
    have B9:=s0.b
    clear s0
    generalize sumz (qun m) (dgm d0 d1 d2)=x at *
    generalize sume (qun m) (dgm d0 d1 d2)=e at *
    go_wp2
    obtain ⟨r0,r1,r2,r3,r4,r5⟩:=r6
    refine bodyPost_ret (v:=.tuple #[sv x,.int .i64 e]) (by simp [results,Tryz.results70,go_sem,r0,r1,r2,r3,r4,r5]) rfl ⟨by rw [eq.out.1,eq.out.2],?_⟩
    exact bb_set B9 (by omega)
   ·intro v w' hB hF hD
    have F0:v 0=_:=hF 0 (by simp) (by decide)
    have F1:v 1=_:=hF 1 (by simp) (by decide)
    have F2:v 2=_:=hF 2 (by simp) (by decide)
    have F3:v 3=_:=hF 3 (by simp) (by decide)
    have F4:v 4=_:=hF 4 (by simp) (by decide)
    clear hF
    simp only [frOf,frGo,Nat.zero_add,Nat.reduceAdd,F0,F1,F2,F3,F4]
    replace s0:=on_keep s0 hB
    clear F0 F1 F2 F3 F4 hD hB cD cS kQ r6 f6
    have r6:=sc_six s0.r
    have f6:=sf_six s0.rf
    have B9:=s0.b
    clear s0
    generalize sumz (qun m) (dgm d0 d1 d2)=x at *
    generalize sume (qun m) (dgm d0 d1 d2)=e at *
    refine wpOp_step rfl (fun K hK=>?_)
    go_simp
    refine hK _ _ ?_
    clear hK K
    refine wpOp_step rfl (fun K hK=>?_)
    go_simp
    refine hK _ _ ?_
    clear hK K
    go_wp2
    obtain ⟨r0,r1,r2,r3,r4,r5⟩:=r6
    refine bodyPost_ret (v:=.tuple #[sv x,.int .i64 e]) (by simp [results,Tryz.results70,go_sem,r0,r1,r2,r3,r4,r5]) rfl ⟨by rw [eq.out.1,eq.out.2],?_⟩
    exact bb_set B9 (by omega)
  replace hk:k<6:=by omega
  clear c
  have hk0:(0:Int)≤(k:Int):=by omega
  have hk6:(k:Int)<6:=by omega
  have ix:=IX k hk
  have hzk:=hz k hk
  go_wp2_with fail
  refine (hzk _).mono ?_
  rintro e5 w5 ⟨rfl,hb9⟩
  have j1:=oq_keep (oq_keep hj.out (b_alloc (o:=(Obj.cells #[.int .i64 (f k),.int .u64 (g k)] 96)) (Below.refl _ _))) hb9
  clear hb9 hj ix IX hz hzk
  by_cases cq:FitP (qun m k)
  ·have hN:=nz_of cq
   rw [hN.1,hN.2]
   have CQ:=Lib.hid cq
   clear cq hN
   have q1:=j1.q k hk
   have q2:=j1.f k hk
   have j2:=Lib.hid (oq_put j1 hk (by omega) (by omega) (by omega) (by omega) (by omega))
   clear j1
   generalize hqk:qun m k=x at *
   replace hqk:=Lib.hid hqk
   go_wp2
   go_roundw
   case rel=>exact ⟨k+1,hk,by go_num,j2,Lib.hid (less_succ hq.out (by rw [hqk.out]; exact CQ.out))⟩
   case measure=>simp [intOf]; omega
  ·have hN:=nz_no cq
   rw [hN.1,hN.2]
   have eq:=Lib.hid (on_far (m:=m) (d0:=d0) (d1:=d1) (d2:=d2) AB.out (fun h=>cq (h k hk)))
   clear cq hN hq hk0 hk6
   have s0:=j1.o
   clear j1
   have r6:=sc_six s0.r
   have f6:=sf_six s0.rf
   have B9:=s0.b
   clear s0
   go_wp2
   obtain ⟨r0,r1,r2,r3,r4,r5⟩:=r6
   refine bodyPost_ret (v:=.tuple #[sv (fun _=>0),.int .i64 3]) (by simp [results,Tryz.results70,go_sem,r0,r1,r2,r3,r4,r5]) rfl ⟨by rw [eq.out.1,eq.out.2],?_⟩
   exact bb_set B9 (by omega)
theorem on_spr (m:Nat→Int) (d0 d1 d2:Int) (hm:I6 m) (hd0:I64 d0) (hd1:I64 d1) (hd2:I64 d2) (w:World) (hl:ML w) (hp:PL w) :
  Calls Tryz.prog 70 #[sv m,tv d0 d1 d2] w (RetV (.tuple #[sv (onz m d0 d1 d2),.int .i64 (one m d0 d1 d2)]) w):=by
 by_cases ca:F6 m
 ·by_cases cb:F3 d0 d1 d2
  ·exact on_spr_go m d0 d1 d2 hm hd0 hd1 hd2 ca cb w hl hp
  ·exact on_spr_add m d0 d1 d2 hm hd0 hd1 hd2 ca cb w hl hp
 ·exact on_spr_no m d0 d1 d2 hm ca w hl hp
end Go.Proofs.YthnofhjgfhapiaaGreatDoor

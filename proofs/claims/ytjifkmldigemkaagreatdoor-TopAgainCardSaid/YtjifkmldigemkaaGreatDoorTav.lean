import Derived.Test.YtjifkmldigemkaaGreatDoorTag
import Derived.Test.YtjifkmldigemkaaGreatDoorTad
import Derived.Test.YtjifkmldigemkaaGreatDoorTae
import Derived.Test.YtjifkmldigemkaaGreatDoorTau
import Derived.Test.YtjifkmldigemkaaGreatDoorTah
import Derived.Test.YtjifkmldigemkaaGreatDoorTab
import Derived.Test.YtjifkmldigemkaaGreatDoorTap
import Derived.Test.YtjifkmldigemkaaGreatDoorTaa
import Derived.RangeFuncNested
import Derived.RangeFuncLeaves
import Derived.RangeFuncCalls
import Derived.Shelf.Abstract
import Derived.WalkKit
import Derived.OwnWalkIn
import Derived.TacticsInMore
import Derived.LoopNIn
import Derived.LoopIn
import Derived.Test.YtjifkmldigemkaaGreatDoorTaf
set_option maxHeartbeats 4000000
set_option maxRecDepth 100000
namespace Go.Proofs.YtjifkmldigemkaaGreatDoor
open Go.RowKit Go.Shelf
abbrev W2 (w:World) (b:Nat) (h l h' l':Int):Prop:=WC w b h l∧w.cell? ⟨b,2,none⟩=some (.int .i64 h')∧w.cell? ⟨b,3,none⟩=some (.int .u64 l')
theorem w2_keep {w w':World} (hb:Below w.heap.size w w') {b:Nat} {h l h' l':Int} (c:W2 w b h l h' l'):W2 w' b h l h' l':=⟨wc_keep hb c.1,cell_keep hb c.2.1,cell_keep hb c.2.2⟩
theorem w2_set {w:World} {b b1 o:Nat} {h l h' l':Int} {v:Value} (c:W2 w b h l h' l') (hb:b1≠b):W2 (w.setCell ⟨b1,o,none⟩ v) b h l h' l' :=
 ⟨wc_set c.1 hb,by rw [World.cell?_setCell_far _ _ _ _ hb]; exact c.2.1,by rw [World.cell?_setCell_far _ _ _ _ hb]; exact c.2.2⟩
theorem rounded_2_go (n h0 l0 sh0 sl0 h1 l1 sh1 sl1 hz lz z:Int)
  (o0:∀ w,Calls Tryz.prog 127 #[.int .i64 0] w (RetV (wv 0 0) w))
  (p0:∀ w,Calls Tryz.prog 176 #[wv 0 0,wv h0 l0] w (RetV (.tuple #[wv sh0 sl0,.int .i64 0]) w))
  (p1:∀ w,Calls Tryz.prog 176 #[wv sh0 sl0,wv h1 l1] w (RetV (.tuple #[wv sh1 sl1,.int .i64 0]) w))
  (hF:∀ w,Calls Tryz.prog 153 #[wv sh1 sl1,.int .i64 n] w (RetV (.tuple #[wv hz lz,.int .i64 0]) w))
  (hI:∀ w,Calls Tryz.prog 154 #[wv hz lz] w (RetV (.tuple #[.int .i64 z,.int .i64 0]) w)) (G:Nat) (w:World) (kG:W2 w G h0 l0 h1 l1) :
  Calls Tryz.prog 125 #[.int .i64 n,.slice (some ⟨G,0,none⟩) 2 2] w (RetV (.int .i64 z) w):=by
 go_enter Tryz.func125,Tryz.ntmps125
 go_wp2_with fail
 refine (o0 _).mono ?_
 rintro e1 w1 ⟨rfl,hb1⟩
 replace kG:=w2_keep hb1 kG
 have nG:w1.heap.size≠G:=fun c=>by have:=wc_lt kG.1; omega
 have hS:w.heap.size≤w1.heap.size:=hb1.size
 have B0:=b_alloc (o:=(Obj.cells #[.int .i64 0,.int .u64 0] 187)) hb1
 have kS:WC (w1.alloc (Obj.cells #[.int .i64 0,.int .u64 0] 187)) w1.heap.size 0 0:=by simp [WC,go_sem]
 have fS:WF (w1.alloc (Obj.cells #[.int .i64 0,.int .u64 0] 187)) w1.heap.size:=by simp [WF,go_sem]
 replace kG:=w2_keep (b_alloc (o:=(Obj.cells #[.int .i64 0,.int .u64 0] 187)) (Below.refl _ _)) kG
 clear hb1 o0
 go_wp2
 generalize w1.alloc (Obj.cells #[.int .i64 0,.int .u64 0] 187)=u0 at *
 generalize w1.heap.size=S at *
 refine wp_loop_rounds 3 ?_
 rw [rounds_succ]
 have al:=b_alloc (o:=(Obj.cells #[.int .i64 h0,.int .u64 l0] 187)) (Below.refl u0.heap.size u0)
 have kT:WC (u0.alloc (Obj.cells #[.int .i64 h0,.int .u64 l0] 187)) u0.heap.size h0 l0:=by simp [WC,go_sem]
 have kS1:=wc_keep al kS
 have fS1:=wf_keep al kS fS
 have kG1:=w2_keep al kG
 replace B0:=b_trans B0 al
 clear al fS
 go_wp2_with fail
 refine (p0 _).mono ?_
 rintro e0 v0 ⟨rfl,hb9⟩
 have fS:=wf_keep hb9 kS1 fS1
 clear kS kG
 have kS:=wc_keep hb9 kS1
 have kG:=w2_keep hb9 kG1
 replace B0:=b_trans B0 hb9
 clear hb9 kT kS1 fS1 kG1 p0
 have KK:=Lib.hid (And.intro (b_set (p:=⟨S,1,none⟩) (v:=.int .u64 sl0) (b_set (p:=⟨S,0,none⟩) (v:=.int .i64 sh0) B0 hS) hS) (And.intro (wc_mine (h':=sh0) (l':=sl0) kS) (And.intro (wf_set (b1:=S) (o:=1) (v:=.int .u64 sl0) (wf_set (b1:=S) (o:=0) (v:=.int .i64 sh0) fS)) (w2_set (b1:=S) (o:=1) (v:=.int .u64 sl0) (w2_set (b1:=S) (o:=0) (v:=.int .i64 sh0) kG nG) nG))))
 clear B0 kG
 go_wp2
 clear kS fS
 generalize (v0.setCell ⟨S,0,none⟩ (.int .i64 sh0)).setCell ⟨S,1,none⟩ (.int .u64 sl0)=u1 at *
 obtain ⟨B0,kS,fS,kG⟩:=KK.out
 clear KK
 rw [rounds_succ]
 have al:=b_alloc (o:=(Obj.cells #[.int .i64 h1,.int .u64 l1] 187)) (Below.refl u1.heap.size u1)
 have kT:WC (u1.alloc (Obj.cells #[.int .i64 h1,.int .u64 l1] 187)) u1.heap.size h1 l1:=by simp [WC,go_sem]
 have kS1:=wc_keep al kS
 have fS1:=wf_keep al kS fS
 have kG1:=w2_keep al kG
 replace B0:=b_trans B0 al
 clear al fS
 go_wp2_with fail
 refine (p1 _).mono ?_
 rintro e1 v1 ⟨rfl,hb9⟩
 have fS:=wf_keep hb9 kS1 fS1
 clear kS kG
 have kS:=wc_keep hb9 kS1
 have kG:=w2_keep hb9 kG1
 replace B0:=b_trans B0 hb9
 clear hb9 kT kS1 fS1 kG1 p1
 have KK:=Lib.hid (And.intro (b_set (p:=⟨S,1,none⟩) (v:=.int .u64 sl1) (b_set (p:=⟨S,0,none⟩) (v:=.int .i64 sh1) B0 hS) hS) (And.intro (wc_mine (h':=sh1) (l':=sl1) kS) (And.intro (wf_set (b1:=S) (o:=1) (v:=.int .u64 sl1) (wf_set (b1:=S) (o:=0) (v:=.int .i64 sh1) fS)) (w2_set (b1:=S) (o:=1) (v:=.int .u64 sl1) (w2_set (b1:=S) (o:=0) (v:=.int .i64 sh1) kG nG) nG))))
 clear B0 kG
 go_wp2
 clear kS fS
 generalize (v1.setCell ⟨S,0,none⟩ (.int .i64 sh1)).setCell ⟨S,1,none⟩ (.int .u64 sl1)=u2 at *
 obtain ⟨B0,kS,fS,kG⟩:=KK.out
 clear KK
 clear kG fS
 rw [rounds_succ]
 go_wp2_with fail
 refine (hF _).mono ?_
 rintro e5 w5 ⟨rfl,hb5⟩
 replace B0:=b_alloc (o:=(Obj.cells #[.int .i64 hz,.int .u64 lz] 187)) (b_trans B0 hb5)
 have c5:WC (w5.alloc (Obj.cells #[.int .i64 hz,.int .u64 lz] 187)) w5.heap.size hz lz:=by simp [WC,go_sem]
 clear hb5 kS hF
 go_wp2_with fail
 refine (hI _).mono ?_
 rintro e6 w6 ⟨rfl,hb6⟩
 replace B0:=b_trans B0 hb6
 clear hb6 c5 hI
 go_wp2
 go_ret
 exact ⟨rfl,B0⟩
theorem rounded_1_go (n h0 l0 sh0 sl0 hz lz z:Int)
  (o0:∀ w,Calls Tryz.prog 127 #[.int .i64 0] w (RetV (wv 0 0) w))
  (p0:∀ w,Calls Tryz.prog 176 #[wv 0 0,wv h0 l0] w (RetV (.tuple #[wv sh0 sl0,.int .i64 0]) w))
  (hF:∀ w,Calls Tryz.prog 153 #[wv sh0 sl0,.int .i64 n] w (RetV (.tuple #[wv hz lz,.int .i64 0]) w))
  (hI:∀ w,Calls Tryz.prog 154 #[wv hz lz] w (RetV (.tuple #[.int .i64 z,.int .i64 0]) w)) (G:Nat) (w:World) (kG:WC w G h0 l0) :
  Calls Tryz.prog 125 #[.int .i64 n,.slice (some ⟨G,0,none⟩) 1 1] w (RetV (.int .i64 z) w):=by
 go_enter Tryz.func125,Tryz.ntmps125
 go_wp2_with fail
 refine (o0 _).mono ?_
 rintro e1 w1 ⟨rfl,hb1⟩
 replace kG:=wc_keep hb1 kG
 have nG:w1.heap.size≠G:=fun c=>by have:=wc_lt kG; omega
 have hS:w.heap.size≤w1.heap.size:=hb1.size
 have B0:=b_alloc (o:=(Obj.cells #[.int .i64 0,.int .u64 0] 187)) hb1
 have kS:WC (w1.alloc (Obj.cells #[.int .i64 0,.int .u64 0] 187)) w1.heap.size 0 0:=by simp [WC,go_sem]
 have fS:WF (w1.alloc (Obj.cells #[.int .i64 0,.int .u64 0] 187)) w1.heap.size:=by simp [WF,go_sem]
 replace kG:=wc_keep (b_alloc (o:=(Obj.cells #[.int .i64 0,.int .u64 0] 187)) (Below.refl _ _)) kG
 clear hb1 o0
 go_wp2
 generalize w1.alloc (Obj.cells #[.int .i64 0,.int .u64 0] 187)=u0 at *
 generalize w1.heap.size=S at *
 refine wp_loop_rounds 2 ?_
 rw [rounds_succ]
 have al:=b_alloc (o:=(Obj.cells #[.int .i64 h0,.int .u64 l0] 187)) (Below.refl u0.heap.size u0)
 have kT:WC (u0.alloc (Obj.cells #[.int .i64 h0,.int .u64 l0] 187)) u0.heap.size h0 l0:=by simp [WC,go_sem]
 have kS1:=wc_keep al kS
 have fS1:=wf_keep al kS fS
 have kG1:=wc_keep al kG
 replace B0:=b_trans B0 al
 clear al fS
 go_wp2_with fail
 refine (p0 _).mono ?_
 rintro e0 v0 ⟨rfl,hb9⟩
 have fS:=wf_keep hb9 kS1 fS1
 clear kS kG
 have kS:=wc_keep hb9 kS1
 have kG:=wc_keep hb9 kG1
 replace B0:=b_trans B0 hb9
 clear hb9 kT kS1 fS1 kG1 p0
 have KK:=Lib.hid (And.intro (b_set (p:=⟨S,1,none⟩) (v:=.int .u64 sl0) (b_set (p:=⟨S,0,none⟩) (v:=.int .i64 sh0) B0 hS) hS) (And.intro (wc_mine (h':=sh0) (l':=sl0) kS) (And.intro (wf_set (b1:=S) (o:=1) (v:=.int .u64 sl0) (wf_set (b1:=S) (o:=0) (v:=.int .i64 sh0) fS)) (wc_set (b1:=S) (o:=1) (v:=.int .u64 sl0) (wc_set (b1:=S) (o:=0) (v:=.int .i64 sh0) kG nG) nG))))
 clear B0 kG
 go_wp2
 clear kS fS
 generalize (v0.setCell ⟨S,0,none⟩ (.int .i64 sh0)).setCell ⟨S,1,none⟩ (.int .u64 sl0)=u1 at *
 obtain ⟨B0,kS,fS,kG⟩:=KK.out
 clear KK
 clear kG fS
 rw [rounds_succ]
 go_wp2_with fail
 refine (hF _).mono ?_
 rintro e5 w5 ⟨rfl,hb5⟩
 replace B0:=b_alloc (o:=(Obj.cells #[.int .i64 hz,.int .u64 lz] 187)) (b_trans B0 hb5)
 have c5:WC (w5.alloc (Obj.cells #[.int .i64 hz,.int .u64 lz] 187)) w5.heap.size hz lz:=by simp [WC,go_sem]
 clear hb5 kS hF
 go_wp2_with fail
 refine (hI _).mono ?_
 rintro e6 w6 ⟨rfl,hb6⟩
 replace B0:=b_trans B0 hb6
 clear hb6 c5 hI
 go_wp2
 go_ret
 exact ⟨rfl,B0⟩
theorem rounded_2 (n a b:Int) {h0 l0 h1 l1:Int} (x0:IsW h0 l0 a) (x1:IsW h1 l1 b) (n0:1≤n) (n1:n≤127) (f0:Fits (0+a)) (f1:Fits (0+a+b)) (fz':Fits (evn (0+a+b) (2 ^ n.toNat))) (i:I64 (evn (0+a+b) (2 ^ n.toNat))) (G:Nat) (w:World) (kG:W2 w G h0 l0 h1 l1) :
  Calls Tryz.prog 125 #[.int .i64 n,.slice (some ⟨G,0,none⟩) 2 2] w (RetV (.int .i64 (evn (0+a+b) (2 ^ n.toNat))) w):=by
 obtain ⟨sh,sl,y0⟩:∃ h l,IsW h l (0+a):=⟨_,_,IsW.mk' f0⟩
 obtain ⟨th,tl,y1⟩:∃ h l,IsW h l (0+a+b):=⟨_,_,IsW.mk' f1⟩
 obtain ⟨hz,lz,z3⟩:∃ h l,IsW h l (evn (0+a+b) (2 ^ n.toNat)):=⟨_,_,IsW.mk' fz'⟩
 exact rounded_2_go n h0 l0 sh sl h1 l1 th tl hz lz _
  (fun w=>(of_any 0 (by decide) (by decide) w).mono fun _ _=>retW_det isW_zero)
  (fun w=>(add_any 0 0 0 _ _ _ isW_zero x0 w).mono fun _ _ h=>retWE_det y0 (by rwa [fz_of f0,fe_of f0] at h))
  (fun w=>(add_any sh sl _ _ _ _ y0 x1 w).mono fun _ _ h=>retWE_det y1 (by rwa [fz_of f1,fe_of f1] at h))
  (fun w=>(half_any th tl _ n y1 n0 n1 w).mono fun _ _ h=>retWE_det z3 h)
  (fun w=>by have h:=int_any hz lz _ z3 w; rwa [(iz_of i).1,(iz_of i).2] at h) G w kG
theorem rounded_1 (n a:Int) {h0 l0:Int} (x0:IsW h0 l0 a) (n0:1≤n) (n1:n≤127) (f0:Fits (0+a)) (fz':Fits (evn (0+a) (2 ^ n.toNat))) (i:I64 (evn (0+a) (2 ^ n.toNat))) (G:Nat) (w:World) (kG:WC w G h0 l0) :
  Calls Tryz.prog 125 #[.int .i64 n,.slice (some ⟨G,0,none⟩) 1 1] w (RetV (.int .i64 (evn (0+a) (2 ^ n.toNat))) w):=by
 obtain ⟨sh,sl,y0⟩:∃ h l,IsW h l (0+a):=⟨_,_,IsW.mk' f0⟩
 obtain ⟨hz,lz,z3⟩:∃ h l,IsW h l (evn (0+a) (2 ^ n.toNat)):=⟨_,_,IsW.mk' fz'⟩
 exact rounded_1_go n h0 l0 sh sl hz lz _
  (fun w=>(of_any 0 (by decide) (by decide) w).mono fun _ _=>retW_det isW_zero)
  (fun w=>(add_any 0 0 0 _ _ _ isW_zero x0 w).mono fun _ _ h=>retWE_det y0 (by rwa [fz_of f0,fe_of f0] at h))
  (fun w=>(half_any sh sl _ n y0 n0 n1 w).mono fun _ _ h=>retWE_det z3 h)
  (fun w=>by have h:=int_any hz lz _ z3 w; rwa [(iz_of i).1,(iz_of i).2] at h) G w kG
end Go.Proofs.YtjifkmldigemkaaGreatDoor
namespace Go.Proofs.YtjifkmldigemkaaGreatDoor
open Go.RowKit Go.Shelf
structure OS (w:World) (A Q S:Nat) (x0 x1 x2 y0 y1 y2:Int) (U:World):Prop where
 b:Below w.heap.size w U
 ka:TC U A x0 x1 x2
 qc:TC U Q 0 0 0
 qf:TF U Q
 ks:TC U S y0 y1 y2
 fs:TF U S
theorem os_keep {w U U':World} {A Q S:Nat} {x0 x1 x2 y0 y1 y2:Int} (s:OS w A Q S x0 x1 x2 y0 y1 y2 U) (hb:Below U.heap.size U U'):OS w A Q S x0 x1 x2 y0 y1 y2 U' :=
 ⟨b_trans s.b hb,tc_keep hb s.ka,tc_keep hb s.qc,tf_keep hb s.qc s.qf,tc_keep hb s.ks,tf_keep hb s.ks s.fs⟩
theorem os_put0 {w U:World} {A Q S:Nat} {x0 x1 x2 y0 y1 y2 v:Int} (s:OS w A Q S x0 x1 x2 y0 y1 y2 U) (nA:S≠A) (nQ:S≠Q) (h:w.heap.size≤S):OS w A Q S x0 x1 x2 v y1 y2 (U.setCell ⟨S,0,none⟩ (.int .i64 v)) :=
 ⟨b_set s.b h,tc_set s.ka nA,tc_set s.qc nQ,tf_set s.qf,tc_put0 s.ks,tf_set s.fs⟩
theorem os_put1 {w U:World} {A Q S:Nat} {x0 x1 x2 y0 y1 y2 v:Int} (s:OS w A Q S x0 x1 x2 y0 y1 y2 U) (nA:S≠A) (nQ:S≠Q) (h:w.heap.size≤S):OS w A Q S x0 x1 x2 y0 v y2 (U.setCell ⟨S,1,none⟩ (.int .i64 v)) :=
 ⟨b_set s.b h,tc_set s.ka nA,tc_set s.qc nQ,tf_set s.qf,tc_put1 s.ks,tf_set s.fs⟩
theorem on_mot_bad (x0 x1 x2 t:Int) (hx0:I64 x0) (hx1:I64 x1) (hx2:I64 x2) (_ht:I64 t) (c:¬ F3 x0 x1 x2) (w:World) :
  Calls Tryz.prog 60 #[tv x0 x1 x2,.int .i64 t] w (RetV (.tuple #[tv 0 0 0,.int .i64 1]) w):=by
 have ea:=Lib.hid (f3b_no c)
 clear c
 have kA:TC ((w.alloc (Obj.cells #[.int .i64 x0,.int .i64 x1,.int .i64 x2] 23)).alloc (Obj.cells #[.int .i64 0,.int .i64 0,.int .i64 0] 23)) (w.heap.size) x0 x1 x2:=tc_alloc (tc_new rfl)
 have qc:TC ((w.alloc (Obj.cells #[.int .i64 x0,.int .i64 x1,.int .i64 x2] 23)).alloc (Obj.cells #[.int .i64 0,.int .i64 0,.int .i64 0] 23)) (w.heap.size+1) 0 0 0:=tc_new (by simp)
 have qf:TF ((w.alloc (Obj.cells #[.int .i64 x0,.int .i64 x1,.int .i64 x2] 23)).alloc (Obj.cells #[.int .i64 0,.int .i64 0,.int .i64 0] 23)) (w.heap.size+1):=tf_new (by simp)
 have B0:Below w.heap.size w ((w.alloc (Obj.cells #[.int .i64 x0,.int .i64 x1,.int .i64 x2] 23)).alloc (Obj.cells #[.int .i64 0,.int .i64 0,.int .i64 0] 23)):=b_alloc (b_alloc (Below.refl _ _))
 go_enter Tryz.func60,Tryz.ntmps60
 go_wp2_with fail
 refine (fits3_vec x0 x1 x2 hx0 hx1 hx2 _).mono ?_
 rintro e1 w1 ⟨rfl,hb9⟩
 rw [ea.out]
 have qf9:=tf_keep hb9 qc qf
 replace kA:=tc_keep hb9 kA
 replace qc:=tc_keep hb9 qc
 replace B0:=b_trans B0 hb9
 clear qf
 have qf:=qf9
 clear qf9 hb9
 clear kA
 have B9:=b_set (p:=⟨w.heap.size+1,2,none⟩) (v:=.int .i64 0) (b_set (p:=⟨w.heap.size+1,1,none⟩) (v:=.int .i64 0) (b_set (p:=⟨w.heap.size+1,0,none⟩) (v:=.int .i64 0) B0 (Nat.le_succ _)) (Nat.le_succ _)) (Nat.le_succ _)
 go_wp2
 exact bodyPost_ret (v:=.tuple #[tv 0 0 0,.int .i64 1]) (by simp [results,Tryz.results60,go_sem,qc]) rfl ⟨rfl,B9⟩
theorem on_mot_sub (x0 x1 x2 t y e:Int) (hx0:I64 x0) (hx1:I64 x1) (hx2:I64 x2) (_ht:I64 t) (c:F3 x0 x1 x2) (e0:(e == 0)=false)
  (cS:∀ w,Calls Tryz.prog 124 #[.int .i64 t,.int .i64 x2] w (RetV (.tuple #[.int .i64 y,.int .i64 e]) w)) (w:World) :
  Calls Tryz.prog 60 #[tv x0 x1 x2,.int .i64 t] w (RetV (.tuple #[tv 0 0 0,.int .i64 e]) w):=by
 have ea:=Lib.hid (f3b_yes c)
 clear c
 have kA:TC ((w.alloc (Obj.cells #[.int .i64 x0,.int .i64 x1,.int .i64 x2] 23)).alloc (Obj.cells #[.int .i64 0,.int .i64 0,.int .i64 0] 23)) (w.heap.size) x0 x1 x2:=tc_alloc (tc_new rfl)
 have qc:TC ((w.alloc (Obj.cells #[.int .i64 x0,.int .i64 x1,.int .i64 x2] 23)).alloc (Obj.cells #[.int .i64 0,.int .i64 0,.int .i64 0] 23)) (w.heap.size+1) 0 0 0:=tc_new (by simp)
 have qf:TF ((w.alloc (Obj.cells #[.int .i64 x0,.int .i64 x1,.int .i64 x2] 23)).alloc (Obj.cells #[.int .i64 0,.int .i64 0,.int .i64 0] 23)) (w.heap.size+1):=tf_new (by simp)
 have B0:Below w.heap.size w ((w.alloc (Obj.cells #[.int .i64 x0,.int .i64 x1,.int .i64 x2] 23)).alloc (Obj.cells #[.int .i64 0,.int .i64 0,.int .i64 0] 23)):=b_alloc (b_alloc (Below.refl _ _))
 go_enter Tryz.func60,Tryz.ntmps60
 go_wp2_with fail
 refine (fits3_vec x0 x1 x2 hx0 hx1 hx2 _).mono ?_
 rintro e1 w1 ⟨rfl,hb9⟩
 rw [ea.out]
 have qf9:=tf_keep hb9 qc qf
 replace kA:=tc_keep hb9 kA
 replace qc:=tc_keep hb9 qc
 replace B0:=b_trans B0 hb9
 clear qf
 have qf:=qf9
 clear qf9 hb9
 go_wp2_with fail
 refine (cS _).mono ?_
 rintro e2 w2 ⟨rfl,hb9⟩
 have qf9:=tf_keep hb9 qc qf
 replace kA:=tc_keep hb9 kA
 replace qc:=tc_keep hb9 qc
 replace B0:=b_trans B0 hb9
 clear qf
 have qf:=qf9
 clear qf9 hb9
 clear kA
 have B9:=b_set (p:=⟨w.heap.size+1,2,none⟩) (v:=.int .i64 0) (b_set (p:=⟨w.heap.size+1,1,none⟩) (v:=.int .i64 0) (b_set (p:=⟨w.heap.size+1,0,none⟩) (v:=.int .i64 0) B0 (Nat.le_succ _)) (Nat.le_succ _)) (Nat.le_succ _)
 go_wp2
 exact bodyPost_ret (v:=.tuple #[tv 0 0 0,.int .i64 e]) (by simp [results,Tryz.results60,go_sem,qc]) rfl ⟨rfl,B9⟩
theorem on_mot_go (x0 x1 x2 t d mh ml dh dl h v y0 y1 y2 e:Int) (hx0:I64 x0) (hx1:I64 x1) (hx2:I64 x2) (_ht:I64 t) (c:F3 x0 x1 x2)
  (cS:∀ w,Calls Tryz.prog 124 #[.int .i64 t,.int .i64 x2] w (RetV (.tuple #[.int .i64 d,.int .i64 0]) w))
  (cM:∀ w,Calls Tryz.prog 126 #[.int .i64 256,.int .i64 x1] w (RetV (wv mh ml) w))
  (cO:∀ w,Calls Tryz.prog 127 #[.int .i64 d] w (RetV (wv dh dl) w))
  (r2:∀ G w,W2 w G mh ml dh dl→Calls Tryz.prog 125 #[.int .i64 15,.slice (some ⟨G,0,none⟩) 2 2] w (RetV (.int .i64 h) w))
  (r1:∀ G w,WC w G dh dl→Calls Tryz.prog 125 #[.int .i64 7,.slice (some ⟨G,0,none⟩) 1 1] w (RetV (.int .i64 v) w))
  (cA:∀ w,Calls Tryz.prog 128 #[tv x0 x1 x2,tv h v 0] w (RetV (.tuple #[tv y0 y1 y2,.int .i64 e]) w)) (w:World) :
  Calls Tryz.prog 60 #[tv x0 x1 x2,.int .i64 t] w (RetV (.tuple #[tv y0 y1 y2,.int .i64 e]) w):=by
 have ea:=Lib.hid (f3b_yes c)
 clear c
 have kA:TC ((w.alloc (Obj.cells #[.int .i64 x0,.int .i64 x1,.int .i64 x2] 23)).alloc (Obj.cells #[.int .i64 0,.int .i64 0,.int .i64 0] 23)) (w.heap.size) x0 x1 x2:=tc_alloc (tc_new rfl)
 have qc:TC ((w.alloc (Obj.cells #[.int .i64 x0,.int .i64 x1,.int .i64 x2] 23)).alloc (Obj.cells #[.int .i64 0,.int .i64 0,.int .i64 0] 23)) (w.heap.size+1) 0 0 0:=tc_new (by simp)
 have qf:TF ((w.alloc (Obj.cells #[.int .i64 x0,.int .i64 x1,.int .i64 x2] 23)).alloc (Obj.cells #[.int .i64 0,.int .i64 0,.int .i64 0] 23)) (w.heap.size+1):=tf_new (by simp)
 have B0:Below w.heap.size w ((w.alloc (Obj.cells #[.int .i64 x0,.int .i64 x1,.int .i64 x2] 23)).alloc (Obj.cells #[.int .i64 0,.int .i64 0,.int .i64 0] 23)):=b_alloc (b_alloc (Below.refl _ _))
 go_enter Tryz.func60,Tryz.ntmps60
 go_wp2_with fail
 refine (fits3_vec x0 x1 x2 hx0 hx1 hx2 _).mono ?_
 rintro e1 w1 ⟨rfl,hb9⟩
 rw [ea.out]
 have qf9:=tf_keep hb9 qc qf
 replace kA:=tc_keep hb9 kA
 replace qc:=tc_keep hb9 qc
 replace B0:=b_trans B0 hb9
 clear qf
 have qf:=qf9
 clear qf9 hb9
 go_wp2_with fail
 refine (cS _).mono ?_
 rintro e2 w2 ⟨rfl,hb9⟩
 have qf9:=tf_keep hb9 qc qf
 replace kA:=tc_keep hb9 kA
 replace qc:=tc_keep hb9 qc
 replace B0:=b_trans B0 hb9
 clear qf
 have qf:=qf9
 clear qf9 hb9
 clear cS
 have hS:w.heap.size≤w2.heap.size:=B0.size
 have nA:w2.heap.size≠w.heap.size:=fun c=>by have:=tc_lt kA; omega
 have nQ:w2.heap.size≠w.heap.size+1:=fun c=>by have:=tc_lt qc; omega
 have s0:OS w (w.heap.size) (w.heap.size+1) w2.heap.size x0 x1 x2 0 0 0 (w2.alloc (Obj.cells #[.int .i64 0,.int .i64 0,.int .i64 0] 23)):=⟨b_alloc B0,tc_alloc kA,tc_alloc qc,tf_keep (b_alloc (Below.refl _ _)) qc qf,tc_new rfl,tf_new rfl⟩
 clear kA qc qf B0
 have kA:=s0.ka
 have kS:=s0.ks
 have kF:=s0.fs
 go_wp2_with fail
 generalize w2.alloc (Obj.cells #[.int .i64 0,.int .i64 0,.int .i64 0] 23)=u0 at *
 generalize w2.heap.size=S at *
 refine (cM _).mono ?_
 rintro e3 w3 ⟨rfl,hb9⟩
 replace s0:=os_keep s0 hb9
 clear hb9 kA kS kF cM
 have kA:=s0.ka
 have kS:=s0.ks
 have kF:=s0.fs
 go_wp2_with fail
 refine (cO _).mono ?_
 rintro e4 w4 ⟨rfl,hb9⟩
 replace s0:=os_keep s0 hb9
 clear hb9 kA kS kF
 have kA:=s0.ka
 have kS:=s0.ks
 have kF:=s0.fs
 go_wp2_with fail
 refine (r2 _ _ ?hG).mono ?_
 case hG=>simp [W2,WC,go_sem]
 rintro e5 w5 ⟨rfl,hb9⟩
 replace s0:=os_keep (os_keep s0 (b_alloc (o:=(Obj.cells #[.int .i64 mh,.int .u64 ml,.int .i64 dh,.int .u64 dl] 187)) (Below.refl _ _))) hb9
 clear hb9 kA kS kF r2
 have kS:=s0.ks
 have kF:=s0.fs
 have KK:=Lib.hid (os_put0 (v:=h) s0 nA nQ hS)
 clear s0
 go_wp2_with fail
 generalize w5.setCell ⟨S,0,none⟩ (.int .i64 h)=u1 at *
 have s0:=KK.out
 clear KK kS kF
 refine (cO _).mono ?_
 rintro e6 w6 ⟨rfl,hb9⟩
 replace s0:=os_keep s0 hb9
 clear hb9 cO
 have kA:=s0.ka
 have kS:=s0.ks
 have kF:=s0.fs
 go_wp2_with fail
 refine (r1 _ _ ?hG).mono ?_
 case hG=>simp [WC,go_sem]
 rintro e7 w7 ⟨rfl,hb9⟩
 replace s0:=os_keep (os_keep s0 (b_alloc (o:=(Obj.cells #[.int .i64 dh,.int .u64 dl] 187)) (Below.refl _ _))) hb9
 clear hb9 kA kS kF r1
 have kS:=s0.ks
 have kF:=s0.fs
 have KK:=Lib.hid (os_put1 (v:=v) s0 nA nQ hS)
 have kA:=tc_set (b1:=S) (o:=1) (v:=.int .i64 v) s0.ka nA
 have kS1:=tc_put1 (v:=v) kS
 clear s0
 go_wp2_with fail
 generalize w7.setCell ⟨S,1,none⟩ (.int .i64 v)=u2 at *
 have s0:=KK.out
 clear KK kS kF kA kS1
 refine (cA _).mono ?_
 rintro e8 w8 ⟨rfl,hb9⟩
 obtain ⟨B0,kA,qc,qf,kS,kF⟩:=os_keep s0 hb9
 clear hb9 cA s0 kA kS kF
 have B9:=b_set (p:=⟨w.heap.size+1,2,none⟩) (v:=.int .i64 y2) (b_set (p:=⟨w.heap.size+1,1,none⟩) (v:=.int .i64 y1) (b_set (p:=⟨w.heap.size+1,0,none⟩) (v:=.int .i64 y0) B0 (Nat.le_succ _)) (Nat.le_succ _)) (Nat.le_succ _)
 go_wp2
 exact bodyPost_ret (v:=.tuple #[tv y0 y1 y2,.int .i64 e]) (by simp [results,Tryz.results60,go_sem,qc]) rfl ⟨rfl,B9⟩
theorem tz_oz (a b x:Int):tz x (ne a) (ne b) 0=oz (ne a) (ne b) x∧te (ne a) (ne b) 0=oe (ne a) (ne b):=by
 unfold tz te oz oe ne
 by_cases ca:FitP a
 ·rw [if_pos ca]
  by_cases cb:FitP b
  ·rw [if_pos cb]
   exact ⟨rfl,rfl⟩
  ·rw [if_neg cb]
   exact ⟨rfl,rfl⟩
 ·rw [if_neg ca]
  exact ⟨rfl,rfl⟩
theorem on_mot_ok (x0 x1 x2 t:Int) (hx0:I64 x0) (hx1:I64 x1) (hx2:I64 x2) (ht:I64 t) (c:F3 x0 x1 x2) (ct:FitP t) (cd:FitP (t - x2)) (w:World) :
  Calls Tryz.prog 60 #[tv x0 x1 x2,.int .i64 t] w (RetV (.tuple #[tv (oz (ne (x0+mvh x1 (t - x2))) (ne (x1+mvs (t - x2))) (nz (x0+mvh x1 (t - x2)))) (oz (ne (x0+mvh x1 (t - x2))) (ne (x1+mvs (t - x2))) (nz (x1+mvs (t - x2)))) (oz (ne (x0+mvh x1 (t - x2))) (ne (x1+mvs (t - x2))) x2),.int .i64 (oe (ne (x0+mvh x1 (t - x2))) (ne (x1+mvs (t - x2))))]) w):=by
 have cS:∀ w,Calls Tryz.prog 124 #[.int .i64 t,.int .i64 x2] w (RetV (.tuple #[.int .i64 (t - x2),.int .i64 0]) w):=fun w=>by
  have h:=sub_fix t x2 ht.1 ht.2 hx2.1 hx2.2 w
  rwa [(gz_of ⟨ct,c.2.2⟩ _).1,(gz_of ⟨ct,c.2.2⟩ _).2,(nz_of cd).1,(nz_of cd).2] at h
 have hd:I64 (t - x2):=⟨by omega,by omega⟩
 generalize t - x2=d at *
 obtain ⟨f1,f2,f3,f4,f5,f6⟩:=far_fits c.2.1 cd
 have b1:=mvh_bd c.2.1 cd
 have b2:=mvs_bd cd
 have E1:evn (0+256*x1+d) (2 ^ (15:Int).toNat)=mvh x1 d:=by
  rw [show 0+256*x1+d=256*x1+d by omega]
  rfl
 have E2:evn (0+d) (2 ^ (7:Int).toNat)=mvs d:=by
  rw [show 0+d=d by omega]
  rfl
 have F1:evn (0+256*x1+d) 32768=mvh x1 d:=E1
 have F2:evn (0+d) 128=mvs d:=E2
 rw [F1] at f5
 rw [F2] at f6
 obtain ⟨mh,ml,m⟩:∃ h l,IsW h l (256*x1):=⟨_,_,IsW.mk' f1⟩
 obtain ⟨dh,dl,dw⟩:∃ h l,IsW h l d:=⟨_,_,IsW.mk' ⟨by omega,by omega⟩⟩
 have P:∀ {a b:Int},FitP a→I64 b→FitP b→∀ w,Calls Tryz.prog 140 #[.int .i64 a,.int .i64 b] w (RetV (.tuple #[.int .i64 (nz (a+b)),.int .i64 (ne (a+b))]) w):=fun {a b} fa hb fb w=>by
  have h:=add_fix a b (by omega) (by omega) hb.1 hb.2 w
  rwa [(gz_of ⟨fa,fb⟩ _).1,(gz_of ⟨fa,fb⟩ _).2] at h
 have cA:=fun w=>add3_vec_ok x0 x1 x2 (mvh x1 d) (mvs d) 0 _ _ _ _ _ _ hx0 hx1 hx2 ⟨by omega,by omega⟩ ⟨by omega,by omega⟩ (by decide) c ⟨⟨by omega,by omega⟩,⟨by omega,by omega⟩,by decide⟩
  (P c.1 ⟨by omega,by omega⟩ ⟨by omega,by omega⟩) (P c.2.1 ⟨by omega,by omega⟩ ⟨by omega,by omega⟩) (P c.2.2 (by decide) (by decide)) w
 rw [show x2+0=x2 by omega,(nz_of c.2.2).1,(nz_of c.2.2).2,(tz_oz _ _ _).1,(tz_oz _ _ _).1,(tz_oz _ _ _).1,(tz_oz _ _ 0).2] at cA
 exact on_mot_go x0 x1 x2 t d mh ml dh dl (mvh x1 d) (mvs d) _ _ _ _ hx0 hx1 hx2 ht c cS
  (fun w=>(mul_any 256 x1 (by decide) (by decide) hx1.1 hx1.2 w).mono fun _ _=>retW_det m)
  (fun w=>(of_any d hd.1 hd.2 w).mono fun _ _=>retW_det dw)
  (fun G w k=>by have h:=rounded_2 15 (256*x1) d m dw (by decide) (by decide) f2 f3 (by rw [E1]; exact f5) (by rw [E1]; exact ⟨by omega,by omega⟩) G w k; rwa [E1] at h)
  (fun G w k=>by have h:=rounded_1 7 d dw (by decide) (by decide) f4 (by rw [E2]; exact f6) (by rw [E2]; exact ⟨by omega,by omega⟩) G w k; rwa [E2] at h)
  cA w
theorem kept_mot (a0 a1 a2 b0 b1 b2:Int) (ha0:I64 a0) (ha1:I64 a1) (ha2:I64 a2) (hb0:I64 b0) (hb1:I64 b1) (hb2:I64 b2) (w:World) :
  Calls Tryz.prog 61 #[tv a0 a1 a2,tv b0 b1 b2] w (RetV (tv (clz a0 b0) (clz a1 b1) (clz a2 b2)) w):=by
 have cC:=clamp_vec a0 a1 a2 b0 b1 b2 ha0 ha1 ha2 hb0 hb1 hb2
 clear ha0 ha1 ha2 hb0 hb1 hb2
 generalize clz a0 b0=x0 at *
 generalize clz a1 b1=x1 at *
 generalize clz a2 b2=x2 at *
 have kA:TC (((w.alloc (Obj.cells #[.int .i64 a0,.int .i64 a1,.int .i64 a2] 23)).alloc (Obj.cells #[.int .i64 b0,.int .i64 b1,.int .i64 b2] 23)).alloc (Obj.cells #[.int .i64 0,.int .i64 0,.int .i64 0] 23)) w.heap.size a0 a1 a2:=tc_alloc (tc_alloc (tc_new rfl))
 have kB:TC (((w.alloc (Obj.cells #[.int .i64 a0,.int .i64 a1,.int .i64 a2] 23)).alloc (Obj.cells #[.int .i64 b0,.int .i64 b1,.int .i64 b2] 23)).alloc (Obj.cells #[.int .i64 0,.int .i64 0,.int .i64 0] 23)) (w.heap.size+1) b0 b1 b2:=tc_alloc (tc_new (by simp))
 have q0:TC (((w.alloc (Obj.cells #[.int .i64 a0,.int .i64 a1,.int .i64 a2] 23)).alloc (Obj.cells #[.int .i64 b0,.int .i64 b1,.int .i64 b2] 23)).alloc (Obj.cells #[.int .i64 0,.int .i64 0,.int .i64 0] 23)) (w.heap.size+1+1) 0 0 0:=tc_new (by simp)
 have B0:Below w.heap.size w (((w.alloc (Obj.cells #[.int .i64 a0,.int .i64 a1,.int .i64 a2] 23)).alloc (Obj.cells #[.int .i64 b0,.int .i64 b1,.int .i64 b2] 23)).alloc (Obj.cells #[.int .i64 0,.int .i64 0,.int .i64 0] 23)):=b_alloc (b_alloc (b_alloc (Below.refl _ _)))
 have f0:TF (((w.alloc (Obj.cells #[.int .i64 a0,.int .i64 a1,.int .i64 a2] 23)).alloc (Obj.cells #[.int .i64 b0,.int .i64 b1,.int .i64 b2] 23)).alloc (Obj.cells #[.int .i64 0,.int .i64 0,.int .i64 0] 23)) (w.heap.size+1+1):=tf_new (by simp)
 go_enter Tryz.func61,Tryz.ntmps61
 go_wp2_with fail
 refine (cC _).mono ?_
 rintro e w1 ⟨rfl,hb1⟩
 have q1:=tc_keep hb1 q0
 have f1:=tf_keep hb1 q0 f0
 have B2:=b_set (p:=⟨w.heap.size+1+1,2,none⟩) (v:=.int .i64 x2) (b_set (p:=⟨w.heap.size+1+1,1,none⟩) (v:=.int .i64 x1) (b_set (p:=⟨w.heap.size+1+1,0,none⟩) (v:=.int .i64 x0) (b_trans B0 hb1) (Nat.le_trans (Nat.le_succ _) (Nat.le_succ _))) (Nat.le_trans (Nat.le_succ _) (Nat.le_succ _))) (Nat.le_trans (Nat.le_succ _) (Nat.le_succ _))
 clear hb1 q0 f0 B0 cC kA kB
 go_wp2
 exact bodyPost_ret (v:=tv x0 x1 x2) (by simp [results,Tryz.results61,go_sem,q1]) rfl ⟨rfl,B2⟩
end Go.Proofs.YtjifkmldigemkaaGreatDoor
namespace Go.Proofs.YtjifkmldigemkaaGreatDoor
open Go.RowKit Go.Shelf
attribute [local go_sem] Oper.semAt_some
theorem iter_stops (n:Nat) (hn:1≤n) (n₀ P I J:Nat) (m:Nat→Int) (i j:Nat) (hm:F6 m) (hi:i<3) (hj:j<3) (w:World) (hn₀:n₀≤w.heap.size) (hT:TI n₀ w P I J m i j) :
  SeqStopsK Fence.wide n Tryz.prog 214 #[.pointer (some ⟨I,0,none⟩),.pointer (some ⟨J,0,none⟩),.pointer (some ⟨P,0,none⟩)] (fun x:Nat=>#[wof (tmn m i j x)]) (Below n₀) (fun ys=>ys=List.range 9) (fun pre=>∃ k,k≤9∧pre=List.range k) 9 w:=fun l J1 Jx W hW hA _ hY h0 =>
 iter_in n hn l n₀ P I J m i j hm hi hj J1 Jx W hA (Nat.le_trans hn₀ hW.size) hY (ti_below hT (hW.mono hn₀)) h0
theorem terms_any (m:Nat→Int) (i j:Int) (w:World) :
  Calls Tryz.prog 184 #[sv m,.int .i64 i,.int .i64 j] w fun e w'=>e=.returned (.func (.func 214) #[] #[.pointer (some ⟨w.heap.size+1,0,none⟩),.pointer (some ⟨w.heap.size+1+1,0,none⟩),.pointer (some ⟨w.heap.size,0,none⟩)]) ∧
   w'=((w.alloc (Obj.cells #[.int .i64 (m 0),.int .i64 (m 1),.int .i64 (m 2),.int .i64 (m 3),.int .i64 (m 4),.int .i64 (m 5)] 40)).alloc (Obj.cells #[.int .i64 i] 3)).alloc (Obj.cells #[.int .i64 j] 3):=by
 go_enter Tryz.func184,Tryz.ntmps184
 go_wp2
 go_ret
 exact ⟨rfl,rfl⟩
abbrev SK (W:World) (R Q:Nat) (z:Int):Prop:=(WC W Q (z / 18446744073709551616) (z % 18446744073709551616)∧WF W Q)∧(WC W R 0 0∧WF W R)
theorem sk_own (R Q:Nat) (f:List Nat→Int):Own (fun (pre:List Nat) W=>SK W R Q (f pre)):=by
 rintro s A B row ⟨⟨⟨q0,q1⟩,g0,g1⟩,⟨r0,r1⟩,f0,f1⟩ hg hr
 exact ⟨⟨⟨cell_kept q0 hg hr,cell_kept q1 hg hr⟩,(frozen_kept q0 hg hr).trans g0,(frozen_kept q1 hg hr).trans g1⟩,⟨cell_kept r0 hg hr,cell_kept r1 hg hr⟩,(frozen_kept r0 hg hr).trans f0,(frozen_kept r1 hg hr).trans f1⟩
theorem sk_keep {W W':World} {R Q:Nat} {z:Int} (hb:Below W.heap.size W W') (h:SK W R Q z):SK W' R Q z :=
 ⟨⟨wc_keep hb h.1.1,wf_keep hb h.1.1 h.1.2⟩,wc_keep hb h.2.1,wf_keep hb h.2.1 h.2.2⟩
theorem wc_own (B:Nat) (h l:Int):Own (fun (_:Unit) W=>WC W B h l):=by
 rintro s A C row ⟨q0,q1⟩ hg hr
 exact ⟨cell_kept q0 hg hr,cell_kept q1 hg hr⟩
theorem sum_spr (m:Nat→Int) (i j:Nat) (hm:F6 m) (hi:i<3) (hj:j<3) (P I J:Nat) (w:World) (hT:TI w.heap.size w P I J m i j) :
  Calls Tryz.prog 183 #[.func (.func 214) #[] #[.pointer (some ⟨I,0,none⟩),.pointer (some ⟨J,0,none⟩),.pointer (some ⟨P,0,none⟩)]] w (RetV (wof (rwn m i j)) w):=by
 refine (callsIn_wide (n:=5)).1 ?_
 refine callsIn_of_wp_marks Tryz.func183 rfl trivial ?_ rfl
 simp only [Tryz.ntmps183,List.size_toArray,List.length_cons,List.length_nil,Nat.reduceAdd,Nat.reduceSub,Array.replicate_succ,Array.replicate_zero,List.push_toArray,List.append_toArray,List.nil_append,List.cons_append]
 gi_wp2_with fail
 refine ⟨trivial,(callsIn_wide.2 ((of_any 0 (by decide) (by decide) _).mono fun _ _=>retW_det isW_zero)).mono ?_⟩
 rintro e w1 ⟨rfl,hb9⟩
 have kR:WC (w.alloc (Obj.cells #[.int .i64 0,.int .u64 0] 187)) w.heap.size 0 0:=by simp [WC,go_sem]
 have fR:WF (w.alloc (Obj.cells #[.int .i64 0,.int .u64 0] 187)) w.heap.size:=by simp [WF,go_sem]
 have B0:Below w.heap.size w (w.alloc (Obj.cells #[.int .i64 0,.int .u64 0] 187)):=b_alloc (Below.refl _ _)
 replace fR:=wf_keep hb9 kR fR
 replace kR:=wc_keep hb9 kR
 replace B0:=b_trans B0 hb9
 have zR:=wc_lt kR
 clear hb9
 have hb8:Below w1.heap.size w1 (w1.alloc (Obj.cells #[.int .i64 0,.int .u64 0] 187)):=b_alloc (Below.refl _ _)
 have kQ:WC (w1.alloc (Obj.cells #[.int .i64 0,.int .u64 0] 187)) w1.heap.size 0 0:=by simp [WC,go_sem]
 have fQ:WF (w1.alloc (Obj.cells #[.int .i64 0,.int .u64 0] 187)) w1.heap.size:=by simp [WF,go_sem]
 replace fR:=wf_keep hb8 kR fR
 replace kR:=wc_keep hb8 kR
 replace B0:=b_trans B0 hb8
 clear hb8
 gi_wp2
 obtain ⟨Q,hQ⟩:∃ Q,w1.heap.size=Q:=⟨_,rfl⟩
 have zW:(w1.alloc (Obj.cells #[.int .i64 0,.int .u64 0] 187)).heap.size=Q+1:=by simp [hQ]
 rw [hQ] at kQ fQ zR ⊢
 clear hQ
 generalize w1.alloc (Obj.cells #[.int .i64 0,.int .u64 0] 187)=W0 at *
 have zB:=B0.size
 have T0:=ti_below hT B0
 refine wpIn_rangeFunc_ownH (F:=Fence.wide) rfl (by decide) (gf:=214) (lb:=#[.pointer (some ⟨I,0,none⟩),.pointer (some ⟨J,0,none⟩),.pointer (some ⟨P,0,none⟩)]) rfl trivial (enters_of Tryz.func214 (by kernel_rfl) rfl)
  (iter_stops 4 (by decide) w.heap.size P I J m i j hm hi hj W0 (by omega) T0) belowK_t (belowK_b (by omega)) (Below.refl _ _) (fun _=>rfl)
  (fun pre W=>SK W w.heap.size Q (smT (tmn m i j) pre)∧Below w.heap.size w W)
  (fun _ _ _=>False)
  (OwnFrom.and (Own.from (sk_own _ _ _) _) (ownFrom_below (Nat.le_refl _) (by omega)))
  (fun _ _ _ _ _ hs _ _=>hs)
  ⟨⟨⟨kQ,fQ⟩,kR,fR⟩,B0⟩
  (fun x a' W=>∃ Bx,Q<Bx∧WC W Bx (tmn m i j x / 18446744073709551616) (tmn m i j x % 18446744073709551616)∧a' = { tmps:=#[.func (.func 214) #[] #[.pointer (some ⟨I,0,none⟩),.pointer (some ⟨J,0,none⟩),.pointer (some ⟨P,0,none⟩)],undef,.pointer (some ⟨w.heap.size,0,none⟩),.pointer (some ⟨Q,0,none⟩),.pointer (some ⟨Bx,0,none⟩),wv 0 0,.func (.func 214) #[] #[.pointer (some ⟨I,0,none⟩),.pointer (some ⟨J,0,none⟩),.pointer (some ⟨P,0,none⟩)],wof (tmn m i j x),undef,undef,undef,undef,undef,undef,undef],defers:=[] })
  (fun x a' s X Y row hs hg hr=>by obtain ⟨Bx,h1,h2,h3⟩:=hs; exact ⟨Bx,h1,wc_own Bx _ _ () X Y row h2 hg (fun r e=>(hr r e).2),h3⟩)
  ?assign ?body ?done ?stop
 case assign =>
  rintro l pre x W K ⟨hS,hB⟩ hK
  have zQ:=wc_lt hS.1.1
  gi_wp2
  exact hK _ _ ((KeepsOthers.alloc _ _).from _) ((Below.refl _ W).alloc hB.size _) ⟨sk_keep (b_alloc (Below.refl _ _)) hS,hB.alloc hB.size _⟩ ⟨W.heap.size,zQ,by simp [WC,go_sem],rfl⟩
 case body =>
  rintro l pre x a' W hl ⟨r,hr⟩ ⟨hS,hB⟩ ⟨Bx,hBx,kX,rfl⟩ hlt
  have f1:Fits (smT (tmn m i j) pre):=smT_fits (tmn_bd hm i j) (by omega)
  have f2:=term_fits (tmn_bd hm i j) x
  have f3:Fits (smT (tmn m i j) (pre ++ [x])):=smT_fits (tmn_bd hm i j) (by simp; omega)
  have cA:∀ w,Calls Tryz.prog 176 #[wof (smT (tmn m i j) pre),wof (tmn m i j x)] w (RetV (.tuple #[wof (smT (tmn m i j) (pre ++ [x])),.int .i64 0]) w):=fun w=>by
   have h:=add_any _ _ _ _ _ _ (IsW.mk' f1) (IsW.mk' f2) w
   rw [← smT_snoc,fz_of f3,fe_of f3] at h
   exact h.mono fun _ _=>retWE_det (IsW.mk' f3)
  clear f1 f2 f3
  have kQ1:=hS.1.1
  gi_wp2_with fail
  refine ⟨trivial,(CallsIn.inRound l (callsIn_wide.2 (cA _))).mono ?_⟩
  rintro e w2 ⟨rfl,hb8⟩
  have hS2:=sk_keep hb8 hS
  have kQ2:=hS2.1.1
  have fQ2:=hS2.1.2
  have nQ:Q≠w.heap.size:=by omega
  have lQ:w.heap.size≤Q:=by omega
  have hSN:=Lib.hid hS2
  clear kQ1 hS2 hS kX cA
  gi_wp2
  exact ⟨((KeepsOthers.of_grownBy (grown_of hb8) (fun j o e=>by cases e)).trans ((KeepsOthers.setCell _ _ _).trans (KeepsOthers.setCell _ _ _))).from _,
   ((hb8.mono hB.size).setCell (p:=⟨Q,0,none⟩) lQ _).setCell (p:=⟨Q,1,none⟩) lQ _,
   ⟨⟨wc_mine hSN.out.1.1,wf_set (wf_set hSN.out.1.2)⟩,wc_set (wc_set hSN.out.2.1 nQ) nQ,wf_set (wf_set hSN.out.2.2)⟩,b_set (b_set (b_trans hB hb8) lQ) lQ⟩
 case done =>
  rintro D ys W hD rfl ⟨hS,hB⟩ hK
  have kQ1:=hS.1.1
  have kR1:=hS.2.1
  have fR1:=hS.2.2
  have hK':=((KeepsOthers.setCell W ⟨w.heap.size,0,none⟩ (.int .i64 (rwn m i j / 18446744073709551616))).trans (KeepsOthers.setCell _ ⟨w.heap.size,1,none⟩ (.int .u64 (rwn m i j % 18446744073709551616)))).same D _ hK rfl
  have kE:=Lib.hid (wc_mine (h':=rwn m i j / 18446744073709551616) (l':=rwn m i j % 18446744073709551616) kR1)
  have HH:=Lib.hid hK'
  have hE:smT (tmn m i j) (List.range 9)=rwn m i j:=rfl
  rw [hE] at kQ1
  clear hE hK' hS kR
  gi_wp2
  refine ⟨by simp,.inl ⟨_,_,rfl,run_takeDeferred HH.out,?_⟩⟩
  have c0:=cell_kept kE.out.1 (grownBy_putObj' _ D (.deferred none)) (fun r e=>by cases e; exact ⟨_,HH.out,rfl⟩)
  have c1:=cell_kept kE.out.2 (grownBy_putObj' _ D (.deferred none)) (fun r e=>by cases e; exact ⟨_,HH.out,rfl⟩)
  refine ⟨wof (rwn m i j),?_,rfl,(b_set (b_set hB (Nat.le_refl _)) (Nat.le_refl _)).trans (belowK_b (w:=w) (Nat.le_refl _) _ D _ _ (by omega) HH.out rfl rfl)⟩
  simp [results,Tryz.results183,go_sem,c0,c1]
 case stop =>
  rintro D c pre W _ _ h _
  exact h.elim
end Go.Proofs.YtjifkmldigemkaaGreatDoor

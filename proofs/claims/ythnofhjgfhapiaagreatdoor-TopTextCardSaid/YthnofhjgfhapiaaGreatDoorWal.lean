import Derived.BigRegion
import Derived.WalkMore
import Derived.Test.YthnofhjgfhapiaaGreatDoorWag
import Derived.Test.YthnofhjgfhapiaaGreatDoorWak
import Derived.Test.YthnofhjgfhapiaaGreatDoorWac
import Derived.Test.YthnofhjgfhapiaaGreatDoorWaf
import Derived.Test.YthnofhjgfhapiaaGreatDoorWae
import Derived.Test.YthnofhjgfhapiaaGreatDoorWaa
import Derived.Test.YthnofhjgfhapiaaGreatDoorWab
set_option maxHeartbeats 16000000
set_option maxRecDepth 10000
namespace Go.Proofs.YthnofhjgfhapiaaGreatDoor
open Go.RowKit Go.Shelf
structure TK (W:World) (m:Nat→Int) (f0 f1 f2 c0 c1 c2:Int) (U:World):Prop where
 b:Below W.heap.size W U
 ka:SC U W.heap.size m
 kf:TC U (W.heap.size+1) f0 f1 f2
 kc:TC U (W.heap.size+1+1) c0 c1 c2
 kd:SC U (W.heap.size+1+1+1) (fun _=>0)
 fd:SF U (W.heap.size+1+1+1)
 pl:PL U
theorem tk_keep {W U U':World} {m:Nat→Int} {f0 f1 f2 c0 c1 c2:Int} (h:TK W m f0 f1 f2 c0 c1 c2 U) (hb:Below U.heap.size U U'):TK W m f0 f1 f2 c0 c1 c2 U' :=
 ⟨b_trans h.b hb,sc_keep hb h.ka,tc_keep hb h.kf,tc_keep hb h.kc,sc_keep hb h.kd,sf_keep hb h.kd h.fd,pl_keep hb h.pl⟩
theorem tk_one {W U:World} {m:Nat→Int} {f0 f1 f2 c0 c1 c2:Int} {g o:Nat} {x:Value} (h:TK W m f0 f1 f2 c0 c1 c2 U) (q:W.heap.size+1+1+1<g):TK W m f0 f1 f2 c0 c1 c2 (U.setCell ⟨g,o,none⟩ x):=by
 have q0:W.heap.size≤g:=by omega
 have q1:g≠W.heap.size:=by omega
 have q2:g≠W.heap.size+1:=by omega
 have q3:g≠W.heap.size+1+1:=by omega
 have q4:g≠W.heap.size+1+1+1:=by omega
 have q5:0<g:=by omega
 exact ⟨b_set h.b q0,sc_set h.ka q1,tc_set h.kf q2,tc_set h.kc q3,sc_set h.kd q4,sf_set h.fd,pl_set h.pl q5⟩
theorem tc_whole {w:World} {g:Nat} {x y z a b c:Int} (h:TC w g x y z):TC (((w.setCell ⟨g,0,none⟩ (.int .i64 a)).setCell ⟨g,1,none⟩ (.int .i64 b)).setCell ⟨g,2,none⟩ (.int .i64 c)) g a b c:=by
 obtain ⟨c0,c1,c2⟩:=h
 simp [TC,go_sem,c0,c1,c2]
theorem sc_whole {w:World} {g:Nat} {m m':Nat→Int} (h:SC w g m):SC ((((((w.setCell ⟨g,0,none⟩ (.int .i64 (m' 0))).setCell ⟨g,1,none⟩ (.int .i64 (m' 1))).setCell ⟨g,2,none⟩ (.int .i64 (m' 2))).setCell ⟨g,3,none⟩ (.int .i64 (m' 3))).setCell ⟨g,4,none⟩ (.int .i64 (m' 4))).setCell ⟨g,5,none⟩ (.int .i64 (m' 5))) g m':=by
 obtain ⟨c0,c1,c2,c3,c4,c5⟩:=sc_six h
 exact six_sc (by simp [SC6,go_sem,c0,c1,c2,c3,c4,c5])
structure TL (W:World) (E T:Nat) (m:Nat→Int) (f0 f1 f2 c0 c1 c2 e0 e1 e2:Int) (x:Nat→Int) (U:World):Prop where
 k:TK W m f0 f1 f2 c0 c1 c2 U
 ke:TC U E e0 e1 e2
 kt:SC U T x
 ft:SF U T
theorem tl_keep {W U U':World} {E T:Nat} {m x:Nat→Int} {f0 f1 f2 c0 c1 c2 e0 e1 e2:Int} (h:TL W E T m f0 f1 f2 c0 c1 c2 e0 e1 e2 x U) (hb:Below U.heap.size U U'):TL W E T m f0 f1 f2 c0 c1 c2 e0 e1 e2 x U' :=
 ⟨tk_keep h.k hb,tc_keep hb h.ke,sc_keep hb h.kt,sf_keep hb h.kt h.ft⟩
theorem tl_put {W w:World} {E g:Nat} {m x m':Nat→Int} {f0 f1 f2 c0 c1 c2 e0 e1 e2:Int} (h:TL W E g m f0 f1 f2 c0 c1 c2 e0 e1 e2 x w) (q:W.heap.size+1+1+1<g) (n:g≠E):TL W E g m f0 f1 f2 c0 c1 c2 e0 e1 e2 m' ((((((w.setCell ⟨g,0,none⟩ (.int .i64 (m' 0))).setCell ⟨g,1,none⟩ (.int .i64 (m' 1))).setCell ⟨g,2,none⟩ (.int .i64 (m' 2))).setCell ⟨g,3,none⟩ (.int .i64 (m' 3))).setCell ⟨g,4,none⟩ (.int .i64 (m' 4))).setCell ⟨g,5,none⟩ (.int .i64 (m' 5))) :=
 ⟨tk_one (tk_one (tk_one (tk_one (tk_one (tk_one h.k q) q) q) q) q) q,tc_set (tc_set (tc_set (tc_set (tc_set (tc_set h.ke n) n) n) n) n) n,sc_whole h.kt,sf_set (sf_set (sf_set (sf_set (sf_set (sf_set h.ft)))))⟩
theorem tame_go (m x y z u:Nat→Int) (f0 f1 f2 c0 c1 c2 e0 e1 e2 g0 g1 g2 r1 r2 r4 q1 q2 q4:Int)
  (cM:∀ w,Calls Tryz.prog 51 #[tv f0 f1 f2,tv c0 c1 c2] w (RetV (.bool true) w))
  (cB:∀ w,Calls Tryz.prog 136 #[tv (m 0) (m 3) (m 5),tv f0 f1 f2,tv c0 c1 c2] w (RetV (tv e0 e1 e2) w))
  (cD:∀ w,PL w→Calls Tryz.prog 66 #[tv e0 e1 e2] w (RetV (sv x) w))
  (hg0:Hid (IntKind.i64.wrap (e0 - f0)=g0))
  (hg1:Hid (IntKind.i64.wrap (e1 - f1)=g1))
  (hg2:Hid (IntKind.i64.wrap (e2 - f2)=g2))
  (cR1:∀ w,Calls Tryz.prog 137 #[.int .i64 g1,.int .i64 g0] w (RetV (.int .i64 r1) w))
  (cR2:∀ w,Calls Tryz.prog 137 #[.int .i64 g2,.int .i64 g0] w (RetV (.int .i64 r2) w))
  (cR4:∀ w,Calls Tryz.prog 137 #[.int .i64 g2,.int .i64 g1] w (RetV (.int .i64 r4) w))
  (cC1:∀ w,Calls Tryz.prog 36 #[.int .i64 (m 1),.int .i64 r1] w (RetV (.int .i64 q1) w))
  (cC2:∀ w,Calls Tryz.prog 36 #[.int .i64 (m 2),.int .i64 r2] w (RetV (.int .i64 q2) w))
  (cC4:∀ w,Calls Tryz.prog 36 #[.int .i64 (m 4),.int .i64 r4] w (RetV (.int .i64 q4) w))
  (cP1:∀ w,PL w→Calls Tryz.prog 116 #[sv x,.int .i64 1,.int .i64 0,.int .i64 q1] w (RetV (.tuple #[sv y,.int .i64 0]) w))
  (cP2:∀ w,PL w→Calls Tryz.prog 116 #[sv y,.int .i64 2,.int .i64 0,.int .i64 q2] w (RetV (.tuple #[sv z,.int .i64 0]) w))
  (cP4:∀ w,PL w→Calls Tryz.prog 116 #[sv z,.int .i64 2,.int .i64 1,.int .i64 q4] w (RetV (.tuple #[sv u,.int .i64 0]) w)) (w:World) (hp:PL w) :
  Calls Tryz.prog 100 #[sv m,tv f0 f1 f2,tv c0 c1 c2] w (RetV (.tuple #[sv u,.int .i64 0]) w):=by
 have z1:=pl_lt hp
 have s:TK w m f0 f1 f2 c0 c1 c2 ((((w.alloc (Obj.cells #[.int .i64 (m 0),.int .i64 (m 1),.int .i64 (m 2),.int .i64 (m 3),.int .i64 (m 4),.int .i64 (m 5)] 42)).alloc (Obj.cells #[.int .i64 f0,.int .i64 f1,.int .i64 f2] 25)).alloc (Obj.cells #[.int .i64 c0,.int .i64 c1,.int .i64 c2] 25)).alloc (Obj.cells #[.int .i64 0,.int .i64 0,.int .i64 0,.int .i64 0,.int .i64 0,.int .i64 0] 42)):=⟨b_alloc (b_alloc (b_alloc (b_alloc (Below.refl _ _)))),sc_alloc (sc_alloc (sc_alloc (sc_new (m:=m) rfl))),tc_alloc (tc_alloc (tc_new (by simp))),tc_alloc (tc_new (by simp)),sc_new (m:=fun _=>0) (by simp),sf_new (by simp),pl_keep (b_alloc (b_alloc (b_alloc (b_alloc (Below.refl _ _))))) hp⟩
 clear hp
 have kf:=s.kf
 have kc:=s.kc
 go_enter Tryz.func100,Tryz.ntmps100
 go_wp2
 go_step3
 go_wp2_with fail
 generalize ((((w.alloc (Obj.cells #[.int .i64 (m 0),.int .i64 (m 1),.int .i64 (m 2),.int .i64 (m 3),.int .i64 (m 4),.int .i64 (m 5)] 42)).alloc (Obj.cells #[.int .i64 f0,.int .i64 f1,.int .i64 f2] 25)).alloc (Obj.cells #[.int .i64 c0,.int .i64 c1,.int .i64 c2] 25)).alloc (Obj.cells #[.int .i64 0,.int .i64 0,.int .i64 0,.int .i64 0,.int .i64 0,.int .i64 0] 42))=y0 at *
 refine (cM _).mono ?_
 rintro x_ y1 ⟨rfl,hb⟩
 replace s:=tk_keep s hb
 clear hb kf kc
 go_wp2
 refine region_each [20,21,22,23,24,8] (fun i_ X_ U_=>match i_ with | 0=>X_=.agg #[.int .i64 (m 0),.int .i64 (m 1),.int .i64 (m 2),.int .i64 (m 3),.int .i64 (m 4),.int .i64 (m 5)] | 1=>X_=.agg #[.int .i64 (m 0),.int .i64 (m 3),.int .i64 (m 5)] | 2=>X_=.agg #[.int .i64 f0,.int .i64 f1,.int .i64 f2] | 3=>X_=.agg #[.int .i64 c0,.int .i64 c1,.int .i64 c2] | 4=>X_=.agg #[.int .i64 e0,.int .i64 e1,.int .i64 e2] | 5=>∃ g,X_=.pointer (some ⟨g,0,none⟩)∧y1.heap.size≤g∧TC U_ g 0 0 0∧TF U_ g | _=>True) (fun i_=>i_ == 5) (by kernel_rfl) (by kernel_rfl) (by kernel_rfl) (by kernel_rfl) (by kernel_rfl) ?_ ?_ ?_ ?_
 ·refine swp (upS (upS (upS (upS (upS (upS up0 ?_) ?_) ?_) ?_) ?_) ?_)
  ·exact fun _ _ _ h _=>h
  ·exact fun _ _ _ h _=>h
  ·exact fun _ _ _ h _=>h
  ·exact fun _ _ _ h _=>h
  ·exact fun _ _ _ h _=>h
  ·intro x w w' h hb; obtain ⟨g,e,hg,hc,hf⟩:=h; exact ⟨g,e,hg,tc_keep hb hc,tf_keep hb hc hf⟩
 ·refine swa (upS (upS (upS (upS (upS (upS up0 ?_) ?_) ?_) ?_) ?_) ?_)
  ·exact fun _ _ ha=>absurd ha (by decide)
  ·exact fun _ _ ha=>absurd ha (by decide)
  ·exact fun _ _ ha=>absurd ha (by decide)
  ·exact fun _ _ ha=>absurd ha (by decide)
  ·exact fun _ _ ha=>absurd ha (by decide)
  ·intro x w _ h; obtain ⟨g,rfl,_,hg,_⟩:=h; exact tc_lt hg
 ·refine upS (upS (upS (upS (upS (upS up0 ?_) ?_) ?_) ?_) ?_) ?_
  all_goals intro v f w' hb hv hB hd
  ·have b3:f.tmps[3]?=some (.pointer (some ⟨w.heap.size,0,none⟩)):=(hb 3 (by decide)).trans rfl
   clear hb hv hd
   have c:=sc_six (sc_keep hB s.ka)
   refine wpOp_step rfl fun K hK=>?_
   go_simp
   exact hK _ _ ⟨_,rfl,Below.refl _ _,rfl,fun h=>absurd h (by decide)⟩
  ·have d0:=got (hv 0 20 rfl) (hd 0 (by kernel_rfl))
   clear hb hv hd
   refine wpOp_call rfl Tryz.call11 (args1 (eval_tmp d0)) (main_any m _ (pl_keep hB s.pl)) ?_
   rintro e5 w5_ ⟨rfl,hb5⟩
   exact ⟨_,rfl,_,rfl,hb5,rfl,fun h=>absurd h (by decide)⟩
  ·have b4:f.tmps[4]?=some (.pointer (some ⟨w.heap.size+1,0,none⟩)):=(hb 4 (by decide)).trans rfl
   clear hb hv hd
   have c:=tc_keep hB s.kf
   refine wpOp_step rfl fun K hK=>?_
   go_simp
   exact hK _ _ ⟨_,rfl,Below.refl _ _,rfl,fun h=>absurd h (by decide)⟩
  ·have b5:f.tmps[5]?=some (.pointer (some ⟨w.heap.size+1+1,0,none⟩)):=(hb 5 (by decide)).trans rfl
   clear hb hv hd
   have c:=tc_keep hB s.kc
   refine wpOp_step rfl fun K hK=>?_
   go_simp
   exact hK _ _ ⟨_,rfl,Below.refl _ _,rfl,fun h=>absurd h (by decide)⟩
  ·have d1:=got (hv 1 21 rfl) (hd 1 (by kernel_rfl))
   have d2:=got (hv 2 22 rfl) (hd 2 (by kernel_rfl))
   have d3:=got (hv 3 23 rfl) (hd 3 (by kernel_rfl))
   clear hb hv hd
   refine wpOp_call rfl Tryz.call136 (args3 (eval_tmp d1) (eval_tmp d2) (eval_tmp d3)) (cB _) ?_
   rintro e5 w5_ ⟨rfl,hb5⟩
   exact ⟨_,rfl,_,rfl,hb5,rfl,fun h=>absurd h (by decide)⟩
  ·clear hb hv hd
   refine wpOp_step rfl fun K hK=>?_
   go_simp
   exact hK _ _ ⟨_,rfl,b_alloc (Below.refl _ _),⟨_,rfl,hB.size,tc_new rfl,tf_new rfl⟩,fun _=>Nat.le_refl _⟩
 ·intro v w' hB hF hD
  have F0:v 0=_:=hF 0 (by simp)
  have F1:v 1=_:=hF 1 (by simp)
  have F2:v 2=_:=hF 2 (by simp)
  have F3:v 3=_:=hF 3 (by simp)
  have F4:v 4=_:=hF 4 (by simp)
  have F5:∃ g,(v 5)=.pointer (some ⟨g,0,none⟩)∧y1.heap.size≤g∧TC w' g 0 0 0∧TF w' g:=hF 5 (by simp)
  clear hF
  obtain ⟨E,e5,p5,v5,q5⟩:=F5
  simp only [frOf,frGo,Nat.zero_add,Nat.reduceAdd,F0,F1,F2,F3,F4,e5]
  have hz:=s.b.size
  have hA:=tc_lt s.kf
  have hC:=sc_lt s.kd
  replace s:=tk_keep s hB
  have hE:w.heap.size+1+1+1<E:=by omega
  have kE:TC (((w'.setCell ⟨E,0,none⟩ (.int .i64 e0)).setCell ⟨E,1,none⟩ (.int .i64 e1)).setCell ⟨E,2,none⟩ (.int .i64 e2)) E e0 e1 e2:=tc_whole v5
  have s1:=tk_one (g:=E) (o:=2) (x:=.int .i64 e2) (tk_one (g:=E) (o:=1) (x:=.int .i64 e1) (tk_one (g:=E) (o:=0) (x:=.int .i64 e0) s hE) hE) hE
  have KK:=Lib.hid (And.intro kE s1)
  clear F0 F1 F2 F3 F4 e5 hB hD kE s1 s cM cB p5 hz hA hC
  go_wp2_with fail
  generalize (((w'.setCell ⟨E,0,none⟩ (.int .i64 e0)).setCell ⟨E,1,none⟩ (.int .i64 e1)).setCell ⟨E,2,none⟩ (.int .i64 e2))=yb at *
  obtain ⟨kE,s⟩:=KK.out
  clear KK v5 q5
  refine (cD _ s.pl).mono ?_
  rintro e8 yc ⟨rfl,hb8⟩
  replace s:=tk_keep s hb8
  replace kE:=tc_keep hb8 kE
  clear hb8 cD
  have hE2:=tc_lt kE
  have s2:TL w E yc.heap.size m f0 f1 f2 c0 c1 c2 e0 e1 e2 x (yc.alloc (Obj.cells #[.int .i64 (x 0),.int .i64 (x 1),.int .i64 (x 2),.int .i64 (x 3),.int .i64 (x 4),.int .i64 (x 5)] 42)):=⟨tk_keep s (b_alloc (Below.refl _ _)),tc_alloc kE,sc_new (m:=x) rfl,sf_new rfl⟩
  have hT:w.heap.size+1+1+1<yc.heap.size:=by omega
  have nT:yc.heap.size≠E:=by omega
  clear hE2 s kE
  go_wp2
  go_step3
  go_wp2
  generalize yc.alloc (Obj.cells #[.int .i64 (x 0),.int .i64 (x 1),.int .i64 (x 2),.int .i64 (x 3),.int .i64 (x 4),.int .i64 (x 5)] 42)=yd at *
  generalize yc.heap.size=T at *
  refine wp_loop_rounds 4 ?_
  rw [rounds_succ]
  go_wp2
  refine wp_loop_rounds 4 ?_
  rw [rounds_succ]
  go_wp2
  rw [rounds_succ]
  go_wp2
  refine wp_loop_rounds 4 ?_
  rw [rounds_succ]
  have hat:=at_ok m 1 0 1 (by simp [At9])
  have l6:=sc_six s2.k.ka
  go_wp2_with fail
  refine (hat _ s2.k.pl).mono ?_
  rintro e9 ye ⟨rfl,hb9⟩
  replace s2:=tl_keep s2 hb9
  clear hb9 hat l6
  go_wp2
  refine region_each [43,44,45,46,47,48,49,50,51,52,53,54,55,56,57] (fun i_ X_ U_=>match i_ with | 0=>X_=.int .i64 1 | 1=>X_=.pointer (some ⟨E,1,none⟩) | 2=>X_=.int .i64 e1 | 3=>X_=.int .i64 1 | 4=>X_=.pointer (some ⟨w.heap.size+1,1,none⟩) | 5=>X_=.int .i64 f1 | 6=>X_=.int .i64 g1 | 7=>X_=.int .i64 0 | 8=>X_=.pointer (some ⟨E,0,none⟩) | 9=>X_=.int .i64 e0 | 10=>X_=.int .i64 0 | 11=>X_=.pointer (some ⟨w.heap.size+1,0,none⟩) | 12=>X_=.int .i64 f0 | 13=>X_=.int .i64 g0 | 14=>X_=.int .i64 r1 | _=>True) (fun i_=>false) (by kernel_rfl) (by kernel_rfl) (by kernel_rfl) (by kernel_rfl) (by kernel_rfl) ?_ (fun i x w hi ha h=>by cases ha) ?_ ?_
  ·refine swp (upS (upS (upS (upS (upS (upS (upS (upS (upS (upS (upS (upS (upS (upS (upS up0 ?_) ?_) ?_) ?_) ?_) ?_) ?_) ?_) ?_) ?_) ?_) ?_) ?_) ?_) ?_)
   all_goals exact fun _ _ _ h _=>h
  ·refine upS (upS (upS (upS (upS (upS (upS (upS (upS (upS (upS (upS (upS (upS (upS up0 ?_) ?_) ?_) ?_) ?_) ?_) ?_) ?_) ?_) ?_) ?_) ?_) ?_) ?_) ?_
   all_goals intro v f w' hb hv hB hd
   ·have b10:f.tmps[10]?=some (.int .i64 1):=(hb 10 (by decide)).trans rfl
    clear hb hv hd
    refine wpOp_step rfl fun K hK=>?_
    go_simp
    exact hK _ _ ⟨_,rfl,Below.refl _ _,rfl,fun h=>absurd h (by decide)⟩
   ·have b8:f.tmps[8]?=some (.pointer (some ⟨E,0,none⟩)):=(hb 8 (by decide)).trans rfl
    have d0:=got (hv 0 43 rfl) (hd 0 (by kernel_rfl))
    clear hb hv hd
    refine wpOp_step rfl fun K hK=>?_
    go_simp
    exact hK _ _ ⟨_,rfl,Below.refl _ _,rfl,fun h=>absurd h (by decide)⟩
   ·have d1:=got (hv 1 44 rfl) (hd 1 (by kernel_rfl))
    clear hb hv hd
    have c:=tc_keep hB s2.ke
    refine wpOp_step rfl fun K hK=>?_
    go_simp
    exact hK _ _ ⟨_,rfl,Below.refl _ _,rfl,fun h=>absurd h (by decide)⟩
   ·have b10:f.tmps[10]?=some (.int .i64 1):=(hb 10 (by decide)).trans rfl
    clear hb hv hd
    refine wpOp_step rfl fun K hK=>?_
    go_simp
    exact hK _ _ ⟨_,rfl,Below.refl _ _,rfl,fun h=>absurd h (by decide)⟩
   ·have b4:f.tmps[4]?=some (.pointer (some ⟨w.heap.size+1,0,none⟩)):=(hb 4 (by decide)).trans rfl
    have d3:=got (hv 3 46 rfl) (hd 3 (by kernel_rfl))
    clear hb hv hd
    refine wpOp_step rfl fun K hK=>?_
    go_simp
    exact hK _ _ ⟨_,rfl,Below.refl _ _,rfl,fun h=>absurd h (by decide)⟩
   ·have d4:=got (hv 4 47 rfl) (hd 4 (by kernel_rfl))
    clear hb hv hd
    have c:=tc_keep hB s2.k.kf
    refine wpOp_step rfl fun K hK=>?_
    go_simp
    exact hK _ _ ⟨_,rfl,Below.refl _ _,rfl,fun h=>absurd h (by decide)⟩
   ·have d2:=got (hv 2 45 rfl) (hd 2 (by kernel_rfl))
    have d5:=got (hv 5 48 rfl) (hd 5 (by kernel_rfl))
    clear hb hv hd
    have hg:=hg1.out
    refine wpOp_step rfl fun K hK=>?_
    go_simp
    exact hK _ _ ⟨_,rfl,Below.refl _ _,rfl,fun h=>absurd h (by decide)⟩
   ·have b11:f.tmps[11]?=some (.int .i64 0):=(hb 11 (by decide)).trans rfl
    clear hb hv hd
    refine wpOp_step rfl fun K hK=>?_
    go_simp
    exact hK _ _ ⟨_,rfl,Below.refl _ _,rfl,fun h=>absurd h (by decide)⟩
   ·have b8:f.tmps[8]?=some (.pointer (some ⟨E,0,none⟩)):=(hb 8 (by decide)).trans rfl
    have d7:=got (hv 7 50 rfl) (hd 7 (by kernel_rfl))
    clear hb hv hd
    refine wpOp_step rfl fun K hK=>?_
    go_simp
    exact hK _ _ ⟨_,rfl,Below.refl _ _,rfl,fun h=>absurd h (by decide)⟩
   ·have d8:=got (hv 8 51 rfl) (hd 8 (by kernel_rfl))
    clear hb hv hd
    have c:=tc_keep hB s2.ke
    refine wpOp_step rfl fun K hK=>?_
    go_simp
    exact hK _ _ ⟨_,rfl,Below.refl _ _,rfl,fun h=>absurd h (by decide)⟩
   ·have b11:f.tmps[11]?=some (.int .i64 0):=(hb 11 (by decide)).trans rfl
    clear hb hv hd
    refine wpOp_step rfl fun K hK=>?_
    go_simp
    exact hK _ _ ⟨_,rfl,Below.refl _ _,rfl,fun h=>absurd h (by decide)⟩
   ·have b4:f.tmps[4]?=some (.pointer (some ⟨w.heap.size+1,0,none⟩)):=(hb 4 (by decide)).trans rfl
    have d10:=got (hv 10 53 rfl) (hd 10 (by kernel_rfl))
    clear hb hv hd
    refine wpOp_step rfl fun K hK=>?_
    go_simp
    exact hK _ _ ⟨_,rfl,Below.refl _ _,rfl,fun h=>absurd h (by decide)⟩
   ·have d11:=got (hv 11 54 rfl) (hd 11 (by kernel_rfl))
    clear hb hv hd
    have c:=tc_keep hB s2.k.kf
    refine wpOp_step rfl fun K hK=>?_
    go_simp
    exact hK _ _ ⟨_,rfl,Below.refl _ _,rfl,fun h=>absurd h (by decide)⟩
   ·have d9:=got (hv 9 52 rfl) (hd 9 (by kernel_rfl))
    have d12:=got (hv 12 55 rfl) (hd 12 (by kernel_rfl))
    clear hb hv hd
    have hg:=hg0.out
    refine wpOp_step rfl fun K hK=>?_
    go_simp
    exact hK _ _ ⟨_,rfl,Below.refl _ _,rfl,fun h=>absurd h (by decide)⟩
   ·have d6:=got (hv 6 49 rfl) (hd 6 (by kernel_rfl))
    have d13:=got (hv 13 56 rfl) (hd 13 (by kernel_rfl))
    clear hb hv hd
    refine wpOp_call rfl Tryz.call137 (args2 (eval_tmp d6) (eval_tmp d13)) (cR1 _) ?_
    rintro e5 w5_ ⟨rfl,hb5⟩
    exact ⟨_,rfl,_,rfl,hb5,rfl,fun h=>absurd h (by decide)⟩
  ·intro v w' hB hF hD
   have F0:v 0=_:=hF 0 (by simp)
   have F1:v 1=_:=hF 1 (by simp)
   have F2:v 2=_:=hF 2 (by simp)
   have F3:v 3=_:=hF 3 (by simp)
   have F4:v 4=_:=hF 4 (by simp)
   have F5:v 5=_:=hF 5 (by simp)
   have F6:v 6=_:=hF 6 (by simp)
   have F7:v 7=_:=hF 7 (by simp)
   have F8:v 8=_:=hF 8 (by simp)
   have F9:v 9=_:=hF 9 (by simp)
   have F10:v 10=_:=hF 10 (by simp)
   have F11:v 11=_:=hF 11 (by simp)
   have F12:v 12=_:=hF 12 (by simp)
   have F13:v 13=_:=hF 13 (by simp)
   have F14:v 14=_:=hF 14 (by simp)
   clear hF
   simp only [frOf,frGo,Nat.zero_add,Nat.reduceAdd,F0,F1,F2,F3,F4,F5,F6,F7,F8,F9,F10,F11,F12,F13,F14]
   replace s2:=tl_keep s2 hB
   clear hB hD F0 F1 F2 F3 F4 F5 F6 F7 F8 F9 F10 F11 F12 F13 F14
   go_wp2
   refine region_late_k [59,60,61,62,63,64,65,58,66,67] 9 (fun i_=>match i_ with | 0=>.agg #[.int .i64 (x 0),.int .i64 (x 1),.int .i64 (x 2),.int .i64 (x 3),.int .i64 (x 4),.int .i64 (x 5)] | 1=>.int .i64 1 | 2=>.int .i64 0 | 3=>.int .i64 (m 1) | 4=>.int .i64 r1 | 5=>.int .i64 q1 | 6=>.tuple #[.agg #[.int .i64 (y 0),.int .i64 (y 1),.int .i64 (y 2),.int .i64 (y 3),.int .i64 (y 4),.int .i64 (y 5)],.int .i64 0] | 7=>.tuple #[.agg #[.int .i64 (y 0),.int .i64 (y 1),.int .i64 (y 2),.int .i64 (y 3),.int .i64 (y 4),.int .i64 (y 5)],.int .i64 0] | 8=>.agg #[.int .i64 (y 0),.int .i64 (y 1),.int .i64 (y 2),.int .i64 (y 3),.int .i64 (y 4),.int .i64 (y 5)] | 9=>.int .i64 0 | _=>undef) (fun f=>f) (fun U_=>TL w E T m f0 f1 f2 c0 c1 c2 e0 e1 e2 y U_) (fun i_ X_ U_=>match i_ with | 0=>X_=.agg #[.int .i64 (x 0),.int .i64 (x 1),.int .i64 (x 2),.int .i64 (x 3),.int .i64 (x 4),.int .i64 (x 5)] | 1=>X_=.int .i64 1 | 2=>X_=.int .i64 0 | 3=>X_=.int .i64 (m 1) | 4=>X_=.int .i64 r1 | 5=>X_=.int .i64 q1 | 6=>X_=.tuple #[.agg #[.int .i64 (y 0),.int .i64 (y 1),.int .i64 (y 2),.int .i64 (y 3),.int .i64 (y 4),.int .i64 (y 5)],.int .i64 0] | 7=>X_=.tuple #[.agg #[.int .i64 (y 0),.int .i64 (y 1),.int .i64 (y 2),.int .i64 (y 3),.int .i64 (y 4),.int .i64 (y 5)],.int .i64 0] | 8=>X_=.agg #[.int .i64 (y 0),.int .i64 (y 1),.int .i64 (y 2),.int .i64 (y 3),.int .i64 (y 4),.int .i64 (y 5)] | 9=>X_=.int .i64 0 | _=>True) (fun i_=>false) (by kernel_rfl) (by kernel_rfl) (by kernel_rfl) (by kernel_rfl) ?_ (fun i x w hi ha h=>by cases ha) ?_ ?_ ?_ ?_
   ·refine swp (upS (upS (upS (upS (upS (upS (upS (upS (upS (upS up0 ?_) ?_) ?_) ?_) ?_) ?_) ?_) ?_) ?_) ?_)
    all_goals exact fun _ _ _ h _=>h
   ·refine upS (upS (upS (upS (upS (upS (upS (upS (upS (upS up0 ?_) ?_) ?_) ?_) ?_) ?_) ?_) ?_) ?_) ?_
    all_goals intro v f w' hb hv hB hd
    ·have b9:f.tmps[9]?=some (.pointer (some ⟨T,0,none⟩)):=(hb 9 (by decide)).trans rfl
     clear hb hv hd
     have c:=sc_six (sc_keep hB s2.kt)
     refine wpOp_step rfl fun K hK=>?_
     go_simp
     exact hK _ _ ⟨_,rfl,Below.refl _ _,rfl,fun h=>absurd h (by decide)⟩
    ·have b10:f.tmps[10]?=some (.int .i64 1):=(hb 10 (by decide)).trans rfl
     clear hb hv hd
     refine wpOp_step rfl fun K hK=>?_
     go_simp
     exact hK _ _ ⟨_,rfl,Below.refl _ _,rfl,fun h=>absurd h (by decide)⟩
    ·have b11:f.tmps[11]?=some (.int .i64 0):=(hb 11 (by decide)).trans rfl
     clear hb hv hd
     refine wpOp_step rfl fun K hK=>?_
     go_simp
     exact hK _ _ ⟨_,rfl,Below.refl _ _,rfl,fun h=>absurd h (by decide)⟩
    ·have b12:f.tmps[12]?=some (.int .i64 (m 1)):=(hb 12 (by decide)).trans rfl
     clear hb hv hd
     refine wpOp_step rfl fun K hK=>?_
     go_simp
     exact hK _ _ ⟨_,rfl,Below.refl _ _,rfl,fun h=>absurd h (by decide)⟩
    ·have b14:f.tmps[14]?=some (.int .i64 r1):=(hb 14 (by decide)).trans rfl
     clear hb hv hd
     refine wpOp_step rfl fun K hK=>?_
     go_simp
     exact hK _ _ ⟨_,rfl,Below.refl _ _,rfl,fun h=>absurd h (by decide)⟩
    ·have d3:=got (hv 3 62 rfl) (hd 3 (by kernel_rfl))
     have d4:=got (hv 4 63 rfl) (hd 4 (by kernel_rfl))
     clear hb hv hd
     refine wpOp_call rfl Tryz.call36 (args2 (eval_tmp d3) (eval_tmp d4)) (cC1 _) ?_
     rintro e5 w5_ ⟨rfl,hb5⟩
     exact ⟨_,rfl,_,rfl,hb5,rfl,fun h=>absurd h (by decide)⟩
    ·have d0:=got (hv 0 59 rfl) (hd 0 (by kernel_rfl))
     have d1:=got (hv 1 60 rfl) (hd 1 (by kernel_rfl))
     have d2:=got (hv 2 61 rfl) (hd 2 (by kernel_rfl))
     have d5:=got (hv 5 64 rfl) (hd 5 (by kernel_rfl))
     clear hb hv hd
     refine wpOp_call rfl Tryz.call116 (args4 (eval_tmp d0) (eval_tmp d1) (eval_tmp d2) (eval_tmp d5)) (cP1 _ (pl_keep hB s2.k.pl)) ?_
     rintro e5 w5_ ⟨rfl,hb5⟩
     exact ⟨_,rfl,_,rfl,hb5,rfl,fun h=>absurd h (by decide)⟩
    ·have d6:=got (hv 6 65 rfl) (hd 6 (by kernel_rfl))
     clear hb hv hd
     refine wpOp_step rfl fun K hK=>?_
     go_simp
     exact hK _ _ ⟨_,rfl,Below.refl _ _,rfl,fun h=>absurd h (by decide)⟩
    ·have d7:=got (hv 7 58 rfl) (hd 7 (by kernel_rfl))
     clear hb hv hd
     refine wpOp_step rfl fun K hK=>?_
     go_simp
     exact hK _ _ ⟨_,rfl,Below.refl _ _,rfl,fun h=>absurd h (by decide)⟩
    ·have d7:=got (hv 7 58 rfl) (hd 7 (by kernel_rfl))
     clear hb hv hd
     refine wpOp_step rfl fun K hK=>?_
     go_simp
     exact hK _ _ ⟨_,rfl,Below.refl _ _,rfl,fun h=>absurd h (by decide)⟩
   ·intro v w' hB hF hD
    have F0:v 0=_:=hF 0 (by simp)
    have F1:v 1=_:=hF 1 (by simp)
    have F2:v 2=_:=hF 2 (by simp)
    have F3:v 3=_:=hF 3 (by simp)
    have F4:v 4=_:=hF 4 (by simp)
    have F5:v 5=_:=hF 5 (by simp)
    have F6:v 6=_:=hF 6 (by simp)
    have F7:v 7=_:=hF 7 (by simp)
    have F8:v 8=_:=hF 8 (by simp)
    have F9:v 9=_:=hF 9 (by simp)
    clear hF
    simp only [frOf,frGo,Nat.zero_add,Nat.reduceAdd,F0,F1,F2,F3,F4,F5,F6,F7,F8,F9]
    have s3:=tl_keep s2 hB
    have t6:=sc_six s3.kt
    have u6:=sf_six s3.ft
    have sN:=tl_put (m':=y) s3 hT nT
    clear F0 F1 F2 F3 F4 F5 F6 F7 F8 F9 hB hD s2 s3
    go_wp2
   ·intro v w' hB hF hD
    have F0:v 0=_:=hF 0 (by simp) (by decide)
    have F1:v 1=_:=hF 1 (by simp) (by decide)
    have F2:v 2=_:=hF 2 (by simp) (by decide)
    have F3:v 3=_:=hF 3 (by simp) (by decide)
    have F4:v 4=_:=hF 4 (by simp) (by decide)
    have F5:v 5=_:=hF 5 (by simp) (by decide)
    have F6:v 6=_:=hF 6 (by simp) (by decide)
    have F7:v 7=_:=hF 7 (by simp) (by decide)
    have F8:v 8=_:=hF 8 (by simp) (by decide)
    clear hF
    simp only [frOf,frGo,Nat.zero_add,Nat.reduceAdd,F0,F1,F2,F3,F4,F5,F6,F7,F8]
    have s3:=tl_keep s2 hB
    have t6:=sc_six s3.kt
    have u6:=sf_six s3.ft
    have sN:=tl_put (m':=y) s3 hT nT
    clear F0 F1 F2 F3 F4 F5 F6 F7 F8 hB hD s2 s3
    refine wpOp_step rfl (fun K hK=>?_)
    go_simp
    refine hK _ _ ?_
    clear hK K
    refine wpOp_step rfl (fun K hK=>?_)
    go_simp
    refine hK _ _ ?_
    clear hK K
    rw [List.drop_eq_nil_of_le (by simp)]
    refine wpList_end ⟨rfl,?_,sN⟩
    simp only [Act.put,List.setIfInBounds_toArray,List.set_cons_zero,List.set_cons_succ]
   ·intro w' hst
    simp only [frOf,frGo,Nat.zero_add,Nat.reduceAdd]
    clear s2 cR1 cC1 cP1
    have s2:=hst
    clear hst
    go_wp2
    rw [rounds_succ]
    go_wp2
    rw [rounds_succ]
    go_wp2
    refine wp_loop_rounds 4 ?_
    rw [rounds_succ]
    have hat:=at_ok m 2 0 2 (by simp [At9])
    have l6:=sc_six s2.k.ka
    go_wp2_with fail
    refine (hat _ s2.k.pl).mono ?_
    rintro e9 ye ⟨rfl,hb9⟩
    replace s2:=tl_keep s2 hb9
    clear hb9 hat l6
    go_wp2
    refine region_each [43,44,45,46,47,48,49,50,51,52,53,54,55,56,57] (fun i_ X_ U_=>match i_ with | 0=>X_=.int .i64 2 | 1=>X_=.pointer (some ⟨E,2,none⟩) | 2=>X_=.int .i64 e2 | 3=>X_=.int .i64 2 | 4=>X_=.pointer (some ⟨w.heap.size+1,2,none⟩) | 5=>X_=.int .i64 f2 | 6=>X_=.int .i64 g2 | 7=>X_=.int .i64 0 | 8=>X_=.pointer (some ⟨E,0,none⟩) | 9=>X_=.int .i64 e0 | 10=>X_=.int .i64 0 | 11=>X_=.pointer (some ⟨w.heap.size+1,0,none⟩) | 12=>X_=.int .i64 f0 | 13=>X_=.int .i64 g0 | 14=>X_=.int .i64 r2 | _=>True) (fun i_=>false) (by kernel_rfl) (by kernel_rfl) (by kernel_rfl) (by kernel_rfl) (by kernel_rfl) ?_ (fun i x w hi ha h=>by cases ha) ?_ ?_
    ·refine swp (upS (upS (upS (upS (upS (upS (upS (upS (upS (upS (upS (upS (upS (upS (upS up0 ?_) ?_) ?_) ?_) ?_) ?_) ?_) ?_) ?_) ?_) ?_) ?_) ?_) ?_) ?_)
     all_goals exact fun _ _ _ h _=>h
    ·refine upS (upS (upS (upS (upS (upS (upS (upS (upS (upS (upS (upS (upS (upS (upS up0 ?_) ?_) ?_) ?_) ?_) ?_) ?_) ?_) ?_) ?_) ?_) ?_) ?_) ?_) ?_
     all_goals intro v f w' hb hv hB hd
     ·have b10:f.tmps[10]?=some (.int .i64 2):=(hb 10 (by decide)).trans rfl
      clear hb hv hd
      refine wpOp_step rfl fun K hK=>?_
      go_simp
      exact hK _ _ ⟨_,rfl,Below.refl _ _,rfl,fun h=>absurd h (by decide)⟩
     ·have b8:f.tmps[8]?=some (.pointer (some ⟨E,0,none⟩)):=(hb 8 (by decide)).trans rfl
      have d0:=got (hv 0 43 rfl) (hd 0 (by kernel_rfl))
      clear hb hv hd
      refine wpOp_step rfl fun K hK=>?_
      go_simp
      exact hK _ _ ⟨_,rfl,Below.refl _ _,rfl,fun h=>absurd h (by decide)⟩
     ·have d1:=got (hv 1 44 rfl) (hd 1 (by kernel_rfl))
      clear hb hv hd
      have c:=tc_keep hB s2.ke
      refine wpOp_step rfl fun K hK=>?_
      go_simp
      exact hK _ _ ⟨_,rfl,Below.refl _ _,rfl,fun h=>absurd h (by decide)⟩
     ·have b10:f.tmps[10]?=some (.int .i64 2):=(hb 10 (by decide)).trans rfl
      clear hb hv hd
      refine wpOp_step rfl fun K hK=>?_
      go_simp
      exact hK _ _ ⟨_,rfl,Below.refl _ _,rfl,fun h=>absurd h (by decide)⟩
     ·have b4:f.tmps[4]?=some (.pointer (some ⟨w.heap.size+1,0,none⟩)):=(hb 4 (by decide)).trans rfl
      have d3:=got (hv 3 46 rfl) (hd 3 (by kernel_rfl))
      clear hb hv hd
      refine wpOp_step rfl fun K hK=>?_
      go_simp
      exact hK _ _ ⟨_,rfl,Below.refl _ _,rfl,fun h=>absurd h (by decide)⟩
     ·have d4:=got (hv 4 47 rfl) (hd 4 (by kernel_rfl))
      clear hb hv hd
      have c:=tc_keep hB s2.k.kf
      refine wpOp_step rfl fun K hK=>?_
      go_simp
      exact hK _ _ ⟨_,rfl,Below.refl _ _,rfl,fun h=>absurd h (by decide)⟩
     ·have d2:=got (hv 2 45 rfl) (hd 2 (by kernel_rfl))
      have d5:=got (hv 5 48 rfl) (hd 5 (by kernel_rfl))
      clear hb hv hd
      have hg:=hg2.out
      refine wpOp_step rfl fun K hK=>?_
      go_simp
      exact hK _ _ ⟨_,rfl,Below.refl _ _,rfl,fun h=>absurd h (by decide)⟩
     ·have b11:f.tmps[11]?=some (.int .i64 0):=(hb 11 (by decide)).trans rfl
      clear hb hv hd
      refine wpOp_step rfl fun K hK=>?_
      go_simp
      exact hK _ _ ⟨_,rfl,Below.refl _ _,rfl,fun h=>absurd h (by decide)⟩
     ·have b8:f.tmps[8]?=some (.pointer (some ⟨E,0,none⟩)):=(hb 8 (by decide)).trans rfl
      have d7:=got (hv 7 50 rfl) (hd 7 (by kernel_rfl))
      clear hb hv hd
      refine wpOp_step rfl fun K hK=>?_
      go_simp
      exact hK _ _ ⟨_,rfl,Below.refl _ _,rfl,fun h=>absurd h (by decide)⟩
     ·have d8:=got (hv 8 51 rfl) (hd 8 (by kernel_rfl))
      clear hb hv hd
      have c:=tc_keep hB s2.ke
      refine wpOp_step rfl fun K hK=>?_
      go_simp
      exact hK _ _ ⟨_,rfl,Below.refl _ _,rfl,fun h=>absurd h (by decide)⟩
     ·have b11:f.tmps[11]?=some (.int .i64 0):=(hb 11 (by decide)).trans rfl
      clear hb hv hd
      refine wpOp_step rfl fun K hK=>?_
      go_simp
      exact hK _ _ ⟨_,rfl,Below.refl _ _,rfl,fun h=>absurd h (by decide)⟩
     ·have b4:f.tmps[4]?=some (.pointer (some ⟨w.heap.size+1,0,none⟩)):=(hb 4 (by decide)).trans rfl
      have d10:=got (hv 10 53 rfl) (hd 10 (by kernel_rfl))
      clear hb hv hd
      refine wpOp_step rfl fun K hK=>?_
      go_simp
      exact hK _ _ ⟨_,rfl,Below.refl _ _,rfl,fun h=>absurd h (by decide)⟩
     ·have d11:=got (hv 11 54 rfl) (hd 11 (by kernel_rfl))
      clear hb hv hd
      have c:=tc_keep hB s2.k.kf
      refine wpOp_step rfl fun K hK=>?_
      go_simp
      exact hK _ _ ⟨_,rfl,Below.refl _ _,rfl,fun h=>absurd h (by decide)⟩
     ·have d9:=got (hv 9 52 rfl) (hd 9 (by kernel_rfl))
      have d12:=got (hv 12 55 rfl) (hd 12 (by kernel_rfl))
      clear hb hv hd
      have hg:=hg0.out
      refine wpOp_step rfl fun K hK=>?_
      go_simp
      exact hK _ _ ⟨_,rfl,Below.refl _ _,rfl,fun h=>absurd h (by decide)⟩
     ·have d6:=got (hv 6 49 rfl) (hd 6 (by kernel_rfl))
      have d13:=got (hv 13 56 rfl) (hd 13 (by kernel_rfl))
      clear hb hv hd
      refine wpOp_call rfl Tryz.call137 (args2 (eval_tmp d6) (eval_tmp d13)) (cR2 _) ?_
      rintro e5 w5_ ⟨rfl,hb5⟩
      exact ⟨_,rfl,_,rfl,hb5,rfl,fun h=>absurd h (by decide)⟩
    ·intro v w' hB hF hD
     have F0:v 0=_:=hF 0 (by simp)
     have F1:v 1=_:=hF 1 (by simp)
     have F2:v 2=_:=hF 2 (by simp)
     have F3:v 3=_:=hF 3 (by simp)
     have F4:v 4=_:=hF 4 (by simp)
     have F5:v 5=_:=hF 5 (by simp)
     have F6:v 6=_:=hF 6 (by simp)
     have F7:v 7=_:=hF 7 (by simp)
     have F8:v 8=_:=hF 8 (by simp)
     have F9:v 9=_:=hF 9 (by simp)
     have F10:v 10=_:=hF 10 (by simp)
     have F11:v 11=_:=hF 11 (by simp)
     have F12:v 12=_:=hF 12 (by simp)
     have F13:v 13=_:=hF 13 (by simp)
     have F14:v 14=_:=hF 14 (by simp)
     clear hF
     simp only [frOf,frGo,Nat.zero_add,Nat.reduceAdd,F0,F1,F2,F3,F4,F5,F6,F7,F8,F9,F10,F11,F12,F13,F14]
     replace s2:=tl_keep s2 hB
     clear hB hD F0 F1 F2 F3 F4 F5 F6 F7 F8 F9 F10 F11 F12 F13 F14
     go_wp2
     refine region_late_k [59,60,61,62,63,64,65,58,66,67] 9 (fun i_=>match i_ with | 0=>.agg #[.int .i64 (y 0),.int .i64 (y 1),.int .i64 (y 2),.int .i64 (y 3),.int .i64 (y 4),.int .i64 (y 5)] | 1=>.int .i64 2 | 2=>.int .i64 0 | 3=>.int .i64 (m 2) | 4=>.int .i64 r2 | 5=>.int .i64 q2 | 6=>.tuple #[.agg #[.int .i64 (z 0),.int .i64 (z 1),.int .i64 (z 2),.int .i64 (z 3),.int .i64 (z 4),.int .i64 (z 5)],.int .i64 0] | 7=>.tuple #[.agg #[.int .i64 (z 0),.int .i64 (z 1),.int .i64 (z 2),.int .i64 (z 3),.int .i64 (z 4),.int .i64 (z 5)],.int .i64 0] | 8=>.agg #[.int .i64 (z 0),.int .i64 (z 1),.int .i64 (z 2),.int .i64 (z 3),.int .i64 (z 4),.int .i64 (z 5)] | 9=>.int .i64 0 | _=>undef) (fun f=>f) (fun U_=>TL w E T m f0 f1 f2 c0 c1 c2 e0 e1 e2 z U_) (fun i_ X_ U_=>match i_ with | 0=>X_=.agg #[.int .i64 (y 0),.int .i64 (y 1),.int .i64 (y 2),.int .i64 (y 3),.int .i64 (y 4),.int .i64 (y 5)] | 1=>X_=.int .i64 2 | 2=>X_=.int .i64 0 | 3=>X_=.int .i64 (m 2) | 4=>X_=.int .i64 r2 | 5=>X_=.int .i64 q2 | 6=>X_=.tuple #[.agg #[.int .i64 (z 0),.int .i64 (z 1),.int .i64 (z 2),.int .i64 (z 3),.int .i64 (z 4),.int .i64 (z 5)],.int .i64 0] | 7=>X_=.tuple #[.agg #[.int .i64 (z 0),.int .i64 (z 1),.int .i64 (z 2),.int .i64 (z 3),.int .i64 (z 4),.int .i64 (z 5)],.int .i64 0] | 8=>X_=.agg #[.int .i64 (z 0),.int .i64 (z 1),.int .i64 (z 2),.int .i64 (z 3),.int .i64 (z 4),.int .i64 (z 5)] | 9=>X_=.int .i64 0 | _=>True) (fun i_=>false) (by kernel_rfl) (by kernel_rfl) (by kernel_rfl) (by kernel_rfl) ?_ (fun i x w hi ha h=>by cases ha) ?_ ?_ ?_ ?_
     ·refine swp (upS (upS (upS (upS (upS (upS (upS (upS (upS (upS up0 ?_) ?_) ?_) ?_) ?_) ?_) ?_) ?_) ?_) ?_)
      all_goals exact fun _ _ _ h _=>h
     ·refine upS (upS (upS (upS (upS (upS (upS (upS (upS (upS up0 ?_) ?_) ?_) ?_) ?_) ?_) ?_) ?_) ?_) ?_
      all_goals intro v f w' hb hv hB hd
      ·have b9:f.tmps[9]?=some (.pointer (some ⟨T,0,none⟩)):=(hb 9 (by decide)).trans rfl
       clear hb hv hd
       have c:=sc_six (sc_keep hB s2.kt)
       refine wpOp_step rfl fun K hK=>?_
       go_simp
       exact hK _ _ ⟨_,rfl,Below.refl _ _,rfl,fun h=>absurd h (by decide)⟩
      ·have b10:f.tmps[10]?=some (.int .i64 2):=(hb 10 (by decide)).trans rfl
       clear hb hv hd
       refine wpOp_step rfl fun K hK=>?_
       go_simp
       exact hK _ _ ⟨_,rfl,Below.refl _ _,rfl,fun h=>absurd h (by decide)⟩
      ·have b11:f.tmps[11]?=some (.int .i64 0):=(hb 11 (by decide)).trans rfl
       clear hb hv hd
       refine wpOp_step rfl fun K hK=>?_
       go_simp
       exact hK _ _ ⟨_,rfl,Below.refl _ _,rfl,fun h=>absurd h (by decide)⟩
      ·have b12:f.tmps[12]?=some (.int .i64 (m 2)):=(hb 12 (by decide)).trans rfl
       clear hb hv hd
       refine wpOp_step rfl fun K hK=>?_
       go_simp
       exact hK _ _ ⟨_,rfl,Below.refl _ _,rfl,fun h=>absurd h (by decide)⟩
      ·have b14:f.tmps[14]?=some (.int .i64 r2):=(hb 14 (by decide)).trans rfl
       clear hb hv hd
       refine wpOp_step rfl fun K hK=>?_
       go_simp
       exact hK _ _ ⟨_,rfl,Below.refl _ _,rfl,fun h=>absurd h (by decide)⟩
      ·have d3:=got (hv 3 62 rfl) (hd 3 (by kernel_rfl))
       have d4:=got (hv 4 63 rfl) (hd 4 (by kernel_rfl))
       clear hb hv hd
       refine wpOp_call rfl Tryz.call36 (args2 (eval_tmp d3) (eval_tmp d4)) (cC2 _) ?_
       rintro e5 w5_ ⟨rfl,hb5⟩
       exact ⟨_,rfl,_,rfl,hb5,rfl,fun h=>absurd h (by decide)⟩
      ·have d0:=got (hv 0 59 rfl) (hd 0 (by kernel_rfl))
       have d1:=got (hv 1 60 rfl) (hd 1 (by kernel_rfl))
       have d2:=got (hv 2 61 rfl) (hd 2 (by kernel_rfl))
       have d5:=got (hv 5 64 rfl) (hd 5 (by kernel_rfl))
       clear hb hv hd
       refine wpOp_call rfl Tryz.call116 (args4 (eval_tmp d0) (eval_tmp d1) (eval_tmp d2) (eval_tmp d5)) (cP2 _ (pl_keep hB s2.k.pl)) ?_
       rintro e5 w5_ ⟨rfl,hb5⟩
       exact ⟨_,rfl,_,rfl,hb5,rfl,fun h=>absurd h (by decide)⟩
      ·have d6:=got (hv 6 65 rfl) (hd 6 (by kernel_rfl))
       clear hb hv hd
       refine wpOp_step rfl fun K hK=>?_
       go_simp
       exact hK _ _ ⟨_,rfl,Below.refl _ _,rfl,fun h=>absurd h (by decide)⟩
      ·have d7:=got (hv 7 58 rfl) (hd 7 (by kernel_rfl))
       clear hb hv hd
       refine wpOp_step rfl fun K hK=>?_
       go_simp
       exact hK _ _ ⟨_,rfl,Below.refl _ _,rfl,fun h=>absurd h (by decide)⟩
      ·have d7:=got (hv 7 58 rfl) (hd 7 (by kernel_rfl))
       clear hb hv hd
       refine wpOp_step rfl fun K hK=>?_
       go_simp
       exact hK _ _ ⟨_,rfl,Below.refl _ _,rfl,fun h=>absurd h (by decide)⟩
     ·intro v w' hB hF hD
      have F0:v 0=_:=hF 0 (by simp)
      have F1:v 1=_:=hF 1 (by simp)
      have F2:v 2=_:=hF 2 (by simp)
      have F3:v 3=_:=hF 3 (by simp)
      have F4:v 4=_:=hF 4 (by simp)
      have F5:v 5=_:=hF 5 (by simp)
      have F6:v 6=_:=hF 6 (by simp)
      have F7:v 7=_:=hF 7 (by simp)
      have F8:v 8=_:=hF 8 (by simp)
      have F9:v 9=_:=hF 9 (by simp)
      clear hF
      simp only [frOf,frGo,Nat.zero_add,Nat.reduceAdd,F0,F1,F2,F3,F4,F5,F6,F7,F8,F9]
      have s3:=tl_keep s2 hB
      have t6:=sc_six s3.kt
      have u6:=sf_six s3.ft
      have sN:=tl_put (m':=z) s3 hT nT
      clear F0 F1 F2 F3 F4 F5 F6 F7 F8 F9 hB hD s2 s3
      go_wp2
     ·intro v w' hB hF hD
      have F0:v 0=_:=hF 0 (by simp) (by decide)
      have F1:v 1=_:=hF 1 (by simp) (by decide)
      have F2:v 2=_:=hF 2 (by simp) (by decide)
      have F3:v 3=_:=hF 3 (by simp) (by decide)
      have F4:v 4=_:=hF 4 (by simp) (by decide)
      have F5:v 5=_:=hF 5 (by simp) (by decide)
      have F6:v 6=_:=hF 6 (by simp) (by decide)
      have F7:v 7=_:=hF 7 (by simp) (by decide)
      have F8:v 8=_:=hF 8 (by simp) (by decide)
      clear hF
      simp only [frOf,frGo,Nat.zero_add,Nat.reduceAdd,F0,F1,F2,F3,F4,F5,F6,F7,F8]
      have s3:=tl_keep s2 hB
      have t6:=sc_six s3.kt
      have u6:=sf_six s3.ft
      have sN:=tl_put (m':=z) s3 hT nT
      clear F0 F1 F2 F3 F4 F5 F6 F7 F8 hB hD s2 s3
      refine wpOp_step rfl (fun K hK=>?_)
      go_simp
      refine hK _ _ ?_
      clear hK K
      refine wpOp_step rfl (fun K hK=>?_)
      go_simp
      refine hK _ _ ?_
      clear hK K
      rw [List.drop_eq_nil_of_le (by simp)]
      refine wpList_end ⟨rfl,?_,sN⟩
      simp only [Act.put,List.setIfInBounds_toArray,List.set_cons_zero,List.set_cons_succ]
     ·intro w' hst
      simp only [frOf,frGo,Nat.zero_add,Nat.reduceAdd]
      clear s2 cR2 cC2 cP2
      have s2:=hst
      clear hst
      go_wp2
      rw [rounds_succ]
      have hat:=at_ok m 2 1 4 (by simp [At9])
      have l6:=sc_six s2.k.ka
      go_wp2_with fail
      refine (hat _ s2.k.pl).mono ?_
      rintro e9 ye ⟨rfl,hb9⟩
      replace s2:=tl_keep s2 hb9
      clear hb9 hat l6
      go_wp2
      refine region_each [43,44,45,46,47,48,49,50,51,52,53,54,55,56,57] (fun i_ X_ U_=>match i_ with | 0=>X_=.int .i64 2 | 1=>X_=.pointer (some ⟨E,2,none⟩) | 2=>X_=.int .i64 e2 | 3=>X_=.int .i64 2 | 4=>X_=.pointer (some ⟨w.heap.size+1,2,none⟩) | 5=>X_=.int .i64 f2 | 6=>X_=.int .i64 g2 | 7=>X_=.int .i64 1 | 8=>X_=.pointer (some ⟨E,1,none⟩) | 9=>X_=.int .i64 e1 | 10=>X_=.int .i64 1 | 11=>X_=.pointer (some ⟨w.heap.size+1,1,none⟩) | 12=>X_=.int .i64 f1 | 13=>X_=.int .i64 g1 | 14=>X_=.int .i64 r4 | _=>True) (fun i_=>false) (by kernel_rfl) (by kernel_rfl) (by kernel_rfl) (by kernel_rfl) (by kernel_rfl) ?_ (fun i x w hi ha h=>by cases ha) ?_ ?_
      ·refine swp (upS (upS (upS (upS (upS (upS (upS (upS (upS (upS (upS (upS (upS (upS (upS up0 ?_) ?_) ?_) ?_) ?_) ?_) ?_) ?_) ?_) ?_) ?_) ?_) ?_) ?_) ?_)
       all_goals exact fun _ _ _ h _=>h
      ·refine upS (upS (upS (upS (upS (upS (upS (upS (upS (upS (upS (upS (upS (upS (upS up0 ?_) ?_) ?_) ?_) ?_) ?_) ?_) ?_) ?_) ?_) ?_) ?_) ?_) ?_) ?_
       all_goals intro v f w' hb hv hB hd
       ·have b10:f.tmps[10]?=some (.int .i64 2):=(hb 10 (by decide)).trans rfl
        clear hb hv hd
        refine wpOp_step rfl fun K hK=>?_
        go_simp
        exact hK _ _ ⟨_,rfl,Below.refl _ _,rfl,fun h=>absurd h (by decide)⟩
       ·have b8:f.tmps[8]?=some (.pointer (some ⟨E,0,none⟩)):=(hb 8 (by decide)).trans rfl
        have d0:=got (hv 0 43 rfl) (hd 0 (by kernel_rfl))
        clear hb hv hd
        refine wpOp_step rfl fun K hK=>?_
        go_simp
        exact hK _ _ ⟨_,rfl,Below.refl _ _,rfl,fun h=>absurd h (by decide)⟩
       ·have d1:=got (hv 1 44 rfl) (hd 1 (by kernel_rfl))
        clear hb hv hd
        have c:=tc_keep hB s2.ke
        refine wpOp_step rfl fun K hK=>?_
        go_simp
        exact hK _ _ ⟨_,rfl,Below.refl _ _,rfl,fun h=>absurd h (by decide)⟩
       ·have b10:f.tmps[10]?=some (.int .i64 2):=(hb 10 (by decide)).trans rfl
        clear hb hv hd
        refine wpOp_step rfl fun K hK=>?_
        go_simp
        exact hK _ _ ⟨_,rfl,Below.refl _ _,rfl,fun h=>absurd h (by decide)⟩
       ·have b4:f.tmps[4]?=some (.pointer (some ⟨w.heap.size+1,0,none⟩)):=(hb 4 (by decide)).trans rfl
        have d3:=got (hv 3 46 rfl) (hd 3 (by kernel_rfl))
        clear hb hv hd
        refine wpOp_step rfl fun K hK=>?_
        go_simp
        exact hK _ _ ⟨_,rfl,Below.refl _ _,rfl,fun h=>absurd h (by decide)⟩
       ·have d4:=got (hv 4 47 rfl) (hd 4 (by kernel_rfl))
        clear hb hv hd
        have c:=tc_keep hB s2.k.kf
        refine wpOp_step rfl fun K hK=>?_
        go_simp
        exact hK _ _ ⟨_,rfl,Below.refl _ _,rfl,fun h=>absurd h (by decide)⟩
       ·have d2:=got (hv 2 45 rfl) (hd 2 (by kernel_rfl))
        have d5:=got (hv 5 48 rfl) (hd 5 (by kernel_rfl))
        clear hb hv hd
        have hg:=hg2.out
        refine wpOp_step rfl fun K hK=>?_
        go_simp
        exact hK _ _ ⟨_,rfl,Below.refl _ _,rfl,fun h=>absurd h (by decide)⟩
       ·have b11:f.tmps[11]?=some (.int .i64 1):=(hb 11 (by decide)).trans rfl
        clear hb hv hd
        refine wpOp_step rfl fun K hK=>?_
        go_simp
        exact hK _ _ ⟨_,rfl,Below.refl _ _,rfl,fun h=>absurd h (by decide)⟩
       ·have b8:f.tmps[8]?=some (.pointer (some ⟨E,0,none⟩)):=(hb 8 (by decide)).trans rfl
        have d7:=got (hv 7 50 rfl) (hd 7 (by kernel_rfl))
        clear hb hv hd
        refine wpOp_step rfl fun K hK=>?_
        go_simp
        exact hK _ _ ⟨_,rfl,Below.refl _ _,rfl,fun h=>absurd h (by decide)⟩
       ·have d8:=got (hv 8 51 rfl) (hd 8 (by kernel_rfl))
        clear hb hv hd
        have c:=tc_keep hB s2.ke
        refine wpOp_step rfl fun K hK=>?_
        go_simp
        exact hK _ _ ⟨_,rfl,Below.refl _ _,rfl,fun h=>absurd h (by decide)⟩
       ·have b11:f.tmps[11]?=some (.int .i64 1):=(hb 11 (by decide)).trans rfl
        clear hb hv hd
        refine wpOp_step rfl fun K hK=>?_
        go_simp
        exact hK _ _ ⟨_,rfl,Below.refl _ _,rfl,fun h=>absurd h (by decide)⟩
       ·have b4:f.tmps[4]?=some (.pointer (some ⟨w.heap.size+1,0,none⟩)):=(hb 4 (by decide)).trans rfl
        have d10:=got (hv 10 53 rfl) (hd 10 (by kernel_rfl))
        clear hb hv hd
        refine wpOp_step rfl fun K hK=>?_
        go_simp
        exact hK _ _ ⟨_,rfl,Below.refl _ _,rfl,fun h=>absurd h (by decide)⟩
       ·have d11:=got (hv 11 54 rfl) (hd 11 (by kernel_rfl))
        clear hb hv hd
        have c:=tc_keep hB s2.k.kf
        refine wpOp_step rfl fun K hK=>?_
        go_simp
        exact hK _ _ ⟨_,rfl,Below.refl _ _,rfl,fun h=>absurd h (by decide)⟩
       ·have d9:=got (hv 9 52 rfl) (hd 9 (by kernel_rfl))
        have d12:=got (hv 12 55 rfl) (hd 12 (by kernel_rfl))
        clear hb hv hd
        have hg:=hg1.out
        refine wpOp_step rfl fun K hK=>?_
        go_simp
        exact hK _ _ ⟨_,rfl,Below.refl _ _,rfl,fun h=>absurd h (by decide)⟩
       ·have d6:=got (hv 6 49 rfl) (hd 6 (by kernel_rfl))
        have d13:=got (hv 13 56 rfl) (hd 13 (by kernel_rfl))
        clear hb hv hd
        refine wpOp_call rfl Tryz.call137 (args2 (eval_tmp d6) (eval_tmp d13)) (cR4 _) ?_
        rintro e5 w5_ ⟨rfl,hb5⟩
        exact ⟨_,rfl,_,rfl,hb5,rfl,fun h=>absurd h (by decide)⟩
      ·intro v w' hB hF hD
       have F0:v 0=_:=hF 0 (by simp)
       have F1:v 1=_:=hF 1 (by simp)
       have F2:v 2=_:=hF 2 (by simp)
       have F3:v 3=_:=hF 3 (by simp)
       have F4:v 4=_:=hF 4 (by simp)
       have F5:v 5=_:=hF 5 (by simp)
       have F6:v 6=_:=hF 6 (by simp)
       have F7:v 7=_:=hF 7 (by simp)
       have F8:v 8=_:=hF 8 (by simp)
       have F9:v 9=_:=hF 9 (by simp)
       have F10:v 10=_:=hF 10 (by simp)
       have F11:v 11=_:=hF 11 (by simp)
       have F12:v 12=_:=hF 12 (by simp)
       have F13:v 13=_:=hF 13 (by simp)
       have F14:v 14=_:=hF 14 (by simp)
       clear hF
       simp only [frOf,frGo,Nat.zero_add,Nat.reduceAdd,F0,F1,F2,F3,F4,F5,F6,F7,F8,F9,F10,F11,F12,F13,F14]
       replace s2:=tl_keep s2 hB
       clear hB hD F0 F1 F2 F3 F4 F5 F6 F7 F8 F9 F10 F11 F12 F13 F14
       go_wp2
       refine region_late_k [59,60,61,62,63,64,65,58,66,67] 9 (fun i_=>match i_ with | 0=>.agg #[.int .i64 (z 0),.int .i64 (z 1),.int .i64 (z 2),.int .i64 (z 3),.int .i64 (z 4),.int .i64 (z 5)] | 1=>.int .i64 2 | 2=>.int .i64 1 | 3=>.int .i64 (m 4) | 4=>.int .i64 r4 | 5=>.int .i64 q4 | 6=>.tuple #[.agg #[.int .i64 (u 0),.int .i64 (u 1),.int .i64 (u 2),.int .i64 (u 3),.int .i64 (u 4),.int .i64 (u 5)],.int .i64 0] | 7=>.tuple #[.agg #[.int .i64 (u 0),.int .i64 (u 1),.int .i64 (u 2),.int .i64 (u 3),.int .i64 (u 4),.int .i64 (u 5)],.int .i64 0] | 8=>.agg #[.int .i64 (u 0),.int .i64 (u 1),.int .i64 (u 2),.int .i64 (u 3),.int .i64 (u 4),.int .i64 (u 5)] | 9=>.int .i64 0 | _=>undef) (fun f=>f) (fun U_=>TL w E T m f0 f1 f2 c0 c1 c2 e0 e1 e2 u U_) (fun i_ X_ U_=>match i_ with | 0=>X_=.agg #[.int .i64 (z 0),.int .i64 (z 1),.int .i64 (z 2),.int .i64 (z 3),.int .i64 (z 4),.int .i64 (z 5)] | 1=>X_=.int .i64 2 | 2=>X_=.int .i64 1 | 3=>X_=.int .i64 (m 4) | 4=>X_=.int .i64 r4 | 5=>X_=.int .i64 q4 | 6=>X_=.tuple #[.agg #[.int .i64 (u 0),.int .i64 (u 1),.int .i64 (u 2),.int .i64 (u 3),.int .i64 (u 4),.int .i64 (u 5)],.int .i64 0] | 7=>X_=.tuple #[.agg #[.int .i64 (u 0),.int .i64 (u 1),.int .i64 (u 2),.int .i64 (u 3),.int .i64 (u 4),.int .i64 (u 5)],.int .i64 0] | 8=>X_=.agg #[.int .i64 (u 0),.int .i64 (u 1),.int .i64 (u 2),.int .i64 (u 3),.int .i64 (u 4),.int .i64 (u 5)] | 9=>X_=.int .i64 0 | _=>True) (fun i_=>false) (by kernel_rfl) (by kernel_rfl) (by kernel_rfl) (by kernel_rfl) ?_ (fun i x w hi ha h=>by cases ha) ?_ ?_ ?_ ?_
       ·refine swp (upS (upS (upS (upS (upS (upS (upS (upS (upS (upS up0 ?_) ?_) ?_) ?_) ?_) ?_) ?_) ?_) ?_) ?_)
        all_goals exact fun _ _ _ h _=>h
       ·refine upS (upS (upS (upS (upS (upS (upS (upS (upS (upS up0 ?_) ?_) ?_) ?_) ?_) ?_) ?_) ?_) ?_) ?_
        all_goals intro v f w' hb hv hB hd
        ·have b9:f.tmps[9]?=some (.pointer (some ⟨T,0,none⟩)):=(hb 9 (by decide)).trans rfl
         clear hb hv hd
         have c:=sc_six (sc_keep hB s2.kt)
         refine wpOp_step rfl fun K hK=>?_
         go_simp
         exact hK _ _ ⟨_,rfl,Below.refl _ _,rfl,fun h=>absurd h (by decide)⟩
        ·have b10:f.tmps[10]?=some (.int .i64 2):=(hb 10 (by decide)).trans rfl
         clear hb hv hd
         refine wpOp_step rfl fun K hK=>?_
         go_simp
         exact hK _ _ ⟨_,rfl,Below.refl _ _,rfl,fun h=>absurd h (by decide)⟩
        ·have b11:f.tmps[11]?=some (.int .i64 1):=(hb 11 (by decide)).trans rfl
         clear hb hv hd
         refine wpOp_step rfl fun K hK=>?_
         go_simp
         exact hK _ _ ⟨_,rfl,Below.refl _ _,rfl,fun h=>absurd h (by decide)⟩
        ·have b12:f.tmps[12]?=some (.int .i64 (m 4)):=(hb 12 (by decide)).trans rfl
         clear hb hv hd
         refine wpOp_step rfl fun K hK=>?_
         go_simp
         exact hK _ _ ⟨_,rfl,Below.refl _ _,rfl,fun h=>absurd h (by decide)⟩
        ·have b14:f.tmps[14]?=some (.int .i64 r4):=(hb 14 (by decide)).trans rfl
         clear hb hv hd
         refine wpOp_step rfl fun K hK=>?_
         go_simp
         exact hK _ _ ⟨_,rfl,Below.refl _ _,rfl,fun h=>absurd h (by decide)⟩
        ·have d3:=got (hv 3 62 rfl) (hd 3 (by kernel_rfl))
         have d4:=got (hv 4 63 rfl) (hd 4 (by kernel_rfl))
         clear hb hv hd
         refine wpOp_call rfl Tryz.call36 (args2 (eval_tmp d3) (eval_tmp d4)) (cC4 _) ?_
         rintro e5 w5_ ⟨rfl,hb5⟩
         exact ⟨_,rfl,_,rfl,hb5,rfl,fun h=>absurd h (by decide)⟩
        ·have d0:=got (hv 0 59 rfl) (hd 0 (by kernel_rfl))
         have d1:=got (hv 1 60 rfl) (hd 1 (by kernel_rfl))
         have d2:=got (hv 2 61 rfl) (hd 2 (by kernel_rfl))
         have d5:=got (hv 5 64 rfl) (hd 5 (by kernel_rfl))
         clear hb hv hd
         refine wpOp_call rfl Tryz.call116 (args4 (eval_tmp d0) (eval_tmp d1) (eval_tmp d2) (eval_tmp d5)) (cP4 _ (pl_keep hB s2.k.pl)) ?_
         rintro e5 w5_ ⟨rfl,hb5⟩
         exact ⟨_,rfl,_,rfl,hb5,rfl,fun h=>absurd h (by decide)⟩
        ·have d6:=got (hv 6 65 rfl) (hd 6 (by kernel_rfl))
         clear hb hv hd
         refine wpOp_step rfl fun K hK=>?_
         go_simp
         exact hK _ _ ⟨_,rfl,Below.refl _ _,rfl,fun h=>absurd h (by decide)⟩
        ·have d7:=got (hv 7 58 rfl) (hd 7 (by kernel_rfl))
         clear hb hv hd
         refine wpOp_step rfl fun K hK=>?_
         go_simp
         exact hK _ _ ⟨_,rfl,Below.refl _ _,rfl,fun h=>absurd h (by decide)⟩
        ·have d7:=got (hv 7 58 rfl) (hd 7 (by kernel_rfl))
         clear hb hv hd
         refine wpOp_step rfl fun K hK=>?_
         go_simp
         exact hK _ _ ⟨_,rfl,Below.refl _ _,rfl,fun h=>absurd h (by decide)⟩
       ·intro v w' hB hF hD
        have F0:v 0=_:=hF 0 (by simp)
        have F1:v 1=_:=hF 1 (by simp)
        have F2:v 2=_:=hF 2 (by simp)
        have F3:v 3=_:=hF 3 (by simp)
        have F4:v 4=_:=hF 4 (by simp)
        have F5:v 5=_:=hF 5 (by simp)
        have F6:v 6=_:=hF 6 (by simp)
        have F7:v 7=_:=hF 7 (by simp)
        have F8:v 8=_:=hF 8 (by simp)
        have F9:v 9=_:=hF 9 (by simp)
        clear hF
        simp only [frOf,frGo,Nat.zero_add,Nat.reduceAdd,F0,F1,F2,F3,F4,F5,F6,F7,F8,F9]
        have s3:=tl_keep s2 hB
        have t6:=sc_six s3.kt
        have u6:=sf_six s3.ft
        have sN:=tl_put (m':=u) s3 hT nT
        clear F0 F1 F2 F3 F4 F5 F6 F7 F8 F9 hB hD s2 s3
        go_wp2
       ·intro v w' hB hF hD
        have F0:v 0=_:=hF 0 (by simp) (by decide)
        have F1:v 1=_:=hF 1 (by simp) (by decide)
        have F2:v 2=_:=hF 2 (by simp) (by decide)
        have F3:v 3=_:=hF 3 (by simp) (by decide)
        have F4:v 4=_:=hF 4 (by simp) (by decide)
        have F5:v 5=_:=hF 5 (by simp) (by decide)
        have F6:v 6=_:=hF 6 (by simp) (by decide)
        have F7:v 7=_:=hF 7 (by simp) (by decide)
        have F8:v 8=_:=hF 8 (by simp) (by decide)
        clear hF
        simp only [frOf,frGo,Nat.zero_add,Nat.reduceAdd,F0,F1,F2,F3,F4,F5,F6,F7,F8]
        have s3:=tl_keep s2 hB
        have t6:=sc_six s3.kt
        have u6:=sf_six s3.ft
        have sN:=tl_put (m':=u) s3 hT nT
        clear F0 F1 F2 F3 F4 F5 F6 F7 F8 hB hD s2 s3
        refine wpOp_step rfl (fun K hK=>?_)
        go_simp
        refine hK _ _ ?_
        clear hK K
        refine wpOp_step rfl (fun K hK=>?_)
        go_simp
        refine hK _ _ ?_
        clear hK K
        rw [List.drop_eq_nil_of_le (by simp)]
        refine wpList_end ⟨rfl,?_,sN⟩
        simp only [Act.put,List.setIfInBounds_toArray,List.set_cons_zero,List.set_cons_succ]
       ·intro w' hst
        simp only [frOf,frGo,Nat.zero_add,Nat.reduceAdd]
        clear s2 cR4 cC4 cP4
        have s2:=hst
        clear hst
        go_wp2
        rw [rounds_succ]
        go_wp2
        rw [rounds_succ]
        have d6:=sc_six s2.k.kd
        have g6:=sf_six s2.k.fd
        have a6:=sc_six s2.kt
        have B9:=s2.k.b
        clear s2
        go_wp2
        try rw [Exit.noGoto_ret]
        obtain ⟨r0,r1,r2,r3,r4,r5⟩:=d6
        refine bodyPost_ret (v:=.tuple #[sv u,.int .i64 0]) (by simp [results,Tryz.results100,go_sem,r0,r1,r2,r3,r4,r5]) rfl ⟨rfl,?_⟩
        have q:w.heap.size≤w.heap.size+1+1+1:=by omega
        exact b_set (b_set (b_set (b_set (b_set (b_set B9 q) q) q) q) q) q
end Go.Proofs.YthnofhjgfhapiaaGreatDoor

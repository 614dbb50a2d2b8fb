import Derived.LoopN
import Derived.Test.YthnofhjgfhapiaaGreatDoorWas
import Derived.Test.YthnofhjgfhapiaaGreatDoorWae
import Derived.Test.YthnofhjgfhapiaaGreatDoorWad
import Derived.Test.YthnofhjgfhapiaaGreatDoorWaa
import Derived.Test.YthnofhjgfhapiaaGreatDoorWac
import Derived.Test.YthnofhjgfhapiaaGreatDoorWab
set_option maxHeartbeats 1000000
set_option maxRecDepth 10000
namespace Go.Proofs.YthnofhjgfhapiaaGreatDoor
open Go.RowKit Go.Shelf
theorem tc_put0 {w:World} {b:Nat} {x y z v:Int} (c:TC w b x y z):TC (w.setCell ⟨b,0,none⟩ (.int .i64 v)) b v y z:=by
 obtain ⟨c0,c1,c2⟩:=c
 simp [TC,go_sem,c0,c1,c2]
theorem tc_put1 {w:World} {b:Nat} {x y z v:Int} (c:TC w b x y z):TC (w.setCell ⟨b,1,none⟩ (.int .i64 v)) b x v z:=by
 obtain ⟨c0,c1,c2⟩:=c
 simp [TC,go_sem,c0,c1,c2]
theorem tc_put2 {w:World} {b:Nat} {x y z v:Int} (c:TC w b x y z):TC (w.setCell ⟨b,2,none⟩ (.int .i64 v)) b x y v:=by
 obtain ⟨c0,c1,c2⟩:=c
 simp [TC,go_sem,c0,c1,c2]
structure ES (w:World) (q r:Nat) (x y z:Int) (w':World):Prop where
 b:Below w.heap.size w w'
 qc:TC w' q 0 0 0
 qf:TF w' q
 rc:TC w' r x y z
 rf:TF w' r
theorem es_keep {w w1 w2:World} {q r:Nat} {x y z:Int} (s:ES w q r x y z w1) (hb:Below w1.heap.size w1 w2):ES w q r x y z w2 :=
 ⟨b_trans s.b hb,tc_keep hb s.qc,tf_keep hb s.qc s.qf,tc_keep hb s.rc,tf_keep hb s.rc s.rf⟩
theorem es_put0 {w w1:World} {q r:Nat} {x y z v:Int} (s:ES w q r x y z w1) (h:q≠r) (k:w.heap.size≤r):ES w q r v y z (w1.setCell ⟨r,0,none⟩ (.int .i64 v)) :=
 ⟨b_set s.b k,tc_set s.qc h.symm,tf_set s.qf,tc_put0 s.rc,tf_set s.rf⟩
theorem es_put1 {w w1:World} {q r:Nat} {x y z v:Int} (s:ES w q r x y z w1) (h:q≠r) (k:w.heap.size≤r):ES w q r x v z (w1.setCell ⟨r,1,none⟩ (.int .i64 v)) :=
 ⟨b_set s.b k,tc_set s.qc h.symm,tf_set s.qf,tc_put1 s.rc,tf_set s.rf⟩
theorem es_put2 {w w1:World} {q r:Nat} {x y z v:Int} (s:ES w q r x y z w1) (h:q≠r) (k:w.heap.size≤r):ES w q r x y v (w1.setCell ⟨r,2,none⟩ (.int .i64 v)) :=
 ⟨b_set s.b k,tc_set s.qc h.symm,tf_set s.qf,tc_put2 s.rc,tf_set s.rf⟩
theorem es_new (w:World):ES w w.heap.size (w.heap.size+1) 0 0 0 ((w.alloc (Obj.cells #[.int .i64 0,.int .i64 0,.int .i64 0] 25)).alloc (Obj.cells #[.int .i64 0,.int .i64 0,.int .i64 0] 25)) :=
 ⟨b_alloc (b_alloc (Below.refl _ _)),tc_alloc (tc_new rfl),tf_keep (b_alloc (Below.refl _ _)) (tc_new rfl) (tf_new rfl),tc_new (by simp),tf_new (by simp)⟩
theorem es_done {w w1:World} {q r:Nat} {x y z a b c:Int} (s:ES w q r x y z w1) (k:w.heap.size≤q):Below w.heap.size w (((w1.setCell ⟨q,0,none⟩ (.int .i64 a)).setCell ⟨q,1,none⟩ (.int .i64 b)).setCell ⟨q,2,none⟩ (.int .i64 c)) :=
 b_set (b_set (b_set s.b k) k) k
theorem each_add_0 (A B:Nat) (x0 e:Int) (e0:(e == 0)=false) (w:World)
  (d0:∀ w',Below w.heap.size w w'→Calls Tryz.prog 132 #[.int .i64 0,.pointer (some ⟨A,0,none⟩),.pointer (some ⟨B,0,none⟩)] w' (RetV (.tuple #[.int .i64 x0,.int .i64 e]) w')) :
  Calls Tryz.prog 34 #[.func (.func 132) #[] #[.pointer (some ⟨A,0,none⟩),.pointer (some ⟨B,0,none⟩)]] w (RetV (.tuple #[tv 0 0 0,.int .i64 e]) w):=by
 have s0:=es_new w
 go_enter Tryz.func34,Tryz.ntmps34
 go_wp2
 refine wp_loop_rounds 4 ?_
 rw [rounds_succ]
 go_wp2_with fail
 refine (d0 _ s0.b).mono ?_
 rintro e1 w1 ⟨rfl,hb1⟩
 replace s0:=es_keep s0 hb1
 clear hb1 d0
 have B9:=es_done (a:=0) (b:=0) (c:=0) s0 (Nat.le_refl _)
 obtain ⟨_,qc,qf,rc,rf⟩:=s0
 clear rc rf
 go_wp2
 exact bodyPost_ret (v:=.tuple #[tv 0 0 0,.int .i64 e]) (by simp [results,Tryz.results34,go_sem,qc]) rfl ⟨rfl,B9⟩
theorem each_add_1 (A B:Nat) (x0 x1 e:Int) (e0:(e == 0)=false) (w:World)
  (d0:∀ w',Below w.heap.size w w'→Calls Tryz.prog 132 #[.int .i64 0,.pointer (some ⟨A,0,none⟩),.pointer (some ⟨B,0,none⟩)] w' (RetV (.tuple #[.int .i64 x0,.int .i64 0]) w'))
  (d1:∀ w',Below w.heap.size w w'→Calls Tryz.prog 132 #[.int .i64 1,.pointer (some ⟨A,0,none⟩),.pointer (some ⟨B,0,none⟩)] w' (RetV (.tuple #[.int .i64 x1,.int .i64 e]) w')) :
  Calls Tryz.prog 34 #[.func (.func 132) #[] #[.pointer (some ⟨A,0,none⟩),.pointer (some ⟨B,0,none⟩)]] w (RetV (.tuple #[tv 0 0 0,.int .i64 e]) w):=by
 have s0:=es_new w
 go_enter Tryz.func34,Tryz.ntmps34
 go_wp2
 refine wp_loop_rounds 4 ?_
 rw [rounds_succ]
 go_wp2_with fail
 refine (d0 _ s0.b).mono ?_
 rintro e1 w1 ⟨rfl,hb1⟩
 replace s0:=es_keep s0 hb1
 clear hb1 d0
 have s1:=es_put0 (v:=x0) s0 (by omega) (Nat.le_succ _)
 obtain ⟨_,qc,qf,rc,rf⟩:=s0
 clear qc qf
 go_wp2
 clear rc rf
 have s0:=s1
 clear s1
 generalize w1.setCell ⟨w.heap.size+1,0,none⟩ (.int .i64 x0)=u1 at *
 rw [rounds_succ]
 go_wp2_with fail
 refine (d1 _ s0.b).mono ?_
 rintro e2 w2 ⟨rfl,hb2⟩
 replace s0:=es_keep s0 hb2
 clear hb2 d1
 have B9:=es_done (a:=0) (b:=0) (c:=0) s0 (Nat.le_refl _)
 obtain ⟨_,qc,qf,rc,rf⟩:=s0
 clear rc rf
 go_wp2
 exact bodyPost_ret (v:=.tuple #[tv 0 0 0,.int .i64 e]) (by simp [results,Tryz.results34,go_sem,qc]) rfl ⟨rfl,B9⟩
theorem each_add_2 (A B:Nat) (x0 x1 x2 e:Int) (e0:(e == 0)=false) (w:World)
  (d0:∀ w',Below w.heap.size w w'→Calls Tryz.prog 132 #[.int .i64 0,.pointer (some ⟨A,0,none⟩),.pointer (some ⟨B,0,none⟩)] w' (RetV (.tuple #[.int .i64 x0,.int .i64 0]) w'))
  (d1:∀ w',Below w.heap.size w w'→Calls Tryz.prog 132 #[.int .i64 1,.pointer (some ⟨A,0,none⟩),.pointer (some ⟨B,0,none⟩)] w' (RetV (.tuple #[.int .i64 x1,.int .i64 0]) w'))
  (d2:∀ w',Below w.heap.size w w'→Calls Tryz.prog 132 #[.int .i64 2,.pointer (some ⟨A,0,none⟩),.pointer (some ⟨B,0,none⟩)] w' (RetV (.tuple #[.int .i64 x2,.int .i64 e]) w')) :
  Calls Tryz.prog 34 #[.func (.func 132) #[] #[.pointer (some ⟨A,0,none⟩),.pointer (some ⟨B,0,none⟩)]] w (RetV (.tuple #[tv 0 0 0,.int .i64 e]) w):=by
 have s0:=es_new w
 go_enter Tryz.func34,Tryz.ntmps34
 go_wp2
 refine wp_loop_rounds 4 ?_
 rw [rounds_succ]
 go_wp2_with fail
 refine (d0 _ s0.b).mono ?_
 rintro e1 w1 ⟨rfl,hb1⟩
 replace s0:=es_keep s0 hb1
 clear hb1 d0
 have s1:=es_put0 (v:=x0) s0 (by omega) (Nat.le_succ _)
 obtain ⟨_,qc,qf,rc,rf⟩:=s0
 clear qc qf
 go_wp2
 clear rc rf
 have s0:=s1
 clear s1
 generalize w1.setCell ⟨w.heap.size+1,0,none⟩ (.int .i64 x0)=u1 at *
 rw [rounds_succ]
 go_wp2_with fail
 refine (d1 _ s0.b).mono ?_
 rintro e2 w2 ⟨rfl,hb2⟩
 replace s0:=es_keep s0 hb2
 clear hb2 d1
 have s1:=es_put1 (v:=x1) s0 (by omega) (Nat.le_succ _)
 obtain ⟨_,qc,qf,rc,rf⟩:=s0
 clear qc qf
 go_wp2
 clear rc rf
 have s0:=s1
 clear s1
 generalize w2.setCell ⟨w.heap.size+1,1,none⟩ (.int .i64 x1)=u2 at *
 rw [rounds_succ]
 go_wp2_with fail
 refine (d2 _ s0.b).mono ?_
 rintro e3 w3 ⟨rfl,hb3⟩
 replace s0:=es_keep s0 hb3
 clear hb3 d2
 have B9:=es_done (a:=0) (b:=0) (c:=0) s0 (Nat.le_refl _)
 obtain ⟨_,qc,qf,rc,rf⟩:=s0
 clear rc rf
 go_wp2
 exact bodyPost_ret (v:=.tuple #[tv 0 0 0,.int .i64 e]) (by simp [results,Tryz.results34,go_sem,qc]) rfl ⟨rfl,B9⟩
theorem each_add_3 (A B:Nat) (x0 x1 x2:Int) (w:World)
  (d0:∀ w',Below w.heap.size w w'→Calls Tryz.prog 132 #[.int .i64 0,.pointer (some ⟨A,0,none⟩),.pointer (some ⟨B,0,none⟩)] w' (RetV (.tuple #[.int .i64 x0,.int .i64 0]) w'))
  (d1:∀ w',Below w.heap.size w w'→Calls Tryz.prog 132 #[.int .i64 1,.pointer (some ⟨A,0,none⟩),.pointer (some ⟨B,0,none⟩)] w' (RetV (.tuple #[.int .i64 x1,.int .i64 0]) w'))
  (d2:∀ w',Below w.heap.size w w'→Calls Tryz.prog 132 #[.int .i64 2,.pointer (some ⟨A,0,none⟩),.pointer (some ⟨B,0,none⟩)] w' (RetV (.tuple #[.int .i64 x2,.int .i64 0]) w')) :
  Calls Tryz.prog 34 #[.func (.func 132) #[] #[.pointer (some ⟨A,0,none⟩),.pointer (some ⟨B,0,none⟩)]] w (RetV (.tuple #[tv x0 x1 x2,.int .i64 0]) w):=by
 have s0:=es_new w
 go_enter Tryz.func34,Tryz.ntmps34
 go_wp2
 refine wp_loop_rounds 4 ?_
 rw [rounds_succ]
 go_wp2_with fail
 refine (d0 _ s0.b).mono ?_
 rintro e1 w1 ⟨rfl,hb1⟩
 replace s0:=es_keep s0 hb1
 clear hb1 d0
 have s1:=es_put0 (v:=x0) s0 (by omega) (Nat.le_succ _)
 obtain ⟨_,qc,qf,rc,rf⟩:=s0
 clear qc qf
 go_wp2
 clear rc rf
 have s0:=s1
 clear s1
 generalize w1.setCell ⟨w.heap.size+1,0,none⟩ (.int .i64 x0)=u1 at *
 rw [rounds_succ]
 go_wp2_with fail
 refine (d1 _ s0.b).mono ?_
 rintro e2 w2 ⟨rfl,hb2⟩
 replace s0:=es_keep s0 hb2
 clear hb2 d1
 have s1:=es_put1 (v:=x1) s0 (by omega) (Nat.le_succ _)
 obtain ⟨_,qc,qf,rc,rf⟩:=s0
 clear qc qf
 go_wp2
 clear rc rf
 have s0:=s1
 clear s1
 generalize w2.setCell ⟨w.heap.size+1,1,none⟩ (.int .i64 x1)=u2 at *
 rw [rounds_succ]
 go_wp2_with fail
 refine (d2 _ s0.b).mono ?_
 rintro e3 w3 ⟨rfl,hb3⟩
 replace s0:=es_keep s0 hb3
 clear hb3 d2
 have s1:=es_put2 (v:=x2) s0 (by omega) (Nat.le_succ _)
 obtain ⟨_,qc,qf,rc,rf⟩:=s0
 clear qc qf
 go_wp2
 clear rc rf
 have s0:=s1
 clear s1
 generalize w3.setCell ⟨w.heap.size+1,2,none⟩ (.int .i64 x2)=u3 at *
 have B9:=es_done (a:=x0) (b:=x1) (c:=x2) s0 (Nat.le_refl _)
 obtain ⟨_,qc,qf,rc,rf⟩:=s0
 rw [rounds_succ]
 go_wp2
 exact bodyPost_ret (v:=.tuple #[tv x0 x1 x2,.int .i64 0]) (by simp [results,Tryz.results34,go_sem,qc]) rfl ⟨rfl,B9⟩
theorem each_scale_0 (A B:Nat) (x0 e:Int) (e0:(e == 0)=false) (w:World)
  (d0:∀ w',Below w.heap.size w w'→Calls Tryz.prog 145 #[.int .i64 0,.pointer (some ⟨A,0,none⟩),.pointer (some ⟨B,0,none⟩)] w' (RetV (.tuple #[.int .i64 x0,.int .i64 e]) w')) :
  Calls Tryz.prog 34 #[.func (.func 145) #[] #[.pointer (some ⟨A,0,none⟩),.pointer (some ⟨B,0,none⟩)]] w (RetV (.tuple #[tv 0 0 0,.int .i64 e]) w):=by
 have s0:=es_new w
 go_enter Tryz.func34,Tryz.ntmps34
 go_wp2
 refine wp_loop_rounds 4 ?_
 rw [rounds_succ]
 go_wp2_with fail
 refine (d0 _ s0.b).mono ?_
 rintro e1 w1 ⟨rfl,hb1⟩
 replace s0:=es_keep s0 hb1
 clear hb1 d0
 have B9:=es_done (a:=0) (b:=0) (c:=0) s0 (Nat.le_refl _)
 obtain ⟨_,qc,qf,rc,rf⟩:=s0
 clear rc rf
 go_wp2
 exact bodyPost_ret (v:=.tuple #[tv 0 0 0,.int .i64 e]) (by simp [results,Tryz.results34,go_sem,qc]) rfl ⟨rfl,B9⟩
theorem each_scale_1 (A B:Nat) (x0 x1 e:Int) (e0:(e == 0)=false) (w:World)
  (d0:∀ w',Below w.heap.size w w'→Calls Tryz.prog 145 #[.int .i64 0,.pointer (some ⟨A,0,none⟩),.pointer (some ⟨B,0,none⟩)] w' (RetV (.tuple #[.int .i64 x0,.int .i64 0]) w'))
  (d1:∀ w',Below w.heap.size w w'→Calls Tryz.prog 145 #[.int .i64 1,.pointer (some ⟨A,0,none⟩),.pointer (some ⟨B,0,none⟩)] w' (RetV (.tuple #[.int .i64 x1,.int .i64 e]) w')) :
  Calls Tryz.prog 34 #[.func (.func 145) #[] #[.pointer (some ⟨A,0,none⟩),.pointer (some ⟨B,0,none⟩)]] w (RetV (.tuple #[tv 0 0 0,.int .i64 e]) w):=by
 have s0:=es_new w
 go_enter Tryz.func34,Tryz.ntmps34
 go_wp2
 refine wp_loop_rounds 4 ?_
 rw [rounds_succ]
 go_wp2_with fail
 refine (d0 _ s0.b).mono ?_
 rintro e1 w1 ⟨rfl,hb1⟩
 replace s0:=es_keep s0 hb1
 clear hb1 d0
 have s1:=es_put0 (v:=x0) s0 (by omega) (Nat.le_succ _)
 obtain ⟨_,qc,qf,rc,rf⟩:=s0
 clear qc qf
 go_wp2
 clear rc rf
 have s0:=s1
 clear s1
 generalize w1.setCell ⟨w.heap.size+1,0,none⟩ (.int .i64 x0)=u1 at *
 rw [rounds_succ]
 go_wp2_with fail
 refine (d1 _ s0.b).mono ?_
 rintro e2 w2 ⟨rfl,hb2⟩
 replace s0:=es_keep s0 hb2
 clear hb2 d1
 have B9:=es_done (a:=0) (b:=0) (c:=0) s0 (Nat.le_refl _)
 obtain ⟨_,qc,qf,rc,rf⟩:=s0
 clear rc rf
 go_wp2
 exact bodyPost_ret (v:=.tuple #[tv 0 0 0,.int .i64 e]) (by simp [results,Tryz.results34,go_sem,qc]) rfl ⟨rfl,B9⟩
theorem each_scale_2 (A B:Nat) (x0 x1 x2 e:Int) (e0:(e == 0)=false) (w:World)
  (d0:∀ w',Below w.heap.size w w'→Calls Tryz.prog 145 #[.int .i64 0,.pointer (some ⟨A,0,none⟩),.pointer (some ⟨B,0,none⟩)] w' (RetV (.tuple #[.int .i64 x0,.int .i64 0]) w'))
  (d1:∀ w',Below w.heap.size w w'→Calls Tryz.prog 145 #[.int .i64 1,.pointer (some ⟨A,0,none⟩),.pointer (some ⟨B,0,none⟩)] w' (RetV (.tuple #[.int .i64 x1,.int .i64 0]) w'))
  (d2:∀ w',Below w.heap.size w w'→Calls Tryz.prog 145 #[.int .i64 2,.pointer (some ⟨A,0,none⟩),.pointer (some ⟨B,0,none⟩)] w' (RetV (.tuple #[.int .i64 x2,.int .i64 e]) w')) :
  Calls Tryz.prog 34 #[.func (.func 145) #[] #[.pointer (some ⟨A,0,none⟩),.pointer (some ⟨B,0,none⟩)]] w (RetV (.tuple #[tv 0 0 0,.int .i64 e]) w):=by
 have s0:=es_new w
 go_enter Tryz.func34,Tryz.ntmps34
 go_wp2
 refine wp_loop_rounds 4 ?_
 rw [rounds_succ]
 go_wp2_with fail
 refine (d0 _ s0.b).mono ?_
 rintro e1 w1 ⟨rfl,hb1⟩
 replace s0:=es_keep s0 hb1
 clear hb1 d0
 have s1:=es_put0 (v:=x0) s0 (by omega) (Nat.le_succ _)
 obtain ⟨_,qc,qf,rc,rf⟩:=s0
 clear qc qf
 go_wp2
 clear rc rf
 have s0:=s1
 clear s1
 generalize w1.setCell ⟨w.heap.size+1,0,none⟩ (.int .i64 x0)=u1 at *
 rw [rounds_succ]
 go_wp2_with fail
 refine (d1 _ s0.b).mono ?_
 rintro e2 w2 ⟨rfl,hb2⟩
 replace s0:=es_keep s0 hb2
 clear hb2 d1
 have s1:=es_put1 (v:=x1) s0 (by omega) (Nat.le_succ _)
 obtain ⟨_,qc,qf,rc,rf⟩:=s0
 clear qc qf
 go_wp2
 clear rc rf
 have s0:=s1
 clear s1
 generalize w2.setCell ⟨w.heap.size+1,1,none⟩ (.int .i64 x1)=u2 at *
 rw [rounds_succ]
 go_wp2_with fail
 refine (d2 _ s0.b).mono ?_
 rintro e3 w3 ⟨rfl,hb3⟩
 replace s0:=es_keep s0 hb3
 clear hb3 d2
 have B9:=es_done (a:=0) (b:=0) (c:=0) s0 (Nat.le_refl _)
 obtain ⟨_,qc,qf,rc,rf⟩:=s0
 clear rc rf
 go_wp2
 exact bodyPost_ret (v:=.tuple #[tv 0 0 0,.int .i64 e]) (by simp [results,Tryz.results34,go_sem,qc]) rfl ⟨rfl,B9⟩
theorem each_scale_3 (A B:Nat) (x0 x1 x2:Int) (w:World)
  (d0:∀ w',Below w.heap.size w w'→Calls Tryz.prog 145 #[.int .i64 0,.pointer (some ⟨A,0,none⟩),.pointer (some ⟨B,0,none⟩)] w' (RetV (.tuple #[.int .i64 x0,.int .i64 0]) w'))
  (d1:∀ w',Below w.heap.size w w'→Calls Tryz.prog 145 #[.int .i64 1,.pointer (some ⟨A,0,none⟩),.pointer (some ⟨B,0,none⟩)] w' (RetV (.tuple #[.int .i64 x1,.int .i64 0]) w'))
  (d2:∀ w',Below w.heap.size w w'→Calls Tryz.prog 145 #[.int .i64 2,.pointer (some ⟨A,0,none⟩),.pointer (some ⟨B,0,none⟩)] w' (RetV (.tuple #[.int .i64 x2,.int .i64 0]) w')) :
  Calls Tryz.prog 34 #[.func (.func 145) #[] #[.pointer (some ⟨A,0,none⟩),.pointer (some ⟨B,0,none⟩)]] w (RetV (.tuple #[tv x0 x1 x2,.int .i64 0]) w):=by
 have s0:=es_new w
 go_enter Tryz.func34,Tryz.ntmps34
 go_wp2
 refine wp_loop_rounds 4 ?_
 rw [rounds_succ]
 go_wp2_with fail
 refine (d0 _ s0.b).mono ?_
 rintro e1 w1 ⟨rfl,hb1⟩
 replace s0:=es_keep s0 hb1
 clear hb1 d0
 have s1:=es_put0 (v:=x0) s0 (by omega) (Nat.le_succ _)
 obtain ⟨_,qc,qf,rc,rf⟩:=s0
 clear qc qf
 go_wp2
 clear rc rf
 have s0:=s1
 clear s1
 generalize w1.setCell ⟨w.heap.size+1,0,none⟩ (.int .i64 x0)=u1 at *
 rw [rounds_succ]
 go_wp2_with fail
 refine (d1 _ s0.b).mono ?_
 rintro e2 w2 ⟨rfl,hb2⟩
 replace s0:=es_keep s0 hb2
 clear hb2 d1
 have s1:=es_put1 (v:=x1) s0 (by omega) (Nat.le_succ _)
 obtain ⟨_,qc,qf,rc,rf⟩:=s0
 clear qc qf
 go_wp2
 clear rc rf
 have s0:=s1
 clear s1
 generalize w2.setCell ⟨w.heap.size+1,1,none⟩ (.int .i64 x1)=u2 at *
 rw [rounds_succ]
 go_wp2_with fail
 refine (d2 _ s0.b).mono ?_
 rintro e3 w3 ⟨rfl,hb3⟩
 replace s0:=es_keep s0 hb3
 clear hb3 d2
 have s1:=es_put2 (v:=x2) s0 (by omega) (Nat.le_succ _)
 obtain ⟨_,qc,qf,rc,rf⟩:=s0
 clear qc qf
 go_wp2
 clear rc rf
 have s0:=s1
 clear s1
 generalize w3.setCell ⟨w.heap.size+1,2,none⟩ (.int .i64 x2)=u3 at *
 have B9:=es_done (a:=x0) (b:=x1) (c:=x2) s0 (Nat.le_refl _)
 obtain ⟨_,qc,qf,rc,rf⟩:=s0
 rw [rounds_succ]
 go_wp2
 exact bodyPost_ret (v:=.tuple #[tv x0 x1 x2,.int .i64 0]) (by simp [results,Tryz.results34,go_sem,qc]) rfl ⟨rfl,B9⟩
theorem each_clamp_3 (A B:Nat) (x0 x1 x2:Int) (w:World)
  (d0:∀ w',Below w.heap.size w w'→Calls Tryz.prog 35 #[.int .i64 0,.pointer (some ⟨A,0,none⟩),.pointer (some ⟨B,0,none⟩)] w' (RetV (.tuple #[.int .i64 x0,.int .i64 0]) w'))
  (d1:∀ w',Below w.heap.size w w'→Calls Tryz.prog 35 #[.int .i64 1,.pointer (some ⟨A,0,none⟩),.pointer (some ⟨B,0,none⟩)] w' (RetV (.tuple #[.int .i64 x1,.int .i64 0]) w'))
  (d2:∀ w',Below w.heap.size w w'→Calls Tryz.prog 35 #[.int .i64 2,.pointer (some ⟨A,0,none⟩),.pointer (some ⟨B,0,none⟩)] w' (RetV (.tuple #[.int .i64 x2,.int .i64 0]) w')) :
  Calls Tryz.prog 34 #[.func (.func 35) #[] #[.pointer (some ⟨A,0,none⟩),.pointer (some ⟨B,0,none⟩)]] w (RetV (.tuple #[tv x0 x1 x2,.int .i64 0]) w):=by
 have s0:=es_new w
 go_enter Tryz.func34,Tryz.ntmps34
 go_wp2
 refine wp_loop_rounds 4 ?_
 rw [rounds_succ]
 go_wp2_with fail
 refine (d0 _ s0.b).mono ?_
 rintro e1 w1 ⟨rfl,hb1⟩
 replace s0:=es_keep s0 hb1
 clear hb1 d0
 have s1:=es_put0 (v:=x0) s0 (by omega) (Nat.le_succ _)
 obtain ⟨_,qc,qf,rc,rf⟩:=s0
 clear qc qf
 go_wp2
 clear rc rf
 have s0:=s1
 clear s1
 generalize w1.setCell ⟨w.heap.size+1,0,none⟩ (.int .i64 x0)=u1 at *
 rw [rounds_succ]
 go_wp2_with fail
 refine (d1 _ s0.b).mono ?_
 rintro e2 w2 ⟨rfl,hb2⟩
 replace s0:=es_keep s0 hb2
 clear hb2 d1
 have s1:=es_put1 (v:=x1) s0 (by omega) (Nat.le_succ _)
 obtain ⟨_,qc,qf,rc,rf⟩:=s0
 clear qc qf
 go_wp2
 clear rc rf
 have s0:=s1
 clear s1
 generalize w2.setCell ⟨w.heap.size+1,1,none⟩ (.int .i64 x1)=u2 at *
 rw [rounds_succ]
 go_wp2_with fail
 refine (d2 _ s0.b).mono ?_
 rintro e3 w3 ⟨rfl,hb3⟩
 replace s0:=es_keep s0 hb3
 clear hb3 d2
 have s1:=es_put2 (v:=x2) s0 (by omega) (Nat.le_succ _)
 obtain ⟨_,qc,qf,rc,rf⟩:=s0
 clear qc qf
 go_wp2
 clear rc rf
 have s0:=s1
 clear s1
 generalize w3.setCell ⟨w.heap.size+1,2,none⟩ (.int .i64 x2)=u3 at *
 have B9:=es_done (a:=x0) (b:=x1) (c:=x2) s0 (Nat.le_refl _)
 obtain ⟨_,qc,qf,rc,rf⟩:=s0
 rw [rounds_succ]
 go_wp2
 exact bodyPost_ret (v:=.tuple #[tv x0 x1 x2,.int .i64 0]) (by simp [results,Tryz.results34,go_sem,qc]) rfl ⟨rfl,B9⟩
end Go.Proofs.YthnofhjgfhapiaaGreatDoor
namespace Go.Proofs.YthnofhjgfhapiaaGreatDoor
open Go.RowKit Go.Shelf
def tz (x e0 e1 e2:Int):Int:=if e0=0∧e1=0∧e2=0 then x else 0
def te (e0 e1 e2:Int):Int:=if e0=0 then (if e1=0 then e2 else e1) else e0
theorem tz_0 {e0:Int} (h:¬ e0=0) (x e1 e2:Int):tz x e0 e1 e2=0∧te e0 e1 e2=e0:=⟨if_neg (fun c=>h c.1),if_neg h⟩
theorem tz_1 {e1:Int} (h:¬ e1=0) (x e2:Int):tz x 0 e1 e2=0∧te 0 e1 e2=e1:=⟨if_neg (fun c=>h c.2.1),by unfold te; rw [if_pos rfl,if_neg h]⟩
theorem tz_2 {e2:Int} (h:¬ e2=0) (x:Int):tz x 0 0 e2=0∧te 0 0 e2=e2:=⟨if_neg (fun c=>h c.2.2),by unfold te; rw [if_pos rfl,if_pos rfl]⟩
theorem tz_3 (x:Int):tz x 0 0 0=x∧te 0 0 0=0:=⟨if_pos ⟨rfl,rfl,rfl⟩,rfl⟩
theorem neq_of {e:Int} (h:¬ e=0):(e == 0)=false:=by simpa using h
theorem each_add_any (A B:Nat) (x0 x1 x2 e0 e1 e2:Int) (w:World)
  (d0:∀ w',Below w.heap.size w w'→Calls Tryz.prog 132 #[.int .i64 0,.pointer (some ⟨A,0,none⟩),.pointer (some ⟨B,0,none⟩)] w' (RetV (.tuple #[.int .i64 x0,.int .i64 e0]) w'))
  (d1:∀ w',Below w.heap.size w w'→Calls Tryz.prog 132 #[.int .i64 1,.pointer (some ⟨A,0,none⟩),.pointer (some ⟨B,0,none⟩)] w' (RetV (.tuple #[.int .i64 x1,.int .i64 e1]) w'))
  (d2:∀ w',Below w.heap.size w w'→Calls Tryz.prog 132 #[.int .i64 2,.pointer (some ⟨A,0,none⟩),.pointer (some ⟨B,0,none⟩)] w' (RetV (.tuple #[.int .i64 x2,.int .i64 e2]) w')) :
  Calls Tryz.prog 34 #[.func (.func 132) #[] #[.pointer (some ⟨A,0,none⟩),.pointer (some ⟨B,0,none⟩)]] w (RetV (.tuple #[tv (tz x0 e0 e1 e2) (tz x1 e0 e1 e2) (tz x2 e0 e1 e2),.int .i64 (te e0 e1 e2)]) w):=by
 by_cases h0:e0=0
 ·subst h0
  by_cases h1:e1=0
  ·subst h1
   by_cases h2:e2=0
   ·subst h2
    rw [(tz_3 x0).1,(tz_3 x1).1,(tz_3 x2).1,(tz_3 x0).2]
    exact each_add_3 A B x0 x1 x2 w d0 d1 d2
   ·rw [(tz_2 h2 x0).1,(tz_2 h2 x1).1,(tz_2 h2 x2).1,(tz_2 h2 x0).2]
    exact each_add_2 A B x0 x1 x2 e2 (neq_of h2) w d0 d1 d2
  ·rw [(tz_1 h1 x0 e2).1,(tz_1 h1 x1 e2).1,(tz_1 h1 x2 e2).1,(tz_1 h1 x0 e2).2]
   exact each_add_1 A B x0 x1 e1 (neq_of h1) w d0 d1
 ·rw [(tz_0 h0 x0 e1 e2).1,(tz_0 h0 x1 e1 e2).1,(tz_0 h0 x2 e1 e2).1,(tz_0 h0 x0 e1 e2).2]
  exact each_add_0 A B x0 e0 (neq_of h0) w d0
theorem each_scale_any (A B:Nat) (x0 x1 x2 e0 e1 e2:Int) (w:World)
  (d0:∀ w',Below w.heap.size w w'→Calls Tryz.prog 145 #[.int .i64 0,.pointer (some ⟨A,0,none⟩),.pointer (some ⟨B,0,none⟩)] w' (RetV (.tuple #[.int .i64 x0,.int .i64 e0]) w'))
  (d1:∀ w',Below w.heap.size w w'→Calls Tryz.prog 145 #[.int .i64 1,.pointer (some ⟨A,0,none⟩),.pointer (some ⟨B,0,none⟩)] w' (RetV (.tuple #[.int .i64 x1,.int .i64 e1]) w'))
  (d2:∀ w',Below w.heap.size w w'→Calls Tryz.prog 145 #[.int .i64 2,.pointer (some ⟨A,0,none⟩),.pointer (some ⟨B,0,none⟩)] w' (RetV (.tuple #[.int .i64 x2,.int .i64 e2]) w')) :
  Calls Tryz.prog 34 #[.func (.func 145) #[] #[.pointer (some ⟨A,0,none⟩),.pointer (some ⟨B,0,none⟩)]] w (RetV (.tuple #[tv (tz x0 e0 e1 e2) (tz x1 e0 e1 e2) (tz x2 e0 e1 e2),.int .i64 (te e0 e1 e2)]) w):=by
 by_cases h0:e0=0
 ·subst h0
  by_cases h1:e1=0
  ·subst h1
   by_cases h2:e2=0
   ·subst h2
    rw [(tz_3 x0).1,(tz_3 x1).1,(tz_3 x2).1,(tz_3 x0).2]
    exact each_scale_3 A B x0 x1 x2 w d0 d1 d2
   ·rw [(tz_2 h2 x0).1,(tz_2 h2 x1).1,(tz_2 h2 x2).1,(tz_2 h2 x0).2]
    exact each_scale_2 A B x0 x1 x2 e2 (neq_of h2) w d0 d1 d2
  ·rw [(tz_1 h1 x0 e2).1,(tz_1 h1 x1 e2).1,(tz_1 h1 x2 e2).1,(tz_1 h1 x0 e2).2]
   exact each_scale_1 A B x0 x1 e1 (neq_of h1) w d0 d1
 ·rw [(tz_0 h0 x0 e1 e2).1,(tz_0 h0 x1 e1 e2).1,(tz_0 h0 x2 e1 e2).1,(tz_0 h0 x0 e1 e2).2]
  exact each_scale_0 A B x0 e0 (neq_of h0) w d0
theorem clamp_vec (a0 a1 a2 b0 b1 b2:Int) (ha0:I64 a0) (ha1:I64 a1) (ha2:I64 a2) (hb0:I64 b0) (hb1:I64 b1) (hb2:I64 b2) (w:World) :
  Calls Tryz.prog 13 #[tv a0 a1 a2,tv b0 b1 b2] w (RetV (tv (clz a0 b0) (clz a1 b1) (clz a2 b2)) w):=by
 have c0:=clamp_fix a0 b0 ha0.1 ha0.2 hb0.1 hb0.2
 have c1:=clamp_fix a1 b1 ha1.1 ha1.2 hb1.1 hb1.2
 have c2:=clamp_fix a2 b2 ha2.1 ha2.2 hb2.1 hb2.2
 clear ha0 ha1 ha2 hb0 hb1 hb2
 generalize clz a0 b0=x0 at *
 generalize clz a1 b1=x1 at *
 generalize clz a2 b2=x2 at *
 have kA:TC (((w.alloc (Obj.cells #[.int .i64 a0,.int .i64 a1,.int .i64 a2] 25)).alloc (Obj.cells #[.int .i64 b0,.int .i64 b1,.int .i64 b2] 25)).alloc (Obj.cells #[.int .i64 0,.int .i64 0,.int .i64 0] 25)) w.heap.size a0 a1 a2:=tc_alloc (tc_alloc (tc_new rfl))
 have kB:TC (((w.alloc (Obj.cells #[.int .i64 a0,.int .i64 a1,.int .i64 a2] 25)).alloc (Obj.cells #[.int .i64 b0,.int .i64 b1,.int .i64 b2] 25)).alloc (Obj.cells #[.int .i64 0,.int .i64 0,.int .i64 0] 25)) (w.heap.size+1) b0 b1 b2:=tc_alloc (tc_new (by simp))
 have q0:TC (((w.alloc (Obj.cells #[.int .i64 a0,.int .i64 a1,.int .i64 a2] 25)).alloc (Obj.cells #[.int .i64 b0,.int .i64 b1,.int .i64 b2] 25)).alloc (Obj.cells #[.int .i64 0,.int .i64 0,.int .i64 0] 25)) (w.heap.size+1+1) 0 0 0:=tc_new (by simp)
 have f0:TF (((w.alloc (Obj.cells #[.int .i64 a0,.int .i64 a1,.int .i64 a2] 25)).alloc (Obj.cells #[.int .i64 b0,.int .i64 b1,.int .i64 b2] 25)).alloc (Obj.cells #[.int .i64 0,.int .i64 0,.int .i64 0] 25)) (w.heap.size+1+1):=tf_new (by simp)
 have B0:Below w.heap.size w (((w.alloc (Obj.cells #[.int .i64 a0,.int .i64 a1,.int .i64 a2] 25)).alloc (Obj.cells #[.int .i64 b0,.int .i64 b1,.int .i64 b2] 25)).alloc (Obj.cells #[.int .i64 0,.int .i64 0,.int .i64 0] 25)):=b_alloc (b_alloc (b_alloc (Below.refl _ _)))
 have hmf:∀ (fn:Fn) (first cap:Array Value) (w:World),(Instr.makeFunc fn first cap).run Tryz.prog w=.ok (.func fn first cap) w:=fun _ _ _ _=>rfl
 have cE:=each_clamp_3 w.heap.size (w.heap.size+1) x0 x1 x2 _ (fun w' hb=>clo_clamp_0 _ _ _ _ _ _ _ _ _ w' (tc_keep hb kA) (tc_keep hb kB) c0) (fun w' hb=>clo_clamp_1 _ _ _ _ _ _ _ _ _ w' (tc_keep hb kA) (tc_keep hb kB) c1) (fun w' hb=>clo_clamp_2 _ _ _ _ _ _ _ _ _ w' (tc_keep hb kA) (tc_keep hb kB) c2)
 clear c0 c1 c2 kA kB
 go_enter Tryz.func13,Tryz.ntmps13
 go_wp2_with fail
 refine cE.mono ?_
 rintro e w1 ⟨rfl,hb1⟩
 clear cE
 have q1:=tc_alloc (o:=(Obj.cells #[.int .i64 x0,.int .i64 x1,.int .i64 x2] 25)) (tc_keep hb1 q0)
 have f1:=tf_keep (b_alloc (o:=(Obj.cells #[.int .i64 x0,.int .i64 x1,.int .i64 x2] 25)) (Below.refl _ _)) (tc_keep hb1 q0) (tf_keep hb1 q0 f0)
 have B1:=b_alloc (o:=(Obj.cells #[.int .i64 x0,.int .i64 x1,.int .i64 x2] 25)) (b_trans B0 hb1)
 have B2:=b_set (p:=⟨w.heap.size+1+1,2,none⟩) (v:=.int .i64 x2) (b_set (p:=⟨w.heap.size+1+1,1,none⟩) (v:=.int .i64 x1) (b_set (p:=⟨w.heap.size+1+1,0,none⟩) (v:=.int .i64 x0) B1 (Nat.le_trans (Nat.le_succ _) (Nat.le_succ _))) (Nat.le_trans (Nat.le_succ _) (Nat.le_succ _))) (Nat.le_trans (Nat.le_succ _) (Nat.le_succ _))
 clear hb1 q0 f0 B0 B1
 go_wp2
 exact bodyPost_ret (v:=tv x0 x1 x2) (by simp [results,Tryz.results13,go_sem,q1]) rfl ⟨rfl,B2⟩
end Go.Proofs.YthnofhjgfhapiaaGreatDoor
namespace Go.Proofs.YthnofhjgfhapiaaGreatDoor
open Go.RowKit Go.Shelf
theorem clz_most (x:Int):clz x 288230376151711744=x↔FitP x:=by
 unfold clz
 rw [if_neg (by decide)]
 by_cases a:x < -288230376151711744
 ·rw [if_pos a]; omega
 ·rw [if_neg a]
  by_cases b:288230376151711744<x
  ·rw [if_pos b]; omega
  ·rw [if_neg b]; omega
theorem f3b_clz (x y z:Int):f3b x y z=(clz x 288230376151711744 == x && (clz y 288230376151711744 == y && clz z 288230376151711744 == z)):=by
 have e:∀ t,fitb t=(clz t 288230376151711744 == t):=fun t=>by
  rw [Bool.eq_iff_iff,beq_iff_eq,clz_most,fitb,decide_eq_true_eq]
 unfold f3b
 rw [e,e,e]
theorem fits3_vec (x y z:Int) (hx:I64 x) (hy:I64 y) (hz:I64 z) (w:World) :
  Calls Tryz.prog 92 #[tv x y z] w (RetV (.bool (f3b x y z)) w):=by
 have cC:=clamp_vec x y z 288230376151711744 288230376151711744 288230376151711744 hx hy hz (by decide) (by decide) (by decide)
 have E:=Lib.hid (f3b_clz x y z)
 have kA:TC (w.alloc (Obj.cells #[.int .i64 x,.int .i64 y,.int .i64 z] 25)) w.heap.size x y z:=tc_new rfl
 have B0:Below w.heap.size w (w.alloc (Obj.cells #[.int .i64 x,.int .i64 y,.int .i64 z] 25)):=b_alloc (Below.refl _ _)
 generalize clz x 288230376151711744=X at *
 generalize clz y 288230376151711744=Y at *
 generalize clz z 288230376151711744=Z at *
 clear hx hy hz
 go_enter Tryz.func92,Tryz.ntmps92
 go_wp2
 generalize w.alloc (Obj.cells #[.int .i64 x,.int .i64 y,.int .i64 z] 25)=W1 at *
 refine region_each [3,4,5,6,7] (fun i X_ U_=>match i with | 0=>X_=tv x y z | 1=>X_=tv 288230376151711744 288230376151711744 288230376151711744 | 2=>X_=tv X Y Z | 3=>X_=tv x y z | 4=>X_=.bool (X == x && (Y == y && Z == z)) | _=>True) (fun i=>false) (by kernel_rfl) (by kernel_rfl) (by kernel_rfl) (by kernel_rfl) (by kernel_rfl) ?_ (fun i x w hi ha h=>by cases ha) ?_ ?_
 ·refine swp (upS (upS (upS (upS (upS up0 ?_) ?_) ?_) ?_) ?_)
  all_goals exact fun _ _ _ h _=>h
 ·refine upS (upS (upS (upS (upS up0 ?_) ?_) ?_) ?_) ?_
  all_goals intro v f w' hb hv hB hd
  ·have b1:f.tmps[1]?=some (.pointer (some ⟨w.heap.size,0,none⟩)):=(hb 1 (by decide)).trans rfl
   clear hb hv hd
   have c:=tc_keep hB kA
   refine wpOp_step rfl fun K hK=>?_
   go_simp
   exact hK _ _ ⟨_,rfl,Below.refl _ _,rfl,fun h=>absurd h (by decide)⟩
  ·clear hb hv hd
   refine wpOp_step rfl fun K hK=>?_
   go_simp
   exact hK _ _ ⟨_,rfl,Below.refl _ _,rfl,fun h=>absurd h (by decide)⟩
  ·have d0:=got (hv 0 3 rfl) (hd 0 (by kernel_rfl))
   have d1:=got (hv 1 4 rfl) (hd 1 (by kernel_rfl))
   clear hb hv hd
   refine wpOp_call rfl Tryz.call13 (args2 (eval_tmp d0) (eval_tmp d1)) (cC _) ?_
   rintro e5 w5 ⟨rfl,hb5⟩
   exact ⟨_,rfl,_,rfl,hb5,rfl,fun h=>absurd h (by decide)⟩
  ·have b1:f.tmps[1]?=some (.pointer (some ⟨w.heap.size,0,none⟩)):=(hb 1 (by decide)).trans rfl
   clear hb hv hd
   have c:=tc_keep hB kA
   refine wpOp_step rfl fun K hK=>?_
   go_simp
   exact hK _ _ ⟨_,rfl,Below.refl _ _,rfl,fun h=>absurd h (by decide)⟩
  ·have d2:=got (hv 2 5 rfl) (hd 2 (by kernel_rfl))
   have d3:=got (hv 3 6 rfl) (hd 3 (by kernel_rfl))
   clear hb hv hd
   have hve:=vec_eq
   refine wpOp_step rfl fun K hK=>?_
   go_simp
   exact hK _ _ ⟨_,rfl,Below.refl _ _,rfl,fun h=>absurd h (by decide)⟩
 ·intro v w' hB hF hD
  have F0:v 0=_:=hF 0 (by simp)
  have F1:v 1=_:=hF 1 (by simp)
  have F2:v 2=_:=hF 2 (by simp)
  have F3:v 3=_:=hF 3 (by simp)
  have F4:v 4=_:=hF 4 (by simp)
  clear hF
  simp only [frOf,frGo,Nat.zero_add,Nat.reduceAdd,F0,F1,F2,F3,F4]
  clear F0 F1 F2 F3 F4 hD cC
  have B9:=b_trans B0 hB
  clear B0 hB
  go_wp2
  go_ret
  exact ⟨by rw [E.out]; rfl,B9⟩
end Go.Proofs.YthnofhjgfhapiaaGreatDoor
namespace Go.Proofs.YthnofhjgfhapiaaGreatDoor
open Go.RowKit Go.Shelf
theorem add3_vec_ok (a0 a1 a2 b0 b1 b2 x0 x1 x2 e0 e1 e2:Int) (ha0:I64 a0) (ha1:I64 a1) (ha2:I64 a2) (hb0:I64 b0) (hb1:I64 b1) (hb2:I64 b2) (ca:F3 a0 a1 a2) (cb:F3 b0 b1 b2)
  (c0:∀ w,Calls Tryz.prog 106 #[.int .i64 a0,.int .i64 b0] w (RetV (.tuple #[.int .i64 x0,.int .i64 e0]) w))
  (c1:∀ w,Calls Tryz.prog 106 #[.int .i64 a1,.int .i64 b1] w (RetV (.tuple #[.int .i64 x1,.int .i64 e1]) w))
  (c2:∀ w,Calls Tryz.prog 106 #[.int .i64 a2,.int .i64 b2] w (RetV (.tuple #[.int .i64 x2,.int .i64 e2]) w)) (w:World) :
  Calls Tryz.prog 96 #[tv a0 a1 a2,tv b0 b1 b2] w (RetV (.tuple #[tv (tz x0 e0 e1 e2) (tz x1 e0 e1 e2) (tz x2 e0 e1 e2),.int .i64 (te e0 e1 e2)]) w):=by
 have ea:=Lib.hid (f3b_yes ca)
 have eb:=Lib.hid (f3b_yes cb)
 clear ca cb
 have kA:TC (((w.alloc (Obj.cells #[.int .i64 a0,.int .i64 a1,.int .i64 a2] 25)).alloc (Obj.cells #[.int .i64 b0,.int .i64 b1,.int .i64 b2] 25)).alloc (Obj.cells #[.int .i64 0,.int .i64 0,.int .i64 0] 25)) (w.heap.size) a0 a1 a2:=tc_alloc (tc_alloc (tc_new rfl))
 have kB:TC (((w.alloc (Obj.cells #[.int .i64 a0,.int .i64 a1,.int .i64 a2] 25)).alloc (Obj.cells #[.int .i64 b0,.int .i64 b1,.int .i64 b2] 25)).alloc (Obj.cells #[.int .i64 0,.int .i64 0,.int .i64 0] 25)) (w.heap.size+1) b0 b1 b2:=tc_alloc (tc_new (by simp))
 have qc:TC (((w.alloc (Obj.cells #[.int .i64 a0,.int .i64 a1,.int .i64 a2] 25)).alloc (Obj.cells #[.int .i64 b0,.int .i64 b1,.int .i64 b2] 25)).alloc (Obj.cells #[.int .i64 0,.int .i64 0,.int .i64 0] 25)) (w.heap.size+1+1) 0 0 0:=tc_new (by simp)
 have qf:TF (((w.alloc (Obj.cells #[.int .i64 a0,.int .i64 a1,.int .i64 a2] 25)).alloc (Obj.cells #[.int .i64 b0,.int .i64 b1,.int .i64 b2] 25)).alloc (Obj.cells #[.int .i64 0,.int .i64 0,.int .i64 0] 25)) (w.heap.size+1+1):=tf_new (by simp)
 have B0:Below w.heap.size w (((w.alloc (Obj.cells #[.int .i64 a0,.int .i64 a1,.int .i64 a2] 25)).alloc (Obj.cells #[.int .i64 b0,.int .i64 b1,.int .i64 b2] 25)).alloc (Obj.cells #[.int .i64 0,.int .i64 0,.int .i64 0] 25)):=b_alloc (b_alloc (b_alloc (Below.refl _ _)))
 have hmf:∀ (fn:Fn) (first cap:Array Value) (w:World),(Instr.makeFunc fn first cap).run Tryz.prog w=.ok (.func fn first cap) w:=fun _ _ _ _=>rfl
 go_enter Tryz.func96,Tryz.ntmps96
 go_wp2_with fail
 refine (fits3_vec a0 a1 a2 ha0 ha1 ha2 _).mono ?_
 rintro e1 w1 ⟨rfl,hb9⟩
 rw [ea.out]
 have qf9:=tf_keep hb9 qc qf
 replace kA:=tc_keep hb9 kA
 replace kB:=tc_keep hb9 kB
 replace qc:=tc_keep hb9 qc
 replace B0:=b_trans B0 hb9
 clear qf
 have qf:=qf9
 clear qf9 hb9
 go_wp2_with fail
 refine (fits3_vec b0 b1 b2 hb0 hb1 hb2 _).mono ?_
 rintro e2 w2 ⟨rfl,hb9⟩
 rw [eb.out]
 have qf9:=tf_keep hb9 qc qf
 replace kA:=tc_keep hb9 kA
 replace kB:=tc_keep hb9 kB
 replace qc:=tc_keep hb9 qc
 replace B0:=b_trans B0 hb9
 clear qf
 have qf:=qf9
 clear qf9 hb9
 have cE:=each_add_any (w.heap.size) (w.heap.size+1) x0 x1 x2 e0 e1 e2 _ (fun w' hb=>clo_add_0 _ _ _ _ _ _ _ _ _ _ w' (tc_keep hb kA) (tc_keep hb kB) c0) (fun w' hb=>clo_add_1 _ _ _ _ _ _ _ _ _ _ w' (tc_keep hb kA) (tc_keep hb kB) c1) (fun w' hb=>clo_add_2 _ _ _ _ _ _ _ _ _ _ w' (tc_keep hb kA) (tc_keep hb kB) c2)
 clear c0 c1 c2
 generalize tz x0 e0 e1 e2=y0 at *
 generalize tz x1 e0 e1 e2=y1 at *
 generalize tz x2 e0 e1 e2=y2 at *
 generalize te e0 e1 e2=y3 at *
 go_wp2_with fail
 refine cE.mono ?_
 rintro e9 w9 ⟨rfl,hb9⟩
 clear cE
 have qf9:=tf_keep hb9 qc qf
 replace kA:=tc_keep hb9 kA
 replace kB:=tc_keep hb9 kB
 replace qc:=tc_keep hb9 qc
 replace B0:=b_trans B0 hb9
 clear qf
 have qf:=qf9
 clear qf9 hb9
 have B9:=b_set (p:=⟨w.heap.size+1+1,2,none⟩) (v:=.int .i64 y2) (b_set (p:=⟨w.heap.size+1+1,1,none⟩) (v:=.int .i64 y1) (b_set (p:=⟨w.heap.size+1+1,0,none⟩) (v:=.int .i64 y0) B0 (Nat.le_trans (Nat.le_succ _) (Nat.le_succ _))) (Nat.le_trans (Nat.le_succ _) (Nat.le_succ _))) (Nat.le_trans (Nat.le_succ _) (Nat.le_succ _))
 clear kA kB B0
 go_wp2
 exact bodyPost_ret (v:=.tuple #[tv y0 y1 y2,.int .i64 y3]) (by simp [results,Tryz.results96,go_sem,qc]) rfl ⟨rfl,B9⟩
theorem scale3_vec_bad (a0 a1 a2 k:Int) (ha0:I64 a0) (ha1:I64 a1) (ha2:I64 a2) (hk:I64 k) (c:¬ (F3 a0 a1 a2∧FitP k)) (w:World) :
  Calls Tryz.prog 112 #[tv a0 a1 a2,.int .i64 k] w (RetV (.tuple #[tv 0 0 0,.int .i64 1]) w):=by
 by_cases ca:F3 a0 a1 a2
 ·have ea:=Lib.hid (f3b_yes ca)
  have eb:=Lib.hid (fitb_no (fun h=>c ⟨ca,h⟩))
  clear ca c
  have kA:TC (((w.alloc (Obj.cells #[.int .i64 a0,.int .i64 a1,.int .i64 a2] 25)).alloc (Obj.cells #[.int .i64 k] 2)).alloc (Obj.cells #[.int .i64 0,.int .i64 0,.int .i64 0] 25)) (w.heap.size) a0 a1 a2:=tc_alloc (tc_alloc (tc_new rfl))
  have kB:((((w.alloc (Obj.cells #[.int .i64 a0,.int .i64 a1,.int .i64 a2] 25)).alloc (Obj.cells #[.int .i64 k] 2)).alloc (Obj.cells #[.int .i64 0,.int .i64 0,.int .i64 0] 25))).cell? ⟨w.heap.size+1,0,none⟩=some (.int .i64 k):=cell_keep (b_alloc (Below.refl _ _)) (by simp [go_sem])
  have qc:TC (((w.alloc (Obj.cells #[.int .i64 a0,.int .i64 a1,.int .i64 a2] 25)).alloc (Obj.cells #[.int .i64 k] 2)).alloc (Obj.cells #[.int .i64 0,.int .i64 0,.int .i64 0] 25)) (w.heap.size+1+1) 0 0 0:=tc_new (by simp)
  have qf:TF (((w.alloc (Obj.cells #[.int .i64 a0,.int .i64 a1,.int .i64 a2] 25)).alloc (Obj.cells #[.int .i64 k] 2)).alloc (Obj.cells #[.int .i64 0,.int .i64 0,.int .i64 0] 25)) (w.heap.size+1+1):=tf_new (by simp)
  have B0:Below w.heap.size w (((w.alloc (Obj.cells #[.int .i64 a0,.int .i64 a1,.int .i64 a2] 25)).alloc (Obj.cells #[.int .i64 k] 2)).alloc (Obj.cells #[.int .i64 0,.int .i64 0,.int .i64 0] 25)):=b_alloc (b_alloc (b_alloc (Below.refl _ _)))
  go_enter Tryz.func112,Tryz.ntmps112
  go_wp2_with fail
  refine (fits3_vec a0 a1 a2 ha0 ha1 ha2 _).mono ?_
  rintro e1 w1 ⟨rfl,hb9⟩
  rw [ea.out]
  have qf9:=tf_keep hb9 qc qf
  replace kA:=tc_keep hb9 kA
  replace kB:=cell_keep hb9 kB
  replace qc:=tc_keep hb9 qc
  replace B0:=b_trans B0 hb9
  clear qf
  have qf:=qf9
  clear qf9 hb9
  go_wp2_with fail
  refine (fits_any k hk.1 hk.2 _).mono ?_
  rintro e2 w2 ⟨rfl,rfl⟩
  rw [eb.out]
  have B9:=b_set (p:=⟨w.heap.size+1+1,2,none⟩) (v:=.int .i64 0) (b_set (p:=⟨w.heap.size+1+1,1,none⟩) (v:=.int .i64 0) (b_set (p:=⟨w.heap.size+1+1,0,none⟩) (v:=.int .i64 0) B0 (Nat.le_trans (Nat.le_succ _) (Nat.le_succ _))) (Nat.le_trans (Nat.le_succ _) (Nat.le_succ _))) (Nat.le_trans (Nat.le_succ _) (Nat.le_succ _))
  clear kA kB B0
  go_wp2
  exact bodyPost_ret (v:=.tuple #[tv 0 0 0,.int .i64 1]) (by simp [results,Tryz.results112,go_sem,qc]) rfl ⟨rfl,B9⟩
 ·have ea:=Lib.hid (f3b_no ca)
  clear ca c
  have kA:TC (((w.alloc (Obj.cells #[.int .i64 a0,.int .i64 a1,.int .i64 a2] 25)).alloc (Obj.cells #[.int .i64 k] 2)).alloc (Obj.cells #[.int .i64 0,.int .i64 0,.int .i64 0] 25)) (w.heap.size) a0 a1 a2:=tc_alloc (tc_alloc (tc_new rfl))
  have kB:((((w.alloc (Obj.cells #[.int .i64 a0,.int .i64 a1,.int .i64 a2] 25)).alloc (Obj.cells #[.int .i64 k] 2)).alloc (Obj.cells #[.int .i64 0,.int .i64 0,.int .i64 0] 25))).cell? ⟨w.heap.size+1,0,none⟩=some (.int .i64 k):=cell_keep (b_alloc (Below.refl _ _)) (by simp [go_sem])
  have qc:TC (((w.alloc (Obj.cells #[.int .i64 a0,.int .i64 a1,.int .i64 a2] 25)).alloc (Obj.cells #[.int .i64 k] 2)).alloc (Obj.cells #[.int .i64 0,.int .i64 0,.int .i64 0] 25)) (w.heap.size+1+1) 0 0 0:=tc_new (by simp)
  have qf:TF (((w.alloc (Obj.cells #[.int .i64 a0,.int .i64 a1,.int .i64 a2] 25)).alloc (Obj.cells #[.int .i64 k] 2)).alloc (Obj.cells #[.int .i64 0,.int .i64 0,.int .i64 0] 25)) (w.heap.size+1+1):=tf_new (by simp)
  have B0:Below w.heap.size w (((w.alloc (Obj.cells #[.int .i64 a0,.int .i64 a1,.int .i64 a2] 25)).alloc (Obj.cells #[.int .i64 k] 2)).alloc (Obj.cells #[.int .i64 0,.int .i64 0,.int .i64 0] 25)):=b_alloc (b_alloc (b_alloc (Below.refl _ _)))
  go_enter Tryz.func112,Tryz.ntmps112
  go_wp2_with fail
  refine (fits3_vec a0 a1 a2 ha0 ha1 ha2 _).mono ?_
  rintro e1 w1 ⟨rfl,hb9⟩
  rw [ea.out]
  have qf9:=tf_keep hb9 qc qf
  replace kA:=tc_keep hb9 kA
  replace kB:=cell_keep hb9 kB
  replace qc:=tc_keep hb9 qc
  replace B0:=b_trans B0 hb9
  clear qf
  have qf:=qf9
  clear qf9 hb9
  have B9:=b_set (p:=⟨w.heap.size+1+1,2,none⟩) (v:=.int .i64 0) (b_set (p:=⟨w.heap.size+1+1,1,none⟩) (v:=.int .i64 0) (b_set (p:=⟨w.heap.size+1+1,0,none⟩) (v:=.int .i64 0) B0 (Nat.le_trans (Nat.le_succ _) (Nat.le_succ _))) (Nat.le_trans (Nat.le_succ _) (Nat.le_succ _))) (Nat.le_trans (Nat.le_succ _) (Nat.le_succ _))
  clear kA kB B0
  go_wp2
  exact bodyPost_ret (v:=.tuple #[tv 0 0 0,.int .i64 1]) (by simp [results,Tryz.results112,go_sem,qc]) rfl ⟨rfl,B9⟩
theorem scale3_vec_ok (a0 a1 a2 k x0 x1 x2 e0 e1 e2:Int) (ha0:I64 a0) (ha1:I64 a1) (ha2:I64 a2) (hk:I64 k) (ca:F3 a0 a1 a2) (cb:FitP k)
  (c0:∀ w,Calls Tryz.prog 146 #[.int .i64 a0,.int .i64 k] w (RetV (.tuple #[.int .i64 x0,.int .i64 e0]) w))
  (c1:∀ w,Calls Tryz.prog 146 #[.int .i64 a1,.int .i64 k] w (RetV (.tuple #[.int .i64 x1,.int .i64 e1]) w))
  (c2:∀ w,Calls Tryz.prog 146 #[.int .i64 a2,.int .i64 k] w (RetV (.tuple #[.int .i64 x2,.int .i64 e2]) w)) (w:World) :
  Calls Tryz.prog 112 #[tv a0 a1 a2,.int .i64 k] w (RetV (.tuple #[tv (tz x0 e0 e1 e2) (tz x1 e0 e1 e2) (tz x2 e0 e1 e2),.int .i64 (te e0 e1 e2)]) w):=by
 have ea:=Lib.hid (f3b_yes ca)
 have eb:=Lib.hid (fitb_yes cb)
 clear ca cb
 have kA:TC (((w.alloc (Obj.cells #[.int .i64 a0,.int .i64 a1,.int .i64 a2] 25)).alloc (Obj.cells #[.int .i64 k] 2)).alloc (Obj.cells #[.int .i64 0,.int .i64 0,.int .i64 0] 25)) (w.heap.size) a0 a1 a2:=tc_alloc (tc_alloc (tc_new rfl))
 have kB:((((w.alloc (Obj.cells #[.int .i64 a0,.int .i64 a1,.int .i64 a2] 25)).alloc (Obj.cells #[.int .i64 k] 2)).alloc (Obj.cells #[.int .i64 0,.int .i64 0,.int .i64 0] 25))).cell? ⟨w.heap.size+1,0,none⟩=some (.int .i64 k):=cell_keep (b_alloc (Below.refl _ _)) (by simp [go_sem])
 have qc:TC (((w.alloc (Obj.cells #[.int .i64 a0,.int .i64 a1,.int .i64 a2] 25)).alloc (Obj.cells #[.int .i64 k] 2)).alloc (Obj.cells #[.int .i64 0,.int .i64 0,.int .i64 0] 25)) (w.heap.size+1+1) 0 0 0:=tc_new (by simp)
 have qf:TF (((w.alloc (Obj.cells #[.int .i64 a0,.int .i64 a1,.int .i64 a2] 25)).alloc (Obj.cells #[.int .i64 k] 2)).alloc (Obj.cells #[.int .i64 0,.int .i64 0,.int .i64 0] 25)) (w.heap.size+1+1):=tf_new (by simp)
 have B0:Below w.heap.size w (((w.alloc (Obj.cells #[.int .i64 a0,.int .i64 a1,.int .i64 a2] 25)).alloc (Obj.cells #[.int .i64 k] 2)).alloc (Obj.cells #[.int .i64 0,.int .i64 0,.int .i64 0] 25)):=b_alloc (b_alloc (b_alloc (Below.refl _ _)))
 have hmf:∀ (fn:Fn) (first cap:Array Value) (w:World),(Instr.makeFunc fn first cap).run Tryz.prog w=.ok (.func fn first cap) w:=fun _ _ _ _=>rfl
 go_enter Tryz.func112,Tryz.ntmps112
 go_wp2_with fail
 refine (fits3_vec a0 a1 a2 ha0 ha1 ha2 _).mono ?_
 rintro e1 w1 ⟨rfl,hb9⟩
 rw [ea.out]
 have qf9:=tf_keep hb9 qc qf
 replace kA:=tc_keep hb9 kA
 replace kB:=cell_keep hb9 kB
 replace qc:=tc_keep hb9 qc
 replace B0:=b_trans B0 hb9
 clear qf
 have qf:=qf9
 clear qf9 hb9
 go_wp2_with fail
 refine (fits_any k hk.1 hk.2 _).mono ?_
 rintro e2 w2 ⟨rfl,rfl⟩
 rw [eb.out]
 have cE:=each_scale_any (w.heap.size) (w.heap.size+1) x0 x1 x2 e0 e1 e2 _ (fun w' hb=>clo_scale_0 _ _ _ _ _ _ _ _ w' (tc_keep hb kA) (cell_keep hb kB) c0) (fun w' hb=>clo_scale_1 _ _ _ _ _ _ _ _ w' (tc_keep hb kA) (cell_keep hb kB) c1) (fun w' hb=>clo_scale_2 _ _ _ _ _ _ _ _ w' (tc_keep hb kA) (cell_keep hb kB) c2)
 clear c0 c1 c2
 generalize tz x0 e0 e1 e2=y0 at *
 generalize tz x1 e0 e1 e2=y1 at *
 generalize tz x2 e0 e1 e2=y2 at *
 generalize te e0 e1 e2=y3 at *
 go_wp2_with fail
 refine cE.mono ?_
 rintro e9 w9 ⟨rfl,hb9⟩
 clear cE
 have qf9:=tf_keep hb9 qc qf
 replace kA:=tc_keep hb9 kA
 replace kB:=cell_keep hb9 kB
 replace qc:=tc_keep hb9 qc
 replace B0:=b_trans B0 hb9
 clear qf
 have qf:=qf9
 clear qf9 hb9
 have B9:=b_set (p:=⟨w.heap.size+1+1,2,none⟩) (v:=.int .i64 y2) (b_set (p:=⟨w.heap.size+1+1,1,none⟩) (v:=.int .i64 y1) (b_set (p:=⟨w.heap.size+1+1,0,none⟩) (v:=.int .i64 y0) B0 (Nat.le_trans (Nat.le_succ _) (Nat.le_succ _))) (Nat.le_trans (Nat.le_succ _) (Nat.le_succ _))) (Nat.le_trans (Nat.le_succ _) (Nat.le_succ _))
 clear kA kB B0
 go_wp2
 exact bodyPost_ret (v:=.tuple #[tv y0 y1 y2,.int .i64 y3]) (by simp [results,Tryz.results112,go_sem,qc]) rfl ⟨rfl,B9⟩
end Go.Proofs.YthnofhjgfhapiaaGreatDoor

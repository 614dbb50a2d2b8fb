import Derived.Defers
import Derived.Tactics
import Derived.Test.YthnofhjgfhapiaaGreatDoorWao
import Derived.Test.YthnofhjgfhapiaaGreatDoorWap
import Derived.Test.YthnofhjgfhapiaaGreatDoorWai
import Derived.Test.YthnofhjgfhapiaaGreatDoorWae
import Derived.Test.YthnofhjgfhapiaaGreatDoorWam
import Derived.Test.YthnofhjgfhapiaaGreatDoorWan
import Derived.Test.YthnofhjgfhapiaaGreatDoorWaf
import Derived.Test.YthnofhjgfhapiaaGreatDoorWaa
import Derived.Test.YthnofhjgfhapiaaGreatDoorWab
import Derived.Test.YthnofhjgfhapiaaGreatDoorWac
set_option maxHeartbeats 8000000
set_option maxRecDepth 10000
namespace Go.Proofs.YthnofhjgfhapiaaGreatDoor
open Go.RowKit Go.Shelf Go.Joins
abbrev VR (w:World) (b:Nat) (k:Nat→Int):Prop:=w.heap[b]?=some (.cells #[.int .i64 (k 0),.int .i64 (k 1),.int .i64 (k 2)] 25 (0,0))
abbrev GV (w:World) (b:Nat) (a u:Nat→Int):Prop:=w.heap[b]?=some (.cells #[.int .i64 (a 0),.int .i64 (a 1),.int .i64 (a 2),.int .i64 (u 0),.int .i64 (u 1),.int .i64 (u 2),.int .i64 (u 3),.int .i64 (u 4),.int .i64 (u 5)] 61 (0,0))
theorem vr_tc {w:World} {b:Nat} {k:Nat→Int} (h:VR w b k):TC w b (k 0) (k 1) (k 2):=⟨(cell_of_row _ _ 0 _ _ _ h).trans rfl,(cell_of_row _ _ 1 _ _ _ h).trans rfl,(cell_of_row _ _ 2 _ _ _ h).trans rfl⟩
theorem vr_put {w:World} {b:Nat} {k k':Nat→Int} (h:VR w b k):VR (((w.setCell ⟨b,0,none⟩ (.int .i64 (k' 0))).setCell ⟨b,1,none⟩ (.int .i64 (k' 1))).setCell ⟨b,2,none⟩ (.int .i64 (k' 2))) b k':=by
 replace h:(w.setCell ⟨b,0,none⟩ (.int .i64 (k' 0))).heap[b]?=some (.cells #[.int .i64 (k' 0),.int .i64 (k 1),.int .i64 (k 2)] 25 (0,0)):=(heap_setCell_same _ b 0 _ _ _ h).trans rfl
 replace h:((w.setCell ⟨b,0,none⟩ (.int .i64 (k' 0))).setCell ⟨b,1,none⟩ (.int .i64 (k' 1))).heap[b]?=some (.cells #[.int .i64 (k' 0),.int .i64 (k' 1),.int .i64 (k 2)] 25 (0,0)):=(heap_setCell_same _ b 1 _ _ _ h).trans rfl
 replace h:(((w.setCell ⟨b,0,none⟩ (.int .i64 (k' 0))).setCell ⟨b,1,none⟩ (.int .i64 (k' 1))).setCell ⟨b,2,none⟩ (.int .i64 (k' 2))).heap[b]?=some (.cells #[.int .i64 (k' 0),.int .i64 (k' 1),.int .i64 (k' 2)] 25 (0,0)):=(heap_setCell_same _ b 2 _ _ _ h).trans rfl
 exact h
theorem gv_puta {w:World} {b:Nat} {a u a':Nat→Int} (h:GV w b a u):GV (((w.setCell ⟨b,0,none⟩ (.int .i64 (a' 0))).setCell ⟨b,1,none⟩ (.int .i64 (a' 1))).setCell ⟨b,2,none⟩ (.int .i64 (a' 2))) b a' u:=by
 replace h:(w.setCell ⟨b,0,none⟩ (.int .i64 (a' 0))).heap[b]?=some (.cells #[.int .i64 (a' 0),.int .i64 (a 1),.int .i64 (a 2),.int .i64 (u 0),.int .i64 (u 1),.int .i64 (u 2),.int .i64 (u 3),.int .i64 (u 4),.int .i64 (u 5)] 61 (0,0)):=(heap_setCell_same _ b 0 _ _ _ h).trans rfl
 replace h:((w.setCell ⟨b,0,none⟩ (.int .i64 (a' 0))).setCell ⟨b,1,none⟩ (.int .i64 (a' 1))).heap[b]?=some (.cells #[.int .i64 (a' 0),.int .i64 (a' 1),.int .i64 (a 2),.int .i64 (u 0),.int .i64 (u 1),.int .i64 (u 2),.int .i64 (u 3),.int .i64 (u 4),.int .i64 (u 5)] 61 (0,0)):=(heap_setCell_same _ b 1 _ _ _ h).trans rfl
 replace h:(((w.setCell ⟨b,0,none⟩ (.int .i64 (a' 0))).setCell ⟨b,1,none⟩ (.int .i64 (a' 1))).setCell ⟨b,2,none⟩ (.int .i64 (a' 2))).heap[b]?=some (.cells #[.int .i64 (a' 0),.int .i64 (a' 1),.int .i64 (a' 2),.int .i64 (u 0),.int .i64 (u 1),.int .i64 (u 2),.int .i64 (u 3),.int .i64 (u 4),.int .i64 (u 5)] 61 (0,0)):=(heap_setCell_same _ b 2 _ _ _ h).trans rfl
 exact h
theorem gv_putu {w:World} {b:Nat} {a u u':Nat→Int} (h:GV w b a u):GV ((((((w.setCell ⟨b,3,none⟩ (.int .i64 (u' 0))).setCell ⟨b,4,none⟩ (.int .i64 (u' 1))).setCell ⟨b,5,none⟩ (.int .i64 (u' 2))).setCell ⟨b,6,none⟩ (.int .i64 (u' 3))).setCell ⟨b,7,none⟩ (.int .i64 (u' 4))).setCell ⟨b,8,none⟩ (.int .i64 (u' 5))) b a u':=by
 replace h:(w.setCell ⟨b,3,none⟩ (.int .i64 (u' 0))).heap[b]?=some (.cells #[.int .i64 (a 0),.int .i64 (a 1),.int .i64 (a 2),.int .i64 (u' 0),.int .i64 (u 1),.int .i64 (u 2),.int .i64 (u 3),.int .i64 (u 4),.int .i64 (u 5)] 61 (0,0)):=(heap_setCell_same _ b 3 _ _ _ h).trans rfl
 replace h:((w.setCell ⟨b,3,none⟩ (.int .i64 (u' 0))).setCell ⟨b,4,none⟩ (.int .i64 (u' 1))).heap[b]?=some (.cells #[.int .i64 (a 0),.int .i64 (a 1),.int .i64 (a 2),.int .i64 (u' 0),.int .i64 (u' 1),.int .i64 (u 2),.int .i64 (u 3),.int .i64 (u 4),.int .i64 (u 5)] 61 (0,0)):=(heap_setCell_same _ b 4 _ _ _ h).trans rfl
 replace h:(((w.setCell ⟨b,3,none⟩ (.int .i64 (u' 0))).setCell ⟨b,4,none⟩ (.int .i64 (u' 1))).setCell ⟨b,5,none⟩ (.int .i64 (u' 2))).heap[b]?=some (.cells #[.int .i64 (a 0),.int .i64 (a 1),.int .i64 (a 2),.int .i64 (u' 0),.int .i64 (u' 1),.int .i64 (u' 2),.int .i64 (u 3),.int .i64 (u 4),.int .i64 (u 5)] 61 (0,0)):=(heap_setCell_same _ b 5 _ _ _ h).trans rfl
 replace h:((((w.setCell ⟨b,3,none⟩ (.int .i64 (u' 0))).setCell ⟨b,4,none⟩ (.int .i64 (u' 1))).setCell ⟨b,5,none⟩ (.int .i64 (u' 2))).setCell ⟨b,6,none⟩ (.int .i64 (u' 3))).heap[b]?=some (.cells #[.int .i64 (a 0),.int .i64 (a 1),.int .i64 (a 2),.int .i64 (u' 0),.int .i64 (u' 1),.int .i64 (u' 2),.int .i64 (u' 3),.int .i64 (u 4),.int .i64 (u 5)] 61 (0,0)):=(heap_setCell_same _ b 6 _ _ _ h).trans rfl
 replace h:(((((w.setCell ⟨b,3,none⟩ (.int .i64 (u' 0))).setCell ⟨b,4,none⟩ (.int .i64 (u' 1))).setCell ⟨b,5,none⟩ (.int .i64 (u' 2))).setCell ⟨b,6,none⟩ (.int .i64 (u' 3))).setCell ⟨b,7,none⟩ (.int .i64 (u' 4))).heap[b]?=some (.cells #[.int .i64 (a 0),.int .i64 (a 1),.int .i64 (a 2),.int .i64 (u' 0),.int .i64 (u' 1),.int .i64 (u' 2),.int .i64 (u' 3),.int .i64 (u' 4),.int .i64 (u 5)] 61 (0,0)):=(heap_setCell_same _ b 7 _ _ _ h).trans rfl
 replace h:((((((w.setCell ⟨b,3,none⟩ (.int .i64 (u' 0))).setCell ⟨b,4,none⟩ (.int .i64 (u' 1))).setCell ⟨b,5,none⟩ (.int .i64 (u' 2))).setCell ⟨b,6,none⟩ (.int .i64 (u' 3))).setCell ⟨b,7,none⟩ (.int .i64 (u' 4))).setCell ⟨b,8,none⟩ (.int .i64 (u' 5))).heap[b]?=some (.cells #[.int .i64 (a 0),.int .i64 (a 1),.int .i64 (a 2),.int .i64 (u' 0),.int .i64 (u' 1),.int .i64 (u' 2),.int .i64 (u' 3),.int .i64 (u' 4),.int .i64 (u' 5)] 61 (0,0)):=(heap_setCell_same _ b 8 _ _ _ h).trans rfl
 exact h
theorem gv_st {w:World} {b:Nat} {a u:Nat→Int} (h:GV w b a u):w.cell? ⟨b,0,none⟩=some (.int .i64 (a 0))∧w.cell? ⟨b,1,none⟩=some (.int .i64 (a 1))∧w.cell? ⟨b,2,none⟩=some (.int .i64 (a 2)):=⟨(cell_of_row _ _ 0 _ _ _ h).trans rfl,(cell_of_row _ _ 1 _ _ _ h).trans rfl,(cell_of_row _ _ 2 _ _ _ h).trans rfl⟩
theorem gv_db {w:World} {b:Nat} {a u:Nat→Int} (h:GV w b a u):w.cell? ⟨b,3,none⟩=some (.int .i64 (u 0))∧w.cell? ⟨b,4,none⟩=some (.int .i64 (u 1))∧w.cell? ⟨b,5,none⟩=some (.int .i64 (u 2))∧w.cell? ⟨b,6,none⟩=some (.int .i64 (u 3))∧w.cell? ⟨b,7,none⟩=some (.int .i64 (u 4))∧w.cell? ⟨b,8,none⟩=some (.int .i64 (u 5)):=⟨(cell_of_row _ _ 3 _ _ _ h).trans rfl,(cell_of_row _ _ 4 _ _ _ h).trans rfl,(cell_of_row _ _ 5 _ _ _ h).trans rfl,(cell_of_row _ _ 6 _ _ _ h).trans rfl,(cell_of_row _ _ 7 _ _ _ h).trans rfl,(cell_of_row _ _ 8 _ _ _ h).trans rfl⟩
theorem but_v3 {w:World} {g:Nat} {v0 v1 v2:Value}:But g w (((w.setCell ⟨g,0,none⟩ v0).setCell ⟨g,1,none⟩ v1).setCell ⟨g,2,none⟩ v2):=but_trans (but_trans (but_set) but_set) but_set
theorem but_u3 {w:World} {g:Nat} {v0 v1 v2 v3 v4 v5:Value}:But g w ((((((w.setCell ⟨g,3,none⟩ v0).setCell ⟨g,4,none⟩ v1).setCell ⟨g,5,none⟩ v2).setCell ⟨g,6,none⟩ v3).setCell ⟨g,7,none⟩ v4).setCell ⟨g,8,none⟩ v5):=but_trans (but_trans (but_trans (but_trans (but_trans (but_set) but_set) but_set) but_set) but_set) but_set
theorem jump_ret {l:Nat} {J:Act→World→Prop} {Q:Exit→Act→World→Prop} {a:Act} {w:World}:Exit.jump l J Q .ret a w=Q .ret a w:=rfl
structure TQ (W:World) (b fb gb:Nat) (hl:Value) (x:Nat→Int) (m s:Int) (a u k z d:Nat→Int) (U:World):Prop where
 c:CB U b fb gb hl x m s a u
 k:VR U W.heap.size k
 g:GV U (W.heap.size+1) z d
 t:Tb3 U
 b:But b W U
section
variable {W U U':World} {b fb gb:Nat} {hl:Value} {x:Nat→Int} {m s:Int} {a u k z d k' z' d':Nat→Int}
theorem tq_keep (hb:Below U.heap.size U U') (h:TQ W b fb gb hl x m s a u k z d U):TQ W b fb gb hl x m s a u k z d U':=⟨row_keep hb h.c,row_keep hb h.k,row_keep hb h.g,t3_keep hb h.t,but_trans h.b (but_below hb)⟩
theorem tq_k (lb:b<W.heap.size) (ub:Up b) (h:TQ W b fb gb hl x m s a u k z d U):TQ W b fb gb hl x m s a u k' z d (((U.setCell ⟨W.heap.size,0,none⟩ (.int .i64 (k' 0))).setCell ⟨W.heap.size,1,none⟩ (.int .i64 (k' 1))).setCell ⟨W.heap.size,2,none⟩ (.int .i64 (k' 2))) :=
 ⟨but_row but_v3 (by omega) h.c,vr_put h.k,but_row but_v3 (by omega) h.g,t3_but but_v3 (up_le ub (by omega)) h.t,but_new h.b (Nat.le_refl _) but_v3⟩
theorem tq_a (lb:b<W.heap.size) (ub:Up b) (h:TQ W b fb gb hl x m s a u k z d U):TQ W b fb gb hl x m s a u k z' d (((U.setCell ⟨(W.heap.size+1),0,none⟩ (.int .i64 (z' 0))).setCell ⟨(W.heap.size+1),1,none⟩ (.int .i64 (z' 1))).setCell ⟨(W.heap.size+1),2,none⟩ (.int .i64 (z' 2))) :=
 ⟨but_row but_v3 (by omega) h.c,but_row but_v3 (by omega) h.k,gv_puta h.g,t3_but but_v3 (up_le ub (by omega)) h.t,but_new h.b (Nat.le_succ _) but_v3⟩
theorem tq_u (lb:b<W.heap.size) (ub:Up b) (h:TQ W b fb gb hl x m s a u k z d U):TQ W b fb gb hl x m s a u k z d' ((((((U.setCell ⟨(W.heap.size+1),3,none⟩ (.int .i64 (d' 0))).setCell ⟨(W.heap.size+1),4,none⟩ (.int .i64 (d' 1))).setCell ⟨(W.heap.size+1),5,none⟩ (.int .i64 (d' 2))).setCell ⟨(W.heap.size+1),6,none⟩ (.int .i64 (d' 3))).setCell ⟨(W.heap.size+1),7,none⟩ (.int .i64 (d' 4))).setCell ⟨(W.heap.size+1),8,none⟩ (.int .i64 (d' 5))) :=
 ⟨but_row but_u3 (by omega) h.c,but_row but_u3 (by omega) h.k,gv_putu h.g,t3_but but_u3 (up_le ub (by omega)) h.t,but_new h.b (Nat.le_succ _) but_u3⟩
end
theorem take_go (b fb gb:Nat) (hl:Value) (x:Nat→Int) (m s:Int) (a u:Nat→Int) (c md n0 n1 pp L N Y S e1 e2 e3 e4 ev:Int) (q G ps:Bool) (k z d kz y a' u':Nat→Int)
  (hY:e1=0→ps=true→e2=0→e3=0→e4=0→ev=1∧a'=kz∧u'=y) (hN1:¬ e1=0→ev=2∧a'=a∧u'=u) (hN2:¬ ps=true→ev=2∧a'=a∧u'=u) (hN3:¬ e2=0→ev=2∧a'=a∧u'=u) (hN4:¬ e3=0→ev=2∧a'=a∧u'=u) (hN5:¬ e4=0→ev=2∧a'=a∧u'=u)
  (cL:∀ w,TB w→GR w gb c md n0 n1→Calls Tryz.prog 73 #[.pointer (some ⟨gb,0,none⟩),.int .i64 pp] w (RetV (.tuple #[.int .i64 L,.int .i64 N,.bool G,.int .i64 0]) w))
  (cY:∀ w,PL w→Calls Tryz.prog 74 #[tv (a 0) (a 1) (a 2),sv u,.int .i64 L,.int .i64 N] w (RetV (.tuple #[.int .i64 Y,.int .i64 S,.int .i64 e1]) w))
  (cP:∀ w,Calls Tryz.prog 75 #[.int .i64 Y,.int .i64 S,.int .i64 (x 20)] w (RetV (.bool ps) w))
  (cG:∀ w,PL w→Calls Tryz.prog 76 #[sv u,.int .i64 S,.bool q,tv (x 21) (x 22) (x 23)] w (RetV (.tuple #[tv (k 0) (k 1) (k 2),.int .i64 e2]) w))
  (cS:∀ w,Calls Tryz.prog 77 #[tv (a 0) (a 1) (a 2),tv (k 0) (k 1) (k 2),.int .i64 Y] w (RetV (.tuple #[tv (z 0) (z 1) (z 2),.int .i64 e3]) w))
  (cD:∀ w,PL w→Calls Tryz.prog 78 #[sv u,tv (k 0) (k 1) (k 2),.int .i64 S] w (RetV (.tuple #[sv d,.int .i64 e4]) w))
  (cK:∀ w,Calls Tryz.prog 69 #[tv (z 0) (z 1) (z 2),tv (x 17) (x 18) (x 19)] w (RetV (tv (kz 0) (kz 1) (kz 2)) w))
  (cT:∀ w,CB w b fb gb hl x m s a u→PL w→Calls Tryz.prog 72 #[.pointer (some ⟨b,0,none⟩),sv d] w (RetV (sv y) w))
  (w:World) (h:CB w b fb gb hl x m s a u) (gr:GR w gb c md n0 n1) (T:Tb3 w) (ub:Up b) :
  Calls Tryz.prog 26 #[.pointer (some ⟨b,0,none⟩),.int .i64 pp,.bool q] w fun e_ w'=>e_=.returned (.tuple #[.int .i64 ev,.bool G])∧CB w' b fb gb hl x m s a' u'∧But b w w':=by
 have lb:=cb_lt h
 have b2:Below w.heap.size w ((w.alloc (Obj.cells #[.int .i64 0,.int .i64 0,.int .i64 0] 25)).alloc (Obj.cells #[.int .i64 0,.int .i64 0,.int .i64 0,.int .i64 0,.int .i64 0,.int .i64 0,.int .i64 0,.int .i64 0,.int .i64 0] 61)):=b_alloc (b_alloc (Below.refl _ _))
 have H:TQ w b fb gb hl x m s a u (fun _=>0) (fun _=>0) (fun _=>0) ((w.alloc (Obj.cells #[.int .i64 0,.int .i64 0,.int .i64 0] 25)).alloc (Obj.cells #[.int .i64 0,.int .i64 0,.int .i64 0,.int .i64 0,.int .i64 0,.int .i64 0,.int .i64 0,.int .i64 0,.int .i64 0] 61)):=⟨row_keep b2 h,lay_old _ _ _,lay_new _ _ _,t3_keep b2 T,but_below b2⟩
 replace gr:=row_keep b2 gr
 have gp:=cb_gr H.c
 have H1:=Lib.hid hN1
 have H2:=Lib.hid hN2
 have H3:=Lib.hid hN3
 have H4:=Lib.hid hN4
 have H5:=Lib.hid hN5
 replace hY:=Lib.hid hY
 clear b2 h T hN1 hN2 hN3 hN4 hN5
 go_enter Tryz.func26,Tryz.ntmps26
 go_wp2
 refine wp_scope_jumps 0 (fun a_ w_=>Array.size a_.tmps=122∧a_.tmps[7]?=some (.bool G)∧a_.defers=[]∧CB w_ b fb gb hl x m s a u∧But b w w_∧ev=2∧a'=a∧u'=u) (fun _ _=>0) rfl ?_ ?_
 rotate_left
 ·rintro a_ w_ ⟨sz,g7,df,h,B,rfl,rfl,rfl⟩
  have g8:∀ q:7<a_.tmps.size,a_.tmps[7]=.bool G:=fun q=>Option.some.inj ((Array.getElem?_eq_getElem q).symm.trans g7)
  go_wp2
  rw [jump_ret]
  exact bodyPost_ret (v:=.tuple #[.int .i64 2,.bool G]) (by simp [results,Tryz.results26,go_sem,Array.getElem?_setIfInBounds,sz]) rfl ⟨rfl,h,B⟩
 go_wp2_with fail
 generalize ((w.alloc (Obj.cells #[.int .i64 0,.int .i64 0,.int .i64 0] 25)).alloc (Obj.cells #[.int .i64 0,.int .i64 0,.int .i64 0,.int .i64 0,.int .i64 0,.int .i64 0,.int .i64 0,.int .i64 0,.int .i64 0] 61))=y0 at *
 refine (cL _ H.t.2.2 gr).mono ?_
 rintro e_ y1 ⟨rfl,hb1⟩
 replace H:=tq_keep hb1 H
 clear hb1 gr cL gp
 go_wp2
 obtain ⟨s0,s1,s2⟩:=cb_st H.c
 obtain ⟨p0,p1,p2,p3,p4,p5⟩:=cb_db H.c
 replace s0:=cell_regrown s0
 replace s1:=cell_regrown s1
 replace s2:=cell_regrown s2
 replace p0:=cell_regrown p0
 replace p1:=cell_regrown p1
 replace p2:=cell_regrown p2
 replace p3:=cell_regrown p3
 replace p4:=cell_regrown p4
 replace p5:=cell_regrown p5
 have cq:=fun d os=>Calls.regrown_of (cY _ (pl_keep (below_regrown y1 d os) H.t.1))
 refine wp_region_quiet_below (by kernel_rfl) (by kernel_rfl) ?_
 repeat (with_reducible refine wpQuiet_step (fun KQ hKQ=>?_); go_simp; first | (with_reducible refine hKQ _ ?_; clear hKQ KQ) | (apply Exists.intro; with_reducible refine ⟨fun _=>?_,hKQ _ ?_⟩; (with_reducible exact cq _ _); clear hKQ KQ))
 refine wpQuiet_nil ?_
 intro _ hw'
 obtain ⟨⟨dq,osq⟩,hw''⟩:=hw'
 subst hw''
 have E:=below_regrown y1 dq osq
 clear cq
 generalize Sort.grow (redrawn y1 dq) osq=y2 at *
 clear s0 s1 s2 p0 p1 p2 p3 p4 p5 cY
 replace H:=tq_keep E H
 clear E
 by_cases c1:e1=0
 rotate_left
 ·have q1:(e1 != 0)=true:=by simpa using c1
  go_wp2
  go_step3
  exact ⟨rfl,rfl,rfl,rfl,H.c,H.b,H1.out c1⟩
 have q1:(e1 != 0)=false:=by simpa using c1
 replace hY:=Lib.hid (hY.out c1)
 clear c1 H1
 have ga:=cb_ga H.c
 go_wp2_with fail
 refine (cP _).mono ?_
 rintro e_ y3 ⟨rfl,hb1⟩
 replace H:=tq_keep hb1 H
 clear hb1 ga cP
 by_cases c2:ps=true
 rotate_left
 ·have H6:=Lib.hid (H2.out c2)
  clear H2
  obtain rfl:ps=false:=by simpa using c2
  clear c2
  go_wp2
  go_step3
  exact ⟨rfl,rfl,rfl,rfl,H.c,H.b,H6.out⟩
 replace hY:=Lib.hid (hY.out c2)
 clear H2
 subst c2
 go_wp2
 refine region_late_k [59,60,61,62,63,64,65,66,67,68,69,70,71,58,72,73] 15 (fun i_=>match i_ with | 0=>.pointer (some ⟨b,0,none⟩) | 1=>.pointer (some ⟨b,0,none⟩) | 2=>.pointer (some ⟨b,36,none⟩) | 3=>.pointer (some ⟨b,39,none⟩) | 4=>sv u | 5=>.int .i64 S | 6=>.bool q | 7=>.pointer (some ⟨b,0,none⟩) | 8=>.pointer (some ⟨b,0,none⟩) | 9=>.pointer (some ⟨b,0,none⟩) | 10=>.pointer (some ⟨b,21,none⟩) | 11=>tv (x 21) (x 22) (x 23) | 12=>.tuple #[tv (k 0) (k 1) (k 2),.int .i64 e2] | 13=>.tuple #[tv (k 0) (k 1) (k 2),.int .i64 e2] | 14=>tv (k 0) (k 1) (k 2) | 15=>.int .i64 e2 | _=>undef) (fun f=>f.put (some 14) (.int .i64 e2)) (fun U_=>TQ w b fb gb hl x m s a u k (fun _=>0) (fun _=>0) U_) (fun i_ X_ U_=>match i_ with | 0=>X_=.pointer (some ⟨b,0,none⟩) | 1=>X_=.pointer (some ⟨b,0,none⟩) | 2=>X_=.pointer (some ⟨b,36,none⟩) | 3=>X_=.pointer (some ⟨b,39,none⟩) | 4=>X_=sv u | 5=>X_=.int .i64 S | 6=>X_=.bool q | 7=>X_=.pointer (some ⟨b,0,none⟩) | 8=>X_=.pointer (some ⟨b,0,none⟩) | 9=>X_=.pointer (some ⟨b,0,none⟩) | 10=>X_=.pointer (some ⟨b,21,none⟩) | 11=>X_=tv (x 21) (x 22) (x 23) | 12=>X_=.tuple #[tv (k 0) (k 1) (k 2),.int .i64 e2] | 13=>X_=.tuple #[tv (k 0) (k 1) (k 2),.int .i64 e2] | 14=>X_=tv (k 0) (k 1) (k 2) | 15=>X_=.int .i64 e2 | _=>True) (fun i_=>false) (by kernel_rfl) (by kernel_rfl) (by kernel_rfl) (by kernel_rfl) ?_ (fun i x w hi ha h=>by cases ha) ?_ ?_ ?_ ?_
 ·refine swp (upS (upS (upS (upS (upS (upS (upS (upS (upS (upS (upS (upS (upS (upS (upS (upS up0 ?_) ?_) ?_) ?_) ?_) ?_) ?_) ?_) ?_) ?_) ?_) ?_) ?_) ?_) ?_) ?_)
  all_goals exact fun _ _ _ h _=>h
 ·refine upS (upS (upS (upS (upS (upS (upS (upS (upS (upS (upS (upS (upS (upS (upS (upS up0 ?_) ?_) ?_) ?_) ?_) ?_) ?_) ?_) ?_) ?_) ?_) ?_) ?_) ?_) ?_) ?_
  all_goals intro v f w' hb hv hB hd
  ·have b0:f.tmps[0]?=some (.pointer (some ⟨b,0,none⟩)):=(hb 0 (by decide)).trans rfl
   clear hb hv hd
   refine wpOp_step rfl fun K hK=>?_
   go_simp
   exact hK _ _ ⟨_,rfl,Below.refl _ _,rfl,fun h=>absurd h (by decide)⟩
  ·have d0:=got (hv 0 59 rfl) (hd 0 (by kernel_rfl))
   clear hb hv hd
   refine wpOp_step rfl fun K hK=>?_
   go_simp
   exact hK _ _ ⟨_,rfl,Below.refl _ _,rfl,fun h=>absurd h (by decide)⟩
  ·have d1:=got (hv 1 60 rfl) (hd 1 (by kernel_rfl))
   clear hb hv hd
   refine wpOp_step rfl fun K hK=>?_
   go_simp
   exact hK _ _ ⟨_,rfl,Below.refl _ _,rfl,fun h=>absurd h (by decide)⟩
  ·have d2:=got (hv 2 61 rfl) (hd 2 (by kernel_rfl))
   clear hb hv hd
   refine wpOp_step rfl fun K hK=>?_
   go_simp
   exact hK _ _ ⟨_,rfl,Below.refl _ _,rfl,fun h=>absurd h (by decide)⟩
  ·have d3:=got (hv 3 62 rfl) (hd 3 (by kernel_rfl))
   clear hb hv hd
   have c:=cb_db (row_keep hB H.c)
   refine wpOp_step rfl fun K hK=>?_
   go_simp
   exact hK _ _ ⟨_,rfl,Below.refl _ _,rfl,fun h=>absurd h (by decide)⟩
  ·have b9:f.tmps[9]?=some (.int .i64 S):=(hb 9 (by decide)).trans rfl
   clear hb hv hd
   refine wpOp_step rfl fun K hK=>?_
   go_simp
   exact hK _ _ ⟨_,rfl,Below.refl _ _,rfl,fun h=>absurd h (by decide)⟩
  ·have b2:f.tmps[2]?=some (.bool q):=(hb 2 (by decide)).trans rfl
   clear hb hv hd
   refine wpOp_step rfl fun K hK=>?_
   go_simp
   exact hK _ _ ⟨_,rfl,Below.refl _ _,rfl,fun h=>absurd h (by decide)⟩
  ·have b0:f.tmps[0]?=some (.pointer (some ⟨b,0,none⟩)):=(hb 0 (by decide)).trans rfl
   clear hb hv hd
   refine wpOp_step rfl fun K hK=>?_
   go_simp
   exact hK _ _ ⟨_,rfl,Below.refl _ _,rfl,fun h=>absurd h (by decide)⟩
  ·have d7:=got (hv 7 66 rfl) (hd 7 (by kernel_rfl))
   clear hb hv hd
   refine wpOp_step rfl fun K hK=>?_
   go_simp
   exact hK _ _ ⟨_,rfl,Below.refl _ _,rfl,fun h=>absurd h (by decide)⟩
  ·have d8:=got (hv 8 67 rfl) (hd 8 (by kernel_rfl))
   clear hb hv hd
   refine wpOp_step rfl fun K hK=>?_
   go_simp
   exact hK _ _ ⟨_,rfl,Below.refl _ _,rfl,fun h=>absurd h (by decide)⟩
  ·have d9:=got (hv 9 68 rfl) (hd 9 (by kernel_rfl))
   clear hb hv hd
   refine wpOp_step rfl fun K hK=>?_
   go_simp
   exact hK _ _ ⟨_,rfl,Below.refl _ _,rfl,fun h=>absurd h (by decide)⟩
  ·have d10:=got (hv 10 69 rfl) (hd 10 (by kernel_rfl))
   clear hb hv hd
   have c:=cb_ta (row_keep hB H.c)
   refine wpOp_step rfl fun K hK=>?_
   go_simp
   exact hK _ _ ⟨_,rfl,Below.refl _ _,rfl,fun h=>absurd h (by decide)⟩
  ·have d4:=got (hv 4 63 rfl) (hd 4 (by kernel_rfl))
   have d5:=got (hv 5 64 rfl) (hd 5 (by kernel_rfl))
   have d6:=got (hv 6 65 rfl) (hd 6 (by kernel_rfl))
   have d11:=got (hv 11 70 rfl) (hd 11 (by kernel_rfl))
   clear hb hv hd
   refine wpOp_call rfl Tryz.call76 (args4 (eval_tmp d4) (eval_tmp d5) (eval_tmp d6) (eval_tmp d11)) (cG _ (pl_keep hB H.t.1)) ?_
   rintro e5 w5 ⟨rfl,hb5⟩
   exact ⟨_,rfl,_,rfl,hb5,rfl,fun h=>absurd h (by decide)⟩
  ·have d12:=got (hv 12 71 rfl) (hd 12 (by kernel_rfl))
   clear hb hv hd
   refine wpOp_step rfl fun K hK=>?_
   go_simp
   exact hK _ _ ⟨_,rfl,Below.refl _ _,rfl,fun h=>absurd h (by decide)⟩
  ·have d13:=got (hv 13 58 rfl) (hd 13 (by kernel_rfl))
   clear hb hv hd
   refine wpOp_step rfl fun K hK=>?_
   go_simp
   exact hK _ _ ⟨_,rfl,Below.refl _ _,rfl,fun h=>absurd h (by decide)⟩
  ·have d13:=got (hv 13 58 rfl) (hd 13 (by kernel_rfl))
   clear hb hv hd
   refine wpOp_step rfl fun K hK=>?_
   go_simp
   exact hK _ _ ⟨_,rfl,Below.refl _ _,rfl,fun h=>absurd h (by decide)⟩
 ·intro v w' hB hF hD
  have F0:v 0=_:=hF 0 (by simp)
  have F1:v 1=_:=hF 1 (by simp)
  have F2:v 2=_:=hF 2 (by simp)
  have F3:v 3=_:=hF 3 (by simp)
  have F4:v 4=_:=hF 4 (by simp)
  have F5:v 5=_:=hF 5 (by simp)
  have F6:v 6=_:=hF 6 (by simp)
  have F7:v 7=_:=hF 7 (by simp)
  have F8:v 8=_:=hF 8 (by simp)
  have F9:v 9=_:=hF 9 (by simp)
  have F10:v 10=_:=hF 10 (by simp)
  have F11:v 11=_:=hF 11 (by simp)
  have F12:v 12=_:=hF 12 (by simp)
  have F13:v 13=_:=hF 13 (by simp)
  have F14:v 14=_:=hF 14 (by simp)
  have F15:v 15=_:=hF 15 (by simp)
  clear hF
  simp only [frOf,frGo,Nat.zero_add,Nat.reduceAdd,F0,F1,F2,F3,F4,F5,F6,F7,F8,F9,F10,F11,F12,F13,F14,F15]
  have H9:=tq_keep hB H
  have st:=vr_tc H9.k
  have z0:=frozen_of_row w' w.heap.size 0 _ _ H9.k
  have z1:=frozen_of_row w' w.heap.size 1 _ _ H9.k
  have z2:=frozen_of_row w' w.heap.size 2 _ _ H9.k
  have sN:=tq_k (k':=k) lb ub H9
  clear F0 F1 F2 F3 F4 F5 F6 F7 F8 F9 F10 F11 F12 F13 F14 F15 hD hB H9 H
  go_wp2
 ·intro v w' hB hF hD
  have F0:v 0=_:=hF 0 (by simp) (by decide)
  have F1:v 1=_:=hF 1 (by simp) (by decide)
  have F2:v 2=_:=hF 2 (by simp) (by decide)
  have F3:v 3=_:=hF 3 (by simp) (by decide)
  have F4:v 4=_:=hF 4 (by simp) (by decide)
  have F5:v 5=_:=hF 5 (by simp) (by decide)
  have F6:v 6=_:=hF 6 (by simp) (by decide)
  have F7:v 7=_:=hF 7 (by simp) (by decide)
  have F8:v 8=_:=hF 8 (by simp) (by decide)
  have F9:v 9=_:=hF 9 (by simp) (by decide)
  have F10:v 10=_:=hF 10 (by simp) (by decide)
  have F11:v 11=_:=hF 11 (by simp) (by decide)
  have F12:v 12=_:=hF 12 (by simp) (by decide)
  have F13:v 13=_:=hF 13 (by simp) (by decide)
  have F14:v 14=_:=hF 14 (by simp) (by decide)
  clear hF
  simp only [frOf,frGo,Nat.zero_add,Nat.reduceAdd,F0,F1,F2,F3,F4,F5,F6,F7,F8,F9,F10,F11,F12,F13,F14]
  have H9:=tq_keep hB H
  have st:=vr_tc H9.k
  have z0:=frozen_of_row w' w.heap.size 0 _ _ H9.k
  have z1:=frozen_of_row w' w.heap.size 1 _ _ H9.k
  have z2:=frozen_of_row w' w.heap.size 2 _ _ H9.k
  have sN:=tq_k (k':=k) lb ub H9
  clear F0 F1 F2 F3 F4 F5 F6 F7 F8 F9 F10 F11 F12 F13 F14 hD hB H9 H
  refine wpOp_step rfl (fun K hK=>?_)
  go_simp
  refine hK _ _ ?_
  clear hK K
  refine wpOp_step rfl (fun K hK=>?_)
  go_simp
  refine hK _ _ ?_
  clear hK K
  go_wp2
 intro w' hst
 simp only [frOf,frGo,Nat.zero_add,Nat.reduceAdd]
 clear H
 have H:=hst
 clear hst
 by_cases c3:e2=0
 rotate_left
 ·have q3:(e2 != 0)=true:=by simpa using c3
  go_wp2
  go_step3
  exact ⟨rfl,rfl,rfl,rfl,H.c,H.b,H3.out c3⟩
 have q3:(e2 != 0)=false:=by simpa using c3
 replace hY:=Lib.hid (hY.out c3)
 clear c3 H3
 go_wp2
 refine region_late_k [77,78,79,80,81,82,83,84,76,85,86,87] 10 (fun i_=>match i_ with | 0=>.pointer (some ⟨b,0,none⟩) | 1=>.pointer (some ⟨b,0,none⟩) | 2=>.pointer (some ⟨b,36,none⟩) | 3=>.pointer (some ⟨b,36,none⟩) | 4=>tv (a 0) (a 1) (a 2) | 5=>tv (k 0) (k 1) (k 2) | 6=>.int .i64 Y | 7=>.tuple #[tv (z 0) (z 1) (z 2),.int .i64 e3] | 8=>.tuple #[tv (z 0) (z 1) (z 2),.int .i64 e3] | 9=>tv (z 0) (z 1) (z 2) | 10=>.int .i64 e3 | 11=>.pointer (some ⟨(w.heap.size+1),0,none⟩) | _=>undef) (fun f=>f.put (some 14) (.int .i64 e3)) (fun U_=>TQ w b fb gb hl x m s a u k z (fun _=>0) U_) (fun i_ X_ U_=>match i_ with | 0=>X_=.pointer (some ⟨b,0,none⟩) | 1=>X_=.pointer (some ⟨b,0,none⟩) | 2=>X_=.pointer (some ⟨b,36,none⟩) | 3=>X_=.pointer (some ⟨b,36,none⟩) | 4=>X_=tv (a 0) (a 1) (a 2) | 5=>X_=tv (k 0) (k 1) (k 2) | 6=>X_=.int .i64 Y | 7=>X_=.tuple #[tv (z 0) (z 1) (z 2),.int .i64 e3] | 8=>X_=.tuple #[tv (z 0) (z 1) (z 2),.int .i64 e3] | 9=>X_=tv (z 0) (z 1) (z 2) | 10=>X_=.int .i64 e3 | 11=>X_=.pointer (some ⟨(w.heap.size+1),0,none⟩) | _=>True) (fun i_=>false) (by kernel_rfl) (by kernel_rfl) (by kernel_rfl) (by kernel_rfl) ?_ (fun i x w hi ha h=>by cases ha) ?_ ?_ ?_ ?_
 ·refine swp (upS (upS (upS (upS (upS (upS (upS (upS (upS (upS (upS (upS up0 ?_) ?_) ?_) ?_) ?_) ?_) ?_) ?_) ?_) ?_) ?_) ?_)
  all_goals exact fun _ _ _ h _=>h
 ·refine upS (upS (upS (upS (upS (upS (upS (upS (upS (upS (upS (upS up0 ?_) ?_) ?_) ?_) ?_) ?_) ?_) ?_) ?_) ?_) ?_) ?_
  all_goals intro v f w' hb hv hB hd
  ·have b0:f.tmps[0]?=some (.pointer (some ⟨b,0,none⟩)):=(hb 0 (by decide)).trans rfl
   clear hb hv hd
   refine wpOp_step rfl fun K hK=>?_
   go_simp
   exact hK _ _ ⟨_,rfl,Below.refl _ _,rfl,fun h=>absurd h (by decide)⟩
  ·have d0:=got (hv 0 77 rfl) (hd 0 (by kernel_rfl))
   clear hb hv hd
   refine wpOp_step rfl fun K hK=>?_
   go_simp
   exact hK _ _ ⟨_,rfl,Below.refl _ _,rfl,fun h=>absurd h (by decide)⟩
  ·have d1:=got (hv 1 78 rfl) (hd 1 (by kernel_rfl))
   clear hb hv hd
   refine wpOp_step rfl fun K hK=>?_
   go_simp
   exact hK _ _ ⟨_,rfl,Below.refl _ _,rfl,fun h=>absurd h (by decide)⟩
  ·have d2:=got (hv 2 79 rfl) (hd 2 (by kernel_rfl))
   clear hb hv hd
   refine wpOp_step rfl fun K hK=>?_
   go_simp
   exact hK _ _ ⟨_,rfl,Below.refl _ _,rfl,fun h=>absurd h (by decide)⟩
  ·have d3:=got (hv 3 80 rfl) (hd 3 (by kernel_rfl))
   clear hb hv hd
   have c:=cb_st (row_keep hB H.c)
   refine wpOp_step rfl fun K hK=>?_
   go_simp
   exact hK _ _ ⟨_,rfl,Below.refl _ _,rfl,fun h=>absurd h (by decide)⟩
  ·have b10:f.tmps[10]?=some (.pointer (some ⟨w.heap.size,0,none⟩)):=(hb 10 (by decide)).trans rfl
   clear hb hv hd
   have c:=vr_tc (row_keep hB H.k)
   refine wpOp_step rfl fun K hK=>?_
   go_simp
   exact hK _ _ ⟨_,rfl,Below.refl _ _,rfl,fun h=>absurd h (by decide)⟩
  ·have b8:f.tmps[8]?=some (.int .i64 Y):=(hb 8 (by decide)).trans rfl
   clear hb hv hd
   refine wpOp_step rfl fun K hK=>?_
   go_simp
   exact hK _ _ ⟨_,rfl,Below.refl _ _,rfl,fun h=>absurd h (by decide)⟩
  ·have d4:=got (hv 4 81 rfl) (hd 4 (by kernel_rfl))
   have d5:=got (hv 5 82 rfl) (hd 5 (by kernel_rfl))
   have d6:=got (hv 6 83 rfl) (hd 6 (by kernel_rfl))
   clear hb hv hd
   refine wpOp_call rfl Tryz.call77 (args3 (eval_tmp d4) (eval_tmp d5) (eval_tmp d6)) (cS _) ?_
   rintro e5 w5 ⟨rfl,hb5⟩
   exact ⟨_,rfl,_,rfl,hb5,rfl,fun h=>absurd h (by decide)⟩
  ·have d7:=got (hv 7 84 rfl) (hd 7 (by kernel_rfl))
   clear hb hv hd
   refine wpOp_step rfl fun K hK=>?_
   go_simp
   exact hK _ _ ⟨_,rfl,Below.refl _ _,rfl,fun h=>absurd h (by decide)⟩
  ·have d8:=got (hv 8 76 rfl) (hd 8 (by kernel_rfl))
   clear hb hv hd
   refine wpOp_step rfl fun K hK=>?_
   go_simp
   exact hK _ _ ⟨_,rfl,Below.refl _ _,rfl,fun h=>absurd h (by decide)⟩
  ·have d8:=got (hv 8 76 rfl) (hd 8 (by kernel_rfl))
   clear hb hv hd
   refine wpOp_step rfl fun K hK=>?_
   go_simp
   exact hK _ _ ⟨_,rfl,Below.refl _ _,rfl,fun h=>absurd h (by decide)⟩
  ·have b11:f.tmps[11]?=some (.pointer (some ⟨(w.heap.size+1),0,none⟩)):=(hb 11 (by decide)).trans rfl
   clear hb hv hd
   refine wpOp_step rfl fun K hK=>?_
   go_simp
   exact hK _ _ ⟨_,rfl,Below.refl _ _,rfl,fun h=>absurd h (by decide)⟩
 ·intro v w' hB hF hD
  have F0:v 0=_:=hF 0 (by simp)
  have F1:v 1=_:=hF 1 (by simp)
  have F2:v 2=_:=hF 2 (by simp)
  have F3:v 3=_:=hF 3 (by simp)
  have F4:v 4=_:=hF 4 (by simp)
  have F5:v 5=_:=hF 5 (by simp)
  have F6:v 6=_:=hF 6 (by simp)
  have F7:v 7=_:=hF 7 (by simp)
  have F8:v 8=_:=hF 8 (by simp)
  have F9:v 9=_:=hF 9 (by simp)
  have F10:v 10=_:=hF 10 (by simp)
  have F11:v 11=_:=hF 11 (by simp)
  clear hF
  simp only [frOf,frGo,Nat.zero_add,Nat.reduceAdd,F0,F1,F2,F3,F4,F5,F6,F7,F8,F9,F10,F11]
  have H9:=tq_keep hB H
  have st:=gv_st H9.g
  have z0:=frozen_of_row w' (w.heap.size+1) 0 _ _ H9.g
  have z1:=frozen_of_row w' (w.heap.size+1) 1 _ _ H9.g
  have z2:=frozen_of_row w' (w.heap.size+1) 2 _ _ H9.g
  have sN:=tq_a (z':=z) lb ub H9
  clear F0 F1 F2 F3 F4 F5 F6 F7 F8 F9 F10 F11 hD hB H9 H
  go_wp2
 ·intro v w' hB hF hD
  have F0:v 0=_:=hF 0 (by simp) (by decide)
  have F1:v 1=_:=hF 1 (by simp) (by decide)
  have F2:v 2=_:=hF 2 (by simp) (by decide)
  have F3:v 3=_:=hF 3 (by simp) (by decide)
  have F4:v 4=_:=hF 4 (by simp) (by decide)
  have F5:v 5=_:=hF 5 (by simp) (by decide)
  have F6:v 6=_:=hF 6 (by simp) (by decide)
  have F7:v 7=_:=hF 7 (by simp) (by decide)
  have F8:v 8=_:=hF 8 (by simp) (by decide)
  have F9:v 9=_:=hF 9 (by simp) (by decide)
  have F11:v 11=_:=hF 11 (by simp) (by decide)
  clear hF
  simp only [frOf,frGo,Nat.zero_add,Nat.reduceAdd,F0,F1,F2,F3,F4,F5,F6,F7,F8,F9,F11]
  have H9:=tq_keep hB H
  have st:=gv_st H9.g
  have z0:=frozen_of_row w' (w.heap.size+1) 0 _ _ H9.g
  have z1:=frozen_of_row w' (w.heap.size+1) 1 _ _ H9.g
  have z2:=frozen_of_row w' (w.heap.size+1) 2 _ _ H9.g
  have sN:=tq_a (z':=z) lb ub H9
  clear F0 F1 F2 F3 F4 F5 F6 F7 F8 F9 F11 hD hB H9 H
  refine wpOp_step rfl (fun K hK=>?_)
  go_simp
  refine hK _ _ ?_
  clear hK K
  refine wpOp_step rfl (fun K hK=>?_)
  go_simp
  refine hK _ _ ?_
  clear hK K
  go_wp2
 intro w' hst
 simp only [frOf,frGo,Nat.zero_add,Nat.reduceAdd]
 clear H
 have H:=hst
 clear hst
 by_cases c4:e3=0
 rotate_left
 ·have q4:(e3 != 0)=true:=by simpa using c4
  go_wp2
  go_step3
  exact ⟨rfl,rfl,rfl,rfl,H.c,H.b,H4.out c4⟩
 have q4:(e3 != 0)=false:=by simpa using c4
 replace hY:=Lib.hid (hY.out c4)
 clear c4 H4
 go_wp2
 refine region_late_k [91,92,93,94,95,96,97,98,90,99,100,101] 10 (fun i_=>match i_ with | 0=>.pointer (some ⟨b,0,none⟩) | 1=>.pointer (some ⟨b,0,none⟩) | 2=>.pointer (some ⟨b,36,none⟩) | 3=>.pointer (some ⟨b,39,none⟩) | 4=>sv u | 5=>tv (k 0) (k 1) (k 2) | 6=>.int .i64 S | 7=>.tuple #[sv d,.int .i64 e4] | 8=>.tuple #[sv d,.int .i64 e4] | 9=>sv d | 10=>.int .i64 e4 | 11=>.pointer (some ⟨(w.heap.size+1),3,none⟩) | _=>undef) (fun f=>f.put (some 14) (.int .i64 e4)) (fun U_=>TQ w b fb gb hl x m s a u k z d U_) (fun i_ X_ U_=>match i_ with | 0=>X_=.pointer (some ⟨b,0,none⟩) | 1=>X_=.pointer (some ⟨b,0,none⟩) | 2=>X_=.pointer (some ⟨b,36,none⟩) | 3=>X_=.pointer (some ⟨b,39,none⟩) | 4=>X_=sv u | 5=>X_=tv (k 0) (k 1) (k 2) | 6=>X_=.int .i64 S | 7=>X_=.tuple #[sv d,.int .i64 e4] | 8=>X_=.tuple #[sv d,.int .i64 e4] | 9=>X_=sv d | 10=>X_=.int .i64 e4 | 11=>X_=.pointer (some ⟨(w.heap.size+1),3,none⟩) | _=>True) (fun i_=>false) (by kernel_rfl) (by kernel_rfl) (by kernel_rfl) (by kernel_rfl) ?_ (fun i x w hi ha h=>by cases ha) ?_ ?_ ?_ ?_
 ·refine swp (upS (upS (upS (upS (upS (upS (upS (upS (upS (upS (upS (upS up0 ?_) ?_) ?_) ?_) ?_) ?_) ?_) ?_) ?_) ?_) ?_) ?_)
  all_goals exact fun _ _ _ h _=>h
 ·refine upS (upS (upS (upS (upS (upS (upS (upS (upS (upS (upS (upS up0 ?_) ?_) ?_) ?_) ?_) ?_) ?_) ?_) ?_) ?_) ?_) ?_
  all_goals intro v f w' hb hv hB hd
  ·have b0:f.tmps[0]?=some (.pointer (some ⟨b,0,none⟩)):=(hb 0 (by decide)).trans rfl
   clear hb hv hd
   refine wpOp_step rfl fun K hK=>?_
   go_simp
   exact hK _ _ ⟨_,rfl,Below.refl _ _,rfl,fun h=>absurd h (by decide)⟩
  ·have d0:=got (hv 0 91 rfl) (hd 0 (by kernel_rfl))
   clear hb hv hd
   refine wpOp_step rfl fun K hK=>?_
   go_simp
   exact hK _ _ ⟨_,rfl,Below.refl _ _,rfl,fun h=>absurd h (by decide)⟩
  ·have d1:=got (hv 1 92 rfl) (hd 1 (by kernel_rfl))
   clear hb hv hd
   refine wpOp_step rfl fun K hK=>?_
   go_simp
   exact hK _ _ ⟨_,rfl,Below.refl _ _,rfl,fun h=>absurd h (by decide)⟩
  ·have d2:=got (hv 2 93 rfl) (hd 2 (by kernel_rfl))
   clear hb hv hd
   refine wpOp_step rfl fun K hK=>?_
   go_simp
   exact hK _ _ ⟨_,rfl,Below.refl _ _,rfl,fun h=>absurd h (by decide)⟩
  ·have d3:=got (hv 3 94 rfl) (hd 3 (by kernel_rfl))
   clear hb hv hd
   have c:=cb_db (row_keep hB H.c)
   refine wpOp_step rfl fun K hK=>?_
   go_simp
   exact hK _ _ ⟨_,rfl,Below.refl _ _,rfl,fun h=>absurd h (by decide)⟩
  ·have b10:f.tmps[10]?=some (.pointer (some ⟨w.heap.size,0,none⟩)):=(hb 10 (by decide)).trans rfl
   clear hb hv hd
   have c:=vr_tc (row_keep hB H.k)
   refine wpOp_step rfl fun K hK=>?_
   go_simp
   exact hK _ _ ⟨_,rfl,Below.refl _ _,rfl,fun h=>absurd h (by decide)⟩
  ·have b9:f.tmps[9]?=some (.int .i64 S):=(hb 9 (by decide)).trans rfl
   clear hb hv hd
   refine wpOp_step rfl fun K hK=>?_
   go_simp
   exact hK _ _ ⟨_,rfl,Below.refl _ _,rfl,fun h=>absurd h (by decide)⟩
  ·have d4:=got (hv 4 95 rfl) (hd 4 (by kernel_rfl))
   have d5:=got (hv 5 96 rfl) (hd 5 (by kernel_rfl))
   have d6:=got (hv 6 97 rfl) (hd 6 (by kernel_rfl))
   clear hb hv hd
   refine wpOp_call rfl Tryz.call78 (args3 (eval_tmp d4) (eval_tmp d5) (eval_tmp d6)) (cD _ (pl_keep hB H.t.1)) ?_
   rintro e5 w5 ⟨rfl,hb5⟩
   exact ⟨_,rfl,_,rfl,hb5,rfl,fun h=>absurd h (by decide)⟩
  ·have d7:=got (hv 7 98 rfl) (hd 7 (by kernel_rfl))
   clear hb hv hd
   refine wpOp_step rfl fun K hK=>?_
   go_simp
   exact hK _ _ ⟨_,rfl,Below.refl _ _,rfl,fun h=>absurd h (by decide)⟩
  ·have d8:=got (hv 8 90 rfl) (hd 8 (by kernel_rfl))
   clear hb hv hd
   refine wpOp_step rfl fun K hK=>?_
   go_simp
   exact hK _ _ ⟨_,rfl,Below.refl _ _,rfl,fun h=>absurd h (by decide)⟩
  ·have d8:=got (hv 8 90 rfl) (hd 8 (by kernel_rfl))
   clear hb hv hd
   refine wpOp_step rfl fun K hK=>?_
   go_simp
   exact hK _ _ ⟨_,rfl,Below.refl _ _,rfl,fun h=>absurd h (by decide)⟩
  ·have b11:f.tmps[11]?=some (.pointer (some ⟨(w.heap.size+1),0,none⟩)):=(hb 11 (by decide)).trans rfl
   clear hb hv hd
   refine wpOp_step rfl fun K hK=>?_
   go_simp
   exact hK _ _ ⟨_,rfl,Below.refl _ _,rfl,fun h=>absurd h (by decide)⟩
 ·intro v w' hB hF hD
  have F0:v 0=_:=hF 0 (by simp)
  have F1:v 1=_:=hF 1 (by simp)
  have F2:v 2=_:=hF 2 (by simp)
  have F3:v 3=_:=hF 3 (by simp)
  have F4:v 4=_:=hF 4 (by simp)
  have F5:v 5=_:=hF 5 (by simp)
  have F6:v 6=_:=hF 6 (by simp)
  have F7:v 7=_:=hF 7 (by simp)
  have F8:v 8=_:=hF 8 (by simp)
  have F9:v 9=_:=hF 9 (by simp)
  have F10:v 10=_:=hF 10 (by simp)
  have F11:v 11=_:=hF 11 (by simp)
  clear hF
  simp only [frOf,frGo,Nat.zero_add,Nat.reduceAdd,F0,F1,F2,F3,F4,F5,F6,F7,F8,F9,F10,F11]
  have H9:=tq_keep hB H
  have st:=gv_db H9.g
  have z0:=frozen_of_row w' (w.heap.size+1) 3 _ _ H9.g
  have z1:=frozen_of_row w' (w.heap.size+1) 4 _ _ H9.g
  have z2:=frozen_of_row w' (w.heap.size+1) 5 _ _ H9.g
  have z3:=frozen_of_row w' (w.heap.size+1) 6 _ _ H9.g
  have z4:=frozen_of_row w' (w.heap.size+1) 7 _ _ H9.g
  have z5:=frozen_of_row w' (w.heap.size+1) 8 _ _ H9.g
  have sN:=tq_u (d':=d) lb ub H9
  clear F0 F1 F2 F3 F4 F5 F6 F7 F8 F9 F10 F11 hD hB H9 H
  go_wp2
 ·intro v w' hB hF hD
  have F0:v 0=_:=hF 0 (by simp) (by decide)
  have F1:v 1=_:=hF 1 (by simp) (by decide)
  have F2:v 2=_:=hF 2 (by simp) (by decide)
  have F3:v 3=_:=hF 3 (by simp) (by decide)
  have F4:v 4=_:=hF 4 (by simp) (by decide)
  have F5:v 5=_:=hF 5 (by simp) (by decide)
  have F6:v 6=_:=hF 6 (by simp) (by decide)
  have F7:v 7=_:=hF 7 (by simp) (by decide)
  have F8:v 8=_:=hF 8 (by simp) (by decide)
  have F9:v 9=_:=hF 9 (by simp) (by decide)
  have F11:v 11=_:=hF 11 (by simp) (by decide)
  clear hF
  simp only [frOf,frGo,Nat.zero_add,Nat.reduceAdd,F0,F1,F2,F3,F4,F5,F6,F7,F8,F9,F11]
  have H9:=tq_keep hB H
  have st:=gv_db H9.g
  have z0:=frozen_of_row w' (w.heap.size+1) 3 _ _ H9.g
  have z1:=frozen_of_row w' (w.heap.size+1) 4 _ _ H9.g
  have z2:=frozen_of_row w' (w.heap.size+1) 5 _ _ H9.g
  have z3:=frozen_of_row w' (w.heap.size+1) 6 _ _ H9.g
  have z4:=frozen_of_row w' (w.heap.size+1) 7 _ _ H9.g
  have z5:=frozen_of_row w' (w.heap.size+1) 8 _ _ H9.g
  have sN:=tq_u (d':=d) lb ub H9
  clear F0 F1 F2 F3 F4 F5 F6 F7 F8 F9 F11 hD hB H9 H
  refine wpOp_step rfl (fun K hK=>?_)
  go_simp
  refine hK _ _ ?_
  clear hK K
  refine wpOp_step rfl (fun K hK=>?_)
  go_simp
  refine hK _ _ ?_
  clear hK K
  go_wp2
 intro w' hst
 simp only [frOf,frGo,Nat.zero_add,Nat.reduceAdd]
 clear H
 have H:=hst
 clear hst
 by_cases c5:e4=0
 rotate_left
 ·have q5:(e4 != 0)=true:=by simpa using c5
  go_wp2
  go_step3
  exact ⟨rfl,rfl,rfl,rfl,H.c,H.b,H5.out c5⟩
 have q5:(e4 != 0)=false:=by simpa using c5
 replace hY:=Lib.hid (hY.out c5)
 clear c5 H5
 go_wp2
 refine region_each [104,105,106,107,108,109,110,111,112,113,114,115,116,117,118,119] (fun i_ X_ U_=>match i_ with | 0=>X_=.pointer (some ⟨b,0,none⟩) | 1=>X_=.pointer (some ⟨(w.heap.size+1),0,none⟩) | 2=>X_=tv (z 0) (z 1) (z 2) | 3=>X_=.pointer (some ⟨b,0,none⟩) | 4=>X_=.pointer (some ⟨b,0,none⟩) | 5=>X_=.pointer (some ⟨b,0,none⟩) | 6=>X_=.pointer (some ⟨b,17,none⟩) | 7=>X_=tv (x 17) (x 18) (x 19) | 8=>X_=tv (kz 0) (kz 1) (kz 2) | 9=>X_=.pointer (some ⟨b,0,none⟩) | 10=>X_=.pointer (some ⟨(w.heap.size+1),3,none⟩) | 11=>X_=sv d | 12=>X_=sv y | 13=>X_=.agg #[.int .i64 (kz 0),.int .i64 (kz 1),.int .i64 (kz 2),.int .i64 (y 0),.int .i64 (y 1),.int .i64 (y 2),.int .i64 (y 3),.int .i64 (y 4),.int .i64 (y 5)] | 14=>X_=.pointer (some ⟨b,0,none⟩) | 15=>X_=.pointer (some ⟨b,36,none⟩) | _=>True) (fun i_=>false) (by kernel_rfl) (by kernel_rfl) (by kernel_rfl) (by kernel_rfl) (by kernel_rfl) ?_ (fun i x w hi ha h=>by cases ha) ?_ ?_
 ·refine swp (upS (upS (upS (upS (upS (upS (upS (upS (upS (upS (upS (upS (upS (upS (upS (upS up0 ?_) ?_) ?_) ?_) ?_) ?_) ?_) ?_) ?_) ?_) ?_) ?_) ?_) ?_) ?_) ?_)
  all_goals exact fun _ _ _ h _=>h
 ·refine upS (upS (upS (upS (upS (upS (upS (upS (upS (upS (upS (upS (upS (upS (upS (upS up0 ?_) ?_) ?_) ?_) ?_) ?_) ?_) ?_) ?_) ?_) ?_) ?_) ?_) ?_) ?_) ?_
  all_goals intro v f w' hb hv hB hd
  ·have b0:f.tmps[0]?=some (.pointer (some ⟨b,0,none⟩)):=(hb 0 (by decide)).trans rfl
   clear hb hv hd
   refine wpOp_step rfl fun K hK=>?_
   go_simp
   exact hK _ _ ⟨_,rfl,Below.refl _ _,rfl,fun h=>absurd h (by decide)⟩
  ·have b11:f.tmps[11]?=some (.pointer (some ⟨(w.heap.size+1),0,none⟩)):=(hb 11 (by decide)).trans rfl
   clear hb hv hd
   refine wpOp_step rfl fun K hK=>?_
   go_simp
   exact hK _ _ ⟨_,rfl,Below.refl _ _,rfl,fun h=>absurd h (by decide)⟩
  ·have d1:=got (hv 1 105 rfl) (hd 1 (by kernel_rfl))
   clear hb hv hd
   have c:=gv_st (row_keep hB H.g)
   refine wpOp_step rfl fun K hK=>?_
   go_simp
   exact hK _ _ ⟨_,rfl,Below.refl _ _,rfl,fun h=>absurd h (by decide)⟩
  ·have b0:f.tmps[0]?=some (.pointer (some ⟨b,0,none⟩)):=(hb 0 (by decide)).trans rfl
   clear hb hv hd
   refine wpOp_step rfl fun K hK=>?_
   go_simp
   exact hK _ _ ⟨_,rfl,Below.refl _ _,rfl,fun h=>absurd h (by decide)⟩
  ·have d3:=got (hv 3 107 rfl) (hd 3 (by kernel_rfl))
   clear hb hv hd
   refine wpOp_step rfl fun K hK=>?_
   go_simp
   exact hK _ _ ⟨_,rfl,Below.refl _ _,rfl,fun h=>absurd h (by decide)⟩
  ·have d4:=got (hv 4 108 rfl) (hd 4 (by kernel_rfl))
   clear hb hv hd
   refine wpOp_step rfl fun K hK=>?_
   go_simp
   exact hK _ _ ⟨_,rfl,Below.refl _ _,rfl,fun h=>absurd h (by decide)⟩
  ·have d5:=got (hv 5 109 rfl) (hd 5 (by kernel_rfl))
   clear hb hv hd
   refine wpOp_step rfl fun K hK=>?_
   go_simp
   exact hK _ _ ⟨_,rfl,Below.refl _ _,rfl,fun h=>absurd h (by decide)⟩
  ·have d6:=got (hv 6 110 rfl) (hd 6 (by kernel_rfl))
   clear hb hv hd
   have c:=cb_bo (row_keep hB H.c)
   refine wpOp_step rfl fun K hK=>?_
   go_simp
   exact hK _ _ ⟨_,rfl,Below.refl _ _,rfl,fun h=>absurd h (by decide)⟩
  ·have d2:=got (hv 2 106 rfl) (hd 2 (by kernel_rfl))
   have d7:=got (hv 7 111 rfl) (hd 7 (by kernel_rfl))
   clear hb hv hd
   refine wpOp_call rfl Tryz.call69 (args2 (eval_tmp d2) (eval_tmp d7)) (cK _) ?_
   rintro e5 w5 ⟨rfl,hb5⟩
   exact ⟨_,rfl,_,rfl,hb5,rfl,fun h=>absurd h (by decide)⟩
  ·have b0:f.tmps[0]?=some (.pointer (some ⟨b,0,none⟩)):=(hb 0 (by decide)).trans rfl
   clear hb hv hd
   refine wpOp_step rfl fun K hK=>?_
   go_simp
   exact hK _ _ ⟨_,rfl,Below.refl _ _,rfl,fun h=>absurd h (by decide)⟩
  ·have b11:f.tmps[11]?=some (.pointer (some ⟨(w.heap.size+1),0,none⟩)):=(hb 11 (by decide)).trans rfl
   clear hb hv hd
   refine wpOp_step rfl fun K hK=>?_
   go_simp
   exact hK _ _ ⟨_,rfl,Below.refl _ _,rfl,fun h=>absurd h (by decide)⟩
  ·have d10:=got (hv 10 114 rfl) (hd 10 (by kernel_rfl))
   clear hb hv hd
   have c:=gv_db (row_keep hB H.g)
   refine wpOp_step rfl fun K hK=>?_
   go_simp
   exact hK _ _ ⟨_,rfl,Below.refl _ _,rfl,fun h=>absurd h (by decide)⟩
  ·have d9:=got (hv 9 113 rfl) (hd 9 (by kernel_rfl))
   have d11:=got (hv 11 115 rfl) (hd 11 (by kernel_rfl))
   clear hb hv hd
   refine wpOp_call rfl Tryz.call72 (args2 (eval_tmp d9) (eval_tmp d11)) (cT _ (row_keep hB H.c) (pl_keep hB H.t.1)) ?_
   rintro e5 w5 ⟨rfl,hb5⟩
   exact ⟨_,rfl,_,rfl,hb5,rfl,fun h=>absurd h (by decide)⟩
  ·have d8:=got (hv 8 112 rfl) (hd 8 (by kernel_rfl))
   have d12:=got (hv 12 116 rfl) (hd 12 (by kernel_rfl))
   clear hb hv hd
   refine wpOp_step rfl fun K hK=>?_
   go_simp
   exact hK _ _ ⟨_,rfl,Below.refl _ _,rfl,fun h=>absurd h (by decide)⟩
  ·have d0:=got (hv 0 104 rfl) (hd 0 (by kernel_rfl))
   clear hb hv hd
   refine wpOp_step rfl fun K hK=>?_
   go_simp
   exact hK _ _ ⟨_,rfl,Below.refl _ _,rfl,fun h=>absurd h (by decide)⟩
  ·have d14:=got (hv 14 118 rfl) (hd 14 (by kernel_rfl))
   clear hb hv hd
   refine wpOp_step rfl fun K hK=>?_
   go_simp
   exact hK _ _ ⟨_,rfl,Below.refl _ _,rfl,fun h=>absurd h (by decide)⟩
 ·intro v w' hB hF hD
  have F0:v 0=_:=hF 0 (by simp)
  have F1:v 1=_:=hF 1 (by simp)
  have F2:v 2=_:=hF 2 (by simp)
  have F3:v 3=_:=hF 3 (by simp)
  have F4:v 4=_:=hF 4 (by simp)
  have F5:v 5=_:=hF 5 (by simp)
  have F6:v 6=_:=hF 6 (by simp)
  have F7:v 7=_:=hF 7 (by simp)
  have F8:v 8=_:=hF 8 (by simp)
  have F9:v 9=_:=hF 9 (by simp)
  have F10:v 10=_:=hF 10 (by simp)
  have F11:v 11=_:=hF 11 (by simp)
  have F12:v 12=_:=hF 12 (by simp)
  have F13:v 13=_:=hF 13 (by simp)
  have F14:v 14=_:=hF 14 (by simp)
  have F15:v 15=_:=hF 15 (by simp)
  clear hF
  simp only [frOf,frGo,Nat.zero_add,Nat.reduceAdd,F0,F1,F2,F3,F4,F5,F6,F7,F8,F9,F10,F11,F12,F13,F14,F15]
  replace H:=tq_keep hB H
  have h:=H.c
  have B:=H.b
  have st:=cb_st h
  have db:=cb_db h
  have z36:=cb_fz h 36
  have z37:=cb_fz h 37
  have z38:=cb_fz h 38
  have z39:=cb_fz h 39
  have z40:=cb_fz h 40
  have z41:=cb_fz h 41
  have z42:=cb_fz h 42
  have z43:=cb_fz h 43
  have z44:=cb_fz h 44
  clear F0 F1 F2 F3 F4 F5 F6 F7 F8 F9 F10 F11 F12 F13 F14 F15 hD hB H cK cT
  go_wp2
  obtain ⟨rfl,rfl,rfl⟩:=hY.out
  rw [jump_ret]
  exact bodyPost_ret (v:=.tuple #[.int .i64 1,.bool G]) (by simp [results,Tryz.results26,go_sem]) rfl ⟨rfl,cb_putg h,but_trans B but_putg⟩
end Go.Proofs.YthnofhjgfhapiaaGreatDoor

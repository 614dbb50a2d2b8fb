import Derived.Test.YthnofhjgfhapiaaGreatDoorWam
import Derived.Test.YthnofhjgfhapiaaGreatDoorWai
import Derived.Test.YthnofhjgfhapiaaGreatDoorWae
import Derived.Test.YthnofhjgfhapiaaGreatDoorWad
import Derived.Test.YthnofhjgfhapiaaGreatDoorWaa
import Derived.Test.YthnofhjgfhapiaaGreatDoorWab
import Derived.Test.YthnofhjgfhapiaaGreatDoorWag
set_option maxHeartbeats 8000000
set_option maxRecDepth 10000
namespace Go.Proofs.YthnofhjgfhapiaaGreatDoor
open Go.RowKit Go.Shelf Go.Joins
abbrev tdv (m:Int) (vd ac rf hd gr:Bool) (al sp bi:Int):Value:=.agg #[.int .i64 m,.bool vd,.bool ac,.bool rf,.bool hd,.bool gr,.int .i64 al,.int .i64 sp,.int .i64 bi]
theorem row9 {w:World} {b:Nat} {t:TypeId} {c0 c1 c2 c3 c4 c5 c6 c7 c8:Value} (h:w.heap[b]?=some (.cells #[c0,c1,c2,c3,c4,c5,c6,c7,c8] t (0,0))) :
  w.cell? ⟨b,0,none⟩=some c0∧w.cell? ⟨b,1,none⟩=some c1∧w.cell? ⟨b,2,none⟩=some c2∧w.cell? ⟨b,3,none⟩=some c3∧w.cell? ⟨b,4,none⟩=some c4∧w.cell? ⟨b,5,none⟩=some c5∧w.cell? ⟨b,6,none⟩=some c6∧w.cell? ⟨b,7,none⟩=some c7∧w.cell? ⟨b,8,none⟩=some c8:=⟨(cell_of_row _ _ 0 _ _ _ h).trans rfl,(cell_of_row _ _ 1 _ _ _ h).trans rfl,(cell_of_row _ _ 2 _ _ _ h).trans rfl,(cell_of_row _ _ 3 _ _ _ h).trans rfl,(cell_of_row _ _ 4 _ _ _ h).trans rfl,(cell_of_row _ _ 5 _ _ _ h).trans rfl,(cell_of_row _ _ 6 _ _ _ h).trans rfl,(cell_of_row _ _ 7 _ _ _ h).trans rfl,(cell_of_row _ _ 8 _ _ _ h).trans rfl⟩
theorem fz9 {w:World} {b:Nat} {t:TypeId} {c0 c1 c2 c3 c4 c5 c6 c7 c8:Value} (h:w.heap[b]?=some (.cells #[c0,c1,c2,c3,c4,c5,c6,c7,c8] t (0,0))) :
  w.frozen? ⟨b,0,none⟩=false∧w.frozen? ⟨b,1,none⟩=false∧w.frozen? ⟨b,2,none⟩=false∧w.frozen? ⟨b,3,none⟩=false∧w.frozen? ⟨b,4,none⟩=false∧w.frozen? ⟨b,5,none⟩=false∧w.frozen? ⟨b,6,none⟩=false∧w.frozen? ⟨b,7,none⟩=false∧w.frozen? ⟨b,8,none⟩=false:=⟨frozen_of_row _ _ 0 _ _ h,frozen_of_row _ _ 1 _ _ h,frozen_of_row _ _ 2 _ _ h,frozen_of_row _ _ 3 _ _ h,frozen_of_row _ _ 4 _ _ h,frozen_of_row _ _ 5 _ _ h,frozen_of_row _ _ 6 _ _ h,frozen_of_row _ _ 7 _ _ h,frozen_of_row _ _ 8 _ _ h⟩
theorem b_sets9 {w y:World} {g:Nat} {c0 c1 c2 c3 c4 c5 c6 c7 c8:Value} (B:Below w.heap.size w y) (h:w.heap.size≤g):Below w.heap.size w (((((((((y.setCell ⟨g,0,none⟩ c0).setCell ⟨g,1,none⟩ c1).setCell ⟨g,2,none⟩ c2).setCell ⟨g,3,none⟩ c3).setCell ⟨g,4,none⟩ c4).setCell ⟨g,5,none⟩ c5).setCell ⟨g,6,none⟩ c6).setCell ⟨g,7,none⟩ c7).setCell ⟨g,8,none⟩ c8) :=
 b_set (b_set (b_set (b_set (b_set (b_set (b_set (b_set (b_set B h) h) h) h) h) h) h) h) h
theorem tell_go (b fb gb:Nat) (hl:Value) (x:Nat→Int) (m s:Int) (a u:Nat→Int) (ia:∀ i,i<3→I64 (a i)) (m0 o0 o1 o2:Int) (vd ac rf ho gr:Bool) (hT:vld m=true→o0=evn (a 0) 16777216∧o1=evn (a 1) 16777216∧o2=evn (a 2) 16777216) (hN:vld m=false→o0=0∧o1=0∧o2=0) (w:World) (h:CB w b fb gb hl x m s a u) :
  Calls Tryz.prog 28 #[.pointer (some ⟨b,0,none⟩),tdv m0 vd ac rf ho gr 0 0 0] w (RetV (tdv m (vld m) ac rf ho gr o0 o1 o2) w):=by
 have b2:Below w.heap.size w ((w.alloc (Obj.cells #[.int .i64 m,.bool vd,.bool ac,.bool rf,.bool ho,.bool gr,.int .i64 0,.int .i64 0,.int .i64 0] 39)).alloc (Obj.cells #[.int .i64 0,.bool false,.bool false,.bool false,.bool false,.bool false,.int .i64 0,.int .i64 0,.int .i64 0] 39)):=b_alloc (b_alloc (Below.refl _ _))
 have kT:((w.alloc (Obj.cells #[.int .i64 m,.bool vd,.bool ac,.bool rf,.bool ho,.bool gr,.int .i64 0,.int .i64 0,.int .i64 0] 39)).alloc (Obj.cells #[.int .i64 0,.bool false,.bool false,.bool false,.bool false,.bool false,.int .i64 0,.int .i64 0,.int .i64 0] 39)).heap[w.heap.size]?=some (.cells #[.int .i64 m,.bool vd,.bool ac,.bool rf,.bool ho,.bool gr,.int .i64 0,.int .i64 0,.int .i64 0] 39 (0,0)):=lay_old _ _ _
 have kR:((w.alloc (Obj.cells #[.int .i64 m,.bool vd,.bool ac,.bool rf,.bool ho,.bool gr,.int .i64 0,.int .i64 0,.int .i64 0] 39)).alloc (Obj.cells #[.int .i64 0,.bool false,.bool false,.bool false,.bool false,.bool false,.int .i64 0,.int .i64 0,.int .i64 0] 39)).heap[w.heap.size+1]?=some (.cells #[.int .i64 0,.bool false,.bool false,.bool false,.bool false,.bool false,.int .i64 0,.int .i64 0,.int .i64 0] 39 (0,0)):=lay_new _ _ _
 have K0:=Lib.hid (And.intro kT (And.intro kR (And.intro (row_keep b2 h) b2)))
 have lb:=cb_lt h
 have nb:b≠w.heap.size:=Nat.ne_of_lt lb
 have nr:w.heap.size+1≠w.heap.size:=Nat.ne_of_gt (Nat.lt_succ_self _)
 have ck:=cb_ck (row_keep (b_alloc (o:=(Obj.cells #[.int .i64 0,.bool false,.bool false,.bool false,.bool false,.bool false,.int .i64 0,.int .i64 0,.int .i64 0] 39)) (b_alloc (o:=(Obj.cells #[.int .i64 m0,.bool vd,.bool ac,.bool rf,.bool ho,.bool gr,.int .i64 0,.int .i64 0,.int .i64 0] 39)) (Below.refl _ _))) h)
 have ck':=cb_ck (row_keep b2 h)
 clear h b2 kT kR
 go_enter Tryz.func28,Tryz.ntmps28
 go_wp2_with fail
 generalize ((w.alloc (Obj.cells #[.int .i64 m,.bool vd,.bool ac,.bool rf,.bool ho,.bool gr,.int .i64 0,.int .i64 0,.int .i64 0] 39)).alloc (Obj.cells #[.int .i64 0,.bool false,.bool false,.bool false,.bool false,.bool false,.int .i64 0,.int .i64 0,.int .i64 0] 39))=y0 at *
 obtain ⟨kT,kR,h,B⟩:=K0.out
 clear K0
 clear ck ck'
 refine (valid_any m s _).mono ?_
 rintro e_ y1 ⟨rfl,hb1⟩
 replace kT:=row_keep hb1 kT
 replace kR:=row_keep hb1 kR
 replace h:=row_keep hb1 h
 replace B:=b_trans B hb1
 clear hb1
 have K1:=Lib.hid (show (y1.setCell ⟨w.heap.size,1,none⟩ (.bool (vld m))).heap[w.heap.size]?=some (.cells #[.int .i64 m,.bool (vld m),.bool ac,.bool rf,.bool ho,.bool gr,.int .i64 0,.int .i64 0,.int .i64 0] 39 (0,0))∧(y1.setCell ⟨w.heap.size,1,none⟩ (.bool (vld m))).heap[w.heap.size+1]?=some (.cells #[.int .i64 0,.bool false,.bool false,.bool false,.bool false,.bool false,.int .i64 0,.int .i64 0,.int .i64 0] 39 (0,0))∧CB (y1.setCell ⟨w.heap.size,1,none⟩ (.bool (vld m))) b fb gb hl x m s a u∧Below w.heap.size w (y1.setCell ⟨w.heap.size,1,none⟩ (.bool (vld m))) from ⟨(heap_setCell_same _ _ 1 _ _ _ kT).trans rfl,(heap_setCell_other _ ⟨w.heap.size,1,none⟩ _ _ nr).trans kR,(heap_setCell_other _ ⟨w.heap.size,1,none⟩ _ _ nb).trans h,b_set B (Nat.le_refl _)⟩)
 have g1:y1.cell? ⟨w.heap.size,1,none⟩=some (.bool vd):=(cell_of_row _ _ 1 _ _ _ kT).trans rfl
 have z1:=frozen_of_row _ w.heap.size 1 _ _ kT
 have st:=cb_st h
 have st':=cb_st (show CB (y1.setCell ⟨w.heap.size,1,none⟩ (.bool (vld m))) b fb gb hl x m s a u from K1.out.2.2.1)
 by_cases c:vld m=true
 rotate_left
 ·replace c:vld m=false:=by simpa using c
  have OH:=Lib.hid (hN c)
  clear hN hT
  rw [c] at K1 st'
  rw [c]
  go_wp2_with (with_reducible refine stop_at (some 43) rfl ?_)
  generalize (y1.setCell ⟨w.heap.size,1,none⟩ (.bool false))=y2 at *
  obtain ⟨kT,kR,h,B⟩:=K1.out
  clear K1 st st' g1 z1
  refine unstop ?_
  have g9:=row9 kT
  have r9:=row9 kR
  have f9:=fz9 kR
  clear kT kR h
  go_wp2
  obtain ⟨q0,q1,q2,q3,q4,q5,q6,q7,q8⟩:=r9
  have OO:=OH.out
  exact bodyPost_ret (v:=tdv (m) (false) (ac) (rf) (ho) (gr) (0) (0) (0)) (by simp [results,Tryz.results28,go_sem,q0,q1,q2,q3,q4,q5,q6,q7,q8]) rfl ⟨by rw [OO.1,OO.2.1,OO.2.2,c],b_sets9 B (Nat.le_succ _)⟩
 have OH:=Lib.hid (hT c)
 clear hN hT
 rw [c] at K1 st'
 rw [c]
 go_wp2_with fail
 generalize (y1.setCell ⟨w.heap.size,1,none⟩ (.bool true))=y2 at *
 obtain ⟨kT,kR,h,B⟩:=K1.out
 clear K1 st st' g1 z1
 refine (out_fix (a 0) (ia 0 (by decide)).1 (ia 0 (by decide)).2 _).mono ?_
 rintro e_ y3 ⟨rfl,hb1⟩
 replace kT:=row_keep hb1 kT
 replace kR:=row_keep hb1 kR
 replace h:=row_keep hb1 h
 replace B:=b_trans B hb1
 clear hb1
 have K2:=Lib.hid (show (y3.setCell ⟨w.heap.size,6,none⟩ (.int .i64 (evn (a 0) 16777216))).heap[w.heap.size]?=some (.cells #[.int .i64 m,.bool true,.bool ac,.bool rf,.bool ho,.bool gr,.int .i64 (evn (a 0) 16777216),.int .i64 0,.int .i64 0] 39 (0,0))∧(y3.setCell ⟨w.heap.size,6,none⟩ (.int .i64 (evn (a 0) 16777216))).heap[w.heap.size+1]?=some (.cells #[.int .i64 0,.bool false,.bool false,.bool false,.bool false,.bool false,.int .i64 0,.int .i64 0,.int .i64 0] 39 (0,0))∧CB (y3.setCell ⟨w.heap.size,6,none⟩ (.int .i64 (evn (a 0) 16777216))) b fb gb hl x m s a u∧Below w.heap.size w (y3.setCell ⟨w.heap.size,6,none⟩ (.int .i64 (evn (a 0) 16777216))) from ⟨(heap_setCell_same _ _ 6 _ _ _ kT).trans rfl,(heap_setCell_other _ ⟨w.heap.size,6,none⟩ _ _ nr).trans kR,(heap_setCell_other _ ⟨w.heap.size,6,none⟩ _ _ nb).trans h,b_set B (Nat.le_refl _)⟩)
 have g6:y3.cell? ⟨w.heap.size,6,none⟩=some (.int .i64 0):=(cell_of_row _ _ 6 _ _ _ kT).trans rfl
 have z6:=frozen_of_row _ w.heap.size 6 _ _ kT
 have st':=cb_st (show CB (y3.setCell ⟨w.heap.size,6,none⟩ (.int .i64 (evn (a 0) 16777216))) b fb gb hl x m s a u from K2.out.2.2.1)
 go_wp2_with fail
 generalize (y3.setCell ⟨w.heap.size,6,none⟩ (.int .i64 (evn (a 0) 16777216)))=y4 at *
 obtain ⟨kT,kR,h,B⟩:=K2.out
 clear K2 st' g6 z6
 refine (out_fix (a 1) (ia 1 (by decide)).1 (ia 1 (by decide)).2 _).mono ?_
 rintro e_ y5 ⟨rfl,hb1⟩
 replace kT:=row_keep hb1 kT
 replace kR:=row_keep hb1 kR
 replace h:=row_keep hb1 h
 replace B:=b_trans B hb1
 clear hb1
 have K3:=Lib.hid (show (y5.setCell ⟨w.heap.size,7,none⟩ (.int .i64 (evn (a 1) 16777216))).heap[w.heap.size]?=some (.cells #[.int .i64 m,.bool true,.bool ac,.bool rf,.bool ho,.bool gr,.int .i64 (evn (a 0) 16777216),.int .i64 (evn (a 1) 16777216),.int .i64 0] 39 (0,0))∧(y5.setCell ⟨w.heap.size,7,none⟩ (.int .i64 (evn (a 1) 16777216))).heap[w.heap.size+1]?=some (.cells #[.int .i64 0,.bool false,.bool false,.bool false,.bool false,.bool false,.int .i64 0,.int .i64 0,.int .i64 0] 39 (0,0))∧CB (y5.setCell ⟨w.heap.size,7,none⟩ (.int .i64 (evn (a 1) 16777216))) b fb gb hl x m s a u∧Below w.heap.size w (y5.setCell ⟨w.heap.size,7,none⟩ (.int .i64 (evn (a 1) 16777216))) from ⟨(heap_setCell_same _ _ 7 _ _ _ kT).trans rfl,(heap_setCell_other _ ⟨w.heap.size,7,none⟩ _ _ nr).trans kR,(heap_setCell_other _ ⟨w.heap.size,7,none⟩ _ _ nb).trans h,b_set B (Nat.le_refl _)⟩)
 have g7:y5.cell? ⟨w.heap.size,7,none⟩=some (.int .i64 0):=(cell_of_row _ _ 7 _ _ _ kT).trans rfl
 have z7:=frozen_of_row _ w.heap.size 7 _ _ kT
 have st':=cb_st (show CB (y5.setCell ⟨w.heap.size,7,none⟩ (.int .i64 (evn (a 1) 16777216))) b fb gb hl x m s a u from K3.out.2.2.1)
 go_wp2_with fail
 generalize (y5.setCell ⟨w.heap.size,7,none⟩ (.int .i64 (evn (a 1) 16777216)))=y6 at *
 obtain ⟨kT,kR,h,B⟩:=K3.out
 clear K3 st' g7 z7
 refine (out_fix (a 2) (ia 2 (by decide)).1 (ia 2 (by decide)).2 _).mono ?_
 rintro e_ y7 ⟨rfl,hb1⟩
 replace kT:=row_keep hb1 kT
 replace kR:=row_keep hb1 kR
 replace h:=row_keep hb1 h
 replace B:=b_trans B hb1
 clear hb1
 have K4:=Lib.hid (show (y7.setCell ⟨w.heap.size,8,none⟩ (.int .i64 (evn (a 2) 16777216))).heap[w.heap.size]?=some (.cells #[.int .i64 m,.bool true,.bool ac,.bool rf,.bool ho,.bool gr,.int .i64 (evn (a 0) 16777216),.int .i64 (evn (a 1) 16777216),.int .i64 (evn (a 2) 16777216)] 39 (0,0))∧(y7.setCell ⟨w.heap.size,8,none⟩ (.int .i64 (evn (a 2) 16777216))).heap[w.heap.size+1]?=some (.cells #[.int .i64 0,.bool false,.bool false,.bool false,.bool false,.bool false,.int .i64 0,.int .i64 0,.int .i64 0] 39 (0,0))∧CB (y7.setCell ⟨w.heap.size,8,none⟩ (.int .i64 (evn (a 2) 16777216))) b fb gb hl x m s a u∧Below w.heap.size w (y7.setCell ⟨w.heap.size,8,none⟩ (.int .i64 (evn (a 2) 16777216))) from ⟨(heap_setCell_same _ _ 8 _ _ _ kT).trans rfl,(heap_setCell_other _ ⟨w.heap.size,8,none⟩ _ _ nr).trans kR,(heap_setCell_other _ ⟨w.heap.size,8,none⟩ _ _ nb).trans h,b_set B (Nat.le_refl _)⟩)
 have g8:y7.cell? ⟨w.heap.size,8,none⟩=some (.int .i64 0):=(cell_of_row _ _ 8 _ _ _ kT).trans rfl
 have z8:=frozen_of_row _ w.heap.size 8 _ _ kT
 go_wp2_with (with_reducible refine stop_at (some 43) rfl ?_)
 generalize (y7.setCell ⟨w.heap.size,8,none⟩ (.int .i64 (evn (a 2) 16777216)))=y8 at *
 obtain ⟨kT,kR,h,B⟩:=K4.out
 clear K4 g8 z8
 refine unstop ?_
 have g9:=row9 kT
 have r9:=row9 kR
 have f9:=fz9 kR
 clear kT kR h
 go_wp2
 obtain ⟨q0,q1,q2,q3,q4,q5,q6,q7,q8⟩:=r9
 have OO:=OH.out
 exact bodyPost_ret (v:=tdv (m) (true) (ac) (rf) (ho) (gr) ((evn (a 0) 16777216)) ((evn (a 1) 16777216)) ((evn (a 2) 16777216))) (by simp [results,Tryz.results28,go_sem,q0,q1,q2,q3,q4,q5,q6,q7,q8]) rfl ⟨by rw [OO.1,OO.2.1,OO.2.2,c],b_sets9 B (Nat.le_succ _)⟩
theorem turn_go (b fb gb:Nat) (hl:Value) (x:Nat→Int) (m s:Int) (a u:Nat→Int) (e m1 s1:Int) (h1:Value) (hY:(e=0∨e=3∨(sks m1=true∧sks m=false))→h1=.slice none 0 0) (hX:¬ (e=0∨e=3∨(sks m1=true∧sks m=false))→h1=hl)
  (cO:∀ w,Calls Tryz.prog 79 #[ckv (m,s),.int .i64 e,.int .i64 (x 28),.int .i64 (x 29)] w (RetV (ckv (m1,s1)) w)) (w:World) (h:CB w b fb gb hl x m s a u) :
  Calls Tryz.prog 27 #[.pointer (some ⟨b,0,none⟩),.int .i64 e] w fun e_ w'=>e_=.returned (.tuple #[])∧CB w' b fb gb h1 x m1 s1 a u∧But b w w':=by
 have B:=but_refl b w
 have ck:=cb_ck h
 go_enter Tryz.func27,Tryz.ntmps27
 go_wp2_with fail
 refine (seeks_any m s _).mono ?_
 rintro e_ y1 ⟨rfl,hb1⟩
 replace h:=row_keep hb1 h
 replace B:=but_trans B (but_below hb1)
 clear hb1 ck
 go_wp2
 refine region_each [10,11,12,13,14,15,16,17,18,19,20,21,22,23,24,25,26,27,28] (fun i_ X_ U_=>match i_ with | 0=>X_=.pointer (some ⟨b,0,none⟩) | 1=>X_=.pointer (some ⟨b,0,none⟩) | 2=>X_=.pointer (some ⟨b,0,none⟩) | 3=>X_=.pointer (some ⟨b,34,none⟩) | 4=>X_=ckv (m,s) | 5=>X_=.int .i64 e | 6=>X_=.pointer (some ⟨b,0,none⟩) | 7=>X_=.pointer (some ⟨b,0,none⟩) | 8=>X_=.pointer (some ⟨b,0,none⟩) | 9=>X_=.pointer (some ⟨b,28,none⟩) | 10=>X_=.int .i64 (x 28) | 11=>X_=.pointer (some ⟨b,0,none⟩) | 12=>X_=.pointer (some ⟨b,0,none⟩) | 13=>X_=.pointer (some ⟨b,0,none⟩) | 14=>X_=.pointer (some ⟨b,29,none⟩) | 15=>X_=.int .i64 (x 29) | 16=>X_=.agg #[.int .i64 m1,.int .i64 s1] | 17=>X_=.pointer (some ⟨b,0,none⟩) | 18=>X_=.pointer (some ⟨b,34,none⟩) | _=>True) (fun i_=>false) (by kernel_rfl) (by kernel_rfl) (by kernel_rfl) (by kernel_rfl) (by kernel_rfl) ?_ (fun i x w hi ha h=>by cases ha) ?_ ?_
 ·refine swp (upS (upS (upS (upS (upS (upS (upS (upS (upS (upS (upS (upS (upS (upS (upS (upS (upS (upS (upS up0 ?_) ?_) ?_) ?_) ?_) ?_) ?_) ?_) ?_) ?_) ?_) ?_) ?_) ?_) ?_) ?_) ?_) ?_) ?_)
  all_goals exact fun _ _ _ h _=>h
 ·refine upS (upS (upS (upS (upS (upS (upS (upS (upS (upS (upS (upS (upS (upS (upS (upS (upS (upS (upS up0 ?_) ?_) ?_) ?_) ?_) ?_) ?_) ?_) ?_) ?_) ?_) ?_) ?_) ?_) ?_) ?_) ?_) ?_) ?_
  all_goals intro v f w' hb hv hB hd
  ·have b0:f.tmps[0]?=some (.pointer (some ⟨b,0,none⟩)):=(hb 0 (by decide)).trans rfl
   clear hb hv hd
   refine wpOp_step rfl fun K hK=>?_
   go_simp
   exact hK _ _ ⟨_,rfl,Below.refl _ _,rfl,fun h=>absurd h (by decide)⟩
  ·have b0:f.tmps[0]?=some (.pointer (some ⟨b,0,none⟩)):=(hb 0 (by decide)).trans rfl
   clear hb hv hd
   refine wpOp_step rfl fun K hK=>?_
   go_simp
   exact hK _ _ ⟨_,rfl,Below.refl _ _,rfl,fun h=>absurd h (by decide)⟩
  ·have d1:=got (hv 1 11 rfl) (hd 1 (by kernel_rfl))
   clear hb hv hd
   refine wpOp_step rfl fun K hK=>?_
   go_simp
   exact hK _ _ ⟨_,rfl,Below.refl _ _,rfl,fun h=>absurd h (by decide)⟩
  ·have d2:=got (hv 2 12 rfl) (hd 2 (by kernel_rfl))
   clear hb hv hd
   refine wpOp_step rfl fun K hK=>?_
   go_simp
   exact hK _ _ ⟨_,rfl,Below.refl _ _,rfl,fun h=>absurd h (by decide)⟩
  ·have d3:=got (hv 3 13 rfl) (hd 3 (by kernel_rfl))
   clear hb hv hd
   have c:=cb_ck (row_keep hB h)
   refine wpOp_step rfl fun K hK=>?_
   go_simp
   exact hK _ _ ⟨_,rfl,Below.refl _ _,rfl,fun h=>absurd h (by decide)⟩
  ·have b1:f.tmps[1]?=some (.int .i64 e):=(hb 1 (by decide)).trans rfl
   clear hb hv hd
   refine wpOp_step rfl fun K hK=>?_
   go_simp
   exact hK _ _ ⟨_,rfl,Below.refl _ _,rfl,fun h=>absurd h (by decide)⟩
  ·have b0:f.tmps[0]?=some (.pointer (some ⟨b,0,none⟩)):=(hb 0 (by decide)).trans rfl
   clear hb hv hd
   refine wpOp_step rfl fun K hK=>?_
   go_simp
   exact hK _ _ ⟨_,rfl,Below.refl _ _,rfl,fun h=>absurd h (by decide)⟩
  ·have d6:=got (hv 6 16 rfl) (hd 6 (by kernel_rfl))
   clear hb hv hd
   refine wpOp_step rfl fun K hK=>?_
   go_simp
   exact hK _ _ ⟨_,rfl,Below.refl _ _,rfl,fun h=>absurd h (by decide)⟩
  ·have d7:=got (hv 7 17 rfl) (hd 7 (by kernel_rfl))
   clear hb hv hd
   refine wpOp_step rfl fun K hK=>?_
   go_simp
   exact hK _ _ ⟨_,rfl,Below.refl _ _,rfl,fun h=>absurd h (by decide)⟩
  ·have d8:=got (hv 8 18 rfl) (hd 8 (by kernel_rfl))
   clear hb hv hd
   refine wpOp_step rfl fun K hK=>?_
   go_simp
   exact hK _ _ ⟨_,rfl,Below.refl _ _,rfl,fun h=>absurd h (by decide)⟩
  ·have d9:=got (hv 9 19 rfl) (hd 9 (by kernel_rfl))
   clear hb hv hd
   have c:=cb_co (row_keep hB h)
   refine wpOp_step rfl fun K hK=>?_
   go_simp
   exact hK _ _ ⟨_,rfl,Below.refl _ _,rfl,fun h=>absurd h (by decide)⟩
  ·have b0:f.tmps[0]?=some (.pointer (some ⟨b,0,none⟩)):=(hb 0 (by decide)).trans rfl
   clear hb hv hd
   refine wpOp_step rfl fun K hK=>?_
   go_simp
   exact hK _ _ ⟨_,rfl,Below.refl _ _,rfl,fun h=>absurd h (by decide)⟩
  ·have d11:=got (hv 11 21 rfl) (hd 11 (by kernel_rfl))
   clear hb hv hd
   refine wpOp_step rfl fun K hK=>?_
   go_simp
   exact hK _ _ ⟨_,rfl,Below.refl _ _,rfl,fun h=>absurd h (by decide)⟩
  ·have d12:=got (hv 12 22 rfl) (hd 12 (by kernel_rfl))
   clear hb hv hd
   refine wpOp_step rfl fun K hK=>?_
   go_simp
   exact hK _ _ ⟨_,rfl,Below.refl _ _,rfl,fun h=>absurd h (by decide)⟩
  ·have d13:=got (hv 13 23 rfl) (hd 13 (by kernel_rfl))
   clear hb hv hd
   refine wpOp_step rfl fun K hK=>?_
   go_simp
   exact hK _ _ ⟨_,rfl,Below.refl _ _,rfl,fun h=>absurd h (by decide)⟩
  ·have d14:=got (hv 14 24 rfl) (hd 14 (by kernel_rfl))
   clear hb hv hd
   have c:=cb_ou (row_keep hB h)
   refine wpOp_step rfl fun K hK=>?_
   go_simp
   exact hK _ _ ⟨_,rfl,Below.refl _ _,rfl,fun h=>absurd h (by decide)⟩
  ·have d4:=got (hv 4 14 rfl) (hd 4 (by kernel_rfl))
   have d5:=got (hv 5 15 rfl) (hd 5 (by kernel_rfl))
   have d10:=got (hv 10 20 rfl) (hd 10 (by kernel_rfl))
   have d15:=got (hv 15 25 rfl) (hd 15 (by kernel_rfl))
   clear hb hv hd
   refine wpOp_call rfl Tryz.call79 (args4 (eval_tmp d4) (eval_tmp d5) (eval_tmp d10) (eval_tmp d15)) (cO _) ?_
   rintro e5 w5 ⟨rfl,hb5⟩
   exact ⟨_,rfl,_,rfl,hb5,rfl,fun h=>absurd h (by decide)⟩
  ·have d0:=got (hv 0 10 rfl) (hd 0 (by kernel_rfl))
   clear hb hv hd
   refine wpOp_step rfl fun K hK=>?_
   go_simp
   exact hK _ _ ⟨_,rfl,Below.refl _ _,rfl,fun h=>absurd h (by decide)⟩
  ·have d17:=got (hv 17 27 rfl) (hd 17 (by kernel_rfl))
   clear hb hv hd
   refine wpOp_step rfl fun K hK=>?_
   go_simp
   exact hK _ _ ⟨_,rfl,Below.refl _ _,rfl,fun h=>absurd h (by decide)⟩
 ·intro v w' hB hF hD
  have F0:v 0=_:=hF 0 (by simp)
  have F1:v 1=_:=hF 1 (by simp)
  have F2:v 2=_:=hF 2 (by simp)
  have F3:v 3=_:=hF 3 (by simp)
  have F4:v 4=_:=hF 4 (by simp)
  have F5:v 5=_:=hF 5 (by simp)
  have F6:v 6=_:=hF 6 (by simp)
  have F7:v 7=_:=hF 7 (by simp)
  have F8:v 8=_:=hF 8 (by simp)
  have F9:v 9=_:=hF 9 (by simp)
  have F10:v 10=_:=hF 10 (by simp)
  have F11:v 11=_:=hF 11 (by simp)
  have F12:v 12=_:=hF 12 (by simp)
  have F13:v 13=_:=hF 13 (by simp)
  have F14:v 14=_:=hF 14 (by simp)
  have F15:v 15=_:=hF 15 (by simp)
  have F16:v 16=_:=hF 16 (by simp)
  have F17:v 17=_:=hF 17 (by simp)
  have F18:v 18=_:=hF 18 (by simp)
  clear hF
  simp only [frOf,frGo,Nat.zero_add,Nat.reduceAdd,F0,F1,F2,F3,F4,F5,F6,F7,F8,F9,F10,F11,F12,F13,F14,F15,F16,F17,F18]
  replace h:=row_keep hB h
  replace B:=but_trans B (but_below hB)
  have ck:=cb_ck h
  have z34:=cb_fz h 34
  have z35:=cb_fz h 35
  have KK:=Lib.hid (And.intro (cb_putc (m':=m1) (s':=s1) h) (but_trans B (but_trans (b:=b) but_set but_set)):CB ((w'.setCell ⟨b,34,none⟩ (.int .i64 m1)).setCell ⟨b,35,none⟩ (.int .i64 s1)) b fb gb hl x m1 s1 a u∧But b w ((w'.setCell ⟨b,34,none⟩ (.int .i64 m1)).setCell ⟨b,35,none⟩ (.int .i64 s1)))
  have ck1:=cb_ck KK.out.1
  clear F0 F1 F2 F3 F4 F5 F6 F7 F8 F9 F10 F11 F12 F13 F14 F15 F16 F17 F18 hD hB h B cO
  by_cases c0:e=0
  ·have q0:(e == 0)=true:=by simpa using c0
   have hN:=Lib.hid (hY (Or.inl c0))
   clear hY hX c0
   have he:=cb_he KK.out.1
   have zh:=cb_fz KK.out.1 32
   go_wp2
   go_end0
   obtain ⟨h,B⟩:=KK.out
   exact ⟨rfl,by rw [hN.out]; exact cb_puth h,but_trans B but_set⟩
  have q0:(e == 0)=false:=by simpa using c0
  by_cases c3:e=3
  ·have q3:(e == 3)=true:=by simpa using c3
   have hN:=Lib.hid (hY (Or.inr (Or.inl c3)))
   clear hY hX c0 c3
   have he:=cb_he KK.out.1
   have zh:=cb_fz KK.out.1 32
   go_wp2
   go_end0
   obtain ⟨h,B⟩:=KK.out
   exact ⟨rfl,by rw [hN.out]; exact cb_puth h,but_trans B but_set⟩
  have q3:(e == 3)=false:=by simpa using c3
  have H1:=Lib.hid (fun k=>hY (Or.inr (Or.inr k)))
  have H2:=Lib.hid (fun k=>hX (fun j=>j.elim c0 (fun j=>j.elim c3 k)))
  clear hY hX c0 c3
  go_wp2_with fail
  generalize ((w'.setCell ⟨b,34,none⟩ (.int .i64 m1)).setCell ⟨b,35,none⟩ (.int .i64 s1))=y5 at *
  obtain ⟨h,B⟩:=KK.out
  clear KK ck z34 z35 ck1
  refine (seeks_any m1 s1 _).mono ?_
  rintro e_ y6 ⟨rfl,hb1⟩
  replace h:=row_keep hb1 h
  replace B:=but_trans B (but_below hb1)
  clear hb1
  by_cases k1:sks m1=true
  rotate_left
  ·have hN:=Lib.hid (H2.out (fun j=>k1 j.1))
   clear H1 H2
   replace k1:sks m1=false:=by simpa using k1
   rw [k1]
   clear k1
   replace hN:=hN.out
   go_wp2
   go_end0
   exact ⟨rfl,by rw [hN]; exact h,B⟩
  by_cases k2:sks m=true
  ·have hN:=Lib.hid (H2.out (fun j=>absurd (k2.symm.trans j.2) (by decide)))
   clear H1 H2
   rw [k1]
   clear k1
   replace hN:=hN.out
   go_wp2
   go_end0
   exact ⟨rfl,by rw [hN]; exact h,B⟩
  replace k2:sks m=false:=by simpa using k2
  have hN:=Lib.hid (H1.out ⟨k1,k2⟩)
  clear H1 H2
  rw [k1]
  clear k1
  replace hN:=hN.out
  have he:=cb_he h
  have zh:=cb_fz h 32
  go_wp2
  go_end0
  exact ⟨rfl,by rw [hN]; exact cb_puth h,but_trans B but_set⟩
end Go.Proofs.YthnofhjgfhapiaaGreatDoor

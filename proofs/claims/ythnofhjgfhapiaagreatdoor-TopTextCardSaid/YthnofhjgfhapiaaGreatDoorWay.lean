import Derived.Test.YthnofhjgfhapiaaGreatDoorWax
import Derived.Test.YthnofhjgfhapiaaGreatDoorWat
import Derived.Test.YthnofhjgfhapiaaGreatDoorWac
import Derived.Test.YthnofhjgfhapiaaGreatDoorWae
import Derived.Test.YthnofhjgfhapiaaGreatDoorWaf
import Derived.Test.YthnofhjgfhapiaaGreatDoorWaa
import Derived.Test.YthnofhjgfhapiaaGreatDoorWag
import Derived.Test.YthnofhjgfhapiaaGreatDoorWab
set_option maxHeartbeats 4000000
set_option maxRecDepth 10000
namespace Go.Proofs.YthnofhjgfhapiaaGreatDoor
open Go.RowKit Go.Shelf
def goz (b:Bool) (m:Nat→Int) (s y0 y1 y2 y:Int) (i:Nat):Int:=if b then (if F3 y0 y1 y2 then y else 0) else bz m s i
def goe (b:Bool) (m:Nat→Int) (s y0 y1 y2:Int):Int:=if b then (if F3 y0 y1 y2 then 0 else 1) else be m s
theorem goz_yes (m:Nat→Int) (s:Int) {y0 y1 y2:Int} (h:F3 y0 y1 y2) (y:Int) (i:Nat):goz true m s y0 y1 y2 y i=y:=if_pos h
theorem oe_yes (m:Nat→Int) (s:Int) {y0 y1 y2:Int} (h:F3 y0 y1 y2):goe true m s y0 y1 y2=0:=if_pos h
theorem goz_no (m:Nat→Int) (s:Int) {y0 y1 y2:Int} (h:¬ F3 y0 y1 y2) (y:Int) (i:Nat):goz true m s y0 y1 y2 y i=0:=if_neg h
theorem oe_no (m:Nat→Int) (s:Int) {y0 y1 y2:Int} (h:¬ F3 y0 y1 y2):goe true m s y0 y1 y2=1:=if_neg h
theorem table_ok (m:Nat→Int) (s y0 y1 y2:Int)
  (cV:∀ w,Calls Tryz.prog 92 #[tv y0 y1 y2] w (RetV (.bool true) w)) (w:World) (hp:PL w) :
  Calls Tryz.prog 143 #[sv m,.int .i64 s,tv y0 y1 y2] w (RetV (.tuple #[tv y0 y1 y2,.int .i64 0]) w):=by
 have B:Below w.heap.size w (((w.alloc (Obj.cells #[.int .i64 (m 0),.int .i64 (m 1),.int .i64 (m 2),.int .i64 (m 3),.int .i64 (m 4),.int .i64 (m 5)] 42)).alloc (Obj.cells #[.int .i64 y0,.int .i64 y1,.int .i64 y2] 25)).alloc (Obj.cells #[.int .i64 0,.int .i64 0,.int .i64 0] 25)):=b_alloc (b_alloc (b_alloc (Below.refl _ _)))
 have P:=pl_keep B hp
 clear hp
 have S:SC6 (((w.alloc (Obj.cells #[.int .i64 (m 0),.int .i64 (m 1),.int .i64 (m 2),.int .i64 (m 3),.int .i64 (m 4),.int .i64 (m 5)] 42)).alloc (Obj.cells #[.int .i64 y0,.int .i64 y1,.int .i64 y2] 25)).alloc (Obj.cells #[.int .i64 0,.int .i64 0,.int .i64 0] 25)) w.heap.size m:=sc_six (sc_alloc (sc_alloc (sc_new rfl)))
 have Y:TC (((w.alloc (Obj.cells #[.int .i64 (m 0),.int .i64 (m 1),.int .i64 (m 2),.int .i64 (m 3),.int .i64 (m 4),.int .i64 (m 5)] 42)).alloc (Obj.cells #[.int .i64 y0,.int .i64 y1,.int .i64 y2] 25)).alloc (Obj.cells #[.int .i64 0,.int .i64 0,.int .i64 0] 25)) (w.heap.size+1) y0 y1 y2:=tc_alloc (tc_new (by simp))
 have R:TC (((w.alloc (Obj.cells #[.int .i64 (m 0),.int .i64 (m 1),.int .i64 (m 2),.int .i64 (m 3),.int .i64 (m 4),.int .i64 (m 5)] 42)).alloc (Obj.cells #[.int .i64 y0,.int .i64 y1,.int .i64 y2] 25)).alloc (Obj.cells #[.int .i64 0,.int .i64 0,.int .i64 0] 25)) (w.heap.size+1+1) 0 0 0:=tc_new (by simp)
 have RF:TF (((w.alloc (Obj.cells #[.int .i64 (m 0),.int .i64 (m 1),.int .i64 (m 2),.int .i64 (m 3),.int .i64 (m 4),.int .i64 (m 5)] 42)).alloc (Obj.cells #[.int .i64 y0,.int .i64 y1,.int .i64 y2] 25)).alloc (Obj.cells #[.int .i64 0,.int .i64 0,.int .i64 0] 25)) (w.heap.size+1+1):=tf_new (by simp)
 go_enter Tryz.func143,Tryz.ntmps143
 go_wp2_with fail
 refine (cV _).mono ?_
 rintro e w1 ⟨rfl,hb⟩
 replace RF:=tf_keep hb R RF
 replace R:=tc_keep hb R
 replace Y:=tc_keep hb Y
 replace S:=sc_six (sc_keep hb (six_sc S))
 replace P:=pl_keep hb P
 replace B:=b_trans B hb
 clear hb
 go_wp2
 obtain ⟨q0,q1,q2⟩:=R
 refine bodyPost_ret (v:=.tuple #[tv y0 y1 y2,.int .i64 0]) (by simp [results,Tryz.results143,go_sem,q0,q1,q2]) rfl ⟨rfl,?_⟩
 have g2:w.heap.size≤w.heap.size+1+1:=Nat.le_trans (Nat.le_succ _) (Nat.le_succ _)
 repeat (first | exact B | refine b_set ?_ g2)
theorem table_bad (m:Nat→Int) (s y0 y1 y2:Int)
  (cV:∀ w,Calls Tryz.prog 92 #[tv y0 y1 y2] w (RetV (.bool false) w)) (w:World) (hp:PL w) :
  Calls Tryz.prog 143 #[sv m,.int .i64 s,tv y0 y1 y2] w (RetV (.tuple #[tv 0 0 0,.int .i64 1]) w):=by
 have B:Below w.heap.size w (((w.alloc (Obj.cells #[.int .i64 (m 0),.int .i64 (m 1),.int .i64 (m 2),.int .i64 (m 3),.int .i64 (m 4),.int .i64 (m 5)] 42)).alloc (Obj.cells #[.int .i64 y0,.int .i64 y1,.int .i64 y2] 25)).alloc (Obj.cells #[.int .i64 0,.int .i64 0,.int .i64 0] 25)):=b_alloc (b_alloc (b_alloc (Below.refl _ _)))
 have P:=pl_keep B hp
 clear hp
 have S:SC6 (((w.alloc (Obj.cells #[.int .i64 (m 0),.int .i64 (m 1),.int .i64 (m 2),.int .i64 (m 3),.int .i64 (m 4),.int .i64 (m 5)] 42)).alloc (Obj.cells #[.int .i64 y0,.int .i64 y1,.int .i64 y2] 25)).alloc (Obj.cells #[.int .i64 0,.int .i64 0,.int .i64 0] 25)) w.heap.size m:=sc_six (sc_alloc (sc_alloc (sc_new rfl)))
 have Y:TC (((w.alloc (Obj.cells #[.int .i64 (m 0),.int .i64 (m 1),.int .i64 (m 2),.int .i64 (m 3),.int .i64 (m 4),.int .i64 (m 5)] 42)).alloc (Obj.cells #[.int .i64 y0,.int .i64 y1,.int .i64 y2] 25)).alloc (Obj.cells #[.int .i64 0,.int .i64 0,.int .i64 0] 25)) (w.heap.size+1) y0 y1 y2:=tc_alloc (tc_new (by simp))
 have R:TC (((w.alloc (Obj.cells #[.int .i64 (m 0),.int .i64 (m 1),.int .i64 (m 2),.int .i64 (m 3),.int .i64 (m 4),.int .i64 (m 5)] 42)).alloc (Obj.cells #[.int .i64 y0,.int .i64 y1,.int .i64 y2] 25)).alloc (Obj.cells #[.int .i64 0,.int .i64 0,.int .i64 0] 25)) (w.heap.size+1+1) 0 0 0:=tc_new (by simp)
 have RF:TF (((w.alloc (Obj.cells #[.int .i64 (m 0),.int .i64 (m 1),.int .i64 (m 2),.int .i64 (m 3),.int .i64 (m 4),.int .i64 (m 5)] 42)).alloc (Obj.cells #[.int .i64 y0,.int .i64 y1,.int .i64 y2] 25)).alloc (Obj.cells #[.int .i64 0,.int .i64 0,.int .i64 0] 25)) (w.heap.size+1+1):=tf_new (by simp)
 go_enter Tryz.func143,Tryz.ntmps143
 go_wp2_with fail
 refine (cV _).mono ?_
 rintro e w1 ⟨rfl,hb⟩
 replace RF:=tf_keep hb R RF
 replace R:=tc_keep hb R
 replace Y:=tc_keep hb Y
 replace S:=sc_six (sc_keep hb (six_sc S))
 replace P:=pl_keep hb P
 replace B:=b_trans B hb
 clear hb
 go_wp2
 obtain ⟨q0,q1,q2⟩:=R
 refine bodyPost_ret (v:=.tuple #[tv 0 0 0,.int .i64 1]) (by simp [results,Tryz.results143,go_sem,q0,q1,q2]) rfl ⟨rfl,?_⟩
 have g2:w.heap.size≤w.heap.size+1+1:=Nat.le_trans (Nat.le_succ _) (Nat.le_succ _)
 repeat (first | exact B | refine b_set ?_ g2)
theorem doubt_go (m:Nat→Int) (s y0 y1 y2 k0 k1 k2 g:Int)
  (cB:∀ w,PL w→Calls Tryz.prog 172 #[sv m,.int .i64 s] w (RetV (.tuple #[tv k0 k1 k2,.int .i64 g]) w)) (w:World) (hp:PL w) :
  Calls Tryz.prog 144 #[sv m,.int .i64 s,tv y0 y1 y2] w (RetV (.tuple #[tv k0 k1 k2,.int .i64 g]) w):=by
 have B:Below w.heap.size w (((w.alloc (Obj.cells #[.int .i64 (m 0),.int .i64 (m 1),.int .i64 (m 2),.int .i64 (m 3),.int .i64 (m 4),.int .i64 (m 5)] 42)).alloc (Obj.cells #[.int .i64 y0,.int .i64 y1,.int .i64 y2] 25)).alloc (Obj.cells #[.int .i64 0,.int .i64 0,.int .i64 0] 25)):=b_alloc (b_alloc (b_alloc (Below.refl _ _)))
 have P:=pl_keep B hp
 clear hp
 have S:SC6 (((w.alloc (Obj.cells #[.int .i64 (m 0),.int .i64 (m 1),.int .i64 (m 2),.int .i64 (m 3),.int .i64 (m 4),.int .i64 (m 5)] 42)).alloc (Obj.cells #[.int .i64 y0,.int .i64 y1,.int .i64 y2] 25)).alloc (Obj.cells #[.int .i64 0,.int .i64 0,.int .i64 0] 25)) w.heap.size m:=sc_six (sc_alloc (sc_alloc (sc_new rfl)))
 have Y:TC (((w.alloc (Obj.cells #[.int .i64 (m 0),.int .i64 (m 1),.int .i64 (m 2),.int .i64 (m 3),.int .i64 (m 4),.int .i64 (m 5)] 42)).alloc (Obj.cells #[.int .i64 y0,.int .i64 y1,.int .i64 y2] 25)).alloc (Obj.cells #[.int .i64 0,.int .i64 0,.int .i64 0] 25)) (w.heap.size+1) y0 y1 y2:=tc_alloc (tc_new (by simp))
 have R:TC (((w.alloc (Obj.cells #[.int .i64 (m 0),.int .i64 (m 1),.int .i64 (m 2),.int .i64 (m 3),.int .i64 (m 4),.int .i64 (m 5)] 42)).alloc (Obj.cells #[.int .i64 y0,.int .i64 y1,.int .i64 y2] 25)).alloc (Obj.cells #[.int .i64 0,.int .i64 0,.int .i64 0] 25)) (w.heap.size+1+1) 0 0 0:=tc_new (by simp)
 have RF:TF (((w.alloc (Obj.cells #[.int .i64 (m 0),.int .i64 (m 1),.int .i64 (m 2),.int .i64 (m 3),.int .i64 (m 4),.int .i64 (m 5)] 42)).alloc (Obj.cells #[.int .i64 y0,.int .i64 y1,.int .i64 y2] 25)).alloc (Obj.cells #[.int .i64 0,.int .i64 0,.int .i64 0] 25)) (w.heap.size+1+1):=tf_new (by simp)
 go_enter Tryz.func144,Tryz.ntmps144
 go_wp2_with fail
 refine (cB _ P).mono ?_
 rintro e w1 ⟨rfl,hb⟩
 replace RF:=tf_keep hb R RF
 replace R:=tc_keep hb R
 replace Y:=tc_keep hb Y
 replace S:=sc_six (sc_keep hb (six_sc S))
 replace P:=pl_keep hb P
 replace B:=b_trans B hb
 clear hb
 go_wp2
 obtain ⟨q0,q1,q2⟩:=R
 refine bodyPost_ret (v:=.tuple #[tv k0 k1 k2,.int .i64 g]) (by simp [results,Tryz.results144,go_sem,q0,q1,q2]) rfl ⟨rfl,?_⟩
 have g2:w.heap.size≤w.heap.size+1+1:=Nat.le_trans (Nat.le_succ _) (Nat.le_succ _)
 repeat (first | exact B | refine b_set ?_ g2)
theorem source_true (w:World) :
  Calls Tryz.prog 109 #[.bool true] w (RetV (.agg #[.func (.func 143) #[] #[]]) w):=by
 have hst:∀ (w:World) (a:Addr),(store a (.func (.func 143) #[] #[])).run Tryz.prog w=stored Tryz.prog w a (.func (.func 143) #[] #[]) .plain:=fun w a=>run_store _ w a _ _ rfl
 go_enter Tryz.func109,Tryz.ntmps109
 go_wp2
 exact bodyPost_ret (v:=.agg #[.func (.func 143) #[] #[]]) (by simp [results,Tryz.results109,go_sem]) rfl ⟨rfl,by first | exact b_alloc (Below.refl _ _) | exact b_set (b_alloc (Below.refl _ _)) (Nat.le_refl _)⟩
theorem source_false (w:World) :
  Calls Tryz.prog 109 #[.bool false] w (RetV (.agg #[.func (.func 144) #[] #[]]) w):=by
 have hst:∀ (w:World) (a:Addr),(store a (.func (.func 144) #[] #[])).run Tryz.prog w=stored Tryz.prog w a (.func (.func 144) #[] #[]) .plain:=fun w a=>run_store _ w a _ _ rfl
 go_enter Tryz.func109,Tryz.ntmps109
 go_wp2
 exact bodyPost_ret (v:=.agg #[.func (.func 144) #[] #[]]) (by simp [results,Tryz.results109,go_sem]) rfl ⟨rfl,by first | exact b_alloc (Below.refl _ _) | exact b_set (b_alloc (Below.refl _ _)) (Nat.le_refl _)⟩
theorem of_true (m:Nat→Int) (s y0 y1 y2 k0 k1 k2 g:Int)
  (cS:∀ w,Calls Tryz.prog 109 #[.bool true] w (RetV (.agg #[.func (.func 143) #[] #[]]) w))
  (cT:∀ w,PL w→Calls Tryz.prog 143 #[sv m,.int .i64 s,tv y0 y1 y2] w (RetV (.tuple #[tv k0 k1 k2,.int .i64 g]) w)) (w:World) (hp:PL w) :
  Calls Tryz.prog 76 #[sv m,.int .i64 s,.bool true,tv y0 y1 y2] w (RetV (.tuple #[tv k0 k1 k2,.int .i64 g]) w):=by
 have B:Below w.heap.size w (((w.alloc (Obj.cells #[.int .i64 (m 0),.int .i64 (m 1),.int .i64 (m 2),.int .i64 (m 3),.int .i64 (m 4),.int .i64 (m 5)] 42)).alloc (Obj.cells #[.int .i64 y0,.int .i64 y1,.int .i64 y2] 25)).alloc (Obj.cells #[.int .i64 0,.int .i64 0,.int .i64 0] 25)):=b_alloc (b_alloc (b_alloc (Below.refl _ _)))
 have P:=pl_keep B hp
 clear hp
 have S:SC6 (((w.alloc (Obj.cells #[.int .i64 (m 0),.int .i64 (m 1),.int .i64 (m 2),.int .i64 (m 3),.int .i64 (m 4),.int .i64 (m 5)] 42)).alloc (Obj.cells #[.int .i64 y0,.int .i64 y1,.int .i64 y2] 25)).alloc (Obj.cells #[.int .i64 0,.int .i64 0,.int .i64 0] 25)) w.heap.size m:=sc_six (sc_alloc (sc_alloc (sc_new rfl)))
 have Y:TC (((w.alloc (Obj.cells #[.int .i64 (m 0),.int .i64 (m 1),.int .i64 (m 2),.int .i64 (m 3),.int .i64 (m 4),.int .i64 (m 5)] 42)).alloc (Obj.cells #[.int .i64 y0,.int .i64 y1,.int .i64 y2] 25)).alloc (Obj.cells #[.int .i64 0,.int .i64 0,.int .i64 0] 25)) (w.heap.size+1) y0 y1 y2:=tc_alloc (tc_new (by simp))
 have R:TC (((w.alloc (Obj.cells #[.int .i64 (m 0),.int .i64 (m 1),.int .i64 (m 2),.int .i64 (m 3),.int .i64 (m 4),.int .i64 (m 5)] 42)).alloc (Obj.cells #[.int .i64 y0,.int .i64 y1,.int .i64 y2] 25)).alloc (Obj.cells #[.int .i64 0,.int .i64 0,.int .i64 0] 25)) (w.heap.size+1+1) 0 0 0:=tc_new (by simp)
 have RF:TF (((w.alloc (Obj.cells #[.int .i64 (m 0),.int .i64 (m 1),.int .i64 (m 2),.int .i64 (m 3),.int .i64 (m 4),.int .i64 (m 5)] 42)).alloc (Obj.cells #[.int .i64 y0,.int .i64 y1,.int .i64 y2] 25)).alloc (Obj.cells #[.int .i64 0,.int .i64 0,.int .i64 0] 25)) (w.heap.size+1+1):=tf_new (by simp)
 go_enter Tryz.func76,Tryz.ntmps76
 go_wp2
 refine region_late [10,11,12,13,14,15,16,17,18] 8 (fun i_ X_ U_=>match i_ with | 0=>X_=.bool true | 1=>X_=.agg #[.func (.func 143) #[] #[]] | 2=>X_=.func (.func 143) #[] #[] | 3=>X_=sv m | 4=>X_=.int .i64 s | 5=>X_=tv y0 y1 y2 | 6=>X_=.tuple #[tv k0 k1 k2,.int .i64 g] | 7=>X_=tv k0 k1 k2 | 8=>X_=.int .i64 g | _=>True) (fun i_=>false) (by kernel_rfl) (by kernel_rfl) (by kernel_rfl) (by kernel_rfl) ?_ (fun i x w hi ha h=>by cases ha) ?_ ?_ ?_
 ·refine swp (upS (upS (upS (upS (upS (upS (upS (upS (upS up0 ?_) ?_) ?_) ?_) ?_) ?_) ?_) ?_) ?_)
  all_goals exact fun _ _ _ h _=>h
 ·refine upS (upS (upS (upS (upS (upS (upS (upS (upS up0 ?_) ?_) ?_) ?_) ?_) ?_) ?_) ?_) ?_
  all_goals intro v f w' hb hv hB hd
  ·have b2:f.tmps[2]?=some (.bool true):=(hb 2 (by decide)).trans rfl
   clear hb hv hd
   refine wpOp_step rfl fun K hK=>?_
   go_simp
   exact hK _ _ ⟨_,rfl,Below.refl _ _,rfl,fun h=>absurd h (by decide)⟩
  ·have d0:=got (hv 0 10 rfl) (hd 0 (by kernel_rfl))
   clear hb hv hd
   refine wpOp_call rfl Tryz.call109 (args1 (eval_tmp d0)) (cS _) ?_
   rintro e5 w5_ ⟨rfl,hb5⟩
   exact ⟨_,rfl,_,rfl,hb5,rfl,fun h=>absurd h (by decide)⟩
  ·have d1:=got (hv 1 11 rfl) (hd 1 (by kernel_rfl))
   clear hb hv hd
   refine wpOp_step rfl fun K hK=>?_
   go_simp
   exact hK _ _ ⟨_,rfl,Below.refl _ _,rfl,fun h=>absurd h (by decide)⟩
  ·have b4:f.tmps[4]?=some (.pointer (some ⟨w.heap.size,0,none⟩)):=(hb 4 (by decide)).trans rfl
   clear hb hv hd
   have c:=sc_six (sc_keep hB (six_sc S))
   refine wpOp_step rfl fun K hK=>?_
   go_simp
   exact hK _ _ ⟨_,rfl,Below.refl _ _,rfl,fun h=>absurd h (by decide)⟩
  ·have b1:f.tmps[1]?=some (.int .i64 s):=(hb 1 (by decide)).trans rfl
   clear hb hv hd
   refine wpOp_step rfl fun K hK=>?_
   go_simp
   exact hK _ _ ⟨_,rfl,Below.refl _ _,rfl,fun h=>absurd h (by decide)⟩
  ·have b7:f.tmps[7]?=some (.pointer (some ⟨(w.heap.size+1),0,none⟩)):=(hb 7 (by decide)).trans rfl
   clear hb hv hd
   have c:=tc_keep hB Y
   refine wpOp_step rfl fun K hK=>?_
   go_simp
   exact hK _ _ ⟨_,rfl,Below.refl _ _,rfl,fun h=>absurd h (by decide)⟩
  ·have d2:=got (hv 2 12 rfl) (hd 2 (by kernel_rfl))
   have d3:=got (hv 3 13 rfl) (hd 3 (by kernel_rfl))
   have d4:=got (hv 4 14 rfl) (hd 4 (by kernel_rfl))
   have d5:=got (hv 5 15 rfl) (hd 5 (by kernel_rfl))
   clear hb hv hd
   refine wpOp_step rfl fun K hK=>?_
   go_simp
   refine (cT _ (pl_keep hB P)).mono ?_
   rintro e5 w5_ ⟨rfl,hb5⟩
   exact hK _ _ ⟨_,rfl,hb5,rfl,fun h=>absurd h (by decide)⟩
  ·have d6:=got (hv 6 16 rfl) (hd 6 (by kernel_rfl))
   clear hb hv hd
   refine wpOp_step rfl fun K hK=>?_
   go_simp
   exact hK _ _ ⟨_,rfl,Below.refl _ _,rfl,fun h=>absurd h (by decide)⟩
  ·have d6:=got (hv 6 16 rfl) (hd 6 (by kernel_rfl))
   clear hb hv hd
   refine wpOp_step rfl fun K hK=>?_
   go_simp
   exact hK _ _ ⟨_,rfl,Below.refl _ _,rfl,fun h=>absurd h (by decide)⟩
 ·intro v w' hB hF hD
  have F0:v 0=_:=hF 0 (by simp)
  have F1:v 1=_:=hF 1 (by simp)
  have F2:v 2=_:=hF 2 (by simp)
  have F3:v 3=_:=hF 3 (by simp)
  have F4:v 4=_:=hF 4 (by simp)
  have F5:v 5=_:=hF 5 (by simp)
  have F6:v 6=_:=hF 6 (by simp)
  have F7:v 7=_:=hF 7 (by simp)
  have F8:v 8=_:=hF 8 (by simp)
  clear hF
  simp only [frOf,frGo,Nat.zero_add,Nat.reduceAdd,F0,F1,F2,F3,F4,F5,F6,F7,F8]
  replace RF:=tf_keep hB R RF
  replace R:=tc_keep hB R
  replace B:=b_trans B hB
  clear F0 F1 F2 F3 F4 F5 F6 F7 F8 hD hB cS cT S Y P
  go_wp2
  obtain ⟨q0,q1,q2⟩:=R
  refine bodyPost_ret (v:=.tuple #[tv k0 k1 k2,.int .i64 g]) (by simp [results,Tryz.results76,go_sem,q0,q1,q2]) rfl ⟨rfl,?_⟩
  have g2:w.heap.size≤w.heap.size+1+1:=Nat.le_trans (Nat.le_succ _) (Nat.le_succ _)
  repeat (first | exact B | refine b_set ?_ g2)
 ·intro v w' hB hF hD
  have F0:v 0=_:=hF 0 (by simp) (by decide)
  have F1:v 1=_:=hF 1 (by simp) (by decide)
  have F2:v 2=_:=hF 2 (by simp) (by decide)
  have F3:v 3=_:=hF 3 (by simp) (by decide)
  have F4:v 4=_:=hF 4 (by simp) (by decide)
  have F5:v 5=_:=hF 5 (by simp) (by decide)
  have F6:v 6=_:=hF 6 (by simp) (by decide)
  have F7:v 7=_:=hF 7 (by simp) (by decide)
  clear hF
  simp only [frOf,frGo,Nat.zero_add,Nat.reduceAdd,F0,F1,F2,F3,F4,F5,F6,F7]
  replace RF:=tf_keep hB R RF
  replace R:=tc_keep hB R
  replace B:=b_trans B hB
  clear F0 F1 F2 F3 F4 F5 F6 F7 hD hB cS cT S Y P
  refine wpOp_step rfl (fun K hK=>?_)
  go_simp
  refine hK _ _ ?_
  clear hK K
  refine wpOp_step rfl (fun K hK=>?_)
  go_simp
  refine hK _ _ ?_
  clear hK K
  go_wp2
  obtain ⟨q0,q1,q2⟩:=R
  refine bodyPost_ret (v:=.tuple #[tv k0 k1 k2,.int .i64 g]) (by simp [results,Tryz.results76,go_sem,q0,q1,q2]) rfl ⟨rfl,?_⟩
  have g2:w.heap.size≤w.heap.size+1+1:=Nat.le_trans (Nat.le_succ _) (Nat.le_succ _)
  repeat (first | exact B | refine b_set ?_ g2)
theorem of_false (m:Nat→Int) (s y0 y1 y2 k0 k1 k2 g:Int)
  (cS:∀ w,Calls Tryz.prog 109 #[.bool false] w (RetV (.agg #[.func (.func 144) #[] #[]]) w))
  (cT:∀ w,PL w→Calls Tryz.prog 144 #[sv m,.int .i64 s,tv y0 y1 y2] w (RetV (.tuple #[tv k0 k1 k2,.int .i64 g]) w)) (w:World) (hp:PL w) :
  Calls Tryz.prog 76 #[sv m,.int .i64 s,.bool false,tv y0 y1 y2] w (RetV (.tuple #[tv k0 k1 k2,.int .i64 g]) w):=by
 have B:Below w.heap.size w (((w.alloc (Obj.cells #[.int .i64 (m 0),.int .i64 (m 1),.int .i64 (m 2),.int .i64 (m 3),.int .i64 (m 4),.int .i64 (m 5)] 42)).alloc (Obj.cells #[.int .i64 y0,.int .i64 y1,.int .i64 y2] 25)).alloc (Obj.cells #[.int .i64 0,.int .i64 0,.int .i64 0] 25)):=b_alloc (b_alloc (b_alloc (Below.refl _ _)))
 have P:=pl_keep B hp
 clear hp
 have S:SC6 (((w.alloc (Obj.cells #[.int .i64 (m 0),.int .i64 (m 1),.int .i64 (m 2),.int .i64 (m 3),.int .i64 (m 4),.int .i64 (m 5)] 42)).alloc (Obj.cells #[.int .i64 y0,.int .i64 y1,.int .i64 y2] 25)).alloc (Obj.cells #[.int .i64 0,.int .i64 0,.int .i64 0] 25)) w.heap.size m:=sc_six (sc_alloc (sc_alloc (sc_new rfl)))
 have Y:TC (((w.alloc (Obj.cells #[.int .i64 (m 0),.int .i64 (m 1),.int .i64 (m 2),.int .i64 (m 3),.int .i64 (m 4),.int .i64 (m 5)] 42)).alloc (Obj.cells #[.int .i64 y0,.int .i64 y1,.int .i64 y2] 25)).alloc (Obj.cells #[.int .i64 0,.int .i64 0,.int .i64 0] 25)) (w.heap.size+1) y0 y1 y2:=tc_alloc (tc_new (by simp))
 have R:TC (((w.alloc (Obj.cells #[.int .i64 (m 0),.int .i64 (m 1),.int .i64 (m 2),.int .i64 (m 3),.int .i64 (m 4),.int .i64 (m 5)] 42)).alloc (Obj.cells #[.int .i64 y0,.int .i64 y1,.int .i64 y2] 25)).alloc (Obj.cells #[.int .i64 0,.int .i64 0,.int .i64 0] 25)) (w.heap.size+1+1) 0 0 0:=tc_new (by simp)
 have RF:TF (((w.alloc (Obj.cells #[.int .i64 (m 0),.int .i64 (m 1),.int .i64 (m 2),.int .i64 (m 3),.int .i64 (m 4),.int .i64 (m 5)] 42)).alloc (Obj.cells #[.int .i64 y0,.int .i64 y1,.int .i64 y2] 25)).alloc (Obj.cells #[.int .i64 0,.int .i64 0,.int .i64 0] 25)) (w.heap.size+1+1):=tf_new (by simp)
 go_enter Tryz.func76,Tryz.ntmps76
 go_wp2
 refine region_late [10,11,12,13,14,15,16,17,18] 8 (fun i_ X_ U_=>match i_ with | 0=>X_=.bool false | 1=>X_=.agg #[.func (.func 144) #[] #[]] | 2=>X_=.func (.func 144) #[] #[] | 3=>X_=sv m | 4=>X_=.int .i64 s | 5=>X_=tv y0 y1 y2 | 6=>X_=.tuple #[tv k0 k1 k2,.int .i64 g] | 7=>X_=tv k0 k1 k2 | 8=>X_=.int .i64 g | _=>True) (fun i_=>false) (by kernel_rfl) (by kernel_rfl) (by kernel_rfl) (by kernel_rfl) ?_ (fun i x w hi ha h=>by cases ha) ?_ ?_ ?_
 ·refine swp (upS (upS (upS (upS (upS (upS (upS (upS (upS up0 ?_) ?_) ?_) ?_) ?_) ?_) ?_) ?_) ?_)
  all_goals exact fun _ _ _ h _=>h
 ·refine upS (upS (upS (upS (upS (upS (upS (upS (upS up0 ?_) ?_) ?_) ?_) ?_) ?_) ?_) ?_) ?_
  all_goals intro v f w' hb hv hB hd
  ·have b2:f.tmps[2]?=some (.bool false):=(hb 2 (by decide)).trans rfl
   clear hb hv hd
   refine wpOp_step rfl fun K hK=>?_
   go_simp
   exact hK _ _ ⟨_,rfl,Below.refl _ _,rfl,fun h=>absurd h (by decide)⟩
  ·have d0:=got (hv 0 10 rfl) (hd 0 (by kernel_rfl))
   clear hb hv hd
   refine wpOp_call rfl Tryz.call109 (args1 (eval_tmp d0)) (cS _) ?_
   rintro e5 w5_ ⟨rfl,hb5⟩
   exact ⟨_,rfl,_,rfl,hb5,rfl,fun h=>absurd h (by decide)⟩
  ·have d1:=got (hv 1 11 rfl) (hd 1 (by kernel_rfl))
   clear hb hv hd
   refine wpOp_step rfl fun K hK=>?_
   go_simp
   exact hK _ _ ⟨_,rfl,Below.refl _ _,rfl,fun h=>absurd h (by decide)⟩
  ·have b4:f.tmps[4]?=some (.pointer (some ⟨w.heap.size,0,none⟩)):=(hb 4 (by decide)).trans rfl
   clear hb hv hd
   have c:=sc_six (sc_keep hB (six_sc S))
   refine wpOp_step rfl fun K hK=>?_
   go_simp
   exact hK _ _ ⟨_,rfl,Below.refl _ _,rfl,fun h=>absurd h (by decide)⟩
  ·have b1:f.tmps[1]?=some (.int .i64 s):=(hb 1 (by decide)).trans rfl
   clear hb hv hd
   refine wpOp_step rfl fun K hK=>?_
   go_simp
   exact hK _ _ ⟨_,rfl,Below.refl _ _,rfl,fun h=>absurd h (by decide)⟩
  ·have b7:f.tmps[7]?=some (.pointer (some ⟨(w.heap.size+1),0,none⟩)):=(hb 7 (by decide)).trans rfl
   clear hb hv hd
   have c:=tc_keep hB Y
   refine wpOp_step rfl fun K hK=>?_
   go_simp
   exact hK _ _ ⟨_,rfl,Below.refl _ _,rfl,fun h=>absurd h (by decide)⟩
  ·have d2:=got (hv 2 12 rfl) (hd 2 (by kernel_rfl))
   have d3:=got (hv 3 13 rfl) (hd 3 (by kernel_rfl))
   have d4:=got (hv 4 14 rfl) (hd 4 (by kernel_rfl))
   have d5:=got (hv 5 15 rfl) (hd 5 (by kernel_rfl))
   clear hb hv hd
   refine wpOp_step rfl fun K hK=>?_
   go_simp
   refine (cT _ (pl_keep hB P)).mono ?_
   rintro e5 w5_ ⟨rfl,hb5⟩
   exact hK _ _ ⟨_,rfl,hb5,rfl,fun h=>absurd h (by decide)⟩
  ·have d6:=got (hv 6 16 rfl) (hd 6 (by kernel_rfl))
   clear hb hv hd
   refine wpOp_step rfl fun K hK=>?_
   go_simp
   exact hK _ _ ⟨_,rfl,Below.refl _ _,rfl,fun h=>absurd h (by decide)⟩
  ·have d6:=got (hv 6 16 rfl) (hd 6 (by kernel_rfl))
   clear hb hv hd
   refine wpOp_step rfl fun K hK=>?_
   go_simp
   exact hK _ _ ⟨_,rfl,Below.refl _ _,rfl,fun h=>absurd h (by decide)⟩
 ·intro v w' hB hF hD
  have F0:v 0=_:=hF 0 (by simp)
  have F1:v 1=_:=hF 1 (by simp)
  have F2:v 2=_:=hF 2 (by simp)
  have F3:v 3=_:=hF 3 (by simp)
  have F4:v 4=_:=hF 4 (by simp)
  have F5:v 5=_:=hF 5 (by simp)
  have F6:v 6=_:=hF 6 (by simp)
  have F7:v 7=_:=hF 7 (by simp)
  have F8:v 8=_:=hF 8 (by simp)
  clear hF
  simp only [frOf,frGo,Nat.zero_add,Nat.reduceAdd,F0,F1,F2,F3,F4,F5,F6,F7,F8]
  replace RF:=tf_keep hB R RF
  replace R:=tc_keep hB R
  replace B:=b_trans B hB
  clear F0 F1 F2 F3 F4 F5 F6 F7 F8 hD hB cS cT S Y P
  go_wp2
  obtain ⟨q0,q1,q2⟩:=R
  refine bodyPost_ret (v:=.tuple #[tv k0 k1 k2,.int .i64 g]) (by simp [results,Tryz.results76,go_sem,q0,q1,q2]) rfl ⟨rfl,?_⟩
  have g2:w.heap.size≤w.heap.size+1+1:=Nat.le_trans (Nat.le_succ _) (Nat.le_succ _)
  repeat (first | exact B | refine b_set ?_ g2)
 ·intro v w' hB hF hD
  have F0:v 0=_:=hF 0 (by simp) (by decide)
  have F1:v 1=_:=hF 1 (by simp) (by decide)
  have F2:v 2=_:=hF 2 (by simp) (by decide)
  have F3:v 3=_:=hF 3 (by simp) (by decide)
  have F4:v 4=_:=hF 4 (by simp) (by decide)
  have F5:v 5=_:=hF 5 (by simp) (by decide)
  have F6:v 6=_:=hF 6 (by simp) (by decide)
  have F7:v 7=_:=hF 7 (by simp) (by decide)
  clear hF
  simp only [frOf,frGo,Nat.zero_add,Nat.reduceAdd,F0,F1,F2,F3,F4,F5,F6,F7]
  replace RF:=tf_keep hB R RF
  replace R:=tc_keep hB R
  replace B:=b_trans B hB
  clear F0 F1 F2 F3 F4 F5 F6 F7 hD hB cS cT S Y P
  refine wpOp_step rfl (fun K hK=>?_)
  go_simp
  refine hK _ _ ?_
  clear hK K
  refine wpOp_step rfl (fun K hK=>?_)
  go_simp
  refine hK _ _ ?_
  clear hK K
  go_wp2
  obtain ⟨q0,q1,q2⟩:=R
  refine bodyPost_ret (v:=.tuple #[tv k0 k1 k2,.int .i64 g]) (by simp [results,Tryz.results76,go_sem,q0,q1,q2]) rfl ⟨rfl,?_⟩
  have g2:w.heap.size≤w.heap.size+1+1:=Nat.le_trans (Nat.le_succ _) (Nat.le_succ _)
  repeat (first | exact B | refine b_set ?_ g2)
theorem of_all (m:Nat→Int) (s:Int) (b:Bool) (y0 y1 y2:Int) (hm:I6 m) (hs:I64 s) (h0:I64 y0) (h1:I64 y1) (h2:I64 y2) (w:World) (hp:PL w) :
  Calls Tryz.prog 76 #[sv m,.int .i64 s,.bool b,tv y0 y1 y2] w (RetV (.tuple #[tv (goz b m s y0 y1 y2 y0 0) (goz b m s y0 y1 y2 y1 1) (goz b m s y0 y1 y2 y2 2),.int .i64 (goe b m s y0 y1 y2)]) w):=by
 cases b
 ·exact of_false m s y0 y1 y2 _ _ _ _ source_false (doubt_go m s y0 y1 y2 _ _ _ _ (best_any m s hm hs)) w hp
 ·refine of_true m s y0 y1 y2 _ _ _ _ source_true ?_ w hp
  have v:=fits3_vec y0 y1 y2 h0 h1 h2
  by_cases c:F3 y0 y1 y2
  ·rw [f3b_yes c] at v
   simp only [goz_yes m s c,oe_yes m s c]
   exact table_ok m s y0 y1 y2 v
  ·rw [f3b_no c] at v
   simp only [goz_no m s c,oe_no m s c]
   exact table_bad m s y0 y1 y2 v
end Go.Proofs.YthnofhjgfhapiaaGreatDoor

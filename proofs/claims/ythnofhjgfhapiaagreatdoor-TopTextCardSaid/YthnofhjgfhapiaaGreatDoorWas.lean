import Derived.Laws.Cover1
import Derived.ChangeKeysEq
import Derived.Orders
import Derived.RegionTactic
import Derived.Below
import Derived.Test.YthnofhjgfhapiaaGreatDoorWae
import Derived.Test.YthnofhjgfhapiaaGreatDoorWab
import Derived.Test.YthnofhjgfhapiaaGreatDoorWaa
import Derived.Deep.LoopGhost
import Derived.Test.YthnofhjgfhapiaaGreatDoorWad
import Derived.Test.YthnofhjgfhapiaaGreatDoorWac
set_option maxHeartbeats 2000000
set_option maxRecDepth 10000
namespace Go.Proofs.YthnofhjgfhapiaaGreatDoor
open Go.RowKit Go.Shelf
theorem clo_add_0 (A B:Nat) (r0 r1 r2 s0 s1 s2 x e:Int) (w:World) (kA:TC w A r0 r1 r2) (kB:TC w B s0 s1 s2)
  (cT:∀ w,Calls Tryz.prog 106 #[.int .i64 r0,.int .i64 s0] w (RetV (.tuple #[.int .i64 x,.int .i64 e]) w)) :
  Calls Tryz.prog 132 #[.int .i64 0,.pointer (some ⟨A,0,none⟩),.pointer (some ⟨B,0,none⟩)] w (RetV (.tuple #[.int .i64 x,.int .i64 e]) w):=by
 go_enter Tryz.func132,Tryz.ntmps132
 go_wp2
 refine region_each [6,7,8,9,10,11,12,13,14] (fun i X_ U_=>match i with | 0=>X_=.int .i64 0 | 1=>X_=.pointer (some ⟨A,0,none⟩) | 2=>X_=.int .i64 r0 | 3=>X_=.int .i64 0 | 4=>X_=.pointer (some ⟨B,0,none⟩) | 5=>X_=.int .i64 s0 | 6=>X_=.tuple #[.int .i64 x,.int .i64 e] | 7=>X_=.int .i64 x | 8=>X_=.int .i64 e | _=>True) (fun i=>false) (by kernel_rfl) (by kernel_rfl) (by kernel_rfl) (by kernel_rfl) (by kernel_rfl) ?_ (fun i x w hi ha h=>by cases ha) ?_ ?_
 ·refine swp (upS (upS (upS (upS (upS (upS (upS (upS (upS up0 ?_) ?_) ?_) ?_) ?_) ?_) ?_) ?_) ?_)
  all_goals exact fun _ _ _ h _=>h
 ·refine upS (upS (upS (upS (upS (upS (upS (upS (upS up0 ?_) ?_) ?_) ?_) ?_) ?_) ?_) ?_) ?_
  all_goals intro v f w' hb hv hB hd
  ·have b0:f.tmps[0]?=some (.int .i64 0):=(hb 0 (by decide)).trans rfl
   clear hb hv hd
   refine wpOp_step rfl fun K hK=>?_
   go_simp
   exact hK _ _ ⟨_,rfl,Below.refl _ _,rfl,fun h=>absurd h (by decide)⟩
  ·have b1:f.tmps[1]?=some (.pointer (some ⟨A,0,none⟩)):=(hb 1 (by decide)).trans rfl
   have d0:=got (hv 0 6 rfl) (hd 0 (by kernel_rfl))
   clear hb hv hd
   refine wpOp_step rfl fun K hK=>?_
   go_simp
   exact hK _ _ ⟨_,rfl,Below.refl _ _,rfl,fun h=>absurd h (by decide)⟩
  ·have d1:=got (hv 1 7 rfl) (hd 1 (by kernel_rfl))
   clear hb hv hd
   have c:=tc_keep hB kA
   refine wpOp_step rfl fun K hK=>?_
   go_simp
   exact hK _ _ ⟨_,rfl,Below.refl _ _,rfl,fun h=>absurd h (by decide)⟩
  ·have b0:f.tmps[0]?=some (.int .i64 0):=(hb 0 (by decide)).trans rfl
   clear hb hv hd
   refine wpOp_step rfl fun K hK=>?_
   go_simp
   exact hK _ _ ⟨_,rfl,Below.refl _ _,rfl,fun h=>absurd h (by decide)⟩
  ·have b2:f.tmps[2]?=some (.pointer (some ⟨B,0,none⟩)):=(hb 2 (by decide)).trans rfl
   have d3:=got (hv 3 9 rfl) (hd 3 (by kernel_rfl))
   clear hb hv hd
   refine wpOp_step rfl fun K hK=>?_
   go_simp
   exact hK _ _ ⟨_,rfl,Below.refl _ _,rfl,fun h=>absurd h (by decide)⟩
  ·have d4:=got (hv 4 10 rfl) (hd 4 (by kernel_rfl))
   clear hb hv hd
   have c:=tc_keep hB kB
   refine wpOp_step rfl fun K hK=>?_
   go_simp
   exact hK _ _ ⟨_,rfl,Below.refl _ _,rfl,fun h=>absurd h (by decide)⟩
  ·have d2:=got (hv 2 8 rfl) (hd 2 (by kernel_rfl))
   have d5:=got (hv 5 11 rfl) (hd 5 (by kernel_rfl))
   clear hb hv hd
   refine wpOp_call rfl Tryz.call106 (args2 (eval_tmp d2) (eval_tmp d5)) (cT _) ?_
   rintro e5 w5 ⟨rfl,hb5⟩
   exact ⟨_,rfl,_,rfl,hb5,rfl,fun h=>absurd h (by decide)⟩
  ·have d6:=got (hv 6 12 rfl) (hd 6 (by kernel_rfl))
   clear hb hv hd
   refine wpOp_step rfl fun K hK=>?_
   go_simp
   exact hK _ _ ⟨_,rfl,Below.refl _ _,rfl,fun h=>absurd h (by decide)⟩
  ·have d6:=got (hv 6 12 rfl) (hd 6 (by kernel_rfl))
   clear hb hv hd
   refine wpOp_step rfl fun K hK=>?_
   go_simp
   exact hK _ _ ⟨_,rfl,Below.refl _ _,rfl,fun h=>absurd h (by decide)⟩
 ·intro v w' hB hF hD
  have F0:v 0=_:=hF 0 (by simp)
  have F1:v 1=_:=hF 1 (by simp)
  have F2:v 2=_:=hF 2 (by simp)
  have F3:v 3=_:=hF 3 (by simp)
  have F4:v 4=_:=hF 4 (by simp)
  have F5:v 5=_:=hF 5 (by simp)
  have F6:v 6=_:=hF 6 (by simp)
  have F7:v 7=_:=hF 7 (by simp)
  have F8:v 8=_:=hF 8 (by simp)
  clear hF
  simp only [frOf,frGo,Nat.zero_add,Nat.reduceAdd,F0,F1,F2,F3,F4,F5,F6,F7,F8]
  clear F0 F1 F2 F3 F4 F5 F6 F7 F8 hD cT
  go_wp2
  go_ret2
  exact ⟨rfl,hB⟩
theorem clo_add_1 (A B:Nat) (r0 r1 r2 s0 s1 s2 x e:Int) (w:World) (kA:TC w A r0 r1 r2) (kB:TC w B s0 s1 s2)
  (cT:∀ w,Calls Tryz.prog 106 #[.int .i64 r1,.int .i64 s1] w (RetV (.tuple #[.int .i64 x,.int .i64 e]) w)) :
  Calls Tryz.prog 132 #[.int .i64 1,.pointer (some ⟨A,0,none⟩),.pointer (some ⟨B,0,none⟩)] w (RetV (.tuple #[.int .i64 x,.int .i64 e]) w):=by
 go_enter Tryz.func132,Tryz.ntmps132
 go_wp2
 refine region_each [6,7,8,9,10,11,12,13,14] (fun i X_ U_=>match i with | 0=>X_=.int .i64 1 | 1=>X_=.pointer (some ⟨A,1,none⟩) | 2=>X_=.int .i64 r1 | 3=>X_=.int .i64 1 | 4=>X_=.pointer (some ⟨B,1,none⟩) | 5=>X_=.int .i64 s1 | 6=>X_=.tuple #[.int .i64 x,.int .i64 e] | 7=>X_=.int .i64 x | 8=>X_=.int .i64 e | _=>True) (fun i=>false) (by kernel_rfl) (by kernel_rfl) (by kernel_rfl) (by kernel_rfl) (by kernel_rfl) ?_ (fun i x w hi ha h=>by cases ha) ?_ ?_
 ·refine swp (upS (upS (upS (upS (upS (upS (upS (upS (upS up0 ?_) ?_) ?_) ?_) ?_) ?_) ?_) ?_) ?_)
  all_goals exact fun _ _ _ h _=>h
 ·refine upS (upS (upS (upS (upS (upS (upS (upS (upS up0 ?_) ?_) ?_) ?_) ?_) ?_) ?_) ?_) ?_
  all_goals intro v f w' hb hv hB hd
  ·have b0:f.tmps[0]?=some (.int .i64 1):=(hb 0 (by decide)).trans rfl
   clear hb hv hd
   refine wpOp_step rfl fun K hK=>?_
   go_simp
   exact hK _ _ ⟨_,rfl,Below.refl _ _,rfl,fun h=>absurd h (by decide)⟩
  ·have b1:f.tmps[1]?=some (.pointer (some ⟨A,0,none⟩)):=(hb 1 (by decide)).trans rfl
   have d0:=got (hv 0 6 rfl) (hd 0 (by kernel_rfl))
   clear hb hv hd
   refine wpOp_step rfl fun K hK=>?_
   go_simp
   exact hK _ _ ⟨_,rfl,Below.refl _ _,rfl,fun h=>absurd h (by decide)⟩
  ·have d1:=got (hv 1 7 rfl) (hd 1 (by kernel_rfl))
   clear hb hv hd
   have c:=tc_keep hB kA
   refine wpOp_step rfl fun K hK=>?_
   go_simp
   exact hK _ _ ⟨_,rfl,Below.refl _ _,rfl,fun h=>absurd h (by decide)⟩
  ·have b0:f.tmps[0]?=some (.int .i64 1):=(hb 0 (by decide)).trans rfl
   clear hb hv hd
   refine wpOp_step rfl fun K hK=>?_
   go_simp
   exact hK _ _ ⟨_,rfl,Below.refl _ _,rfl,fun h=>absurd h (by decide)⟩
  ·have b2:f.tmps[2]?=some (.pointer (some ⟨B,0,none⟩)):=(hb 2 (by decide)).trans rfl
   have d3:=got (hv 3 9 rfl) (hd 3 (by kernel_rfl))
   clear hb hv hd
   refine wpOp_step rfl fun K hK=>?_
   go_simp
   exact hK _ _ ⟨_,rfl,Below.refl _ _,rfl,fun h=>absurd h (by decide)⟩
  ·have d4:=got (hv 4 10 rfl) (hd 4 (by kernel_rfl))
   clear hb hv hd
   have c:=tc_keep hB kB
   refine wpOp_step rfl fun K hK=>?_
   go_simp
   exact hK _ _ ⟨_,rfl,Below.refl _ _,rfl,fun h=>absurd h (by decide)⟩
  ·have d2:=got (hv 2 8 rfl) (hd 2 (by kernel_rfl))
   have d5:=got (hv 5 11 rfl) (hd 5 (by kernel_rfl))
   clear hb hv hd
   refine wpOp_call rfl Tryz.call106 (args2 (eval_tmp d2) (eval_tmp d5)) (cT _) ?_
   rintro e5 w5 ⟨rfl,hb5⟩
   exact ⟨_,rfl,_,rfl,hb5,rfl,fun h=>absurd h (by decide)⟩
  ·have d6:=got (hv 6 12 rfl) (hd 6 (by kernel_rfl))
   clear hb hv hd
   refine wpOp_step rfl fun K hK=>?_
   go_simp
   exact hK _ _ ⟨_,rfl,Below.refl _ _,rfl,fun h=>absurd h (by decide)⟩
  ·have d6:=got (hv 6 12 rfl) (hd 6 (by kernel_rfl))
   clear hb hv hd
   refine wpOp_step rfl fun K hK=>?_
   go_simp
   exact hK _ _ ⟨_,rfl,Below.refl _ _,rfl,fun h=>absurd h (by decide)⟩
 ·intro v w' hB hF hD
  have F0:v 0=_:=hF 0 (by simp)
  have F1:v 1=_:=hF 1 (by simp)
  have F2:v 2=_:=hF 2 (by simp)
  have F3:v 3=_:=hF 3 (by simp)
  have F4:v 4=_:=hF 4 (by simp)
  have F5:v 5=_:=hF 5 (by simp)
  have F6:v 6=_:=hF 6 (by simp)
  have F7:v 7=_:=hF 7 (by simp)
  have F8:v 8=_:=hF 8 (by simp)
  clear hF
  simp only [frOf,frGo,Nat.zero_add,Nat.reduceAdd,F0,F1,F2,F3,F4,F5,F6,F7,F8]
  clear F0 F1 F2 F3 F4 F5 F6 F7 F8 hD cT
  go_wp2
  go_ret2
  exact ⟨rfl,hB⟩
theorem clo_add_2 (A B:Nat) (r0 r1 r2 s0 s1 s2 x e:Int) (w:World) (kA:TC w A r0 r1 r2) (kB:TC w B s0 s1 s2)
  (cT:∀ w,Calls Tryz.prog 106 #[.int .i64 r2,.int .i64 s2] w (RetV (.tuple #[.int .i64 x,.int .i64 e]) w)) :
  Calls Tryz.prog 132 #[.int .i64 2,.pointer (some ⟨A,0,none⟩),.pointer (some ⟨B,0,none⟩)] w (RetV (.tuple #[.int .i64 x,.int .i64 e]) w):=by
 go_enter Tryz.func132,Tryz.ntmps132
 go_wp2
 refine region_each [6,7,8,9,10,11,12,13,14] (fun i X_ U_=>match i with | 0=>X_=.int .i64 2 | 1=>X_=.pointer (some ⟨A,2,none⟩) | 2=>X_=.int .i64 r2 | 3=>X_=.int .i64 2 | 4=>X_=.pointer (some ⟨B,2,none⟩) | 5=>X_=.int .i64 s2 | 6=>X_=.tuple #[.int .i64 x,.int .i64 e] | 7=>X_=.int .i64 x | 8=>X_=.int .i64 e | _=>True) (fun i=>false) (by kernel_rfl) (by kernel_rfl) (by kernel_rfl) (by kernel_rfl) (by kernel_rfl) ?_ (fun i x w hi ha h=>by cases ha) ?_ ?_
 ·refine swp (upS (upS (upS (upS (upS (upS (upS (upS (upS up0 ?_) ?_) ?_) ?_) ?_) ?_) ?_) ?_) ?_)
  all_goals exact fun _ _ _ h _=>h
 ·refine upS (upS (upS (upS (upS (upS (upS (upS (upS up0 ?_) ?_) ?_) ?_) ?_) ?_) ?_) ?_) ?_
  all_goals intro v f w' hb hv hB hd
  ·have b0:f.tmps[0]?=some (.int .i64 2):=(hb 0 (by decide)).trans rfl
   clear hb hv hd
   refine wpOp_step rfl fun K hK=>?_
   go_simp
   exact hK _ _ ⟨_,rfl,Below.refl _ _,rfl,fun h=>absurd h (by decide)⟩
  ·have b1:f.tmps[1]?=some (.pointer (some ⟨A,0,none⟩)):=(hb 1 (by decide)).trans rfl
   have d0:=got (hv 0 6 rfl) (hd 0 (by kernel_rfl))
   clear hb hv hd
   refine wpOp_step rfl fun K hK=>?_
   go_simp
   exact hK _ _ ⟨_,rfl,Below.refl _ _,rfl,fun h=>absurd h (by decide)⟩
  ·have d1:=got (hv 1 7 rfl) (hd 1 (by kernel_rfl))
   clear hb hv hd
   have c:=tc_keep hB kA
   refine wpOp_step rfl fun K hK=>?_
   go_simp
   exact hK _ _ ⟨_,rfl,Below.refl _ _,rfl,fun h=>absurd h (by decide)⟩
  ·have b0:f.tmps[0]?=some (.int .i64 2):=(hb 0 (by decide)).trans rfl
   clear hb hv hd
   refine wpOp_step rfl fun K hK=>?_
   go_simp
   exact hK _ _ ⟨_,rfl,Below.refl _ _,rfl,fun h=>absurd h (by decide)⟩
  ·have b2:f.tmps[2]?=some (.pointer (some ⟨B,0,none⟩)):=(hb 2 (by decide)).trans rfl
   have d3:=got (hv 3 9 rfl) (hd 3 (by kernel_rfl))
   clear hb hv hd
   refine wpOp_step rfl fun K hK=>?_
   go_simp
   exact hK _ _ ⟨_,rfl,Below.refl _ _,rfl,fun h=>absurd h (by decide)⟩
  ·have d4:=got (hv 4 10 rfl) (hd 4 (by kernel_rfl))
   clear hb hv hd
   have c:=tc_keep hB kB
   refine wpOp_step rfl fun K hK=>?_
   go_simp
   exact hK _ _ ⟨_,rfl,Below.refl _ _,rfl,fun h=>absurd h (by decide)⟩
  ·have d2:=got (hv 2 8 rfl) (hd 2 (by kernel_rfl))
   have d5:=got (hv 5 11 rfl) (hd 5 (by kernel_rfl))
   clear hb hv hd
   refine wpOp_call rfl Tryz.call106 (args2 (eval_tmp d2) (eval_tmp d5)) (cT _) ?_
   rintro e5 w5 ⟨rfl,hb5⟩
   exact ⟨_,rfl,_,rfl,hb5,rfl,fun h=>absurd h (by decide)⟩
  ·have d6:=got (hv 6 12 rfl) (hd 6 (by kernel_rfl))
   clear hb hv hd
   refine wpOp_step rfl fun K hK=>?_
   go_simp
   exact hK _ _ ⟨_,rfl,Below.refl _ _,rfl,fun h=>absurd h (by decide)⟩
  ·have d6:=got (hv 6 12 rfl) (hd 6 (by kernel_rfl))
   clear hb hv hd
   refine wpOp_step rfl fun K hK=>?_
   go_simp
   exact hK _ _ ⟨_,rfl,Below.refl _ _,rfl,fun h=>absurd h (by decide)⟩
 ·intro v w' hB hF hD
  have F0:v 0=_:=hF 0 (by simp)
  have F1:v 1=_:=hF 1 (by simp)
  have F2:v 2=_:=hF 2 (by simp)
  have F3:v 3=_:=hF 3 (by simp)
  have F4:v 4=_:=hF 4 (by simp)
  have F5:v 5=_:=hF 5 (by simp)
  have F6:v 6=_:=hF 6 (by simp)
  have F7:v 7=_:=hF 7 (by simp)
  have F8:v 8=_:=hF 8 (by simp)
  clear hF
  simp only [frOf,frGo,Nat.zero_add,Nat.reduceAdd,F0,F1,F2,F3,F4,F5,F6,F7,F8]
  clear F0 F1 F2 F3 F4 F5 F6 F7 F8 hD cT
  go_wp2
  go_ret2
  exact ⟨rfl,hB⟩
theorem clo_scale_0 (A B:Nat) (r0 r1 r2 k x e:Int) (w:World) (kA:TC w A r0 r1 r2) (kB:w.cell? ⟨B,0,none⟩=some (.int .i64 k))
  (cT:∀ w,Calls Tryz.prog 146 #[.int .i64 r0,.int .i64 k] w (RetV (.tuple #[.int .i64 x,.int .i64 e]) w)) :
  Calls Tryz.prog 145 #[.int .i64 0,.pointer (some ⟨A,0,none⟩),.pointer (some ⟨B,0,none⟩)] w (RetV (.tuple #[.int .i64 x,.int .i64 e]) w):=by
 go_enter Tryz.func145,Tryz.ntmps145
 go_wp2
 refine region_each [6,7,8,9,10,11,12] (fun i X_ U_=>match i with | 0=>X_=.int .i64 0 | 1=>X_=.pointer (some ⟨A,0,none⟩) | 2=>X_=.int .i64 r0 | 3=>X_=.int .i64 k | 4=>X_=.tuple #[.int .i64 x,.int .i64 e] | 5=>X_=.int .i64 x | 6=>X_=.int .i64 e | _=>True) (fun i=>false) (by kernel_rfl) (by kernel_rfl) (by kernel_rfl) (by kernel_rfl) (by kernel_rfl) ?_ (fun i x w hi ha h=>by cases ha) ?_ ?_
 ·refine swp (upS (upS (upS (upS (upS (upS (upS up0 ?_) ?_) ?_) ?_) ?_) ?_) ?_)
  all_goals exact fun _ _ _ h _=>h
 ·refine upS (upS (upS (upS (upS (upS (upS up0 ?_) ?_) ?_) ?_) ?_) ?_) ?_
  all_goals intro v f w' hb hv hB hd
  ·have b0:f.tmps[0]?=some (.int .i64 0):=(hb 0 (by decide)).trans rfl
   clear hb hv hd
   refine wpOp_step rfl fun K hK=>?_
   go_simp
   exact hK _ _ ⟨_,rfl,Below.refl _ _,rfl,fun h=>absurd h (by decide)⟩
  ·have b1:f.tmps[1]?=some (.pointer (some ⟨A,0,none⟩)):=(hb 1 (by decide)).trans rfl
   have d0:=got (hv 0 6 rfl) (hd 0 (by kernel_rfl))
   clear hb hv hd
   refine wpOp_step rfl fun K hK=>?_
   go_simp
   exact hK _ _ ⟨_,rfl,Below.refl _ _,rfl,fun h=>absurd h (by decide)⟩
  ·have d1:=got (hv 1 7 rfl) (hd 1 (by kernel_rfl))
   clear hb hv hd
   have c:=tc_keep hB kA
   refine wpOp_step rfl fun K hK=>?_
   go_simp
   exact hK _ _ ⟨_,rfl,Below.refl _ _,rfl,fun h=>absurd h (by decide)⟩
  ·have b2:f.tmps[2]?=some (.pointer (some ⟨B,0,none⟩)):=(hb 2 (by decide)).trans rfl
   clear hb hv hd
   have c:=cell_keep hB kB
   refine wpOp_step rfl fun K hK=>?_
   go_simp
   exact hK _ _ ⟨_,rfl,Below.refl _ _,rfl,fun h=>absurd h (by decide)⟩
  ·have d2:=got (hv 2 8 rfl) (hd 2 (by kernel_rfl))
   have d3:=got (hv 3 9 rfl) (hd 3 (by kernel_rfl))
   clear hb hv hd
   refine wpOp_call rfl Tryz.call146 (args2 (eval_tmp d2) (eval_tmp d3)) (cT _) ?_
   rintro e5 w5 ⟨rfl,hb5⟩
   exact ⟨_,rfl,_,rfl,hb5,rfl,fun h=>absurd h (by decide)⟩
  ·have d4:=got (hv 4 10 rfl) (hd 4 (by kernel_rfl))
   clear hb hv hd
   refine wpOp_step rfl fun K hK=>?_
   go_simp
   exact hK _ _ ⟨_,rfl,Below.refl _ _,rfl,fun h=>absurd h (by decide)⟩
  ·have d4:=got (hv 4 10 rfl) (hd 4 (by kernel_rfl))
   clear hb hv hd
   refine wpOp_step rfl fun K hK=>?_
   go_simp
   exact hK _ _ ⟨_,rfl,Below.refl _ _,rfl,fun h=>absurd h (by decide)⟩
 ·intro v w' hB hF hD
  have F0:v 0=_:=hF 0 (by simp)
  have F1:v 1=_:=hF 1 (by simp)
  have F2:v 2=_:=hF 2 (by simp)
  have F3:v 3=_:=hF 3 (by simp)
  have F4:v 4=_:=hF 4 (by simp)
  have F5:v 5=_:=hF 5 (by simp)
  have F6:v 6=_:=hF 6 (by simp)
  clear hF
  simp only [frOf,frGo,Nat.zero_add,Nat.reduceAdd,F0,F1,F2,F3,F4,F5,F6]
  clear F0 F1 F2 F3 F4 F5 F6 hD cT
  go_wp2
  go_ret2
  exact ⟨rfl,hB⟩
theorem clo_scale_1 (A B:Nat) (r0 r1 r2 k x e:Int) (w:World) (kA:TC w A r0 r1 r2) (kB:w.cell? ⟨B,0,none⟩=some (.int .i64 k))
  (cT:∀ w,Calls Tryz.prog 146 #[.int .i64 r1,.int .i64 k] w (RetV (.tuple #[.int .i64 x,.int .i64 e]) w)) :
  Calls Tryz.prog 145 #[.int .i64 1,.pointer (some ⟨A,0,none⟩),.pointer (some ⟨B,0,none⟩)] w (RetV (.tuple #[.int .i64 x,.int .i64 e]) w):=by
 go_enter Tryz.func145,Tryz.ntmps145
 go_wp2
 refine region_each [6,7,8,9,10,11,12] (fun i X_ U_=>match i with | 0=>X_=.int .i64 1 | 1=>X_=.pointer (some ⟨A,1,none⟩) | 2=>X_=.int .i64 r1 | 3=>X_=.int .i64 k | 4=>X_=.tuple #[.int .i64 x,.int .i64 e] | 5=>X_=.int .i64 x | 6=>X_=.int .i64 e | _=>True) (fun i=>false) (by kernel_rfl) (by kernel_rfl) (by kernel_rfl) (by kernel_rfl) (by kernel_rfl) ?_ (fun i x w hi ha h=>by cases ha) ?_ ?_
 ·refine swp (upS (upS (upS (upS (upS (upS (upS up0 ?_) ?_) ?_) ?_) ?_) ?_) ?_)
  all_goals exact fun _ _ _ h _=>h
 ·refine upS (upS (upS (upS (upS (upS (upS up0 ?_) ?_) ?_) ?_) ?_) ?_) ?_
  all_goals intro v f w' hb hv hB hd
  ·have b0:f.tmps[0]?=some (.int .i64 1):=(hb 0 (by decide)).trans rfl
   clear hb hv hd
   refine wpOp_step rfl fun K hK=>?_
   go_simp
   exact hK _ _ ⟨_,rfl,Below.refl _ _,rfl,fun h=>absurd h (by decide)⟩
  ·have b1:f.tmps[1]?=some (.pointer (some ⟨A,0,none⟩)):=(hb 1 (by decide)).trans rfl
   have d0:=got (hv 0 6 rfl) (hd 0 (by kernel_rfl))
   clear hb hv hd
   refine wpOp_step rfl fun K hK=>?_
   go_simp
   exact hK _ _ ⟨_,rfl,Below.refl _ _,rfl,fun h=>absurd h (by decide)⟩
  ·have d1:=got (hv 1 7 rfl) (hd 1 (by kernel_rfl))
   clear hb hv hd
   have c:=tc_keep hB kA
   refine wpOp_step rfl fun K hK=>?_
   go_simp
   exact hK _ _ ⟨_,rfl,Below.refl _ _,rfl,fun h=>absurd h (by decide)⟩
  ·have b2:f.tmps[2]?=some (.pointer (some ⟨B,0,none⟩)):=(hb 2 (by decide)).trans rfl
   clear hb hv hd
   have c:=cell_keep hB kB
   refine wpOp_step rfl fun K hK=>?_
   go_simp
   exact hK _ _ ⟨_,rfl,Below.refl _ _,rfl,fun h=>absurd h (by decide)⟩
  ·have d2:=got (hv 2 8 rfl) (hd 2 (by kernel_rfl))
   have d3:=got (hv 3 9 rfl) (hd 3 (by kernel_rfl))
   clear hb hv hd
   refine wpOp_call rfl Tryz.call146 (args2 (eval_tmp d2) (eval_tmp d3)) (cT _) ?_
   rintro e5 w5 ⟨rfl,hb5⟩
   exact ⟨_,rfl,_,rfl,hb5,rfl,fun h=>absurd h (by decide)⟩
  ·have d4:=got (hv 4 10 rfl) (hd 4 (by kernel_rfl))
   clear hb hv hd
   refine wpOp_step rfl fun K hK=>?_
   go_simp
   exact hK _ _ ⟨_,rfl,Below.refl _ _,rfl,fun h=>absurd h (by decide)⟩
  ·have d4:=got (hv 4 10 rfl) (hd 4 (by kernel_rfl))
   clear hb hv hd
   refine wpOp_step rfl fun K hK=>?_
   go_simp
   exact hK _ _ ⟨_,rfl,Below.refl _ _,rfl,fun h=>absurd h (by decide)⟩
 ·intro v w' hB hF hD
  have F0:v 0=_:=hF 0 (by simp)
  have F1:v 1=_:=hF 1 (by simp)
  have F2:v 2=_:=hF 2 (by simp)
  have F3:v 3=_:=hF 3 (by simp)
  have F4:v 4=_:=hF 4 (by simp)
  have F5:v 5=_:=hF 5 (by simp)
  have F6:v 6=_:=hF 6 (by simp)
  clear hF
  simp only [frOf,frGo,Nat.zero_add,Nat.reduceAdd,F0,F1,F2,F3,F4,F5,F6]
  clear F0 F1 F2 F3 F4 F5 F6 hD cT
  go_wp2
  go_ret2
  exact ⟨rfl,hB⟩
theorem clo_scale_2 (A B:Nat) (r0 r1 r2 k x e:Int) (w:World) (kA:TC w A r0 r1 r2) (kB:w.cell? ⟨B,0,none⟩=some (.int .i64 k))
  (cT:∀ w,Calls Tryz.prog 146 #[.int .i64 r2,.int .i64 k] w (RetV (.tuple #[.int .i64 x,.int .i64 e]) w)) :
  Calls Tryz.prog 145 #[.int .i64 2,.pointer (some ⟨A,0,none⟩),.pointer (some ⟨B,0,none⟩)] w (RetV (.tuple #[.int .i64 x,.int .i64 e]) w):=by
 go_enter Tryz.func145,Tryz.ntmps145
 go_wp2
 refine region_each [6,7,8,9,10,11,12] (fun i X_ U_=>match i with | 0=>X_=.int .i64 2 | 1=>X_=.pointer (some ⟨A,2,none⟩) | 2=>X_=.int .i64 r2 | 3=>X_=.int .i64 k | 4=>X_=.tuple #[.int .i64 x,.int .i64 e] | 5=>X_=.int .i64 x | 6=>X_=.int .i64 e | _=>True) (fun i=>false) (by kernel_rfl) (by kernel_rfl) (by kernel_rfl) (by kernel_rfl) (by kernel_rfl) ?_ (fun i x w hi ha h=>by cases ha) ?_ ?_
 ·refine swp (upS (upS (upS (upS (upS (upS (upS up0 ?_) ?_) ?_) ?_) ?_) ?_) ?_)
  all_goals exact fun _ _ _ h _=>h
 ·refine upS (upS (upS (upS (upS (upS (upS up0 ?_) ?_) ?_) ?_) ?_) ?_) ?_
  all_goals intro v f w' hb hv hB hd
  ·have b0:f.tmps[0]?=some (.int .i64 2):=(hb 0 (by decide)).trans rfl
   clear hb hv hd
   refine wpOp_step rfl fun K hK=>?_
   go_simp
   exact hK _ _ ⟨_,rfl,Below.refl _ _,rfl,fun h=>absurd h (by decide)⟩
  ·have b1:f.tmps[1]?=some (.pointer (some ⟨A,0,none⟩)):=(hb 1 (by decide)).trans rfl
   have d0:=got (hv 0 6 rfl) (hd 0 (by kernel_rfl))
   clear hb hv hd
   refine wpOp_step rfl fun K hK=>?_
   go_simp
   exact hK _ _ ⟨_,rfl,Below.refl _ _,rfl,fun h=>absurd h (by decide)⟩
  ·have d1:=got (hv 1 7 rfl) (hd 1 (by kernel_rfl))
   clear hb hv hd
   have c:=tc_keep hB kA
   refine wpOp_step rfl fun K hK=>?_
   go_simp
   exact hK _ _ ⟨_,rfl,Below.refl _ _,rfl,fun h=>absurd h (by decide)⟩
  ·have b2:f.tmps[2]?=some (.pointer (some ⟨B,0,none⟩)):=(hb 2 (by decide)).trans rfl
   clear hb hv hd
   have c:=cell_keep hB kB
   refine wpOp_step rfl fun K hK=>?_
   go_simp
   exact hK _ _ ⟨_,rfl,Below.refl _ _,rfl,fun h=>absurd h (by decide)⟩
  ·have d2:=got (hv 2 8 rfl) (hd 2 (by kernel_rfl))
   have d3:=got (hv 3 9 rfl) (hd 3 (by kernel_rfl))
   clear hb hv hd
   refine wpOp_call rfl Tryz.call146 (args2 (eval_tmp d2) (eval_tmp d3)) (cT _) ?_
   rintro e5 w5 ⟨rfl,hb5⟩
   exact ⟨_,rfl,_,rfl,hb5,rfl,fun h=>absurd h (by decide)⟩
  ·have d4:=got (hv 4 10 rfl) (hd 4 (by kernel_rfl))
   clear hb hv hd
   refine wpOp_step rfl fun K hK=>?_
   go_simp
   exact hK _ _ ⟨_,rfl,Below.refl _ _,rfl,fun h=>absurd h (by decide)⟩
  ·have d4:=got (hv 4 10 rfl) (hd 4 (by kernel_rfl))
   clear hb hv hd
   refine wpOp_step rfl fun K hK=>?_
   go_simp
   exact hK _ _ ⟨_,rfl,Below.refl _ _,rfl,fun h=>absurd h (by decide)⟩
 ·intro v w' hB hF hD
  have F0:v 0=_:=hF 0 (by simp)
  have F1:v 1=_:=hF 1 (by simp)
  have F2:v 2=_:=hF 2 (by simp)
  have F3:v 3=_:=hF 3 (by simp)
  have F4:v 4=_:=hF 4 (by simp)
  have F5:v 5=_:=hF 5 (by simp)
  have F6:v 6=_:=hF 6 (by simp)
  clear hF
  simp only [frOf,frGo,Nat.zero_add,Nat.reduceAdd,F0,F1,F2,F3,F4,F5,F6]
  clear F0 F1 F2 F3 F4 F5 F6 hD cT
  go_wp2
  go_ret2
  exact ⟨rfl,hB⟩
theorem clo_clamp_0 (A B:Nat) (r0 r1 r2 s0 s1 s2 x:Int) (w:World) (kA:TC w A r0 r1 r2) (kB:TC w B s0 s1 s2)
  (cT:∀ w,Calls Tryz.prog 36 #[.int .i64 r0,.int .i64 s0] w fun e1 w'=>e1=.returned (.int .i64 x)∧w=w') :
  Calls Tryz.prog 35 #[.int .i64 0,.pointer (some ⟨A,0,none⟩),.pointer (some ⟨B,0,none⟩)] w (RetV (.tuple #[.int .i64 x,.int .i64 0]) w):=by
 go_enter Tryz.func35,Tryz.ntmps35
 go_wp2
 refine region_each [6,7,8,9,10,11,12] (fun i X_ U_=>match i with | 0=>X_=.int .i64 0 | 1=>X_=.pointer (some ⟨A,0,none⟩) | 2=>X_=.int .i64 r0 | 3=>X_=.int .i64 0 | 4=>X_=.pointer (some ⟨B,0,none⟩) | 5=>X_=.int .i64 s0 | 6=>X_=.int .i64 x | _=>True) (fun i=>false) (by kernel_rfl) (by kernel_rfl) (by kernel_rfl) (by kernel_rfl) (by kernel_rfl) ?_ (fun i x w hi ha h=>by cases ha) ?_ ?_
 ·refine swp (upS (upS (upS (upS (upS (upS (upS up0 ?_) ?_) ?_) ?_) ?_) ?_) ?_)
  all_goals exact fun _ _ _ h _=>h
 ·refine upS (upS (upS (upS (upS (upS (upS up0 ?_) ?_) ?_) ?_) ?_) ?_) ?_
  all_goals intro v f w' hb hv hB hd
  ·have b0:f.tmps[0]?=some (.int .i64 0):=(hb 0 (by decide)).trans rfl
   clear hb hv hd
   refine wpOp_step rfl fun K hK=>?_
   go_simp
   exact hK _ _ ⟨_,rfl,Below.refl _ _,rfl,fun h=>absurd h (by decide)⟩
  ·have b1:f.tmps[1]?=some (.pointer (some ⟨A,0,none⟩)):=(hb 1 (by decide)).trans rfl
   have d0:=got (hv 0 6 rfl) (hd 0 (by kernel_rfl))
   clear hb hv hd
   refine wpOp_step rfl fun K hK=>?_
   go_simp
   exact hK _ _ ⟨_,rfl,Below.refl _ _,rfl,fun h=>absurd h (by decide)⟩
  ·have d1:=got (hv 1 7 rfl) (hd 1 (by kernel_rfl))
   clear hb hv hd
   have c:=tc_keep hB kA
   refine wpOp_step rfl fun K hK=>?_
   go_simp
   exact hK _ _ ⟨_,rfl,Below.refl _ _,rfl,fun h=>absurd h (by decide)⟩
  ·have b0:f.tmps[0]?=some (.int .i64 0):=(hb 0 (by decide)).trans rfl
   clear hb hv hd
   refine wpOp_step rfl fun K hK=>?_
   go_simp
   exact hK _ _ ⟨_,rfl,Below.refl _ _,rfl,fun h=>absurd h (by decide)⟩
  ·have b2:f.tmps[2]?=some (.pointer (some ⟨B,0,none⟩)):=(hb 2 (by decide)).trans rfl
   have d3:=got (hv 3 9 rfl) (hd 3 (by kernel_rfl))
   clear hb hv hd
   refine wpOp_step rfl fun K hK=>?_
   go_simp
   exact hK _ _ ⟨_,rfl,Below.refl _ _,rfl,fun h=>absurd h (by decide)⟩
  ·have d4:=got (hv 4 10 rfl) (hd 4 (by kernel_rfl))
   clear hb hv hd
   have c:=tc_keep hB kB
   refine wpOp_step rfl fun K hK=>?_
   go_simp
   exact hK _ _ ⟨_,rfl,Below.refl _ _,rfl,fun h=>absurd h (by decide)⟩
  ·have d2:=got (hv 2 8 rfl) (hd 2 (by kernel_rfl))
   have d5:=got (hv 5 11 rfl) (hd 5 (by kernel_rfl))
   clear hb hv hd
   refine wpOp_call rfl Tryz.call36 (args2 (eval_tmp d2) (eval_tmp d5)) (cT _) ?_
   rintro e5 w5 ⟨rfl,rfl⟩
   exact ⟨_,rfl,_,rfl,Below.refl _ _,rfl,fun h=>absurd h (by decide)⟩
 ·intro v w' hB hF hD
  have F0:v 0=_:=hF 0 (by simp)
  have F1:v 1=_:=hF 1 (by simp)
  have F2:v 2=_:=hF 2 (by simp)
  have F3:v 3=_:=hF 3 (by simp)
  have F4:v 4=_:=hF 4 (by simp)
  have F5:v 5=_:=hF 5 (by simp)
  have F6:v 6=_:=hF 6 (by simp)
  clear hF
  simp only [frOf,frGo,Nat.zero_add,Nat.reduceAdd,F0,F1,F2,F3,F4,F5,F6]
  clear F0 F1 F2 F3 F4 F5 F6 hD cT
  go_wp2
  go_ret2
  exact ⟨rfl,hB⟩
theorem clo_clamp_1 (A B:Nat) (r0 r1 r2 s0 s1 s2 x:Int) (w:World) (kA:TC w A r0 r1 r2) (kB:TC w B s0 s1 s2)
  (cT:∀ w,Calls Tryz.prog 36 #[.int .i64 r1,.int .i64 s1] w fun e1 w'=>e1=.returned (.int .i64 x)∧w=w') :
  Calls Tryz.prog 35 #[.int .i64 1,.pointer (some ⟨A,0,none⟩),.pointer (some ⟨B,0,none⟩)] w (RetV (.tuple #[.int .i64 x,.int .i64 0]) w):=by
 go_enter Tryz.func35,Tryz.ntmps35
 go_wp2
 refine region_each [6,7,8,9,10,11,12] (fun i X_ U_=>match i with | 0=>X_=.int .i64 1 | 1=>X_=.pointer (some ⟨A,1,none⟩) | 2=>X_=.int .i64 r1 | 3=>X_=.int .i64 1 | 4=>X_=.pointer (some ⟨B,1,none⟩) | 5=>X_=.int .i64 s1 | 6=>X_=.int .i64 x | _=>True) (fun i=>false) (by kernel_rfl) (by kernel_rfl) (by kernel_rfl) (by kernel_rfl) (by kernel_rfl) ?_ (fun i x w hi ha h=>by cases ha) ?_ ?_
 ·refine swp (upS (upS (upS (upS (upS (upS (upS up0 ?_) ?_) ?_) ?_) ?_) ?_) ?_)
  all_goals exact fun _ _ _ h _=>h
 ·refine upS (upS (upS (upS (upS (upS (upS up0 ?_) ?_) ?_) ?_) ?_) ?_) ?_
  all_goals intro v f w' hb hv hB hd
  ·have b0:f.tmps[0]?=some (.int .i64 1):=(hb 0 (by decide)).trans rfl
   clear hb hv hd
   refine wpOp_step rfl fun K hK=>?_
   go_simp
   exact hK _ _ ⟨_,rfl,Below.refl _ _,rfl,fun h=>absurd h (by decide)⟩
  ·have b1:f.tmps[1]?=some (.pointer (some ⟨A,0,none⟩)):=(hb 1 (by decide)).trans rfl
   have d0:=got (hv 0 6 rfl) (hd 0 (by kernel_rfl))
   clear hb hv hd
   refine wpOp_step rfl fun K hK=>?_
   go_simp
   exact hK _ _ ⟨_,rfl,Below.refl _ _,rfl,fun h=>absurd h (by decide)⟩
  ·have d1:=got (hv 1 7 rfl) (hd 1 (by kernel_rfl))
   clear hb hv hd
   have c:=tc_keep hB kA
   refine wpOp_step rfl fun K hK=>?_
   go_simp
   exact hK _ _ ⟨_,rfl,Below.refl _ _,rfl,fun h=>absurd h (by decide)⟩
  ·have b0:f.tmps[0]?=some (.int .i64 1):=(hb 0 (by decide)).trans rfl
   clear hb hv hd
   refine wpOp_step rfl fun K hK=>?_
   go_simp
   exact hK _ _ ⟨_,rfl,Below.refl _ _,rfl,fun h=>absurd h (by decide)⟩
  ·have b2:f.tmps[2]?=some (.pointer (some ⟨B,0,none⟩)):=(hb 2 (by decide)).trans rfl
   have d3:=got (hv 3 9 rfl) (hd 3 (by kernel_rfl))
   clear hb hv hd
   refine wpOp_step rfl fun K hK=>?_
   go_simp
   exact hK _ _ ⟨_,rfl,Below.refl _ _,rfl,fun h=>absurd h (by decide)⟩
  ·have d4:=got (hv 4 10 rfl) (hd 4 (by kernel_rfl))
   clear hb hv hd
   have c:=tc_keep hB kB
   refine wpOp_step rfl fun K hK=>?_
   go_simp
   exact hK _ _ ⟨_,rfl,Below.refl _ _,rfl,fun h=>absurd h (by decide)⟩
  ·have d2:=got (hv 2 8 rfl) (hd 2 (by kernel_rfl))
   have d5:=got (hv 5 11 rfl) (hd 5 (by kernel_rfl))
   clear hb hv hd
   refine wpOp_call rfl Tryz.call36 (args2 (eval_tmp d2) (eval_tmp d5)) (cT _) ?_
   rintro e5 w5 ⟨rfl,rfl⟩
   exact ⟨_,rfl,_,rfl,Below.refl _ _,rfl,fun h=>absurd h (by decide)⟩
 ·intro v w' hB hF hD
  have F0:v 0=_:=hF 0 (by simp)
  have F1:v 1=_:=hF 1 (by simp)
  have F2:v 2=_:=hF 2 (by simp)
  have F3:v 3=_:=hF 3 (by simp)
  have F4:v 4=_:=hF 4 (by simp)
  have F5:v 5=_:=hF 5 (by simp)
  have F6:v 6=_:=hF 6 (by simp)
  clear hF
  simp only [frOf,frGo,Nat.zero_add,Nat.reduceAdd,F0,F1,F2,F3,F4,F5,F6]
  clear F0 F1 F2 F3 F4 F5 F6 hD cT
  go_wp2
  go_ret2
  exact ⟨rfl,hB⟩
theorem clo_clamp_2 (A B:Nat) (r0 r1 r2 s0 s1 s2 x:Int) (w:World) (kA:TC w A r0 r1 r2) (kB:TC w B s0 s1 s2)
  (cT:∀ w,Calls Tryz.prog 36 #[.int .i64 r2,.int .i64 s2] w fun e1 w'=>e1=.returned (.int .i64 x)∧w=w') :
  Calls Tryz.prog 35 #[.int .i64 2,.pointer (some ⟨A,0,none⟩),.pointer (some ⟨B,0,none⟩)] w (RetV (.tuple #[.int .i64 x,.int .i64 0]) w):=by
 go_enter Tryz.func35,Tryz.ntmps35
 go_wp2
 refine region_each [6,7,8,9,10,11,12] (fun i X_ U_=>match i with | 0=>X_=.int .i64 2 | 1=>X_=.pointer (some ⟨A,2,none⟩) | 2=>X_=.int .i64 r2 | 3=>X_=.int .i64 2 | 4=>X_=.pointer (some ⟨B,2,none⟩) | 5=>X_=.int .i64 s2 | 6=>X_=.int .i64 x | _=>True) (fun i=>false) (by kernel_rfl) (by kernel_rfl) (by kernel_rfl) (by kernel_rfl) (by kernel_rfl) ?_ (fun i x w hi ha h=>by cases ha) ?_ ?_
 ·refine swp (upS (upS (upS (upS (upS (upS (upS up0 ?_) ?_) ?_) ?_) ?_) ?_) ?_)
  all_goals exact fun _ _ _ h _=>h
 ·refine upS (upS (upS (upS (upS (upS (upS up0 ?_) ?_) ?_) ?_) ?_) ?_) ?_
  all_goals intro v f w' hb hv hB hd
  ·have b0:f.tmps[0]?=some (.int .i64 2):=(hb 0 (by decide)).trans rfl
   clear hb hv hd
   refine wpOp_step rfl fun K hK=>?_
   go_simp
   exact hK _ _ ⟨_,rfl,Below.refl _ _,rfl,fun h=>absurd h (by decide)⟩
  ·have b1:f.tmps[1]?=some (.pointer (some ⟨A,0,none⟩)):=(hb 1 (by decide)).trans rfl
   have d0:=got (hv 0 6 rfl) (hd 0 (by kernel_rfl))
   clear hb hv hd
   refine wpOp_step rfl fun K hK=>?_
   go_simp
   exact hK _ _ ⟨_,rfl,Below.refl _ _,rfl,fun h=>absurd h (by decide)⟩
  ·have d1:=got (hv 1 7 rfl) (hd 1 (by kernel_rfl))
   clear hb hv hd
   have c:=tc_keep hB kA
   refine wpOp_step rfl fun K hK=>?_
   go_simp
   exact hK _ _ ⟨_,rfl,Below.refl _ _,rfl,fun h=>absurd h (by decide)⟩
  ·have b0:f.tmps[0]?=some (.int .i64 2):=(hb 0 (by decide)).trans rfl
   clear hb hv hd
   refine wpOp_step rfl fun K hK=>?_
   go_simp
   exact hK _ _ ⟨_,rfl,Below.refl _ _,rfl,fun h=>absurd h (by decide)⟩
  ·have b2:f.tmps[2]?=some (.pointer (some ⟨B,0,none⟩)):=(hb 2 (by decide)).trans rfl
   have d3:=got (hv 3 9 rfl) (hd 3 (by kernel_rfl))
   clear hb hv hd
   refine wpOp_step rfl fun K hK=>?_
   go_simp
   exact hK _ _ ⟨_,rfl,Below.refl _ _,rfl,fun h=>absurd h (by decide)⟩
  ·have d4:=got (hv 4 10 rfl) (hd 4 (by kernel_rfl))
   clear hb hv hd
   have c:=tc_keep hB kB
   refine wpOp_step rfl fun K hK=>?_
   go_simp
   exact hK _ _ ⟨_,rfl,Below.refl _ _,rfl,fun h=>absurd h (by decide)⟩
  ·have d2:=got (hv 2 8 rfl) (hd 2 (by kernel_rfl))
   have d5:=got (hv 5 11 rfl) (hd 5 (by kernel_rfl))
   clear hb hv hd
   refine wpOp_call rfl Tryz.call36 (args2 (eval_tmp d2) (eval_tmp d5)) (cT _) ?_
   rintro e5 w5 ⟨rfl,rfl⟩
   exact ⟨_,rfl,_,rfl,Below.refl _ _,rfl,fun h=>absurd h (by decide)⟩
 ·intro v w' hB hF hD
  have F0:v 0=_:=hF 0 (by simp)
  have F1:v 1=_:=hF 1 (by simp)
  have F2:v 2=_:=hF 2 (by simp)
  have F3:v 3=_:=hF 3 (by simp)
  have F4:v 4=_:=hF 4 (by simp)
  have F5:v 5=_:=hF 5 (by simp)
  have F6:v 6=_:=hF 6 (by simp)
  clear hF
  simp only [frOf,frGo,Nat.zero_add,Nat.reduceAdd,F0,F1,F2,F3,F4,F5,F6]
  clear F0 F1 F2 F3 F4 F5 F6 hD cT
  go_wp2
  go_ret2
  exact ⟨rfl,hB⟩
end Go.Proofs.YthnofhjgfhapiaaGreatDoor
namespace Go.Proofs.YthnofhjgfhapiaaGreatDoor
open Go.RowKit Go.Shelf
abbrev J64 (x:Int):Prop:=-9223372036854775808≤x∧x≤9223372036854775807
abbrev MayP (y s:Int):Prop:=FitP y∧FitP s∧1≤s
def mayg (y s:Int):Bool:=decide (MayP y s)
theorem mayg_yes {y s:Int} (h:MayP y s):mayg y s=true:=decide_eq_true h
theorem mayg_no {y s:Int} (h:¬ MayP y s):mayg y s=false:=decide_eq_false h
abbrev PassP (y s g:Int):Prop:=MayP y s∧0≤g∧g≤1000∧y*y≤g*s*1099511627776
def pas (y s g:Int):Bool:=decide (PassP y s g)
theorem pas_no {y s g:Int} (h:¬ PassP y s g):pas y s g=false:=decide_eq_false h
def cg (y s:Int):Int:=-(-(y*y) / (s*1099511627776))
theorem wed {z c h l:Int} (x:IsW h l z) {w:World} {e:Ending} {w':World} (r:RetWE z c w e w'):RetV (.tuple #[wv h l,.int .i64 c]) w e w':=by
 obtain ⟨h',l',he,y,hb⟩:=r
 obtain ⟨rfl,rfl⟩:=(x.inj y).2 rfl
 exact ⟨he,hb⟩
theorem may_gate (y s:Int) (hy:J64 y) (hs:J64 s) (w:World) :
  Calls Tryz.prog 107 #[.int .i64 y,.int .i64 s] w fun e w'=>e=.returned (.bool (mayg y s))∧w=w':=by
 have cy:=fits_any y hy.1 hy.2
 have cs:=fits_any s hs.1 hs.2
 clear hy hs
 by_cases d:FitP y
 ·have ed:=Lib.hid (fitb_yes d)
  by_cases f:FitP s
  ·have ef:=Lib.hid (fitb_yes f)
   by_cases o:1≤s
   ·have R:=Lib.hid (mayg_yes ⟨d,f,o⟩)
    clear d f
    go_enter Tryz.func107,Tryz.ntmps107
    go_wp2_with fail
    refine (cy _).mono ?_
    rintro e w9 ⟨rfl,rfl⟩
    rw [ed.out]
    go_wp2_with fail
    refine (cs _).mono ?_
    rintro e w9 ⟨rfl,rfl⟩
    rw [ef.out]
    go_wp2
    go_ret
    exact ⟨by rw [R.out]; rfl,rfl⟩
   ·have R:=Lib.hid (mayg_no (y:=y) (s:=s) (fun h=>o h.2.2))
    clear d f
    go_enter Tryz.func107,Tryz.ntmps107
    go_wp2_with fail
    refine (cy _).mono ?_
    rintro e w9 ⟨rfl,rfl⟩
    rw [ed.out]
    go_wp2_with fail
    refine (cs _).mono ?_
    rintro e w9 ⟨rfl,rfl⟩
    rw [ef.out]
    go_wp2
    go_ret
    exact ⟨by rw [R.out]; show Ending.returned (.bool (decide (1≤s)))=_; rw [decide_eq_false (show ¬ 1≤s by omega)],rfl⟩
  ·have ef:=Lib.hid (fitb_no f)
   have R:=Lib.hid (mayg_no (y:=y) (s:=s) (fun h=>f h.2.1))
   clear d f
   go_enter Tryz.func107,Tryz.ntmps107
   go_wp2_with fail
   refine (cy _).mono ?_
   rintro e w9 ⟨rfl,rfl⟩
   rw [ed.out]
   go_wp2_with fail
   refine (cs _).mono ?_
   rintro e w9 ⟨rfl,rfl⟩
   rw [ef.out]
   go_wp2
   go_ret
   exact ⟨by rw [R.out]; rfl,rfl⟩
 ·have ed:=Lib.hid (fitb_no d)
  have R:=Lib.hid (mayg_no (y:=y) (s:=s) (fun h=>d h.1))
  clear d
  go_enter Tryz.func107,Tryz.ntmps107
  go_wp2_with fail
  refine (cy _).mono ?_
  rintro e w9 ⟨rfl,rfl⟩
  rw [ed.out]
  go_wp2
  go_ret
  exact ⟨by rw [R.out]; rfl,rfl⟩
theorem pass_go (y s g ph pl bh bl sh sl c:Int) (g0:¬ g<0) (g1:¬ 1000<g)
  (hm:∀ w,Calls Tryz.prog 107 #[.int .i64 y,.int .i64 s] w fun e w'=>e=.returned (.bool true)∧w=w')
  (cM:∀ w,Calls Tryz.prog 32 #[.int .i64 g,.int .i64 s] w (RetV (wv ph pl) w))
  (cU:∀ w,Calls Tryz.prog 108 #[wv ph pl,.int .i64 40] w (RetV (.tuple #[wv bh bl,.int .i64 0]) w))
  (cS:∀ w,Calls Tryz.prog 32 #[.int .i64 y,.int .i64 y] w (RetV (wv sh sl) w))
  (cC:∀ w,Calls Tryz.prog 31 #[wv sh sl,wv bh bl] w (RetV (.int .i64 c) w)) (w:World) :
  Calls Tryz.prog 75 #[.int .i64 y,.int .i64 s,.int .i64 g] w (RetV (.bool (decide (c≤0))) w):=by
 have ym:=hm
 clear hm
 go_enter Tryz.func75,Tryz.ntmps75
 go_wp2_with fail
 refine (ym _).mono ?_
 rintro e w1 ⟨rfl,rfl⟩
 clear ym
 go_wp2_with fail
 refine (cM _).mono ?_
 rintro e w2 ⟨rfl,hb2⟩
 clear cM
 go_wp2_with fail
 refine (cU _).mono ?_
 rintro e w3 ⟨rfl,hb3⟩
 clear cU
 have B4:Below w.heap.size w (w3.alloc (Obj.cells #[.int .i64 bh,.int .u64 bl] 96)):=b_alloc (b_trans hb2 hb3)
 have kb:WC (w3.alloc (Obj.cells #[.int .i64 bh,.int .u64 bl] 96)) w3.heap.size bh bl:=by simp [WC,go_sem]
 clear hb2 hb3
 go_wp2
 refine region_each [28,29,30,31,32,33] (fun i_ X_ U_=>match i_ with | 0=>X_=.int .i64 y | 1=>X_=.int .i64 y | 2=>X_=wv sh sl | 3=>X_=wv bh bl | 4=>X_=.int .i64 c | 5=>X_=.bool (decide (c≤0)) | _=>True) (fun i_=>false) (by kernel_rfl) (by kernel_rfl) (by kernel_rfl) (by kernel_rfl) (by kernel_rfl) ?_ (fun i x w hi ha h=>by cases ha) ?_ ?_
 ·refine swp (upS (upS (upS (upS (upS (upS up0 ?_) ?_) ?_) ?_) ?_) ?_)
  all_goals exact fun _ _ _ h _=>h
 ·refine upS (upS (upS (upS (upS (upS up0 ?_) ?_) ?_) ?_) ?_) ?_
  all_goals intro v f w' hb hv hB hd
  ·have b0:f.tmps[0]?=some (.int .i64 y):=(hb 0 (by decide)).trans rfl
   clear hb hv hd
   refine wpOp_step rfl fun K hK=>?_
   go_simp
   exact hK _ _ ⟨_,rfl,Below.refl _ _,rfl,fun h=>absurd h (by decide)⟩
  ·have b0:f.tmps[0]?=some (.int .i64 y):=(hb 0 (by decide)).trans rfl
   clear hb hv hd
   refine wpOp_step rfl fun K hK=>?_
   go_simp
   exact hK _ _ ⟨_,rfl,Below.refl _ _,rfl,fun h=>absurd h (by decide)⟩
  ·have d0:=got (hv 0 28 rfl) (hd 0 (by kernel_rfl))
   have d1:=got (hv 1 29 rfl) (hd 1 (by kernel_rfl))
   clear hb hv hd
   refine wpOp_call rfl Tryz.call32 (args2 (eval_tmp d0) (eval_tmp d1)) (cS _) ?_
   rintro e5 w5 ⟨rfl,hb5⟩
   exact ⟨_,rfl,_,rfl,hb5,rfl,fun h=>absurd h (by decide)⟩
  ·have b7:f.tmps[7]?=some (.pointer (some ⟨w3.heap.size,0,none⟩)):=(hb 7 (by decide)).trans rfl
   clear hb hv hd
   have c_:WC w' w3.heap.size bh bl:=wc_keep hB kb
   refine wpOp_step rfl fun K hK=>?_
   go_simp
   exact hK _ _ ⟨_,rfl,Below.refl _ _,rfl,fun h=>absurd h (by decide)⟩
  ·have d2:=got (hv 2 30 rfl) (hd 2 (by kernel_rfl))
   have d3:=got (hv 3 31 rfl) (hd 3 (by kernel_rfl))
   clear hb hv hd
   refine wpOp_call rfl Tryz.call31 (args2 (eval_tmp d2) (eval_tmp d3)) (cC _) ?_
   rintro e5 w5 ⟨rfl,hb5⟩
   exact ⟨_,rfl,_,rfl,hb5,rfl,fun h=>absurd h (by decide)⟩
  ·have d4:=got (hv 4 32 rfl) (hd 4 (by kernel_rfl))
   clear hb hv hd
   refine wpOp_step rfl fun K hK=>?_
   go_simp
   exact hK _ _ ⟨_,rfl,Below.refl _ _,rfl,fun h=>absurd h (by decide)⟩
 ·intro v w' hB hF hD
  have F0:v 0=_:=hF 0 (by simp)
  have F1:v 1=_:=hF 1 (by simp)
  have F2:v 2=_:=hF 2 (by simp)
  have F3:v 3=_:=hF 3 (by simp)
  have F4:v 4=_:=hF 4 (by simp)
  have F5:v 5=_:=hF 5 (by simp)
  clear hF
  simp only [frOf,frGo,Nat.zero_add,Nat.reduceAdd,F0,F1,F2,F3,F4,F5]
  have B5:=b_trans B4 hB
  clear hB hD cS cC F0 F1 F2 F3 F4 F5
  go_wp2
  go_ret
  exact ⟨rfl,B5⟩
theorem pass_bad (y s g:Int) (b:Bool) (h:b=true→g<0∨1000<g)
  (hm:∀ w,Calls Tryz.prog 107 #[.int .i64 y,.int .i64 s] w fun e w'=>e=.returned (.bool b)∧w=w') (w:World) :
  Calls Tryz.prog 75 #[.int .i64 y,.int .i64 s,.int .i64 g] w (RetV (.bool false) w):=by
 cases b
 ·clear h
  go_enter Tryz.func75,Tryz.ntmps75
  go_wp2_with fail
  refine (hm _).mono ?_
  rintro e w1 ⟨rfl,rfl⟩
  go_wp2
  go_ret
  exact ⟨rfl,Below.refl _ _⟩
 ·replace h:=h rfl
  by_cases g0:g<0
  ·clear h
   go_enter Tryz.func75,Tryz.ntmps75
   go_wp2_with fail
   refine (hm _).mono ?_
   rintro e w1 ⟨rfl,rfl⟩
   go_wp2
   go_ret
   exact ⟨rfl,Below.refl _ _⟩
  ·have g1:1000<g:=by omega
   clear h
   go_enter Tryz.func75,Tryz.ntmps75
   go_wp2_with fail
   refine (hm _).mono ?_
   rintro e w1 ⟨rfl,rfl⟩
   go_wp2
   go_ret
   exact ⟨rfl,Below.refl _ _⟩
theorem cmp3_le (a b:Int):decide (cmp3 a b≤0)=decide (a≤b):=by
 by_cases e:a=b
 ·subst e; rw [cmp3_eq]; simp
 ·by_cases l:a<b
  ·rw [cmp3_lt l]; simp; omega
  ·rw [cmp3_gt (by omega)]; simp; omega
theorem room_fits {s g:Int} (s1:1≤s) (f:FitP s) (g0:0≤g) (g1:g≤1000):J64 s∧J64 g∧0≤g*s∧g*s≤288230376151711744000:=by
 have a:0≤g*s:=Int.mul_nonneg g0 (by omega)
 have b:g*s≤1000*288230376151711744:=Int.mul_le_mul g1 f.2 (by omega) (by omega)
 exact ⟨⟨by omega,by omega⟩,⟨by omega,by omega⟩,a,by omega⟩
theorem pass_any (y s g:Int) (hy:J64 y) (hs:J64 s) (w:World) :
  Calls Tryz.prog 75 #[.int .i64 y,.int .i64 s,.int .i64 g] w (RetV (.bool (pas y s g)) w):=by
 have hm:=may_gate y s hy hs
 by_cases d:MayP y s
 ·rw [mayg_yes d] at hm
  by_cases e:0≤g∧g≤1000
  ·obtain ⟨js,jg,q0,q1⟩:=room_fits d.2.2 d.2.1 e.1 e.2
   obtain ⟨ph,pl,hp⟩:∃ ph pl,IsW ph pl (g*s):=⟨_,_,IsW.mk' ⟨by omega,by omega⟩⟩
   have fB:Fits (g*s*1099511627776):=⟨by omega,by omega⟩
   obtain ⟨bh,bl,hbb⟩:∃ bh bl,IsW bh bl (g*s*1099511627776):=⟨_,_,IsW.mk' fB⟩
   obtain ⟨sh,sl,hq⟩:∃ sh sl,IsW sh sl (y*y):=⟨_,_,IsW.mk' (mul_fits hy.1 hy.2 hy.1 hy.2)⟩
   have cU:=fun w=>up_all ph pl (g*s) 40 hp (by omega) (by omega) w
   rw [show (2:Int) ^ (40:Int).toNat=1099511627776 from rfl,fz_of fB,fe_of fB] at cU
   have r:=pass_go y s g ph pl bh bl sh sl (cmp3 (y*y) (g*s*1099511627776)) (by omega) (by omega) hm
    (fun w=>(mul_any g s jg.1 jg.2 js.1 js.2 w).mono fun _ _=>retW_det hp) (fun w=>(cU w).mono fun _ _=>wed hbb)
    (fun w=>(mul_any y y hy.1 hy.2 hy.1 hy.2 w).mono fun _ _=>retW_det hq) (fun w=>cmp_any _ _ _ _ _ _ hq hbb w) w
   rw [cmp3_le] at r
   have E:decide (y*y≤g*s*1099511627776)=pas y s g:=by
    unfold pas
    by_cases k:y*y≤g*s*1099511627776
    ·rw [decide_eq_true k,decide_eq_true (show PassP y s g from ⟨d,e.1,e.2,k⟩)]
    ·rw [decide_eq_false k,decide_eq_false (show ¬ PassP y s g from fun h=>k h.2.2.2)]
   rw [E] at r
   exact r
  ·rw [pas_no (fun h=>e ⟨h.2.1,h.2.2.1⟩)]
   exact pass_bad y s g true (fun _=>by omega) hm w
 ·rw [mayg_no d] at hm
  rw [pas_no (fun h=>d h.1)]
  exact pass_bad y s g false (fun h=>by cases h) hm w
end Go.Proofs.YthnofhjgfhapiaaGreatDoor

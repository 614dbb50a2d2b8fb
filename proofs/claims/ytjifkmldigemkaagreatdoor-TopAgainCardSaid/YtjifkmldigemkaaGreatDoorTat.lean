import Derived.Laws.Cover1
import Derived.ChangeKeysEq
import Derived.Orders
import Derived.RegionTactic
import Derived.Below
import Derived.Test.YtjifkmldigemkaaGreatDoorTae
import Derived.Test.YtjifkmldigemkaaGreatDoorTaa
import Derived.Test.YtjifkmldigemkaaGreatDoorTaf
import Derived.Test.YtjifkmldigemkaaGreatDoorTab
import Derived.Test.YtjifkmldigemkaaGreatDoorTah
import Derived.Test.YtjifkmldigemkaaGreatDoorTag
set_option maxHeartbeats 4000000
set_option maxRecDepth 10000
namespace Go.Proofs.YtjifkmldigemkaaGreatDoor
open Go.RowKit Go.Shelf
theorem clo_add_0 (A B:Nat) (r0 r1 r2 s0 s1 s2 x e:Int) (w:World) (kA:TC w A r0 r1 r2) (kB:TC w B s0 s1 s2)
  (cT:∀ w,Calls Tryz.prog 140 #[.int .i64 r0,.int .i64 s0] w (RetV (.tuple #[.int .i64 x,.int .i64 e]) w)) :
  Calls Tryz.prog 179 #[.int .i64 0,.pointer (some ⟨A,0,none⟩),.pointer (some ⟨B,0,none⟩)] w (RetV (.tuple #[.int .i64 x,.int .i64 e]) w):=by
 go_enter Tryz.func179,Tryz.ntmps179
 go_wp2
 refine region_each [6,7,8,9,10,11,12,13,14] (fun i X_ U_=>match i with | 0=>X_=.int .i64 0 | 1=>X_=.pointer (some ⟨A,0,none⟩) | 2=>X_=.int .i64 r0 | 3=>X_=.int .i64 0 | 4=>X_=.pointer (some ⟨B,0,none⟩) | 5=>X_=.int .i64 s0 | 6=>X_=.tuple #[.int .i64 x,.int .i64 e] | 7=>X_=.int .i64 x | 8=>X_=.int .i64 e | _=>True) (fun i=>false) (by kernel_rfl) (by kernel_rfl) (by kernel_rfl) (by kernel_rfl) (by kernel_rfl) ?_ (fun i x w hi ha h=>by cases ha) ?_ ?_
 ·refine swp (upS (upS (upS (upS (upS (upS (upS (upS (upS up0 ?_) ?_) ?_) ?_) ?_) ?_) ?_) ?_) ?_)
  all_goals exact fun _ _ _ h _=>h
 ·refine upS (upS (upS (upS (upS (upS (upS (upS (upS up0 ?_) ?_) ?_) ?_) ?_) ?_) ?_) ?_) ?_
  all_goals intro v f w' hb hv hB hd
  ·have b0:f.tmps[0]?=some (.int .i64 0):=(hb 0 (by decide)).trans rfl
   clear hb hv hd
   refine wpOp_step rfl fun K hK=>?_
   go_simp
   exact hK _ _ ⟨_,rfl,Below.refl _ _,rfl,fun h=>absurd h (by decide)⟩
  ·have b1:f.tmps[1]?=some (.pointer (some ⟨A,0,none⟩)):=(hb 1 (by decide)).trans rfl
   have d0:=got (hv 0 6 rfl) (hd 0 (by kernel_rfl))
   clear hb hv hd
   refine wpOp_step rfl fun K hK=>?_
   go_simp
   exact hK _ _ ⟨_,rfl,Below.refl _ _,rfl,fun h=>absurd h (by decide)⟩
  ·have d1:=got (hv 1 7 rfl) (hd 1 (by kernel_rfl))
   clear hb hv hd
   have c:=tc_keep hB kA
   refine wpOp_step rfl fun K hK=>?_
   go_simp
   exact hK _ _ ⟨_,rfl,Below.refl _ _,rfl,fun h=>absurd h (by decide)⟩
  ·have b0:f.tmps[0]?=some (.int .i64 0):=(hb 0 (by decide)).trans rfl
   clear hb hv hd
   refine wpOp_step rfl fun K hK=>?_
   go_simp
   exact hK _ _ ⟨_,rfl,Below.refl _ _,rfl,fun h=>absurd h (by decide)⟩
  ·have b2:f.tmps[2]?=some (.pointer (some ⟨B,0,none⟩)):=(hb 2 (by decide)).trans rfl
   have d3:=got (hv 3 9 rfl) (hd 3 (by kernel_rfl))
   clear hb hv hd
   refine wpOp_step rfl fun K hK=>?_
   go_simp
   exact hK _ _ ⟨_,rfl,Below.refl _ _,rfl,fun h=>absurd h (by decide)⟩
  ·have d4:=got (hv 4 10 rfl) (hd 4 (by kernel_rfl))
   clear hb hv hd
   have c:=tc_keep hB kB
   refine wpOp_step rfl fun K hK=>?_
   go_simp
   exact hK _ _ ⟨_,rfl,Below.refl _ _,rfl,fun h=>absurd h (by decide)⟩
  ·have d2:=got (hv 2 8 rfl) (hd 2 (by kernel_rfl))
   have d5:=got (hv 5 11 rfl) (hd 5 (by kernel_rfl))
   clear hb hv hd
   refine wpOp_call rfl Tryz.call140 (args2 (eval_tmp d2) (eval_tmp d5)) (cT _) ?_
   rintro e5 w5 ⟨rfl,hb5⟩
   exact ⟨_,rfl,_,rfl,hb5,rfl,fun h=>absurd h (by decide)⟩
  ·have d6:=got (hv 6 12 rfl) (hd 6 (by kernel_rfl))
   clear hb hv hd
   refine wpOp_step rfl fun K hK=>?_
   go_simp
   exact hK _ _ ⟨_,rfl,Below.refl _ _,rfl,fun h=>absurd h (by decide)⟩
  ·have d6:=got (hv 6 12 rfl) (hd 6 (by kernel_rfl))
   clear hb hv hd
   refine wpOp_step rfl fun K hK=>?_
   go_simp
   exact hK _ _ ⟨_,rfl,Below.refl _ _,rfl,fun h=>absurd h (by decide)⟩
 ·intro v w' hB hF hD
  have F0:v 0=_:=hF 0 (by simp)
  have F1:v 1=_:=hF 1 (by simp)
  have F2:v 2=_:=hF 2 (by simp)
  have F3:v 3=_:=hF 3 (by simp)
  have F4:v 4=_:=hF 4 (by simp)
  have F5:v 5=_:=hF 5 (by simp)
  have F6:v 6=_:=hF 6 (by simp)
  have F7:v 7=_:=hF 7 (by simp)
  have F8:v 8=_:=hF 8 (by simp)
  clear hF
  simp only [frOf,frGo,Nat.zero_add,Nat.reduceAdd,F0,F1,F2,F3,F4,F5,F6,F7,F8]
  clear F0 F1 F2 F3 F4 F5 F6 F7 F8 hD cT
  go_wp2
  go_ret2
  exact ⟨rfl,hB⟩
theorem clo_add_1 (A B:Nat) (r0 r1 r2 s0 s1 s2 x e:Int) (w:World) (kA:TC w A r0 r1 r2) (kB:TC w B s0 s1 s2)
  (cT:∀ w,Calls Tryz.prog 140 #[.int .i64 r1,.int .i64 s1] w (RetV (.tuple #[.int .i64 x,.int .i64 e]) w)) :
  Calls Tryz.prog 179 #[.int .i64 1,.pointer (some ⟨A,0,none⟩),.pointer (some ⟨B,0,none⟩)] w (RetV (.tuple #[.int .i64 x,.int .i64 e]) w):=by
 go_enter Tryz.func179,Tryz.ntmps179
 go_wp2
 refine region_each [6,7,8,9,10,11,12,13,14] (fun i X_ U_=>match i with | 0=>X_=.int .i64 1 | 1=>X_=.pointer (some ⟨A,1,none⟩) | 2=>X_=.int .i64 r1 | 3=>X_=.int .i64 1 | 4=>X_=.pointer (some ⟨B,1,none⟩) | 5=>X_=.int .i64 s1 | 6=>X_=.tuple #[.int .i64 x,.int .i64 e] | 7=>X_=.int .i64 x | 8=>X_=.int .i64 e | _=>True) (fun i=>false) (by kernel_rfl) (by kernel_rfl) (by kernel_rfl) (by kernel_rfl) (by kernel_rfl) ?_ (fun i x w hi ha h=>by cases ha) ?_ ?_
 ·refine swp (upS (upS (upS (upS (upS (upS (upS (upS (upS up0 ?_) ?_) ?_) ?_) ?_) ?_) ?_) ?_) ?_)
  all_goals exact fun _ _ _ h _=>h
 ·refine upS (upS (upS (upS (upS (upS (upS (upS (upS up0 ?_) ?_) ?_) ?_) ?_) ?_) ?_) ?_) ?_
  all_goals intro v f w' hb hv hB hd
  ·have b0:f.tmps[0]?=some (.int .i64 1):=(hb 0 (by decide)).trans rfl
   clear hb hv hd
   refine wpOp_step rfl fun K hK=>?_
   go_simp
   exact hK _ _ ⟨_,rfl,Below.refl _ _,rfl,fun h=>absurd h (by decide)⟩
  ·have b1:f.tmps[1]?=some (.pointer (some ⟨A,0,none⟩)):=(hb 1 (by decide)).trans rfl
   have d0:=got (hv 0 6 rfl) (hd 0 (by kernel_rfl))
   clear hb hv hd
   refine wpOp_step rfl fun K hK=>?_
   go_simp
   exact hK _ _ ⟨_,rfl,Below.refl _ _,rfl,fun h=>absurd h (by decide)⟩
  ·have d1:=got (hv 1 7 rfl) (hd 1 (by kernel_rfl))
   clear hb hv hd
   have c:=tc_keep hB kA
   refine wpOp_step rfl fun K hK=>?_
   go_simp
   exact hK _ _ ⟨_,rfl,Below.refl _ _,rfl,fun h=>absurd h (by decide)⟩
  ·have b0:f.tmps[0]?=some (.int .i64 1):=(hb 0 (by decide)).trans rfl
   clear hb hv hd
   refine wpOp_step rfl fun K hK=>?_
   go_simp
   exact hK _ _ ⟨_,rfl,Below.refl _ _,rfl,fun h=>absurd h (by decide)⟩
  ·have b2:f.tmps[2]?=some (.pointer (some ⟨B,0,none⟩)):=(hb 2 (by decide)).trans rfl
   have d3:=got (hv 3 9 rfl) (hd 3 (by kernel_rfl))
   clear hb hv hd
   refine wpOp_step rfl fun K hK=>?_
   go_simp
   exact hK _ _ ⟨_,rfl,Below.refl _ _,rfl,fun h=>absurd h (by decide)⟩
  ·have d4:=got (hv 4 10 rfl) (hd 4 (by kernel_rfl))
   clear hb hv hd
   have c:=tc_keep hB kB
   refine wpOp_step rfl fun K hK=>?_
   go_simp
   exact hK _ _ ⟨_,rfl,Below.refl _ _,rfl,fun h=>absurd h (by decide)⟩
  ·have d2:=got (hv 2 8 rfl) (hd 2 (by kernel_rfl))
   have d5:=got (hv 5 11 rfl) (hd 5 (by kernel_rfl))
   clear hb hv hd
   refine wpOp_call rfl Tryz.call140 (args2 (eval_tmp d2) (eval_tmp d5)) (cT _) ?_
   rintro e5 w5 ⟨rfl,hb5⟩
   exact ⟨_,rfl,_,rfl,hb5,rfl,fun h=>absurd h (by decide)⟩
  ·have d6:=got (hv 6 12 rfl) (hd 6 (by kernel_rfl))
   clear hb hv hd
   refine wpOp_step rfl fun K hK=>?_
   go_simp
   exact hK _ _ ⟨_,rfl,Below.refl _ _,rfl,fun h=>absurd h (by decide)⟩
  ·have d6:=got (hv 6 12 rfl) (hd 6 (by kernel_rfl))
   clear hb hv hd
   refine wpOp_step rfl fun K hK=>?_
   go_simp
   exact hK _ _ ⟨_,rfl,Below.refl _ _,rfl,fun h=>absurd h (by decide)⟩
 ·intro v w' hB hF hD
  have F0:v 0=_:=hF 0 (by simp)
  have F1:v 1=_:=hF 1 (by simp)
  have F2:v 2=_:=hF 2 (by simp)
  have F3:v 3=_:=hF 3 (by simp)
  have F4:v 4=_:=hF 4 (by simp)
  have F5:v 5=_:=hF 5 (by simp)
  have F6:v 6=_:=hF 6 (by simp)
  have F7:v 7=_:=hF 7 (by simp)
  have F8:v 8=_:=hF 8 (by simp)
  clear hF
  simp only [frOf,frGo,Nat.zero_add,Nat.reduceAdd,F0,F1,F2,F3,F4,F5,F6,F7,F8]
  clear F0 F1 F2 F3 F4 F5 F6 F7 F8 hD cT
  go_wp2
  go_ret2
  exact ⟨rfl,hB⟩
theorem clo_add_2 (A B:Nat) (r0 r1 r2 s0 s1 s2 x e:Int) (w:World) (kA:TC w A r0 r1 r2) (kB:TC w B s0 s1 s2)
  (cT:∀ w,Calls Tryz.prog 140 #[.int .i64 r2,.int .i64 s2] w (RetV (.tuple #[.int .i64 x,.int .i64 e]) w)) :
  Calls Tryz.prog 179 #[.int .i64 2,.pointer (some ⟨A,0,none⟩),.pointer (some ⟨B,0,none⟩)] w (RetV (.tuple #[.int .i64 x,.int .i64 e]) w):=by
 go_enter Tryz.func179,Tryz.ntmps179
 go_wp2
 refine region_each [6,7,8,9,10,11,12,13,14] (fun i X_ U_=>match i with | 0=>X_=.int .i64 2 | 1=>X_=.pointer (some ⟨A,2,none⟩) | 2=>X_=.int .i64 r2 | 3=>X_=.int .i64 2 | 4=>X_=.pointer (some ⟨B,2,none⟩) | 5=>X_=.int .i64 s2 | 6=>X_=.tuple #[.int .i64 x,.int .i64 e] | 7=>X_=.int .i64 x | 8=>X_=.int .i64 e | _=>True) (fun i=>false) (by kernel_rfl) (by kernel_rfl) (by kernel_rfl) (by kernel_rfl) (by kernel_rfl) ?_ (fun i x w hi ha h=>by cases ha) ?_ ?_
 ·refine swp (upS (upS (upS (upS (upS (upS (upS (upS (upS up0 ?_) ?_) ?_) ?_) ?_) ?_) ?_) ?_) ?_)
  all_goals exact fun _ _ _ h _=>h
 ·refine upS (upS (upS (upS (upS (upS (upS (upS (upS up0 ?_) ?_) ?_) ?_) ?_) ?_) ?_) ?_) ?_
  all_goals intro v f w' hb hv hB hd
  ·have b0:f.tmps[0]?=some (.int .i64 2):=(hb 0 (by decide)).trans rfl
   clear hb hv hd
   refine wpOp_step rfl fun K hK=>?_
   go_simp
   exact hK _ _ ⟨_,rfl,Below.refl _ _,rfl,fun h=>absurd h (by decide)⟩
  ·have b1:f.tmps[1]?=some (.pointer (some ⟨A,0,none⟩)):=(hb 1 (by decide)).trans rfl
   have d0:=got (hv 0 6 rfl) (hd 0 (by kernel_rfl))
   clear hb hv hd
   refine wpOp_step rfl fun K hK=>?_
   go_simp
   exact hK _ _ ⟨_,rfl,Below.refl _ _,rfl,fun h=>absurd h (by decide)⟩
  ·have d1:=got (hv 1 7 rfl) (hd 1 (by kernel_rfl))
   clear hb hv hd
   have c:=tc_keep hB kA
   refine wpOp_step rfl fun K hK=>?_
   go_simp
   exact hK _ _ ⟨_,rfl,Below.refl _ _,rfl,fun h=>absurd h (by decide)⟩
  ·have b0:f.tmps[0]?=some (.int .i64 2):=(hb 0 (by decide)).trans rfl
   clear hb hv hd
   refine wpOp_step rfl fun K hK=>?_
   go_simp
   exact hK _ _ ⟨_,rfl,Below.refl _ _,rfl,fun h=>absurd h (by decide)⟩
  ·have b2:f.tmps[2]?=some (.pointer (some ⟨B,0,none⟩)):=(hb 2 (by decide)).trans rfl
   have d3:=got (hv 3 9 rfl) (hd 3 (by kernel_rfl))
   clear hb hv hd
   refine wpOp_step rfl fun K hK=>?_
   go_simp
   exact hK _ _ ⟨_,rfl,Below.refl _ _,rfl,fun h=>absurd h (by decide)⟩
  ·have d4:=got (hv 4 10 rfl) (hd 4 (by kernel_rfl))
   clear hb hv hd
   have c:=tc_keep hB kB
   refine wpOp_step rfl fun K hK=>?_
   go_simp
   exact hK _ _ ⟨_,rfl,Below.refl _ _,rfl,fun h=>absurd h (by decide)⟩
  ·have d2:=got (hv 2 8 rfl) (hd 2 (by kernel_rfl))
   have d5:=got (hv 5 11 rfl) (hd 5 (by kernel_rfl))
   clear hb hv hd
   refine wpOp_call rfl Tryz.call140 (args2 (eval_tmp d2) (eval_tmp d5)) (cT _) ?_
   rintro e5 w5 ⟨rfl,hb5⟩
   exact ⟨_,rfl,_,rfl,hb5,rfl,fun h=>absurd h (by decide)⟩
  ·have d6:=got (hv 6 12 rfl) (hd 6 (by kernel_rfl))
   clear hb hv hd
   refine wpOp_step rfl fun K hK=>?_
   go_simp
   exact hK _ _ ⟨_,rfl,Below.refl _ _,rfl,fun h=>absurd h (by decide)⟩
  ·have d6:=got (hv 6 12 rfl) (hd 6 (by kernel_rfl))
   clear hb hv hd
   refine wpOp_step rfl fun K hK=>?_
   go_simp
   exact hK _ _ ⟨_,rfl,Below.refl _ _,rfl,fun h=>absurd h (by decide)⟩
 ·intro v w' hB hF hD
  have F0:v 0=_:=hF 0 (by simp)
  have F1:v 1=_:=hF 1 (by simp)
  have F2:v 2=_:=hF 2 (by simp)
  have F3:v 3=_:=hF 3 (by simp)
  have F4:v 4=_:=hF 4 (by simp)
  have F5:v 5=_:=hF 5 (by simp)
  have F6:v 6=_:=hF 6 (by simp)
  have F7:v 7=_:=hF 7 (by simp)
  have F8:v 8=_:=hF 8 (by simp)
  clear hF
  simp only [frOf,frGo,Nat.zero_add,Nat.reduceAdd,F0,F1,F2,F3,F4,F5,F6,F7,F8]
  clear F0 F1 F2 F3 F4 F5 F6 F7 F8 hD cT
  go_wp2
  go_ret2
  exact ⟨rfl,hB⟩
theorem clo_scale_0 (A B:Nat) (r0 r1 r2 k x e:Int) (w:World) (kA:TC w A r0 r1 r2) (kB:w.cell? ⟨B,0,none⟩=some (.int .i64 k))
  (cT:∀ w,Calls Tryz.prog 197 #[.int .i64 r0,.int .i64 k] w (RetV (.tuple #[.int .i64 x,.int .i64 e]) w)) :
  Calls Tryz.prog 196 #[.int .i64 0,.pointer (some ⟨A,0,none⟩),.pointer (some ⟨B,0,none⟩)] w (RetV (.tuple #[.int .i64 x,.int .i64 e]) w):=by
 go_enter Tryz.func196,Tryz.ntmps196
 go_wp2
 refine region_each [6,7,8,9,10,11,12] (fun i X_ U_=>match i with | 0=>X_=.int .i64 0 | 1=>X_=.pointer (some ⟨A,0,none⟩) | 2=>X_=.int .i64 r0 | 3=>X_=.int .i64 k | 4=>X_=.tuple #[.int .i64 x,.int .i64 e] | 5=>X_=.int .i64 x | 6=>X_=.int .i64 e | _=>True) (fun i=>false) (by kernel_rfl) (by kernel_rfl) (by kernel_rfl) (by kernel_rfl) (by kernel_rfl) ?_ (fun i x w hi ha h=>by cases ha) ?_ ?_
 ·refine swp (upS (upS (upS (upS (upS (upS (upS up0 ?_) ?_) ?_) ?_) ?_) ?_) ?_)
  all_goals exact fun _ _ _ h _=>h
 ·refine upS (upS (upS (upS (upS (upS (upS up0 ?_) ?_) ?_) ?_) ?_) ?_) ?_
  all_goals intro v f w' hb hv hB hd
  ·have b0:f.tmps[0]?=some (.int .i64 0):=(hb 0 (by decide)).trans rfl
   clear hb hv hd
   refine wpOp_step rfl fun K hK=>?_
   go_simp
   exact hK _ _ ⟨_,rfl,Below.refl _ _,rfl,fun h=>absurd h (by decide)⟩
  ·have b1:f.tmps[1]?=some (.pointer (some ⟨A,0,none⟩)):=(hb 1 (by decide)).trans rfl
   have d0:=got (hv 0 6 rfl) (hd 0 (by kernel_rfl))
   clear hb hv hd
   refine wpOp_step rfl fun K hK=>?_
   go_simp
   exact hK _ _ ⟨_,rfl,Below.refl _ _,rfl,fun h=>absurd h (by decide)⟩
  ·have d1:=got (hv 1 7 rfl) (hd 1 (by kernel_rfl))
   clear hb hv hd
   have c:=tc_keep hB kA
   refine wpOp_step rfl fun K hK=>?_
   go_simp
   exact hK _ _ ⟨_,rfl,Below.refl _ _,rfl,fun h=>absurd h (by decide)⟩
  ·have b2:f.tmps[2]?=some (.pointer (some ⟨B,0,none⟩)):=(hb 2 (by decide)).trans rfl
   clear hb hv hd
   have c:=cell_keep hB kB
   refine wpOp_step rfl fun K hK=>?_
   go_simp
   exact hK _ _ ⟨_,rfl,Below.refl _ _,rfl,fun h=>absurd h (by decide)⟩
  ·have d2:=got (hv 2 8 rfl) (hd 2 (by kernel_rfl))
   have d3:=got (hv 3 9 rfl) (hd 3 (by kernel_rfl))
   clear hb hv hd
   refine wpOp_call rfl Tryz.call197 (args2 (eval_tmp d2) (eval_tmp d3)) (cT _) ?_
   rintro e5 w5 ⟨rfl,hb5⟩
   exact ⟨_,rfl,_,rfl,hb5,rfl,fun h=>absurd h (by decide)⟩
  ·have d4:=got (hv 4 10 rfl) (hd 4 (by kernel_rfl))
   clear hb hv hd
   refine wpOp_step rfl fun K hK=>?_
   go_simp
   exact hK _ _ ⟨_,rfl,Below.refl _ _,rfl,fun h=>absurd h (by decide)⟩
  ·have d4:=got (hv 4 10 rfl) (hd 4 (by kernel_rfl))
   clear hb hv hd
   refine wpOp_step rfl fun K hK=>?_
   go_simp
   exact hK _ _ ⟨_,rfl,Below.refl _ _,rfl,fun h=>absurd h (by decide)⟩
 ·intro v w' hB hF hD
  have F0:v 0=_:=hF 0 (by simp)
  have F1:v 1=_:=hF 1 (by simp)
  have F2:v 2=_:=hF 2 (by simp)
  have F3:v 3=_:=hF 3 (by simp)
  have F4:v 4=_:=hF 4 (by simp)
  have F5:v 5=_:=hF 5 (by simp)
  have F6:v 6=_:=hF 6 (by simp)
  clear hF
  simp only [frOf,frGo,Nat.zero_add,Nat.reduceAdd,F0,F1,F2,F3,F4,F5,F6]
  clear F0 F1 F2 F3 F4 F5 F6 hD cT
  go_wp2
  go_ret2
  exact ⟨rfl,hB⟩
theorem clo_scale_1 (A B:Nat) (r0 r1 r2 k x e:Int) (w:World) (kA:TC w A r0 r1 r2) (kB:w.cell? ⟨B,0,none⟩=some (.int .i64 k))
  (cT:∀ w,Calls Tryz.prog 197 #[.int .i64 r1,.int .i64 k] w (RetV (.tuple #[.int .i64 x,.int .i64 e]) w)) :
  Calls Tryz.prog 196 #[.int .i64 1,.pointer (some ⟨A,0,none⟩),.pointer (some ⟨B,0,none⟩)] w (RetV (.tuple #[.int .i64 x,.int .i64 e]) w):=by
 go_enter Tryz.func196,Tryz.ntmps196
 go_wp2
 refine region_each [6,7,8,9,10,11,12] (fun i X_ U_=>match i with | 0=>X_=.int .i64 1 | 1=>X_=.pointer (some ⟨A,1,none⟩) | 2=>X_=.int .i64 r1 | 3=>X_=.int .i64 k | 4=>X_=.tuple #[.int .i64 x,.int .i64 e] | 5=>X_=.int .i64 x | 6=>X_=.int .i64 e | _=>True) (fun i=>false) (by kernel_rfl) (by kernel_rfl) (by kernel_rfl) (by kernel_rfl) (by kernel_rfl) ?_ (fun i x w hi ha h=>by cases ha) ?_ ?_
 ·refine swp (upS (upS (upS (upS (upS (upS (upS up0 ?_) ?_) ?_) ?_) ?_) ?_) ?_)
  all_goals exact fun _ _ _ h _=>h
 ·refine upS (upS (upS (upS (upS (upS (upS up0 ?_) ?_) ?_) ?_) ?_) ?_) ?_
  all_goals intro v f w' hb hv hB hd
  ·have b0:f.tmps[0]?=some (.int .i64 1):=(hb 0 (by decide)).trans rfl
   clear hb hv hd
   refine wpOp_step rfl fun K hK=>?_
   go_simp
   exact hK _ _ ⟨_,rfl,Below.refl _ _,rfl,fun h=>absurd h (by decide)⟩
  ·have b1:f.tmps[1]?=some (.pointer (some ⟨A,0,none⟩)):=(hb 1 (by decide)).trans rfl
   have d0:=got (hv 0 6 rfl) (hd 0 (by kernel_rfl))
   clear hb hv hd
   refine wpOp_step rfl fun K hK=>?_
   go_simp
   exact hK _ _ ⟨_,rfl,Below.refl _ _,rfl,fun h=>absurd h (by decide)⟩
  ·have d1:=got (hv 1 7 rfl) (hd 1 (by kernel_rfl))
   clear hb hv hd
   have c:=tc_keep hB kA
   refine wpOp_step rfl fun K hK=>?_
   go_simp
   exact hK _ _ ⟨_,rfl,Below.refl _ _,rfl,fun h=>absurd h (by decide)⟩
  ·have b2:f.tmps[2]?=some (.pointer (some ⟨B,0,none⟩)):=(hb 2 (by decide)).trans rfl
   clear hb hv hd
   have c:=cell_keep hB kB
   refine wpOp_step rfl fun K hK=>?_
   go_simp
   exact hK _ _ ⟨_,rfl,Below.refl _ _,rfl,fun h=>absurd h (by decide)⟩
  ·have d2:=got (hv 2 8 rfl) (hd 2 (by kernel_rfl))
   have d3:=got (hv 3 9 rfl) (hd 3 (by kernel_rfl))
   clear hb hv hd
   refine wpOp_call rfl Tryz.call197 (args2 (eval_tmp d2) (eval_tmp d3)) (cT _) ?_
   rintro e5 w5 ⟨rfl,hb5⟩
   exact ⟨_,rfl,_,rfl,hb5,rfl,fun h=>absurd h (by decide)⟩
  ·have d4:=got (hv 4 10 rfl) (hd 4 (by kernel_rfl))
   clear hb hv hd
   refine wpOp_step rfl fun K hK=>?_
   go_simp
   exact hK _ _ ⟨_,rfl,Below.refl _ _,rfl,fun h=>absurd h (by decide)⟩
  ·have d4:=got (hv 4 10 rfl) (hd 4 (by kernel_rfl))
   clear hb hv hd
   refine wpOp_step rfl fun K hK=>?_
   go_simp
   exact hK _ _ ⟨_,rfl,Below.refl _ _,rfl,fun h=>absurd h (by decide)⟩
 ·intro v w' hB hF hD
  have F0:v 0=_:=hF 0 (by simp)
  have F1:v 1=_:=hF 1 (by simp)
  have F2:v 2=_:=hF 2 (by simp)
  have F3:v 3=_:=hF 3 (by simp)
  have F4:v 4=_:=hF 4 (by simp)
  have F5:v 5=_:=hF 5 (by simp)
  have F6:v 6=_:=hF 6 (by simp)
  clear hF
  simp only [frOf,frGo,Nat.zero_add,Nat.reduceAdd,F0,F1,F2,F3,F4,F5,F6]
  clear F0 F1 F2 F3 F4 F5 F6 hD cT
  go_wp2
  go_ret2
  exact ⟨rfl,hB⟩
theorem clo_scale_2 (A B:Nat) (r0 r1 r2 k x e:Int) (w:World) (kA:TC w A r0 r1 r2) (kB:w.cell? ⟨B,0,none⟩=some (.int .i64 k))
  (cT:∀ w,Calls Tryz.prog 197 #[.int .i64 r2,.int .i64 k] w (RetV (.tuple #[.int .i64 x,.int .i64 e]) w)) :
  Calls Tryz.prog 196 #[.int .i64 2,.pointer (some ⟨A,0,none⟩),.pointer (some ⟨B,0,none⟩)] w (RetV (.tuple #[.int .i64 x,.int .i64 e]) w):=by
 go_enter Tryz.func196,Tryz.ntmps196
 go_wp2
 refine region_each [6,7,8,9,10,11,12] (fun i X_ U_=>match i with | 0=>X_=.int .i64 2 | 1=>X_=.pointer (some ⟨A,2,none⟩) | 2=>X_=.int .i64 r2 | 3=>X_=.int .i64 k | 4=>X_=.tuple #[.int .i64 x,.int .i64 e] | 5=>X_=.int .i64 x | 6=>X_=.int .i64 e | _=>True) (fun i=>false) (by kernel_rfl) (by kernel_rfl) (by kernel_rfl) (by kernel_rfl) (by kernel_rfl) ?_ (fun i x w hi ha h=>by cases ha) ?_ ?_
 ·refine swp (upS (upS (upS (upS (upS (upS (upS up0 ?_) ?_) ?_) ?_) ?_) ?_) ?_)
  all_goals exact fun _ _ _ h _=>h
 ·refine upS (upS (upS (upS (upS (upS (upS up0 ?_) ?_) ?_) ?_) ?_) ?_) ?_
  all_goals intro v f w' hb hv hB hd
  ·have b0:f.tmps[0]?=some (.int .i64 2):=(hb 0 (by decide)).trans rfl
   clear hb hv hd
   refine wpOp_step rfl fun K hK=>?_
   go_simp
   exact hK _ _ ⟨_,rfl,Below.refl _ _,rfl,fun h=>absurd h (by decide)⟩
  ·have b1:f.tmps[1]?=some (.pointer (some ⟨A,0,none⟩)):=(hb 1 (by decide)).trans rfl
   have d0:=got (hv 0 6 rfl) (hd 0 (by kernel_rfl))
   clear hb hv hd
   refine wpOp_step rfl fun K hK=>?_
   go_simp
   exact hK _ _ ⟨_,rfl,Below.refl _ _,rfl,fun h=>absurd h (by decide)⟩
  ·have d1:=got (hv 1 7 rfl) (hd 1 (by kernel_rfl))
   clear hb hv hd
   have c:=tc_keep hB kA
   refine wpOp_step rfl fun K hK=>?_
   go_simp
   exact hK _ _ ⟨_,rfl,Below.refl _ _,rfl,fun h=>absurd h (by decide)⟩
  ·have b2:f.tmps[2]?=some (.pointer (some ⟨B,0,none⟩)):=(hb 2 (by decide)).trans rfl
   clear hb hv hd
   have c:=cell_keep hB kB
   refine wpOp_step rfl fun K hK=>?_
   go_simp
   exact hK _ _ ⟨_,rfl,Below.refl _ _,rfl,fun h=>absurd h (by decide)⟩
  ·have d2:=got (hv 2 8 rfl) (hd 2 (by kernel_rfl))
   have d3:=got (hv 3 9 rfl) (hd 3 (by kernel_rfl))
   clear hb hv hd
   refine wpOp_call rfl Tryz.call197 (args2 (eval_tmp d2) (eval_tmp d3)) (cT _) ?_
   rintro e5 w5 ⟨rfl,hb5⟩
   exact ⟨_,rfl,_,rfl,hb5,rfl,fun h=>absurd h (by decide)⟩
  ·have d4:=got (hv 4 10 rfl) (hd 4 (by kernel_rfl))
   clear hb hv hd
   refine wpOp_step rfl fun K hK=>?_
   go_simp
   exact hK _ _ ⟨_,rfl,Below.refl _ _,rfl,fun h=>absurd h (by decide)⟩
  ·have d4:=got (hv 4 10 rfl) (hd 4 (by kernel_rfl))
   clear hb hv hd
   refine wpOp_step rfl fun K hK=>?_
   go_simp
   exact hK _ _ ⟨_,rfl,Below.refl _ _,rfl,fun h=>absurd h (by decide)⟩
 ·intro v w' hB hF hD
  have F0:v 0=_:=hF 0 (by simp)
  have F1:v 1=_:=hF 1 (by simp)
  have F2:v 2=_:=hF 2 (by simp)
  have F3:v 3=_:=hF 3 (by simp)
  have F4:v 4=_:=hF 4 (by simp)
  have F5:v 5=_:=hF 5 (by simp)
  have F6:v 6=_:=hF 6 (by simp)
  clear hF
  simp only [frOf,frGo,Nat.zero_add,Nat.reduceAdd,F0,F1,F2,F3,F4,F5,F6]
  clear F0 F1 F2 F3 F4 F5 F6 hD cT
  go_wp2
  go_ret2
  exact ⟨rfl,hB⟩
theorem clo_clamp_0 (A B:Nat) (r0 r1 r2 s0 s1 s2 x:Int) (w:World) (kA:TC w A r0 r1 r2) (kB:TC w B s0 s1 s2)
  (cT:∀ w,Calls Tryz.prog 181 #[.int .i64 r0,.int .i64 s0] w fun e1 w'=>e1=.returned (.int .i64 x)∧w=w') :
  Calls Tryz.prog 180 #[.int .i64 0,.pointer (some ⟨A,0,none⟩),.pointer (some ⟨B,0,none⟩)] w (RetV (.tuple #[.int .i64 x,.int .i64 0]) w):=by
 go_enter Tryz.func180,Tryz.ntmps180
 go_wp2
 refine region_each [6,7,8,9,10,11,12] (fun i X_ U_=>match i with | 0=>X_=.int .i64 0 | 1=>X_=.pointer (some ⟨A,0,none⟩) | 2=>X_=.int .i64 r0 | 3=>X_=.int .i64 0 | 4=>X_=.pointer (some ⟨B,0,none⟩) | 5=>X_=.int .i64 s0 | 6=>X_=.int .i64 x | _=>True) (fun i=>false) (by kernel_rfl) (by kernel_rfl) (by kernel_rfl) (by kernel_rfl) (by kernel_rfl) ?_ (fun i x w hi ha h=>by cases ha) ?_ ?_
 ·refine swp (upS (upS (upS (upS (upS (upS (upS up0 ?_) ?_) ?_) ?_) ?_) ?_) ?_)
  all_goals exact fun _ _ _ h _=>h
 ·refine upS (upS (upS (upS (upS (upS (upS up0 ?_) ?_) ?_) ?_) ?_) ?_) ?_
  all_goals intro v f w' hb hv hB hd
  ·have b0:f.tmps[0]?=some (.int .i64 0):=(hb 0 (by decide)).trans rfl
   clear hb hv hd
   refine wpOp_step rfl fun K hK=>?_
   go_simp
   exact hK _ _ ⟨_,rfl,Below.refl _ _,rfl,fun h=>absurd h (by decide)⟩
  ·have b1:f.tmps[1]?=some (.pointer (some ⟨A,0,none⟩)):=(hb 1 (by decide)).trans rfl
   have d0:=got (hv 0 6 rfl) (hd 0 (by kernel_rfl))
   clear hb hv hd
   refine wpOp_step rfl fun K hK=>?_
   go_simp
   exact hK _ _ ⟨_,rfl,Below.refl _ _,rfl,fun h=>absurd h (by decide)⟩
  ·have d1:=got (hv 1 7 rfl) (hd 1 (by kernel_rfl))
   clear hb hv hd
   have c:=tc_keep hB kA
   refine wpOp_step rfl fun K hK=>?_
   go_simp
   exact hK _ _ ⟨_,rfl,Below.refl _ _,rfl,fun h=>absurd h (by decide)⟩
  ·have b0:f.tmps[0]?=some (.int .i64 0):=(hb 0 (by decide)).trans rfl
   clear hb hv hd
   refine wpOp_step rfl fun K hK=>?_
   go_simp
   exact hK _ _ ⟨_,rfl,Below.refl _ _,rfl,fun h=>absurd h (by decide)⟩
  ·have b2:f.tmps[2]?=some (.pointer (some ⟨B,0,none⟩)):=(hb 2 (by decide)).trans rfl
   have d3:=got (hv 3 9 rfl) (hd 3 (by kernel_rfl))
   clear hb hv hd
   refine wpOp_step rfl fun K hK=>?_
   go_simp
   exact hK _ _ ⟨_,rfl,Below.refl _ _,rfl,fun h=>absurd h (by decide)⟩
  ·have d4:=got (hv 4 10 rfl) (hd 4 (by kernel_rfl))
   clear hb hv hd
   have c:=tc_keep hB kB
   refine wpOp_step rfl fun K hK=>?_
   go_simp
   exact hK _ _ ⟨_,rfl,Below.refl _ _,rfl,fun h=>absurd h (by decide)⟩
  ·have d2:=got (hv 2 8 rfl) (hd 2 (by kernel_rfl))
   have d5:=got (hv 5 11 rfl) (hd 5 (by kernel_rfl))
   clear hb hv hd
   refine wpOp_call rfl Tryz.call181 (args2 (eval_tmp d2) (eval_tmp d5)) (cT _) ?_
   rintro e5 w5 ⟨rfl,rfl⟩
   exact ⟨_,rfl,_,rfl,Below.refl _ _,rfl,fun h=>absurd h (by decide)⟩
 ·intro v w' hB hF hD
  have F0:v 0=_:=hF 0 (by simp)
  have F1:v 1=_:=hF 1 (by simp)
  have F2:v 2=_:=hF 2 (by simp)
  have F3:v 3=_:=hF 3 (by simp)
  have F4:v 4=_:=hF 4 (by simp)
  have F5:v 5=_:=hF 5 (by simp)
  have F6:v 6=_:=hF 6 (by simp)
  clear hF
  simp only [frOf,frGo,Nat.zero_add,Nat.reduceAdd,F0,F1,F2,F3,F4,F5,F6]
  clear F0 F1 F2 F3 F4 F5 F6 hD cT
  go_wp2
  go_ret2
  exact ⟨rfl,hB⟩
theorem clo_clamp_1 (A B:Nat) (r0 r1 r2 s0 s1 s2 x:Int) (w:World) (kA:TC w A r0 r1 r2) (kB:TC w B s0 s1 s2)
  (cT:∀ w,Calls Tryz.prog 181 #[.int .i64 r1,.int .i64 s1] w fun e1 w'=>e1=.returned (.int .i64 x)∧w=w') :
  Calls Tryz.prog 180 #[.int .i64 1,.pointer (some ⟨A,0,none⟩),.pointer (some ⟨B,0,none⟩)] w (RetV (.tuple #[.int .i64 x,.int .i64 0]) w):=by
 go_enter Tryz.func180,Tryz.ntmps180
 go_wp2
 refine region_each [6,7,8,9,10,11,12] (fun i X_ U_=>match i with | 0=>X_=.int .i64 1 | 1=>X_=.pointer (some ⟨A,1,none⟩) | 2=>X_=.int .i64 r1 | 3=>X_=.int .i64 1 | 4=>X_=.pointer (some ⟨B,1,none⟩) | 5=>X_=.int .i64 s1 | 6=>X_=.int .i64 x | _=>True) (fun i=>false) (by kernel_rfl) (by kernel_rfl) (by kernel_rfl) (by kernel_rfl) (by kernel_rfl) ?_ (fun i x w hi ha h=>by cases ha) ?_ ?_
 ·refine swp (upS (upS (upS (upS (upS (upS (upS up0 ?_) ?_) ?_) ?_) ?_) ?_) ?_)
  all_goals exact fun _ _ _ h _=>h
 ·refine upS (upS (upS (upS (upS (upS (upS up0 ?_) ?_) ?_) ?_) ?_) ?_) ?_
  all_goals intro v f w' hb hv hB hd
  ·have b0:f.tmps[0]?=some (.int .i64 1):=(hb 0 (by decide)).trans rfl
   clear hb hv hd
   refine wpOp_step rfl fun K hK=>?_
   go_simp
   exact hK _ _ ⟨_,rfl,Below.refl _ _,rfl,fun h=>absurd h (by decide)⟩
  ·have b1:f.tmps[1]?=some (.pointer (some ⟨A,0,none⟩)):=(hb 1 (by decide)).trans rfl
   have d0:=got (hv 0 6 rfl) (hd 0 (by kernel_rfl))
   clear hb hv hd
   refine wpOp_step rfl fun K hK=>?_
   go_simp
   exact hK _ _ ⟨_,rfl,Below.refl _ _,rfl,fun h=>absurd h (by decide)⟩
  ·have d1:=got (hv 1 7 rfl) (hd 1 (by kernel_rfl))
   clear hb hv hd
   have c:=tc_keep hB kA
   refine wpOp_step rfl fun K hK=>?_
   go_simp
   exact hK _ _ ⟨_,rfl,Below.refl _ _,rfl,fun h=>absurd h (by decide)⟩
  ·have b0:f.tmps[0]?=some (.int .i64 1):=(hb 0 (by decide)).trans rfl
   clear hb hv hd
   refine wpOp_step rfl fun K hK=>?_
   go_simp
   exact hK _ _ ⟨_,rfl,Below.refl _ _,rfl,fun h=>absurd h (by decide)⟩
  ·have b2:f.tmps[2]?=some (.pointer (some ⟨B,0,none⟩)):=(hb 2 (by decide)).trans rfl
   have d3:=got (hv 3 9 rfl) (hd 3 (by kernel_rfl))
   clear hb hv hd
   refine wpOp_step rfl fun K hK=>?_
   go_simp
   exact hK _ _ ⟨_,rfl,Below.refl _ _,rfl,fun h=>absurd h (by decide)⟩
  ·have d4:=got (hv 4 10 rfl) (hd 4 (by kernel_rfl))
   clear hb hv hd
   have c:=tc_keep hB kB
   refine wpOp_step rfl fun K hK=>?_
   go_simp
   exact hK _ _ ⟨_,rfl,Below.refl _ _,rfl,fun h=>absurd h (by decide)⟩
  ·have d2:=got (hv 2 8 rfl) (hd 2 (by kernel_rfl))
   have d5:=got (hv 5 11 rfl) (hd 5 (by kernel_rfl))
   clear hb hv hd
   refine wpOp_call rfl Tryz.call181 (args2 (eval_tmp d2) (eval_tmp d5)) (cT _) ?_
   rintro e5 w5 ⟨rfl,rfl⟩
   exact ⟨_,rfl,_,rfl,Below.refl _ _,rfl,fun h=>absurd h (by decide)⟩
 ·intro v w' hB hF hD
  have F0:v 0=_:=hF 0 (by simp)
  have F1:v 1=_:=hF 1 (by simp)
  have F2:v 2=_:=hF 2 (by simp)
  have F3:v 3=_:=hF 3 (by simp)
  have F4:v 4=_:=hF 4 (by simp)
  have F5:v 5=_:=hF 5 (by simp)
  have F6:v 6=_:=hF 6 (by simp)
  clear hF
  simp only [frOf,frGo,Nat.zero_add,Nat.reduceAdd,F0,F1,F2,F3,F4,F5,F6]
  clear F0 F1 F2 F3 F4 F5 F6 hD cT
  go_wp2
  go_ret2
  exact ⟨rfl,hB⟩
theorem clo_clamp_2 (A B:Nat) (r0 r1 r2 s0 s1 s2 x:Int) (w:World) (kA:TC w A r0 r1 r2) (kB:TC w B s0 s1 s2)
  (cT:∀ w,Calls Tryz.prog 181 #[.int .i64 r2,.int .i64 s2] w fun e1 w'=>e1=.returned (.int .i64 x)∧w=w') :
  Calls Tryz.prog 180 #[.int .i64 2,.pointer (some ⟨A,0,none⟩),.pointer (some ⟨B,0,none⟩)] w (RetV (.tuple #[.int .i64 x,.int .i64 0]) w):=by
 go_enter Tryz.func180,Tryz.ntmps180
 go_wp2
 refine region_each [6,7,8,9,10,11,12] (fun i X_ U_=>match i with | 0=>X_=.int .i64 2 | 1=>X_=.pointer (some ⟨A,2,none⟩) | 2=>X_=.int .i64 r2 | 3=>X_=.int .i64 2 | 4=>X_=.pointer (some ⟨B,2,none⟩) | 5=>X_=.int .i64 s2 | 6=>X_=.int .i64 x | _=>True) (fun i=>false) (by kernel_rfl) (by kernel_rfl) (by kernel_rfl) (by kernel_rfl) (by kernel_rfl) ?_ (fun i x w hi ha h=>by cases ha) ?_ ?_
 ·refine swp (upS (upS (upS (upS (upS (upS (upS up0 ?_) ?_) ?_) ?_) ?_) ?_) ?_)
  all_goals exact fun _ _ _ h _=>h
 ·refine upS (upS (upS (upS (upS (upS (upS up0 ?_) ?_) ?_) ?_) ?_) ?_) ?_
  all_goals intro v f w' hb hv hB hd
  ·have b0:f.tmps[0]?=some (.int .i64 2):=(hb 0 (by decide)).trans rfl
   clear hb hv hd
   refine wpOp_step rfl fun K hK=>?_
   go_simp
   exact hK _ _ ⟨_,rfl,Below.refl _ _,rfl,fun h=>absurd h (by decide)⟩
  ·have b1:f.tmps[1]?=some (.pointer (some ⟨A,0,none⟩)):=(hb 1 (by decide)).trans rfl
   have d0:=got (hv 0 6 rfl) (hd 0 (by kernel_rfl))
   clear hb hv hd
   refine wpOp_step rfl fun K hK=>?_
   go_simp
   exact hK _ _ ⟨_,rfl,Below.refl _ _,rfl,fun h=>absurd h (by decide)⟩
  ·have d1:=got (hv 1 7 rfl) (hd 1 (by kernel_rfl))
   clear hb hv hd
   have c:=tc_keep hB kA
   refine wpOp_step rfl fun K hK=>?_
   go_simp
   exact hK _ _ ⟨_,rfl,Below.refl _ _,rfl,fun h=>absurd h (by decide)⟩
  ·have b0:f.tmps[0]?=some (.int .i64 2):=(hb 0 (by decide)).trans rfl
   clear hb hv hd
   refine wpOp_step rfl fun K hK=>?_
   go_simp
   exact hK _ _ ⟨_,rfl,Below.refl _ _,rfl,fun h=>absurd h (by decide)⟩
  ·have b2:f.tmps[2]?=some (.pointer (some ⟨B,0,none⟩)):=(hb 2 (by decide)).trans rfl
   have d3:=got (hv 3 9 rfl) (hd 3 (by kernel_rfl))
   clear hb hv hd
   refine wpOp_step rfl fun K hK=>?_
   go_simp
   exact hK _ _ ⟨_,rfl,Below.refl _ _,rfl,fun h=>absurd h (by decide)⟩
  ·have d4:=got (hv 4 10 rfl) (hd 4 (by kernel_rfl))
   clear hb hv hd
   have c:=tc_keep hB kB
   refine wpOp_step rfl fun K hK=>?_
   go_simp
   exact hK _ _ ⟨_,rfl,Below.refl _ _,rfl,fun h=>absurd h (by decide)⟩
  ·have d2:=got (hv 2 8 rfl) (hd 2 (by kernel_rfl))
   have d5:=got (hv 5 11 rfl) (hd 5 (by kernel_rfl))
   clear hb hv hd
   refine wpOp_call rfl Tryz.call181 (args2 (eval_tmp d2) (eval_tmp d5)) (cT _) ?_
   rintro e5 w5 ⟨rfl,rfl⟩
   exact ⟨_,rfl,_,rfl,Below.refl _ _,rfl,fun h=>absurd h (by decide)⟩
 ·intro v w' hB hF hD
  have F0:v 0=_:=hF 0 (by simp)
  have F1:v 1=_:=hF 1 (by simp)
  have F2:v 2=_:=hF 2 (by simp)
  have F3:v 3=_:=hF 3 (by simp)
  have F4:v 4=_:=hF 4 (by simp)
  have F5:v 5=_:=hF 5 (by simp)
  have F6:v 6=_:=hF 6 (by simp)
  clear hF
  simp only [frOf,frGo,Nat.zero_add,Nat.reduceAdd,F0,F1,F2,F3,F4,F5,F6]
  clear F0 F1 F2 F3 F4 F5 F6 hD cT
  go_wp2
  go_ret2
  exact ⟨rfl,hB⟩
end Go.Proofs.YtjifkmldigemkaaGreatDoor
namespace Go.Proofs.YtjifkmldigemkaaGreatDoor
open Go.RowKit Go.Shelf Go.Joins
theorem through_none (s:Int) (w:World):Calls Tryz.prog 120 #[.int .i64 s,.int .i64 0] w (RetV (.tuple #[.int .i64 0,.int .i64 4]) w):=by
 go_enter Tryz.func120,Tryz.ntmps120
 go_wp2
 go_ret2
 exact ⟨rfl,Below.refl _ _⟩
theorem through_some (s n:Int) (s0:0≤s) (s1:s≤1000000000000) (n0:0<n) (w:World):Calls Tryz.prog 120 #[.int .i64 s,.int .i64 n] w (RetV (.tuple #[.int .i64 (s / n),.int .i64 0]) w):=by
 have hn:¬ n=0:=by omega
 have hq:s.tdiv n=s / n:=Int.tdiv_eq_ediv_of_nonneg s0
 have q0:0≤s / n:=Int.ediv_nonneg s0 (by omega)
 have q1:s / n≤s:=Int.ediv_le_self _ s0
 generalize s / n=q at *
 have hw:IntKind.i64.wrap q=q:=by rw [IntKind.wrap_i64]; omega
 go_enter Tryz.func120,Tryz.ntmps120
 go_wp2
 go_ret2
 exact ⟨rfl,Below.refl _ _⟩
theorem through_any (z:Nat→Int) (n:Nat) (h:ag z n=true) (h1:n≤1000000) (w:World):Calls Tryz.prog 120 #[.int .i64 (sm z n),.int .i64 n] w (RetV (.tuple #[.int .i64 (mv z n),.int .i64 (me z n)]) w):=by
 have r:=sm_range h
 rcases Nat.eq_zero_or_pos n with rfl | hn
 ·exact through_none _ w
 ·rw [(m_ok hn h).1,(m_ok hn h).2]
  exact through_some _ _ (by omega) (by omega) (by omega) w
theorem heap_of (B:Nat) (z:Nat→Int) (sa:Option Addr) (len cap:Nat) (hm:len≤1000000) (w:World) (hc:IS w B sa len z) :
  Calls Tryz.prog 58 #[.slice sa len cap] w (RetV (.tuple #[.int .i64 (mv z len),.int .i64 (me z len)]) w):=by
 go_enter Tryz.func58,Tryz.ntmps58
 go_wp2
 go_loopw [4,9] (fun sv iv wr=>∃ k:Nat,k≤len∧iv=.int .i64 k∧sv=.int .i64 (sm z k)∧ag z k=true∧Below w.heap.size w wr) (fun _ iv _=>len - (intOf iv).toNat)
 case atStart=>exact ⟨0,Nat.zero_le _,rfl,rfl,rfl,Below.refl _ _⟩
 case round =>
  obtain ⟨k,hk,rfl,rfl,ha,E⟩:=hrel
  have r:=sm_range ha
  by_cases hlt:k<len
  ·obtain ⟨gb,off,rfl,-,c0⟩:=hc k hlt
   replace c0:=cell_keep E c0
   have hlk:(k:Int)<len:=by omega
   have hk0:(0:Int)≤k:=by omega
   have cg:=good_any (z k)
   have ws:IntKind.i64.wrap ((k:Int)+1)=(k:Int)+1:=by rw [IntKind.wrap_i64]; omega
   cases g:gd (z k)
   ·have hb:=m_bad (ag_not hlt g)
    rw [g] at cg
    have HB:=Lib.hid hb
    clear hb g r ha hc
    generalize mv z len=mm at *
    generalize me z len=ee at *
    generalize z k=v at *
    generalize sm z k=s at *
    go_wp2_with fail
    refine (cg _).mono ?_
    rintro e y0 ⟨rfl,hb⟩
    replace E:=b_trans E hb
    clear hb cg c0
    obtain ⟨rfl,rfl⟩:=HB.out
    go_wp2
    exact bodyPost_ret (v:=.tuple #[.int .i64 0,.int .i64 2]) (by simp [results,Tryz.results58,go_sem]) rfl ⟨rfl,E⟩
   ·have gr:=gd_range g
    have e0:=Lib.hid (ag_yes ha g)
    have e1:Hid (sm z (k+1)=sm z k+z k):=Lib.hid rfl
    rw [g] at cg
    clear g ha hc
    generalize z k=v at *
    generalize sm z k=s at *
    have wx:IntKind.i64.wrap (s+v)=s+v:=by rw [IntKind.wrap_i64]; omega
    go_wp2_with fail
    refine (cg _).mono ?_
    rintro e y0 ⟨rfl,hb⟩
    replace E:=b_trans E hb
    clear hb cg c0
    go_wp2
    refine ⟨⟨k+1,by omega,rfl,by rw [e1.out],e0.out,E⟩,?_⟩
    simp only [intOf]
    omega
  ·have hlk:¬ (k:Int)<len:=by omega
   have e:k=len:=by omega
   subst e
   have ct:=through_any z k ha hm
   clear hlt hk hc ha r
   go_wp2_with fail
   refine (ct _).mono ?_
   rintro e y0 ⟨rfl,hb⟩
   replace E:=b_trans E hb
   clear hb ct
   go_wp2
   exact bodyPost_ret (v:=.tuple #[.int .i64 (mv z k),.int .i64 (me z k)]) (by simp [results,Tryz.results58,go_sem]) rfl ⟨rfl,E⟩
end Go.Proofs.YtjifkmldigemkaaGreatDoor

import Derived.Laws.Cover1
import Derived.ChangeKeysEq
import Derived.Orders
import Derived.RegionTactic
import Derived.Below
import Derived.Test.YtdhnhmhgmnkajaaGreatDoorOae
import Derived.Test.YtdhnhmhgmnkajaaGreatDoorOab
import Derived.Test.YtdhnhmhgmnkajaaGreatDoorOaa
import Derived.Test.YtdhnhmhgmnkajaaGreatDoorOad
import Derived.Test.YtdhnhmhgmnkajaaGreatDoorOac
namespace Go.Proofs.YtdhnhmhgmnkajaaGreatDoor
open Go.RowKit Go.Shelf
theorem clo_add_0 (A B:Nat) (r0 r1 r2 s0 s1 s2 x e:Int) (w:World) (kA:TC w A r0 r1 r2) (kB:TC w B s0 s1 s2)
  (cT:∀ w,Calls Tryz.prog 110 #[.int .i64 r0,.int .i64 s0] w (RetV (.tuple #[.int .i64 x,.int .i64 e]) w)) :
  Calls Tryz.prog 132 #[.int .i64 0,.pointer (some ⟨A,0,none⟩),.pointer (some ⟨B,0,none⟩)] w (RetV (.tuple #[.int .i64 x,.int .i64 e]) w):=by
 go_enter Tryz.func132,Tryz.ntmps132
 go_wp2
 refine region_each [6,7,8,9,10,11,12,13,14] (fun i X_ U_=>match i with | 0=>X_=.int .i64 0 | 1=>X_=.pointer (some ⟨A,0,none⟩) | 2=>X_=.int .i64 r0 | 3=>X_=.int .i64 0 | 4=>X_=.pointer (some ⟨B,0,none⟩) | 5=>X_=.int .i64 s0 | 6=>X_=.tuple #[.int .i64 x,.int .i64 e] | 7=>X_=.int .i64 x | 8=>X_=.int .i64 e | _=>True) (fun i=>false) (by kernel_rfl) (by kernel_rfl) (by kernel_rfl) (by kernel_rfl) (by kernel_rfl) ?_ (fun i x w hi ha h=>by cases ha) ?_ ?_
 ·refine swp (upS (upS (upS (upS (upS (upS (upS (upS (upS up0 ?_) ?_) ?_) ?_) ?_) ?_) ?_) ?_) ?_)
  all_goals exact fun _ _ _ h _=>h
 ·refine upS (upS (upS (upS (upS (upS (upS (upS (upS up0 ?_) ?_) ?_) ?_) ?_) ?_) ?_) ?_) ?_
  all_goals intro v f w' hb hv hB hd
  ·have b0:f.tmps[0]?=some (.int .i64 0):=(hb 0 (by decide)).trans rfl
   clear hb hv hd
   refine wpOp_step rfl fun K hK=>?_
   go_simp
   exact hK _ _ ⟨_,rfl,Below.refl _ _,rfl,fun h=>absurd h (by decide)⟩
  ·have b1:f.tmps[1]?=some (.pointer (some ⟨A,0,none⟩)):=(hb 1 (by decide)).trans rfl
   have d0:=got (hv 0 6 rfl) (hd 0 (by kernel_rfl))
   clear hb hv hd
   refine wpOp_step rfl fun K hK=>?_
   go_simp
   exact hK _ _ ⟨_,rfl,Below.refl _ _,rfl,fun h=>absurd h (by decide)⟩
  ·have d1:=got (hv 1 7 rfl) (hd 1 (by kernel_rfl))
   clear hb hv hd
   have c:=tc_keep hB kA
   refine wpOp_step rfl fun K hK=>?_
   go_simp
   exact hK _ _ ⟨_,rfl,Below.refl _ _,rfl,fun h=>absurd h (by decide)⟩
  ·have b0:f.tmps[0]?=some (.int .i64 0):=(hb 0 (by decide)).trans rfl
   clear hb hv hd
   refine wpOp_step rfl fun K hK=>?_
   go_simp
   exact hK _ _ ⟨_,rfl,Below.refl _ _,rfl,fun h=>absurd h (by decide)⟩
  ·have b2:f.tmps[2]?=some (.pointer (some ⟨B,0,none⟩)):=(hb 2 (by decide)).trans rfl
   have d3:=got (hv 3 9 rfl) (hd 3 (by kernel_rfl))
   clear hb hv hd
   refine wpOp_step rfl fun K hK=>?_
   go_simp
   exact hK _ _ ⟨_,rfl,Below.refl _ _,rfl,fun h=>absurd h (by decide)⟩
  ·have d4:=got (hv 4 10 rfl) (hd 4 (by kernel_rfl))
   clear hb hv hd
   have c:=tc_keep hB kB
   refine wpOp_step rfl fun K hK=>?_
   go_simp
   exact hK _ _ ⟨_,rfl,Below.refl _ _,rfl,fun h=>absurd h (by decide)⟩
  ·have d2:=got (hv 2 8 rfl) (hd 2 (by kernel_rfl))
   have d5:=got (hv 5 11 rfl) (hd 5 (by kernel_rfl))
   clear hb hv hd
   refine wpOp_call rfl Tryz.call110 (args2 (eval_tmp d2) (eval_tmp d5)) (cT _) ?_
   rintro e5 w5 ⟨rfl,hb5⟩
   exact ⟨_,rfl,_,rfl,hb5,rfl,fun h=>absurd h (by decide)⟩
  ·have d6:=got (hv 6 12 rfl) (hd 6 (by kernel_rfl))
   clear hb hv hd
   refine wpOp_step rfl fun K hK=>?_
   go_simp
   exact hK _ _ ⟨_,rfl,Below.refl _ _,rfl,fun h=>absurd h (by decide)⟩
  ·have d6:=got (hv 6 12 rfl) (hd 6 (by kernel_rfl))
   clear hb hv hd
   refine wpOp_step rfl fun K hK=>?_
   go_simp
   exact hK _ _ ⟨_,rfl,Below.refl _ _,rfl,fun h=>absurd h (by decide)⟩
 ·intro v w' hB hF hD
  have F0:v 0=_:=hF 0 (by simp)
  have F1:v 1=_:=hF 1 (by simp)
  have F2:v 2=_:=hF 2 (by simp)
  have F3:v 3=_:=hF 3 (by simp)
  have F4:v 4=_:=hF 4 (by simp)
  have F5:v 5=_:=hF 5 (by simp)
  have F6:v 6=_:=hF 6 (by simp)
  have F7:v 7=_:=hF 7 (by simp)
  have F8:v 8=_:=hF 8 (by simp)
  clear hF
  simp only [frOf,frGo,Nat.zero_add,Nat.reduceAdd,F0,F1,F2,F3,F4,F5,F6,F7,F8]
  clear F0 F1 F2 F3 F4 F5 F6 F7 F8 hD cT
  go_wp2
  go_ret2
  exact ⟨rfl,hB⟩
theorem clo_add_1 (A B:Nat) (r0 r1 r2 s0 s1 s2 x e:Int) (w:World) (kA:TC w A r0 r1 r2) (kB:TC w B s0 s1 s2)
  (cT:∀ w,Calls Tryz.prog 110 #[.int .i64 r1,.int .i64 s1] w (RetV (.tuple #[.int .i64 x,.int .i64 e]) w)) :
  Calls Tryz.prog 132 #[.int .i64 1,.pointer (some ⟨A,0,none⟩),.pointer (some ⟨B,0,none⟩)] w (RetV (.tuple #[.int .i64 x,.int .i64 e]) w):=by
 go_enter Tryz.func132,Tryz.ntmps132
 go_wp2
 refine region_each [6,7,8,9,10,11,12,13,14] (fun i X_ U_=>match i with | 0=>X_=.int .i64 1 | 1=>X_=.pointer (some ⟨A,1,none⟩) | 2=>X_=.int .i64 r1 | 3=>X_=.int .i64 1 | 4=>X_=.pointer (some ⟨B,1,none⟩) | 5=>X_=.int .i64 s1 | 6=>X_=.tuple #[.int .i64 x,.int .i64 e] | 7=>X_=.int .i64 x | 8=>X_=.int .i64 e | _=>True) (fun i=>false) (by kernel_rfl) (by kernel_rfl) (by kernel_rfl) (by kernel_rfl) (by kernel_rfl) ?_ (fun i x w hi ha h=>by cases ha) ?_ ?_
 ·refine swp (upS (upS (upS (upS (upS (upS (upS (upS (upS up0 ?_) ?_) ?_) ?_) ?_) ?_) ?_) ?_) ?_)
  all_goals exact fun _ _ _ h _=>h
 ·refine upS (upS (upS (upS (upS (upS (upS (upS (upS up0 ?_) ?_) ?_) ?_) ?_) ?_) ?_) ?_) ?_
  all_goals intro v f w' hb hv hB hd
  ·have b0:f.tmps[0]?=some (.int .i64 1):=(hb 0 (by decide)).trans rfl
   clear hb hv hd
   refine wpOp_step rfl fun K hK=>?_
   go_simp
   exact hK _ _ ⟨_,rfl,Below.refl _ _,rfl,fun h=>absurd h (by decide)⟩
  ·have b1:f.tmps[1]?=some (.pointer (some ⟨A,0,none⟩)):=(hb 1 (by decide)).trans rfl
   have d0:=got (hv 0 6 rfl) (hd 0 (by kernel_rfl))
   clear hb hv hd
   refine wpOp_step rfl fun K hK=>?_
   go_simp
   exact hK _ _ ⟨_,rfl,Below.refl _ _,rfl,fun h=>absurd h (by decide)⟩
  ·have d1:=got (hv 1 7 rfl) (hd 1 (by kernel_rfl))
   clear hb hv hd
   have c:=tc_keep hB kA
   refine wpOp_step rfl fun K hK=>?_
   go_simp
   exact hK _ _ ⟨_,rfl,Below.refl _ _,rfl,fun h=>absurd h (by decide)⟩
  ·have b0:f.tmps[0]?=some (.int .i64 1):=(hb 0 (by decide)).trans rfl
   clear hb hv hd
   refine wpOp_step rfl fun K hK=>?_
   go_simp
   exact hK _ _ ⟨_,rfl,Below.refl _ _,rfl,fun h=>absurd h (by decide)⟩
  ·have b2:f.tmps[2]?=some (.pointer (some ⟨B,0,none⟩)):=(hb 2 (by decide)).trans rfl
   have d3:=got (hv 3 9 rfl) (hd 3 (by kernel_rfl))
   clear hb hv hd
   refine wpOp_step rfl fun K hK=>?_
   go_simp
   exact hK _ _ ⟨_,rfl,Below.refl _ _,rfl,fun h=>absurd h (by decide)⟩
  ·have d4:=got (hv 4 10 rfl) (hd 4 (by kernel_rfl))
   clear hb hv hd
   have c:=tc_keep hB kB
   refine wpOp_step rfl fun K hK=>?_
   go_simp
   exact hK _ _ ⟨_,rfl,Below.refl _ _,rfl,fun h=>absurd h (by decide)⟩
  ·have d2:=got (hv 2 8 rfl) (hd 2 (by kernel_rfl))
   have d5:=got (hv 5 11 rfl) (hd 5 (by kernel_rfl))
   clear hb hv hd
   refine wpOp_call rfl Tryz.call110 (args2 (eval_tmp d2) (eval_tmp d5)) (cT _) ?_
   rintro e5 w5 ⟨rfl,hb5⟩
   exact ⟨_,rfl,_,rfl,hb5,rfl,fun h=>absurd h (by decide)⟩
  ·have d6:=got (hv 6 12 rfl) (hd 6 (by kernel_rfl))
   clear hb hv hd
   refine wpOp_step rfl fun K hK=>?_
   go_simp
   exact hK _ _ ⟨_,rfl,Below.refl _ _,rfl,fun h=>absurd h (by decide)⟩
  ·have d6:=got (hv 6 12 rfl) (hd 6 (by kernel_rfl))
   clear hb hv hd
   refine wpOp_step rfl fun K hK=>?_
   go_simp
   exact hK _ _ ⟨_,rfl,Below.refl _ _,rfl,fun h=>absurd h (by decide)⟩
 ·intro v w' hB hF hD
  have F0:v 0=_:=hF 0 (by simp)
  have F1:v 1=_:=hF 1 (by simp)
  have F2:v 2=_:=hF 2 (by simp)
  have F3:v 3=_:=hF 3 (by simp)
  have F4:v 4=_:=hF 4 (by simp)
  have F5:v 5=_:=hF 5 (by simp)
  have F6:v 6=_:=hF 6 (by simp)
  have F7:v 7=_:=hF 7 (by simp)
  have F8:v 8=_:=hF 8 (by simp)
  clear hF
  simp only [frOf,frGo,Nat.zero_add,Nat.reduceAdd,F0,F1,F2,F3,F4,F5,F6,F7,F8]
  clear F0 F1 F2 F3 F4 F5 F6 F7 F8 hD cT
  go_wp2
  go_ret2
  exact ⟨rfl,hB⟩
theorem clo_add_2 (A B:Nat) (r0 r1 r2 s0 s1 s2 x e:Int) (w:World) (kA:TC w A r0 r1 r2) (kB:TC w B s0 s1 s2)
  (cT:∀ w,Calls Tryz.prog 110 #[.int .i64 r2,.int .i64 s2] w (RetV (.tuple #[.int .i64 x,.int .i64 e]) w)) :
  Calls Tryz.prog 132 #[.int .i64 2,.pointer (some ⟨A,0,none⟩),.pointer (some ⟨B,0,none⟩)] w (RetV (.tuple #[.int .i64 x,.int .i64 e]) w):=by
 go_enter Tryz.func132,Tryz.ntmps132
 go_wp2
 refine region_each [6,7,8,9,10,11,12,13,14] (fun i X_ U_=>match i with | 0=>X_=.int .i64 2 | 1=>X_=.pointer (some ⟨A,2,none⟩) | 2=>X_=.int .i64 r2 | 3=>X_=.int .i64 2 | 4=>X_=.pointer (some ⟨B,2,none⟩) | 5=>X_=.int .i64 s2 | 6=>X_=.tuple #[.int .i64 x,.int .i64 e] | 7=>X_=.int .i64 x | 8=>X_=.int .i64 e | _=>True) (fun i=>false) (by kernel_rfl) (by kernel_rfl) (by kernel_rfl) (by kernel_rfl) (by kernel_rfl) ?_ (fun i x w hi ha h=>by cases ha) ?_ ?_
 ·refine swp (upS (upS (upS (upS (upS (upS (upS (upS (upS up0 ?_) ?_) ?_) ?_) ?_) ?_) ?_) ?_) ?_)
  all_goals exact fun _ _ _ h _=>h
 ·refine upS (upS (upS (upS (upS (upS (upS (upS (upS up0 ?_) ?_) ?_) ?_) ?_) ?_) ?_) ?_) ?_
  all_goals intro v f w' hb hv hB hd
  ·have b0:f.tmps[0]?=some (.int .i64 2):=(hb 0 (by decide)).trans rfl
   clear hb hv hd
   refine wpOp_step rfl fun K hK=>?_
   go_simp
   exact hK _ _ ⟨_,rfl,Below.refl _ _,rfl,fun h=>absurd h (by decide)⟩
  ·have b1:f.tmps[1]?=some (.pointer (some ⟨A,0,none⟩)):=(hb 1 (by decide)).trans rfl
   have d0:=got (hv 0 6 rfl) (hd 0 (by kernel_rfl))
   clear hb hv hd
   refine wpOp_step rfl fun K hK=>?_
   go_simp
   exact hK _ _ ⟨_,rfl,Below.refl _ _,rfl,fun h=>absurd h (by decide)⟩
  ·have d1:=got (hv 1 7 rfl) (hd 1 (by kernel_rfl))
   clear hb hv hd
   have c:=tc_keep hB kA
   refine wpOp_step rfl fun K hK=>?_
   go_simp
   exact hK _ _ ⟨_,rfl,Below.refl _ _,rfl,fun h=>absurd h (by decide)⟩
  ·have b0:f.tmps[0]?=some (.int .i64 2):=(hb 0 (by decide)).trans rfl
   clear hb hv hd
   refine wpOp_step rfl fun K hK=>?_
   go_simp
   exact hK _ _ ⟨_,rfl,Below.refl _ _,rfl,fun h=>absurd h (by decide)⟩
  ·have b2:f.tmps[2]?=some (.pointer (some ⟨B,0,none⟩)):=(hb 2 (by decide)).trans rfl
   have d3:=got (hv 3 9 rfl) (hd 3 (by kernel_rfl))
   clear hb hv hd
   refine wpOp_step rfl fun K hK=>?_
   go_simp
   exact hK _ _ ⟨_,rfl,Below.refl _ _,rfl,fun h=>absurd h (by decide)⟩
  ·have d4:=got (hv 4 10 rfl) (hd 4 (by kernel_rfl))
   clear hb hv hd
   have c:=tc_keep hB kB
   refine wpOp_step rfl fun K hK=>?_
   go_simp
   exact hK _ _ ⟨_,rfl,Below.refl _ _,rfl,fun h=>absurd h (by decide)⟩
  ·have d2:=got (hv 2 8 rfl) (hd 2 (by kernel_rfl))
   have d5:=got (hv 5 11 rfl) (hd 5 (by kernel_rfl))
   clear hb hv hd
   refine wpOp_call rfl Tryz.call110 (args2 (eval_tmp d2) (eval_tmp d5)) (cT _) ?_
   rintro e5 w5 ⟨rfl,hb5⟩
   exact ⟨_,rfl,_,rfl,hb5,rfl,fun h=>absurd h (by decide)⟩
  ·have d6:=got (hv 6 12 rfl) (hd 6 (by kernel_rfl))
   clear hb hv hd
   refine wpOp_step rfl fun K hK=>?_
   go_simp
   exact hK _ _ ⟨_,rfl,Below.refl _ _,rfl,fun h=>absurd h (by decide)⟩
  ·have d6:=got (hv 6 12 rfl) (hd 6 (by kernel_rfl))
   clear hb hv hd
   refine wpOp_step rfl fun K hK=>?_
   go_simp
   exact hK _ _ ⟨_,rfl,Below.refl _ _,rfl,fun h=>absurd h (by decide)⟩
 ·intro v w' hB hF hD
  have F0:v 0=_:=hF 0 (by simp)
  have F1:v 1=_:=hF 1 (by simp)
  have F2:v 2=_:=hF 2 (by simp)
  have F3:v 3=_:=hF 3 (by simp)
  have F4:v 4=_:=hF 4 (by simp)
  have F5:v 5=_:=hF 5 (by simp)
  have F6:v 6=_:=hF 6 (by simp)
  have F7:v 7=_:=hF 7 (by simp)
  have F8:v 8=_:=hF 8 (by simp)
  clear hF
  simp only [frOf,frGo,Nat.zero_add,Nat.reduceAdd,F0,F1,F2,F3,F4,F5,F6,F7,F8]
  clear F0 F1 F2 F3 F4 F5 F6 F7 F8 hD cT
  go_wp2
  go_ret2
  exact ⟨rfl,hB⟩
theorem clo_scale_0 (A B:Nat) (r0 r1 r2 k x e:Int) (w:World) (kA:TC w A r0 r1 r2) (kB:w.cell? ⟨B,0,none⟩=some (.int .i64 k))
  (cT:∀ w,Calls Tryz.prog 150 #[.int .i64 r0,.int .i64 k] w (RetV (.tuple #[.int .i64 x,.int .i64 e]) w)) :
  Calls Tryz.prog 149 #[.int .i64 0,.pointer (some ⟨A,0,none⟩),.pointer (some ⟨B,0,none⟩)] w (RetV (.tuple #[.int .i64 x,.int .i64 e]) w):=by
 go_enter Tryz.func149,Tryz.ntmps149
 go_wp2
 refine region_each [6,7,8,9,10,11,12] (fun i X_ U_=>match i with | 0=>X_=.int .i64 0 | 1=>X_=.pointer (some ⟨A,0,none⟩) | 2=>X_=.int .i64 r0 | 3=>X_=.int .i64 k | 4=>X_=.tuple #[.int .i64 x,.int .i64 e] | 5=>X_=.int .i64 x | 6=>X_=.int .i64 e | _=>True) (fun i=>false) (by kernel_rfl) (by kernel_rfl) (by kernel_rfl) (by kernel_rfl) (by kernel_rfl) ?_ (fun i x w hi ha h=>by cases ha) ?_ ?_
 ·refine swp (upS (upS (upS (upS (upS (upS (upS up0 ?_) ?_) ?_) ?_) ?_) ?_) ?_)
  all_goals exact fun _ _ _ h _=>h
 ·refine upS (upS (upS (upS (upS (upS (upS up0 ?_) ?_) ?_) ?_) ?_) ?_) ?_
  all_goals intro v f w' hb hv hB hd
  ·have b0:f.tmps[0]?=some (.int .i64 0):=(hb 0 (by decide)).trans rfl
   clear hb hv hd
   refine wpOp_step rfl fun K hK=>?_
   go_simp
   exact hK _ _ ⟨_,rfl,Below.refl _ _,rfl,fun h=>absurd h (by decide)⟩
  ·have b1:f.tmps[1]?=some (.pointer (some ⟨A,0,none⟩)):=(hb 1 (by decide)).trans rfl
   have d0:=got (hv 0 6 rfl) (hd 0 (by kernel_rfl))
   clear hb hv hd
   refine wpOp_step rfl fun K hK=>?_
   go_simp
   exact hK _ _ ⟨_,rfl,Below.refl _ _,rfl,fun h=>absurd h (by decide)⟩
  ·have d1:=got (hv 1 7 rfl) (hd 1 (by kernel_rfl))
   clear hb hv hd
   have c:=tc_keep hB kA
   refine wpOp_step rfl fun K hK=>?_
   go_simp
   exact hK _ _ ⟨_,rfl,Below.refl _ _,rfl,fun h=>absurd h (by decide)⟩
  ·have b2:f.tmps[2]?=some (.pointer (some ⟨B,0,none⟩)):=(hb 2 (by decide)).trans rfl
   clear hb hv hd
   have c:=cell_keep hB kB
   refine wpOp_step rfl fun K hK=>?_
   go_simp
   exact hK _ _ ⟨_,rfl,Below.refl _ _,rfl,fun h=>absurd h (by decide)⟩
  ·have d2:=got (hv 2 8 rfl) (hd 2 (by kernel_rfl))
   have d3:=got (hv 3 9 rfl) (hd 3 (by kernel_rfl))
   clear hb hv hd
   refine wpOp_call rfl Tryz.call150 (args2 (eval_tmp d2) (eval_tmp d3)) (cT _) ?_
   rintro e5 w5 ⟨rfl,hb5⟩
   exact ⟨_,rfl,_,rfl,hb5,rfl,fun h=>absurd h (by decide)⟩
  ·have d4:=got (hv 4 10 rfl) (hd 4 (by kernel_rfl))
   clear hb hv hd
   refine wpOp_step rfl fun K hK=>?_
   go_simp
   exact hK _ _ ⟨_,rfl,Below.refl _ _,rfl,fun h=>absurd h (by decide)⟩
  ·have d4:=got (hv 4 10 rfl) (hd 4 (by kernel_rfl))
   clear hb hv hd
   refine wpOp_step rfl fun K hK=>?_
   go_simp
   exact hK _ _ ⟨_,rfl,Below.refl _ _,rfl,fun h=>absurd h (by decide)⟩
 ·intro v w' hB hF hD
  have F0:v 0=_:=hF 0 (by simp)
  have F1:v 1=_:=hF 1 (by simp)
  have F2:v 2=_:=hF 2 (by simp)
  have F3:v 3=_:=hF 3 (by simp)
  have F4:v 4=_:=hF 4 (by simp)
  have F5:v 5=_:=hF 5 (by simp)
  have F6:v 6=_:=hF 6 (by simp)
  clear hF
  simp only [frOf,frGo,Nat.zero_add,Nat.reduceAdd,F0,F1,F2,F3,F4,F5,F6]
  clear F0 F1 F2 F3 F4 F5 F6 hD cT
  go_wp2
  go_ret2
  exact ⟨rfl,hB⟩
theorem clo_scale_1 (A B:Nat) (r0 r1 r2 k x e:Int) (w:World) (kA:TC w A r0 r1 r2) (kB:w.cell? ⟨B,0,none⟩=some (.int .i64 k))
  (cT:∀ w,Calls Tryz.prog 150 #[.int .i64 r1,.int .i64 k] w (RetV (.tuple #[.int .i64 x,.int .i64 e]) w)) :
  Calls Tryz.prog 149 #[.int .i64 1,.pointer (some ⟨A,0,none⟩),.pointer (some ⟨B,0,none⟩)] w (RetV (.tuple #[.int .i64 x,.int .i64 e]) w):=by
 go_enter Tryz.func149,Tryz.ntmps149
 go_wp2
 refine region_each [6,7,8,9,10,11,12] (fun i X_ U_=>match i with | 0=>X_=.int .i64 1 | 1=>X_=.pointer (some ⟨A,1,none⟩) | 2=>X_=.int .i64 r1 | 3=>X_=.int .i64 k | 4=>X_=.tuple #[.int .i64 x,.int .i64 e] | 5=>X_=.int .i64 x | 6=>X_=.int .i64 e | _=>True) (fun i=>false) (by kernel_rfl) (by kernel_rfl) (by kernel_rfl) (by kernel_rfl) (by kernel_rfl) ?_ (fun i x w hi ha h=>by cases ha) ?_ ?_
 ·refine swp (upS (upS (upS (upS (upS (upS (upS up0 ?_) ?_) ?_) ?_) ?_) ?_) ?_)
  all_goals exact fun _ _ _ h _=>h
 ·refine upS (upS (upS (upS (upS (upS (upS up0 ?_) ?_) ?_) ?_) ?_) ?_) ?_
  all_goals intro v f w' hb hv hB hd
  ·have b0:f.tmps[0]?=some (.int .i64 1):=(hb 0 (by decide)).trans rfl
   clear hb hv hd
   refine wpOp_step rfl fun K hK=>?_
   go_simp
   exact hK _ _ ⟨_,rfl,Below.refl _ _,rfl,fun h=>absurd h (by decide)⟩
  ·have b1:f.tmps[1]?=some (.pointer (some ⟨A,0,none⟩)):=(hb 1 (by decide)).trans rfl
   have d0:=got (hv 0 6 rfl) (hd 0 (by kernel_rfl))
   clear hb hv hd
   refine wpOp_step rfl fun K hK=>?_
   go_simp
   exact hK _ _ ⟨_,rfl,Below.refl _ _,rfl,fun h=>absurd h (by decide)⟩
  ·have d1:=got (hv 1 7 rfl) (hd 1 (by kernel_rfl))
   clear hb hv hd
   have c:=tc_keep hB kA
   refine wpOp_step rfl fun K hK=>?_
   go_simp
   exact hK _ _ ⟨_,rfl,Below.refl _ _,rfl,fun h=>absurd h (by decide)⟩
  ·have b2:f.tmps[2]?=some (.pointer (some ⟨B,0,none⟩)):=(hb 2 (by decide)).trans rfl
   clear hb hv hd
   have c:=cell_keep hB kB
   refine wpOp_step rfl fun K hK=>?_
   go_simp
   exact hK _ _ ⟨_,rfl,Below.refl _ _,rfl,fun h=>absurd h (by decide)⟩
  ·have d2:=got (hv 2 8 rfl) (hd 2 (by kernel_rfl))
   have d3:=got (hv 3 9 rfl) (hd 3 (by kernel_rfl))
   clear hb hv hd
   refine wpOp_call rfl Tryz.call150 (args2 (eval_tmp d2) (eval_tmp d3)) (cT _) ?_
   rintro e5 w5 ⟨rfl,hb5⟩
   exact ⟨_,rfl,_,rfl,hb5,rfl,fun h=>absurd h (by decide)⟩
  ·have d4:=got (hv 4 10 rfl) (hd 4 (by kernel_rfl))
   clear hb hv hd
   refine wpOp_step rfl fun K hK=>?_
   go_simp
   exact hK _ _ ⟨_,rfl,Below.refl _ _,rfl,fun h=>absurd h (by decide)⟩
  ·have d4:=got (hv 4 10 rfl) (hd 4 (by kernel_rfl))
   clear hb hv hd
   refine wpOp_step rfl fun K hK=>?_
   go_simp
   exact hK _ _ ⟨_,rfl,Below.refl _ _,rfl,fun h=>absurd h (by decide)⟩
 ·intro v w' hB hF hD
  have F0:v 0=_:=hF 0 (by simp)
  have F1:v 1=_:=hF 1 (by simp)
  have F2:v 2=_:=hF 2 (by simp)
  have F3:v 3=_:=hF 3 (by simp)
  have F4:v 4=_:=hF 4 (by simp)
  have F5:v 5=_:=hF 5 (by simp)
  have F6:v 6=_:=hF 6 (by simp)
  clear hF
  simp only [frOf,frGo,Nat.zero_add,Nat.reduceAdd,F0,F1,F2,F3,F4,F5,F6]
  clear F0 F1 F2 F3 F4 F5 F6 hD cT
  go_wp2
  go_ret2
  exact ⟨rfl,hB⟩
theorem clo_scale_2 (A B:Nat) (r0 r1 r2 k x e:Int) (w:World) (kA:TC w A r0 r1 r2) (kB:w.cell? ⟨B,0,none⟩=some (.int .i64 k))
  (cT:∀ w,Calls Tryz.prog 150 #[.int .i64 r2,.int .i64 k] w (RetV (.tuple #[.int .i64 x,.int .i64 e]) w)) :
  Calls Tryz.prog 149 #[.int .i64 2,.pointer (some ⟨A,0,none⟩),.pointer (some ⟨B,0,none⟩)] w (RetV (.tuple #[.int .i64 x,.int .i64 e]) w):=by
 go_enter Tryz.func149,Tryz.ntmps149
 go_wp2
 refine region_each [6,7,8,9,10,11,12] (fun i X_ U_=>match i with | 0=>X_=.int .i64 2 | 1=>X_=.pointer (some ⟨A,2,none⟩) | 2=>X_=.int .i64 r2 | 3=>X_=.int .i64 k | 4=>X_=.tuple #[.int .i64 x,.int .i64 e] | 5=>X_=.int .i64 x | 6=>X_=.int .i64 e | _=>True) (fun i=>false) (by kernel_rfl) (by kernel_rfl) (by kernel_rfl) (by kernel_rfl) (by kernel_rfl) ?_ (fun i x w hi ha h=>by cases ha) ?_ ?_
 ·refine swp (upS (upS (upS (upS (upS (upS (upS up0 ?_) ?_) ?_) ?_) ?_) ?_) ?_)
  all_goals exact fun _ _ _ h _=>h
 ·refine upS (upS (upS (upS (upS (upS (upS up0 ?_) ?_) ?_) ?_) ?_) ?_) ?_
  all_goals intro v f w' hb hv hB hd
  ·have b0:f.tmps[0]?=some (.int .i64 2):=(hb 0 (by decide)).trans rfl
   clear hb hv hd
   refine wpOp_step rfl fun K hK=>?_
   go_simp
   exact hK _ _ ⟨_,rfl,Below.refl _ _,rfl,fun h=>absurd h (by decide)⟩
  ·have b1:f.tmps[1]?=some (.pointer (some ⟨A,0,none⟩)):=(hb 1 (by decide)).trans rfl
   have d0:=got (hv 0 6 rfl) (hd 0 (by kernel_rfl))
   clear hb hv hd
   refine wpOp_step rfl fun K hK=>?_
   go_simp
   exact hK _ _ ⟨_,rfl,Below.refl _ _,rfl,fun h=>absurd h (by decide)⟩
  ·have d1:=got (hv 1 7 rfl) (hd 1 (by kernel_rfl))
   clear hb hv hd
   have c:=tc_keep hB kA
   refine wpOp_step rfl fun K hK=>?_
   go_simp
   exact hK _ _ ⟨_,rfl,Below.refl _ _,rfl,fun h=>absurd h (by decide)⟩
  ·have b2:f.tmps[2]?=some (.pointer (some ⟨B,0,none⟩)):=(hb 2 (by decide)).trans rfl
   clear hb hv hd
   have c:=cell_keep hB kB
   refine wpOp_step rfl fun K hK=>?_
   go_simp
   exact hK _ _ ⟨_,rfl,Below.refl _ _,rfl,fun h=>absurd h (by decide)⟩
  ·have d2:=got (hv 2 8 rfl) (hd 2 (by kernel_rfl))
   have d3:=got (hv 3 9 rfl) (hd 3 (by kernel_rfl))
   clear hb hv hd
   refine wpOp_call rfl Tryz.call150 (args2 (eval_tmp d2) (eval_tmp d3)) (cT _) ?_
   rintro e5 w5 ⟨rfl,hb5⟩
   exact ⟨_,rfl,_,rfl,hb5,rfl,fun h=>absurd h (by decide)⟩
  ·have d4:=got (hv 4 10 rfl) (hd 4 (by kernel_rfl))
   clear hb hv hd
   refine wpOp_step rfl fun K hK=>?_
   go_simp
   exact hK _ _ ⟨_,rfl,Below.refl _ _,rfl,fun h=>absurd h (by decide)⟩
  ·have d4:=got (hv 4 10 rfl) (hd 4 (by kernel_rfl))
   clear hb hv hd
   refine wpOp_step rfl fun K hK=>?_
   go_simp
   exact hK _ _ ⟨_,rfl,Below.refl _ _,rfl,fun h=>absurd h (by decide)⟩
 ·intro v w' hB hF hD
  have F0:v 0=_:=hF 0 (by simp)
  have F1:v 1=_:=hF 1 (by simp)
  have F2:v 2=_:=hF 2 (by simp)
  have F3:v 3=_:=hF 3 (by simp)
  have F4:v 4=_:=hF 4 (by simp)
  have F5:v 5=_:=hF 5 (by simp)
  have F6:v 6=_:=hF 6 (by simp)
  clear hF
  simp only [frOf,frGo,Nat.zero_add,Nat.reduceAdd,F0,F1,F2,F3,F4,F5,F6]
  clear F0 F1 F2 F3 F4 F5 F6 hD cT
  go_wp2
  go_ret2
  exact ⟨rfl,hB⟩
theorem clo_clamp_0 (A B:Nat) (r0 r1 r2 s0 s1 s2 x:Int) (w:World) (kA:TC w A r0 r1 r2) (kB:TC w B s0 s1 s2)
  (cT:∀ w,Calls Tryz.prog 134 #[.int .i64 r0,.int .i64 s0] w fun e1 w'=>e1=.returned (.int .i64 x)∧w=w') :
  Calls Tryz.prog 133 #[.int .i64 0,.pointer (some ⟨A,0,none⟩),.pointer (some ⟨B,0,none⟩)] w (RetV (.tuple #[.int .i64 x,.int .i64 0]) w):=by
 go_enter Tryz.func133,Tryz.ntmps133
 go_wp2
 refine region_each [6,7,8,9,10,11,12] (fun i X_ U_=>match i with | 0=>X_=.int .i64 0 | 1=>X_=.pointer (some ⟨A,0,none⟩) | 2=>X_=.int .i64 r0 | 3=>X_=.int .i64 0 | 4=>X_=.pointer (some ⟨B,0,none⟩) | 5=>X_=.int .i64 s0 | 6=>X_=.int .i64 x | _=>True) (fun i=>false) (by kernel_rfl) (by kernel_rfl) (by kernel_rfl) (by kernel_rfl) (by kernel_rfl) ?_ (fun i x w hi ha h=>by cases ha) ?_ ?_
 ·refine swp (upS (upS (upS (upS (upS (upS (upS up0 ?_) ?_) ?_) ?_) ?_) ?_) ?_)
  all_goals exact fun _ _ _ h _=>h
 ·refine upS (upS (upS (upS (upS (upS (upS up0 ?_) ?_) ?_) ?_) ?_) ?_) ?_
  all_goals intro v f w' hb hv hB hd
  ·have b0:f.tmps[0]?=some (.int .i64 0):=(hb 0 (by decide)).trans rfl
   clear hb hv hd
   refine wpOp_step rfl fun K hK=>?_
   go_simp
   exact hK _ _ ⟨_,rfl,Below.refl _ _,rfl,fun h=>absurd h (by decide)⟩
  ·have b1:f.tmps[1]?=some (.pointer (some ⟨A,0,none⟩)):=(hb 1 (by decide)).trans rfl
   have d0:=got (hv 0 6 rfl) (hd 0 (by kernel_rfl))
   clear hb hv hd
   refine wpOp_step rfl fun K hK=>?_
   go_simp
   exact hK _ _ ⟨_,rfl,Below.refl _ _,rfl,fun h=>absurd h (by decide)⟩
  ·have d1:=got (hv 1 7 rfl) (hd 1 (by kernel_rfl))
   clear hb hv hd
   have c:=tc_keep hB kA
   refine wpOp_step rfl fun K hK=>?_
   go_simp
   exact hK _ _ ⟨_,rfl,Below.refl _ _,rfl,fun h=>absurd h (by decide)⟩
  ·have b0:f.tmps[0]?=some (.int .i64 0):=(hb 0 (by decide)).trans rfl
   clear hb hv hd
   refine wpOp_step rfl fun K hK=>?_
   go_simp
   exact hK _ _ ⟨_,rfl,Below.refl _ _,rfl,fun h=>absurd h (by decide)⟩
  ·have b2:f.tmps[2]?=some (.pointer (some ⟨B,0,none⟩)):=(hb 2 (by decide)).trans rfl
   have d3:=got (hv 3 9 rfl) (hd 3 (by kernel_rfl))
   clear hb hv hd
   refine wpOp_step rfl fun K hK=>?_
   go_simp
   exact hK _ _ ⟨_,rfl,Below.refl _ _,rfl,fun h=>absurd h (by decide)⟩
  ·have d4:=got (hv 4 10 rfl) (hd 4 (by kernel_rfl))
   clear hb hv hd
   have c:=tc_keep hB kB
   refine wpOp_step rfl fun K hK=>?_
   go_simp
   exact hK _ _ ⟨_,rfl,Below.refl _ _,rfl,fun h=>absurd h (by decide)⟩
  ·have d2:=got (hv 2 8 rfl) (hd 2 (by kernel_rfl))
   have d5:=got (hv 5 11 rfl) (hd 5 (by kernel_rfl))
   clear hb hv hd
   refine wpOp_call rfl Tryz.call134 (args2 (eval_tmp d2) (eval_tmp d5)) (cT _) ?_
   rintro e5 w5 ⟨rfl,rfl⟩
   exact ⟨_,rfl,_,rfl,Below.refl _ _,rfl,fun h=>absurd h (by decide)⟩
 ·intro v w' hB hF hD
  have F0:v 0=_:=hF 0 (by simp)
  have F1:v 1=_:=hF 1 (by simp)
  have F2:v 2=_:=hF 2 (by simp)
  have F3:v 3=_:=hF 3 (by simp)
  have F4:v 4=_:=hF 4 (by simp)
  have F5:v 5=_:=hF 5 (by simp)
  have F6:v 6=_:=hF 6 (by simp)
  clear hF
  simp only [frOf,frGo,Nat.zero_add,Nat.reduceAdd,F0,F1,F2,F3,F4,F5,F6]
  clear F0 F1 F2 F3 F4 F5 F6 hD cT
  go_wp2
  go_ret2
  exact ⟨rfl,hB⟩
theorem clo_clamp_1 (A B:Nat) (r0 r1 r2 s0 s1 s2 x:Int) (w:World) (kA:TC w A r0 r1 r2) (kB:TC w B s0 s1 s2)
  (cT:∀ w,Calls Tryz.prog 134 #[.int .i64 r1,.int .i64 s1] w fun e1 w'=>e1=.returned (.int .i64 x)∧w=w') :
  Calls Tryz.prog 133 #[.int .i64 1,.pointer (some ⟨A,0,none⟩),.pointer (some ⟨B,0,none⟩)] w (RetV (.tuple #[.int .i64 x,.int .i64 0]) w):=by
 go_enter Tryz.func133,Tryz.ntmps133
 go_wp2
 refine region_each [6,7,8,9,10,11,12] (fun i X_ U_=>match i with | 0=>X_=.int .i64 1 | 1=>X_=.pointer (some ⟨A,1,none⟩) | 2=>X_=.int .i64 r1 | 3=>X_=.int .i64 1 | 4=>X_=.pointer (some ⟨B,1,none⟩) | 5=>X_=.int .i64 s1 | 6=>X_=.int .i64 x | _=>True) (fun i=>false) (by kernel_rfl) (by kernel_rfl) (by kernel_rfl) (by kernel_rfl) (by kernel_rfl) ?_ (fun i x w hi ha h=>by cases ha) ?_ ?_
 ·refine swp (upS (upS (upS (upS (upS (upS (upS up0 ?_) ?_) ?_) ?_) ?_) ?_) ?_)
  all_goals exact fun _ _ _ h _=>h
 ·refine upS (upS (upS (upS (upS (upS (upS up0 ?_) ?_) ?_) ?_) ?_) ?_) ?_
  all_goals intro v f w' hb hv hB hd
  ·have b0:f.tmps[0]?=some (.int .i64 1):=(hb 0 (by decide)).trans rfl
   clear hb hv hd
   refine wpOp_step rfl fun K hK=>?_
   go_simp
   exact hK _ _ ⟨_,rfl,Below.refl _ _,rfl,fun h=>absurd h (by decide)⟩
  ·have b1:f.tmps[1]?=some (.pointer (some ⟨A,0,none⟩)):=(hb 1 (by decide)).trans rfl
   have d0:=got (hv 0 6 rfl) (hd 0 (by kernel_rfl))
   clear hb hv hd
   refine wpOp_step rfl fun K hK=>?_
   go_simp
   exact hK _ _ ⟨_,rfl,Below.refl _ _,rfl,fun h=>absurd h (by decide)⟩
  ·have d1:=got (hv 1 7 rfl) (hd 1 (by kernel_rfl))
   clear hb hv hd
   have c:=tc_keep hB kA
   refine wpOp_step rfl fun K hK=>?_
   go_simp
   exact hK _ _ ⟨_,rfl,Below.refl _ _,rfl,fun h=>absurd h (by decide)⟩
  ·have b0:f.tmps[0]?=some (.int .i64 1):=(hb 0 (by decide)).trans rfl
   clear hb hv hd
   refine wpOp_step rfl fun K hK=>?_
   go_simp
   exact hK _ _ ⟨_,rfl,Below.refl _ _,rfl,fun h=>absurd h (by decide)⟩
  ·have b2:f.tmps[2]?=some (.pointer (some ⟨B,0,none⟩)):=(hb 2 (by decide)).trans rfl
   have d3:=got (hv 3 9 rfl) (hd 3 (by kernel_rfl))
   clear hb hv hd
   refine wpOp_step rfl fun K hK=>?_
   go_simp
   exact hK _ _ ⟨_,rfl,Below.refl _ _,rfl,fun h=>absurd h (by decide)⟩
  ·have d4:=got (hv 4 10 rfl) (hd 4 (by kernel_rfl))
   clear hb hv hd
   have c:=tc_keep hB kB
   refine wpOp_step rfl fun K hK=>?_
   go_simp
   exact hK _ _ ⟨_,rfl,Below.refl _ _,rfl,fun h=>absurd h (by decide)⟩
  ·have d2:=got (hv 2 8 rfl) (hd 2 (by kernel_rfl))
   have d5:=got (hv 5 11 rfl) (hd 5 (by kernel_rfl))
   clear hb hv hd
   refine wpOp_call rfl Tryz.call134 (args2 (eval_tmp d2) (eval_tmp d5)) (cT _) ?_
   rintro e5 w5 ⟨rfl,rfl⟩
   exact ⟨_,rfl,_,rfl,Below.refl _ _,rfl,fun h=>absurd h (by decide)⟩
 ·intro v w' hB hF hD
  have F0:v 0=_:=hF 0 (by simp)
  have F1:v 1=_:=hF 1 (by simp)
  have F2:v 2=_:=hF 2 (by simp)
  have F3:v 3=_:=hF 3 (by simp)
  have F4:v 4=_:=hF 4 (by simp)
  have F5:v 5=_:=hF 5 (by simp)
  have F6:v 6=_:=hF 6 (by simp)
  clear hF
  simp only [frOf,frGo,Nat.zero_add,Nat.reduceAdd,F0,F1,F2,F3,F4,F5,F6]
  clear F0 F1 F2 F3 F4 F5 F6 hD cT
  go_wp2
  go_ret2
  exact ⟨rfl,hB⟩
theorem clo_clamp_2 (A B:Nat) (r0 r1 r2 s0 s1 s2 x:Int) (w:World) (kA:TC w A r0 r1 r2) (kB:TC w B s0 s1 s2)
  (cT:∀ w,Calls Tryz.prog 134 #[.int .i64 r2,.int .i64 s2] w fun e1 w'=>e1=.returned (.int .i64 x)∧w=w') :
  Calls Tryz.prog 133 #[.int .i64 2,.pointer (some ⟨A,0,none⟩),.pointer (some ⟨B,0,none⟩)] w (RetV (.tuple #[.int .i64 x,.int .i64 0]) w):=by
 go_enter Tryz.func133,Tryz.ntmps133
 go_wp2
 refine region_each [6,7,8,9,10,11,12] (fun i X_ U_=>match i with | 0=>X_=.int .i64 2 | 1=>X_=.pointer (some ⟨A,2,none⟩) | 2=>X_=.int .i64 r2 | 3=>X_=.int .i64 2 | 4=>X_=.pointer (some ⟨B,2,none⟩) | 5=>X_=.int .i64 s2 | 6=>X_=.int .i64 x | _=>True) (fun i=>false) (by kernel_rfl) (by kernel_rfl) (by kernel_rfl) (by kernel_rfl) (by kernel_rfl) ?_ (fun i x w hi ha h=>by cases ha) ?_ ?_
 ·refine swp (upS (upS (upS (upS (upS (upS (upS up0 ?_) ?_) ?_) ?_) ?_) ?_) ?_)
  all_goals exact fun _ _ _ h _=>h
 ·refine upS (upS (upS (upS (upS (upS (upS up0 ?_) ?_) ?_) ?_) ?_) ?_) ?_
  all_goals intro v f w' hb hv hB hd
  ·have b0:f.tmps[0]?=some (.int .i64 2):=(hb 0 (by decide)).trans rfl
   clear hb hv hd
   refine wpOp_step rfl fun K hK=>?_
   go_simp
   exact hK _ _ ⟨_,rfl,Below.refl _ _,rfl,fun h=>absurd h (by decide)⟩
  ·have b1:f.tmps[1]?=some (.pointer (some ⟨A,0,none⟩)):=(hb 1 (by decide)).trans rfl
   have d0:=got (hv 0 6 rfl) (hd 0 (by kernel_rfl))
   clear hb hv hd
   refine wpOp_step rfl fun K hK=>?_
   go_simp
   exact hK _ _ ⟨_,rfl,Below.refl _ _,rfl,fun h=>absurd h (by decide)⟩
  ·have d1:=got (hv 1 7 rfl) (hd 1 (by kernel_rfl))
   clear hb hv hd
   have c:=tc_keep hB kA
   refine wpOp_step rfl fun K hK=>?_
   go_simp
   exact hK _ _ ⟨_,rfl,Below.refl _ _,rfl,fun h=>absurd h (by decide)⟩
  ·have b0:f.tmps[0]?=some (.int .i64 2):=(hb 0 (by decide)).trans rfl
   clear hb hv hd
   refine wpOp_step rfl fun K hK=>?_
   go_simp
   exact hK _ _ ⟨_,rfl,Below.refl _ _,rfl,fun h=>absurd h (by decide)⟩
  ·have b2:f.tmps[2]?=some (.pointer (some ⟨B,0,none⟩)):=(hb 2 (by decide)).trans rfl
   have d3:=got (hv 3 9 rfl) (hd 3 (by kernel_rfl))
   clear hb hv hd
   refine wpOp_step rfl fun K hK=>?_
   go_simp
   exact hK _ _ ⟨_,rfl,Below.refl _ _,rfl,fun h=>absurd h (by decide)⟩
  ·have d4:=got (hv 4 10 rfl) (hd 4 (by kernel_rfl))
   clear hb hv hd
   have c:=tc_keep hB kB
   refine wpOp_step rfl fun K hK=>?_
   go_simp
   exact hK _ _ ⟨_,rfl,Below.refl _ _,rfl,fun h=>absurd h (by decide)⟩
  ·have d2:=got (hv 2 8 rfl) (hd 2 (by kernel_rfl))
   have d5:=got (hv 5 11 rfl) (hd 5 (by kernel_rfl))
   clear hb hv hd
   refine wpOp_call rfl Tryz.call134 (args2 (eval_tmp d2) (eval_tmp d5)) (cT _) ?_
   rintro e5 w5 ⟨rfl,rfl⟩
   exact ⟨_,rfl,_,rfl,Below.refl _ _,rfl,fun h=>absurd h (by decide)⟩
 ·intro v w' hB hF hD
  have F0:v 0=_:=hF 0 (by simp)
  have F1:v 1=_:=hF 1 (by simp)
  have F2:v 2=_:=hF 2 (by simp)
  have F3:v 3=_:=hF 3 (by simp)
  have F4:v 4=_:=hF 4 (by simp)
  have F5:v 5=_:=hF 5 (by simp)
  have F6:v 6=_:=hF 6 (by simp)
  clear hF
  simp only [frOf,frGo,Nat.zero_add,Nat.reduceAdd,F0,F1,F2,F3,F4,F5,F6]
  clear F0 F1 F2 F3 F4 F5 F6 hD cT
  go_wp2
  go_ret2
  exact ⟨rfl,hB⟩
end Go.Proofs.YtdhnhmhgmnkajaaGreatDoor
namespace Go.Proofs.YtdhnhmhgmnkajaaGreatDoor
open Go.RowKit Go.Shelf
theorem ef_evn (x:Int) {y:Int} (h:0<y):ef x y=evn x y:=by
 unfold ef qf rf sg evn
 rw [if_neg (by omega),show (y.natAbs:Int)=y by omega]
def bq (m:Nat→Int) (s:Int) (i:Nat):Int:=evn (m i*1099511627776) s
def BK (m:Nat→Int) (s:Int):Prop:=F6 m∧FitP s∧1≤s
def BF (m:Nat→Int) (s:Int):Prop:=FitP (bq m s 0)∧FitP (bq m s 1)∧FitP (bq m s 2)
instance (m:Nat→Int) (s:Int):Decidable (BK m s):=by unfold BK; infer_instance
instance (m:Nat→Int) (s:Int):Decidable (BF m s):=by unfold BF; infer_instance
def bz (m:Nat→Int) (s:Int) (i:Nat):Int:=if BK m s∧BF m s then bq m s i else 0
def be (m:Nat→Int) (s:Int):Int:=if BK m s then (if BF m s then 0 else 3) else 1
theorem b_ok {m:Nat→Int} {s:Int} (h:BK m s) (f:BF m s):bz m s=bq m s∧be m s=0:=by
 refine ⟨funext fun i=>if_pos ⟨h,f⟩,?_⟩
 unfold be
 rw [if_pos h,if_pos f]
theorem b_wide {m:Nat→Int} {s:Int} (h:BK m s) (f:¬ BF m s):bz m s=(fun _=>0)∧be m s=3:=by
 refine ⟨funext fun i=>if_neg (fun k=>f k.2),?_⟩
 unfold be
 rw [if_pos h,if_neg f]
theorem b_wrong {m:Nat→Int} {s:Int} (h:¬ BK m s):bz m s=(fun _=>0)∧be m s=1:=by
 refine ⟨funext fun i=>if_neg (fun k=>h k.1),?_⟩
 unfold be
 rw [if_neg h]
theorem div_bq {m:Nat→Int} {s:Int} (h:BK m s) {i:Nat} (hi:i<6):dz (m i) s=nz (bq m s i)∧de (m i) s=ne (bq m s i):=by
 have:=dz_of (show FitP (m i)∧FitP s from ⟨h.1 i hi,h.2.1⟩) (by have:=h.2.2; omega)
 rwa [ef_evn _ (by have:=h.2.2; omega)] at this
end Go.Proofs.YtdhnhmhgmnkajaaGreatDoor

import Derived.Deep.RegionWith
import Derived.Deep.DeepCutAuto
import Derived.Deep.CutBlock
import Derived.Test.YthnofhjgfhapiaaGreatDoorWbf
import Derived.Test.YthnofhjgfhapiaaGreatDoorWaj
import Derived.Test.YthnofhjgfhapiaaGreatDoorWan
import Derived.Test.YthnofhjgfhapiaaGreatDoorWaa
import Derived.Test.YthnofhjgfhapiaaGreatDoorWag
import Derived.Test.YthnofhjgfhapiaaGreatDoorWbe
import Derived.Test.YthnofhjgfhapiaaGreatDoorWae
import Derived.Test.YthnofhjgfhapiaaGreatDoorWam
import Derived.Test.YthnofhjgfhapiaaGreatDoorWab
import Derived.Test.YthnofhjgfhapiaaGreatDoorWaw
import Derived.Test.YthnofhjgfhapiaaGreatDoorWbd
import Derived.Test.YthnofhjgfhapiaaGreatDoorWak
import Derived.Test.YthnofhjgfhapiaaGreatDoorWai
import Derived.Test.YthnofhjgfhapiaaGreatDoorWaq
import Derived.Test.YthnofhjgfhapiaaGreatDoorWao
import Derived.DeepKeys
import Derived.Test.YthnofhjgfhapiaaGreatDoorWax
import Derived.Test.YthnofhjgfhapiaaGreatDoorWad
import Derived.Test.YthnofhjgfhapiaaGreatDoorWar
import Derived.Test.YthnofhjgfhapiaaGreatDoorWaf
set_option maxHeartbeats 8000000
set_option maxRecDepth 20000
namespace Go.Proofs.YthnofhjgfhapiaaGreatDoor
open Go.RowKit Go.Shelf Go.Joins
theorem unknown_any (x:Nat→Int) (w:World):Calls Tryz.prog 17 #[cv x] w fun e w'=>∃ b,e=.returned (.pointer (some ⟨b,0,none⟩))∧w.heap.size≤b∧GR w' b 0 (bd (x 30)) (x 6) (x 7)∧Below w.heap.size w w':=by
 have cr:CR (w.alloc (Obj.cells #[.int .i64 (x 0),.int .i64 (x 1),.int .i64 (x 2),.int .i64 (x 3),.int .i64 (x 4),.int .i64 (x 5),.int .i64 (x 6),.int .i64 (x 7),.int .i64 (x 8),.int .i64 (x 9),.int .i64 (x 10),.int .i64 (x 11),.int .i64 (x 12),.int .i64 (x 13),.int .i64 (x 14),.int .i64 (x 15),.int .i64 (x 16),.int .i64 (x 17),.int .i64 (x 18),.int .i64 (x 19),.int .i64 (x 20),.int .i64 (x 21),.int .i64 (x 22),.int .i64 (x 23),.int .i64 (x 24),.int .i64 (x 25),.int .i64 (x 26),.int .i64 (x 27),.int .i64 (x 28),.int .i64 (x 29),.int .i64 (x 30)] 27)) w.heap.size x:=cr_new
 have E:Below w.heap.size w (w.alloc (Obj.cells #[.int .i64 (x 0),.int .i64 (x 1),.int .i64 (x 2),.int .i64 (x 3),.int .i64 (x 4),.int .i64 (x 5),.int .i64 (x 6),.int .i64 (x 7),.int .i64 (x 8),.int .i64 (x 9),.int .i64 (x 10),.int .i64 (x 11),.int .i64 (x 12),.int .i64 (x 13),.int .i64 (x 14),.int .i64 (x 15),.int .i64 (x 16),.int .i64 (x 17),.int .i64 (x 18),.int .i64 (x 19),.int .i64 (x 20),.int .i64 (x 21),.int .i64 (x 22),.int .i64 (x 23),.int .i64 (x 24),.int .i64 (x 25),.int .i64 (x 26),.int .i64 (x 27),.int .i64 (x 28),.int .i64 (x 29),.int .i64 (x 30)] 27)):=b_alloc (Below.refl _ _)
 have g30:(w.alloc (Obj.cells #[.int .i64 (x 0),.int .i64 (x 1),.int .i64 (x 2),.int .i64 (x 3),.int .i64 (x 4),.int .i64 (x 5),.int .i64 (x 6),.int .i64 (x 7),.int .i64 (x 8),.int .i64 (x 9),.int .i64 (x 10),.int .i64 (x 11),.int .i64 (x 12),.int .i64 (x 13),.int .i64 (x 14),.int .i64 (x 15),.int .i64 (x 16),.int .i64 (x 17),.int .i64 (x 18),.int .i64 (x 19),.int .i64 (x 20),.int .i64 (x 21),.int .i64 (x 22),.int .i64 (x 23),.int .i64 (x 24),.int .i64 (x 25),.int .i64 (x 26),.int .i64 (x 27),.int .i64 (x 28),.int .i64 (x 29),.int .i64 (x 30)] 27)).cell? ⟨w.heap.size,30,none⟩=some (.int .i64 (x 30)):=(cell_of_row _ _ 30 _ _ _ cr).trans rfl
 have g6:(w.alloc (Obj.cells #[.int .i64 (x 0),.int .i64 (x 1),.int .i64 (x 2),.int .i64 (x 3),.int .i64 (x 4),.int .i64 (x 5),.int .i64 (x 6),.int .i64 (x 7),.int .i64 (x 8),.int .i64 (x 9),.int .i64 (x 10),.int .i64 (x 11),.int .i64 (x 12),.int .i64 (x 13),.int .i64 (x 14),.int .i64 (x 15),.int .i64 (x 16),.int .i64 (x 17),.int .i64 (x 18),.int .i64 (x 19),.int .i64 (x 20),.int .i64 (x 21),.int .i64 (x 22),.int .i64 (x 23),.int .i64 (x 24),.int .i64 (x 25),.int .i64 (x 26),.int .i64 (x 27),.int .i64 (x 28),.int .i64 (x 29),.int .i64 (x 30)] 27)).cell? ⟨w.heap.size,6,none⟩=some (.int .i64 (x 6)):=(cell_of_row _ _ 6 _ _ _ cr).trans rfl
 have g7:(w.alloc (Obj.cells #[.int .i64 (x 0),.int .i64 (x 1),.int .i64 (x 2),.int .i64 (x 3),.int .i64 (x 4),.int .i64 (x 5),.int .i64 (x 6),.int .i64 (x 7),.int .i64 (x 8),.int .i64 (x 9),.int .i64 (x 10),.int .i64 (x 11),.int .i64 (x 12),.int .i64 (x 13),.int .i64 (x 14),.int .i64 (x 15),.int .i64 (x 16),.int .i64 (x 17),.int .i64 (x 18),.int .i64 (x 19),.int .i64 (x 20),.int .i64 (x 21),.int .i64 (x 22),.int .i64 (x 23),.int .i64 (x 24),.int .i64 (x 25),.int .i64 (x 26),.int .i64 (x 27),.int .i64 (x 28),.int .i64 (x 29),.int .i64 (x 30)] 27)).cell? ⟨w.heap.size,7,none⟩=some (.int .i64 (x 7)):=(cell_of_row _ _ 7 _ _ _ cr).trans rfl
 clear cr
 go_enter Tryz.func17,Tryz.ntmps17
 go_wp2_with fail
 generalize (w.alloc (Obj.cells #[.int .i64 (x 0),.int .i64 (x 1),.int .i64 (x 2),.int .i64 (x 3),.int .i64 (x 4),.int .i64 (x 5),.int .i64 (x 6),.int .i64 (x 7),.int .i64 (x 8),.int .i64 (x 9),.int .i64 (x 10),.int .i64 (x 11),.int .i64 (x 12),.int .i64 (x 13),.int .i64 (x 14),.int .i64 (x 15),.int .i64 (x 16),.int .i64 (x 17),.int .i64 (x 18),.int .i64 (x 19),.int .i64 (x 20),.int .i64 (x 21),.int .i64 (x 22),.int .i64 (x 23),.int .i64 (x 24),.int .i64 (x 25),.int .i64 (x 26),.int .i64 (x 27),.int .i64 (x 28),.int .i64 (x 29),.int .i64 (x 30)] 27))=y0 at *
 refine (newground_any _ _ _ _).mono ?_
 rintro e y1 ⟨b,rfl,hb,gr,hB⟩
 go_wp2
 go_ret
 exact ⟨b,rfl,Nat.le_trans E.size hb,gr,b_trans E hB⟩
theorem whole_31 {x:Nat→Int}:(#[.int .i64 (x 0),.int .i64 (x 1),.int .i64 (x 2),.int .i64 (x 3),.int .i64 (x 4),.int .i64 (x 5),.int .i64 (x 6),.int .i64 (x 7),.int .i64 (x 8),.int .i64 (x 9),.int .i64 (x 10),.int .i64 (x 11),.int .i64 (x 12),.int .i64 (x 13),.int .i64 (x 14),.int .i64 (x 15),.int .i64 (x 16),.int .i64 (x 17),.int .i64 (x 18),.int .i64 (x 19),.int .i64 (x 20),.int .i64 (x 21),.int .i64 (x 22),.int .i64 (x 23),.int .i64 (x 24),.int .i64 (x 25),.int .i64 (x 26),.int .i64 (x 27),.int .i64 (x 28),.int .i64 (x 29),.int .i64 (x 30)]:Array Value).extract 0 (0+(#[.int .i64 (x 0),.int .i64 (x 1),.int .i64 (x 2),.int .i64 (x 3),.int .i64 (x 4),.int .i64 (x 5),.int .i64 (x 6),.int .i64 (x 7),.int .i64 (x 8),.int .i64 (x 9),.int .i64 (x 10),.int .i64 (x 11),.int .i64 (x 12),.int .i64 (x 13),.int .i64 (x 14),.int .i64 (x 15),.int .i64 (x 16),.int .i64 (x 17),.int .i64 (x 18),.int .i64 (x 19),.int .i64 (x 20),.int .i64 (x 21),.int .i64 (x 22),.int .i64 (x 23),.int .i64 (x 24),.int .i64 (x 25),.int .i64 (x 26),.int .i64 (x 27),.int .i64 (x 28),.int .i64 (x 29),.int .i64 (x 30)]:Array Value).size)=#[.int .i64 (x 0),.int .i64 (x 1),.int .i64 (x 2),.int .i64 (x 3),.int .i64 (x 4),.int .i64 (x 5),.int .i64 (x 6),.int .i64 (x 7),.int .i64 (x 8),.int .i64 (x 9),.int .i64 (x 10),.int .i64 (x 11),.int .i64 (x 12),.int .i64 (x 13),.int .i64 (x 14),.int .i64 (x 15),.int .i64 (x 16),.int .i64 (x 17),.int .i64 (x 18),.int .i64 (x 19),.int .i64 (x 20),.int .i64 (x 21),.int .i64 (x 22),.int .i64 (x 23),.int .i64 (x 24),.int .i64 (x 25),.int .i64 (x 26),.int .i64 (x 27),.int .i64 (x 28),.int .i64 (x 29),.int .i64 (x 30)]:=by kernel_rfl
theorem chnew_ok (x:Nat→Int) (hx:C64 x) (c:cks x=0) (w:World) (T:Tb3 w):Calls Tryz.prog 6 #[cv x] w fun e w'=>∃ b fb gb,e=.returned (.tuple #[.pointer (some ⟨b,0,none⟩),.int .i64 0])∧CH w' b fb gb (.slice none 0 0) x cn0∧w.heap.size≤b∧w.heap.size≤fb∧w.heap.size≤gb∧Below w.heap.size w w':=by
 have cr:CR (w.alloc (Obj.cells #[.int .i64 (x 0),.int .i64 (x 1),.int .i64 (x 2),.int .i64 (x 3),.int .i64 (x 4),.int .i64 (x 5),.int .i64 (x 6),.int .i64 (x 7),.int .i64 (x 8),.int .i64 (x 9),.int .i64 (x 10),.int .i64 (x 11),.int .i64 (x 12),.int .i64 (x 13),.int .i64 (x 14),.int .i64 (x 15),.int .i64 (x 16),.int .i64 (x 17),.int .i64 (x 18),.int .i64 (x 19),.int .i64 (x 20),.int .i64 (x 21),.int .i64 (x 22),.int .i64 (x 23),.int .i64 (x 24),.int .i64 (x 25),.int .i64 (x 26),.int .i64 (x 27),.int .i64 (x 28),.int .i64 (x 29),.int .i64 (x 30)] 27)) w.heap.size x:=cr_new
 have E:Below w.heap.size w (w.alloc (Obj.cells #[.int .i64 (x 0),.int .i64 (x 1),.int .i64 (x 2),.int .i64 (x 3),.int .i64 (x 4),.int .i64 (x 5),.int .i64 (x 6),.int .i64 (x 7),.int .i64 (x 8),.int .i64 (x 9),.int .i64 (x 10),.int .i64 (x 11),.int .i64 (x 12),.int .i64 (x 13),.int .i64 (x 14),.int .i64 (x 15),.int .i64 (x 16),.int .i64 (x 17),.int .i64 (x 18),.int .i64 (x 19),.int .i64 (x 20),.int .i64 (x 21),.int .i64 (x 22),.int .i64 (x 23),.int .i64 (x 24),.int .i64 (x 25),.int .i64 (x 26),.int .i64 (x 27),.int .i64 (x 28),.int .i64 (x 29),.int .i64 (x 30)] 27)):=b_alloc (Below.refl _ _)
 have u0:=up_of T (Nat.le_refl _)
 replace T:=t3_keep E T
 go_enter Tryz.func6,Tryz.ntmps6
 go_wp2_with (with_reducible refine stop_at (some 7) rfl ?_)
 generalize (w.alloc (Obj.cells #[.int .i64 (x 0),.int .i64 (x 1),.int .i64 (x 2),.int .i64 (x 3),.int .i64 (x 4),.int .i64 (x 5),.int .i64 (x 6),.int .i64 (x 7),.int .i64 (x 8),.int .i64 (x 9),.int .i64 (x 10),.int .i64 (x 11),.int .i64 (x 12),.int .i64 (x 13),.int .i64 (x 14),.int .i64 (x 15),.int .i64 (x 16),.int .i64 (x 17),.int .i64 (x 18),.int .i64 (x 19),.int .i64 (x 20),.int .i64 (x 21),.int .i64 (x 22),.int .i64 (x 23),.int .i64 (x 24),.int .i64 (x 25),.int .i64 (x 26),.int .i64 (x 27),.int .i64 (x 28),.int .i64 (x 29),.int .i64 (x 30)] 27))=z0 at *
 refine unstop ?_
 refine wpList_load_row rfl 27 (.tmp 1) rfl w.heap.size rfl 27 _ (0,0) _ cr Tryz.underlying27 rfl (by kernel_rfl) ?_
 go_wp2_with fail
 refine (new_ok x hx c _).mono ?_
 rintro e y1 ⟨fb,rfl,f0,fr,hb⟩
 have zs:=E.size
 replace f0:=Nat.le_trans zs f0
 have lf1:=(Array.getElem?_eq_some_iff.1 fr).1
 replace cr:=cr_keep hb cr
 replace E:=b_trans E hb
 replace T:=t3_keep hb T
 clear hb zs
 obtain ⟨A,hA⟩:∃ A,w.heap.size=A:=⟨_,rfl⟩
 rw [hA] at cr
 have lA:=(Array.getElem?_eq_some_iff.1 cr).1
 go_wp2
 replace hA:=Lib.hid hA
 refine region_each [14,15,16,17,18,19] (fun i_ X_ U_=>match i_ with | 0=>X_=cv x | 1=>X_=.pointer (some ⟨fb,0,none⟩) | 2=>X_=cv x | 3=>∃ g,X_=.pointer (some ⟨g,0,none⟩)∧y1.heap.size≤g∧GR U_ g 0 (bd (x 30)) (x 6) (x 7) | 4=>X_=.agg #[.int .i64 0,.int .i64 0] | 5=>∃ g,X_=.agg #[.int .i64 (x 0),.int .i64 (x 1),.int .i64 (x 2),.int .i64 (x 3),.int .i64 (x 4),.int .i64 (x 5),.int .i64 (x 6),.int .i64 (x 7),.int .i64 (x 8),.int .i64 (x 9),.int .i64 (x 10),.int .i64 (x 11),.int .i64 (x 12),.int .i64 (x 13),.int .i64 (x 14),.int .i64 (x 15),.int .i64 (x 16),.int .i64 (x 17),.int .i64 (x 18),.int .i64 (x 19),.int .i64 (x 20),.int .i64 (x 21),.int .i64 (x 22),.int .i64 (x 23),.int .i64 (x 24),.int .i64 (x 25),.int .i64 (x 26),.int .i64 (x 27),.int .i64 (x 28),.int .i64 (x 29),.int .i64 (x 30),.pointer (some ⟨fb,0,none⟩),.slice none 0 0,.pointer (some ⟨g,0,none⟩),.int .i64 0,.int .i64 0,.int .i64 0,.int .i64 0,.int .i64 0,.int .i64 0,.int .i64 0,.int .i64 0,.int .i64 0,.int .i64 0,.int .i64 0]∧y1.heap.size≤g∧GR U_ g 0 (bd (x 30)) (x 6) (x 7) | _=>True) (fun i_=>false) (by kernel_rfl) (by kernel_rfl) (by kernel_rfl) (by kernel_rfl) (by kernel_rfl) ?_ (fun i x w hi ha h=>by cases ha) ?_ ?_
 ·refine swp (upS (upS (upS (upS (upS (upS up0 ?_) ?_) ?_) ?_) ?_) ?_)
  ·exact fun _ _ _ h _=>h
  ·exact fun _ _ _ h _=>h
  ·exact fun _ _ _ h _=>h
  ·intro x w w' h hb; obtain ⟨g,e,hg,hc⟩:=h; exact ⟨g,e,hg,row_keep hb hc⟩
  ·exact fun _ _ _ h _=>h
  ·intro x w w' h hb; obtain ⟨g,e,hg,hc⟩:=h; exact ⟨g,e,hg,row_keep hb hc⟩
 ·refine upS (upS (upS (upS (upS (upS up0 ?_) ?_) ?_) ?_) ?_) ?_
  all_goals intro v f w' hb hv hB hd
  ·have b1:f.tmps[1]?=some (.pointer (some ⟨A,0,none⟩)):=(hb 1 (by decide)).trans rfl
   clear hb hv hd
   refine wpOp_step rfl fun K hK=>?_
   refine wp_load_part 27 (.tmp 1) rfl A 0 (eval_tmp b1) 27 _ _ (0,0) _ (row_keep hB cr) whole_31 Tryz.underlying27 rfl (by kernel_rfl) ?_
   exact hK _ _ ⟨_,rfl,Below.refl _ _,rfl,fun h=>absurd h (by decide)⟩
  ·have b4:f.tmps[4]?=some (.pointer (some ⟨fb,0,none⟩)):=(hb 4 (by decide)).trans rfl
   clear hb hv hd
   refine wpOp_step rfl fun K hK=>?_
   go_simp
   exact hK _ _ ⟨_,rfl,Below.refl _ _,rfl,fun h=>absurd h (by decide)⟩
  ·have b1:f.tmps[1]?=some (.pointer (some ⟨A,0,none⟩)):=(hb 1 (by decide)).trans rfl
   clear hb hv hd
   refine wpOp_step rfl fun K hK=>?_
   refine wp_load_part 27 (.tmp 1) rfl A 0 (eval_tmp b1) 27 _ _ (0,0) _ (row_keep hB cr) whole_31 Tryz.underlying27 rfl (by kernel_rfl) ?_
   exact hK _ _ ⟨_,rfl,Below.refl _ _,rfl,fun h=>absurd h (by decide)⟩
  ·have d2:=got (hv 2 16 rfl) (hd 2 (by kernel_rfl))
   clear hb hv hd
   refine wpOp_call rfl Tryz.call17 (args1 (eval_tmp d2)) (unknown_any x _) ?_
   rintro e5 w5 ⟨g,rfl,hg,gr,hb5⟩
   exact ⟨_,rfl,_,rfl,hb5,⟨g,rfl,Nat.le_trans hB.size hg,gr⟩,fun h=>absurd h (by decide)⟩
  ·clear hb hv hd
   refine wpOp_step rfl fun K hK=>?_
   go_simp
   exact hK _ _ ⟨_,rfl,Below.refl _ _,rfl,fun h=>absurd h (by decide)⟩
  ·have d0:=got (hv 0 14 rfl) (hd 0 (by kernel_rfl))
   have d1:=got (hv 1 15 rfl) (hd 1 (by kernel_rfl))
   have h3:∃ g,(v 3)=.pointer (some ⟨g,0,none⟩)∧y1.heap.size≤g∧GR w' g 0 (bd (x 30)) (x 6) (x 7):=hd 3 (by kernel_rfl)
   have d3:f.tmps[17]?=some (v 3):=hv 3 17 rfl
   have d4:=got (hv 4 18 rfl) (hd 4 (by kernel_rfl))
   clear hb hv hd
   obtain ⟨g,e17,hg17,gr17⟩:=h3
   rw [e17] at d3
   refine wpOp_step rfl fun K hK=>?_
   go_simp
   exact hK _ _ ⟨_,rfl,Below.refl _ _,⟨g,rfl,hg17,gr17⟩,fun h=>absurd h (by decide)⟩
 ·intro v w' hB hF hD
  have F0:v 0=_:=hF 0 (by simp)
  have F1:v 1=_:=hF 1 (by simp)
  have F2:v 2=_:=hF 2 (by simp)
  have F3:∃ g,(v 3)=.pointer (some ⟨g,0,none⟩)∧y1.heap.size≤g∧GR w' g 0 (bd (x 30)) (x 6) (x 7):=hF 3 (by simp)
  have F4:v 4=_:=hF 4 (by simp)
  have F5:∃ g,(v 5)=.agg #[.int .i64 (x 0),.int .i64 (x 1),.int .i64 (x 2),.int .i64 (x 3),.int .i64 (x 4),.int .i64 (x 5),.int .i64 (x 6),.int .i64 (x 7),.int .i64 (x 8),.int .i64 (x 9),.int .i64 (x 10),.int .i64 (x 11),.int .i64 (x 12),.int .i64 (x 13),.int .i64 (x 14),.int .i64 (x 15),.int .i64 (x 16),.int .i64 (x 17),.int .i64 (x 18),.int .i64 (x 19),.int .i64 (x 20),.int .i64 (x 21),.int .i64 (x 22),.int .i64 (x 23),.int .i64 (x 24),.int .i64 (x 25),.int .i64 (x 26),.int .i64 (x 27),.int .i64 (x 28),.int .i64 (x 29),.int .i64 (x 30),.pointer (some ⟨fb,0,none⟩),.slice none 0 0,.pointer (some ⟨g,0,none⟩),.int .i64 0,.int .i64 0,.int .i64 0,.int .i64 0,.int .i64 0,.int .i64 0,.int .i64 0,.int .i64 0,.int .i64 0,.int .i64 0,.int .i64 0]∧y1.heap.size≤g∧GR w' g 0 (bd (x 30)) (x 6) (x 7):=hF 5 (by simp)
  clear hF
  obtain ⟨g,e9,hg9,gr9⟩:=F5
  simp only [frOf,frGo,Nat.zero_add,Nat.reduceAdd,F0,F1,F2,F4,e9]
  have szw:=hB.size
  replace fr:=row_keep hB fr
  replace E:=b_trans E hB
  replace T:=t3_keep hB T
  clear F0 F1 F2 F3 F4 e9 hD hB cr
  go_wp2
  go_ret2
  have ba:Below w'.heap.size w' (w'.alloc (Obj.cells #[.int .i64 (x 0),.int .i64 (x 1),.int .i64 (x 2),.int .i64 (x 3),.int .i64 (x 4),.int .i64 (x 5),.int .i64 (x 6),.int .i64 (x 7),.int .i64 (x 8),.int .i64 (x 9),.int .i64 (x 10),.int .i64 (x 11),.int .i64 (x 12),.int .i64 (x 13),.int .i64 (x 14),.int .i64 (x 15),.int .i64 (x 16),.int .i64 (x 17),.int .i64 (x 18),.int .i64 (x 19),.int .i64 (x 20),.int .i64 (x 21),.int .i64 (x 22),.int .i64 (x 23),.int .i64 (x 24),.int .i64 (x 25),.int .i64 (x 26),.int .i64 (x 27),.int .i64 (x 28),.int .i64 (x 29),.int .i64 (x 30),.pointer (some ⟨fb,0,none⟩),.slice none 0 0,.pointer (some ⟨g,0,none⟩),.int .i64 0,.int .i64 0,.int .i64 0,.int .i64 0,.int .i64 0,.int .i64 0,.int .i64 0,.int .i64 0,.int .i64 0,.int .i64 0,.int .i64 0] 63)):=b_alloc (Below.refl _ _)
  have lg:=(Array.getElem?_eq_some_iff.1 gr9).1
  have gw:w.heap.size≤g:=Nat.le_trans (Nat.le_trans f0 (Nat.le_of_lt lf1)) hg9
  have lf:=(Array.getElem?_eq_some_iff.1 fr).1
  refine ⟨w'.heap.size,rfl,fb,g,⟨heap_alloc_last _ _,row_keep ba fr,row_keep ba gr9,hs_nil,by omega,by omega,by omega,fun k hk=>(by cases hk),fun k hk=>?_⟩,E.size,f0,gw,b_trans E ba⟩
  rcases hk with rfl | rfl | rfl | hk
  ·exact up_of T (Nat.le_refl _)
  ·exact up_le u0 f0
  ·exact up_le u0 gw
  ·cases hk
theorem chnew_bad (x:Nat→Int) (hx:C64 x) (c:¬ cks x=0) (w:World):Calls Tryz.prog 6 #[cv x] w (RetV (.tuple #[.pointer none,.int .i64 1]) w):=by
 have cr:CR (w.alloc (Obj.cells #[.int .i64 (x 0),.int .i64 (x 1),.int .i64 (x 2),.int .i64 (x 3),.int .i64 (x 4),.int .i64 (x 5),.int .i64 (x 6),.int .i64 (x 7),.int .i64 (x 8),.int .i64 (x 9),.int .i64 (x 10),.int .i64 (x 11),.int .i64 (x 12),.int .i64 (x 13),.int .i64 (x 14),.int .i64 (x 15),.int .i64 (x 16),.int .i64 (x 17),.int .i64 (x 18),.int .i64 (x 19),.int .i64 (x 20),.int .i64 (x 21),.int .i64 (x 22),.int .i64 (x 23),.int .i64 (x 24),.int .i64 (x 25),.int .i64 (x 26),.int .i64 (x 27),.int .i64 (x 28),.int .i64 (x 29),.int .i64 (x 30)] 27)) w.heap.size x:=cr_new
 have E:Below w.heap.size w (w.alloc (Obj.cells #[.int .i64 (x 0),.int .i64 (x 1),.int .i64 (x 2),.int .i64 (x 3),.int .i64 (x 4),.int .i64 (x 5),.int .i64 (x 6),.int .i64 (x 7),.int .i64 (x 8),.int .i64 (x 9),.int .i64 (x 10),.int .i64 (x 11),.int .i64 (x 12),.int .i64 (x 13),.int .i64 (x 14),.int .i64 (x 15),.int .i64 (x 16),.int .i64 (x 17),.int .i64 (x 18),.int .i64 (x 19),.int .i64 (x 20),.int .i64 (x 21),.int .i64 (x 22),.int .i64 (x 23),.int .i64 (x 24),.int .i64 (x 25),.int .i64 (x 26),.int .i64 (x 27),.int .i64 (x 28),.int .i64 (x 29),.int .i64 (x 30)] 27)):=b_alloc (Below.refl _ _)
 go_enter Tryz.func6,Tryz.ntmps6
 go_wp2_with (with_reducible refine stop_at (some 7) rfl ?_)
 generalize (w.alloc (Obj.cells #[.int .i64 (x 0),.int .i64 (x 1),.int .i64 (x 2),.int .i64 (x 3),.int .i64 (x 4),.int .i64 (x 5),.int .i64 (x 6),.int .i64 (x 7),.int .i64 (x 8),.int .i64 (x 9),.int .i64 (x 10),.int .i64 (x 11),.int .i64 (x 12),.int .i64 (x 13),.int .i64 (x 14),.int .i64 (x 15),.int .i64 (x 16),.int .i64 (x 17),.int .i64 (x 18),.int .i64 (x 19),.int .i64 (x 20),.int .i64 (x 21),.int .i64 (x 22),.int .i64 (x 23),.int .i64 (x 24),.int .i64 (x 25),.int .i64 (x 26),.int .i64 (x 27),.int .i64 (x 28),.int .i64 (x 29),.int .i64 (x 30)] 27))=z0 at *
 refine unstop ?_
 refine wpList_load_row rfl 27 (.tmp 1) rfl w.heap.size rfl 27 _ (0,0) _ cr Tryz.underlying27 rfl (by kernel_rfl) ?_
 go_wp2_with fail
 refine (new_bad x hx c _).mono ?_
 rintro e y1 ⟨rfl,hb⟩
 replace E:=b_trans E hb
 clear hb cr c
 go_wp2
 go_ret2
 exact ⟨rfl,E⟩
structure SR (W:World) (a u:Nat→Int) (U:World):Prop where
 v:VR U W.heap.size a
 s:U.heap[W.heap.size+1]?=some (.cells #[.int .i64 (u 0),.int .i64 (u 1),.int .i64 (u 2),.int .i64 (u 3),.int .i64 (u 4),.int .i64 (u 5)] 42 (0,0))
 b:Below W.heap.size W U
theorem row6 {w:World} {b:Nat} {t:TypeId} {c0 c1 c2 c3 c4 c5:Value} (h:w.heap[b]?=some (.cells #[c0,c1,c2,c3,c4,c5] t (0,0))) :
  w.cell? ⟨b,0,none⟩=some c0∧w.cell? ⟨b,1,none⟩=some c1∧w.cell? ⟨b,2,none⟩=some c2∧w.cell? ⟨b,3,none⟩=some c3∧w.cell? ⟨b,4,none⟩=some c4∧w.cell? ⟨b,5,none⟩=some c5:=⟨(cell_of_row _ _ 0 _ _ _ h).trans rfl,(cell_of_row _ _ 1 _ _ _ h).trans rfl,(cell_of_row _ _ 2 _ _ _ h).trans rfl,(cell_of_row _ _ 3 _ _ _ h).trans rfl,(cell_of_row _ _ 4 _ _ _ h).trans rfl,(cell_of_row _ _ 5 _ _ _ h).trans rfl⟩
theorem fz6 {w:World} {b:Nat} {t:TypeId} {c0 c1 c2 c3 c4 c5:Value} (h:w.heap[b]?=some (.cells #[c0,c1,c2,c3,c4,c5] t (0,0))) :
  w.frozen? ⟨b,0,none⟩=false∧w.frozen? ⟨b,1,none⟩=false∧w.frozen? ⟨b,2,none⟩=false∧w.frozen? ⟨b,3,none⟩=false∧w.frozen? ⟨b,4,none⟩=false∧w.frozen? ⟨b,5,none⟩=false:=⟨frozen_of_row _ _ 0 _ _ h,frozen_of_row _ _ 1 _ _ h,frozen_of_row _ _ 2 _ _ h,frozen_of_row _ _ 3 _ _ h,frozen_of_row _ _ 4 _ _ h,frozen_of_row _ _ 5 _ _ h⟩
theorem row6_put {w:World} {b:Nat} {t:TypeId} {c0 c1 c2 c3 c4 c5 d0 d1 d2 d3 d4 d5:Value} (h:w.heap[b]?=some (.cells #[c0,c1,c2,c3,c4,c5] t (0,0))):((((((w.setCell ⟨b,0,none⟩ d0).setCell ⟨b,1,none⟩ d1).setCell ⟨b,2,none⟩ d2).setCell ⟨b,3,none⟩ d3).setCell ⟨b,4,none⟩ d4).setCell ⟨b,5,none⟩ d5).heap[b]?=some (.cells #[d0,d1,d2,d3,d4,d5] t (0,0)):=by
 replace h:(w.setCell ⟨b,0,none⟩ d0).heap[b]?=some (.cells #[d0,c1,c2,c3,c4,c5] t (0,0)):=(heap_setCell_same _ b 0 _ _ _ h).trans rfl
 replace h:((w.setCell ⟨b,0,none⟩ d0).setCell ⟨b,1,none⟩ d1).heap[b]?=some (.cells #[d0,d1,c2,c3,c4,c5] t (0,0)):=(heap_setCell_same _ b 1 _ _ _ h).trans rfl
 replace h:(((w.setCell ⟨b,0,none⟩ d0).setCell ⟨b,1,none⟩ d1).setCell ⟨b,2,none⟩ d2).heap[b]?=some (.cells #[d0,d1,d2,c3,c4,c5] t (0,0)):=(heap_setCell_same _ b 2 _ _ _ h).trans rfl
 replace h:((((w.setCell ⟨b,0,none⟩ d0).setCell ⟨b,1,none⟩ d1).setCell ⟨b,2,none⟩ d2).setCell ⟨b,3,none⟩ d3).heap[b]?=some (.cells #[d0,d1,d2,d3,c4,c5] t (0,0)):=(heap_setCell_same _ b 3 _ _ _ h).trans rfl
 replace h:(((((w.setCell ⟨b,0,none⟩ d0).setCell ⟨b,1,none⟩ d1).setCell ⟨b,2,none⟩ d2).setCell ⟨b,3,none⟩ d3).setCell ⟨b,4,none⟩ d4).heap[b]?=some (.cells #[d0,d1,d2,d3,d4,c5] t (0,0)):=(heap_setCell_same _ b 4 _ _ _ h).trans rfl
 replace h:((((((w.setCell ⟨b,0,none⟩ d0).setCell ⟨b,1,none⟩ d1).setCell ⟨b,2,none⟩ d2).setCell ⟨b,3,none⟩ d3).setCell ⟨b,4,none⟩ d4).setCell ⟨b,5,none⟩ d5).heap[b]?=some (.cells #[d0,d1,d2,d3,d4,d5] t (0,0)):=(heap_setCell_same _ b 5 _ _ _ h).trans rfl
 exact h
theorem chstate_any (b fb gb:Nat) (hl:Value) (x:Nat→Int) (m s:Int) (a u:Nat→Int) (w:World) (cb:CB w b fb gb hl x m s a u):Calls Tryz.prog 10 #[.pointer (some ⟨b,0,none⟩)] w (RetV (.tuple #[tv (a 0) (a 1) (a 2),sv u]) w):=by
 have b2:Below w.heap.size w ((w.alloc (Obj.cells #[.int .i64 0,.int .i64 0,.int .i64 0] 25)).alloc (Obj.cells #[.int .i64 0,.int .i64 0,.int .i64 0,.int .i64 0,.int .i64 0,.int .i64 0] 42)):=b_alloc (b_alloc (Below.refl _ _))
 have lb:=cb_lt cb
 have nb:b≠w.heap.size:=Nat.ne_of_lt lb
 have nr:w.heap.size+1≠w.heap.size:=Nat.ne_of_gt (Nat.lt_succ_self _)
 have kV:VR ((w.alloc (Obj.cells #[.int .i64 0,.int .i64 0,.int .i64 0] 25)).alloc (Obj.cells #[.int .i64 0,.int .i64 0,.int .i64 0,.int .i64 0,.int .i64 0,.int .i64 0] 42)) w.heap.size (fun _=>0):=lay_old _ _ _
 have kS:((w.alloc (Obj.cells #[.int .i64 0,.int .i64 0,.int .i64 0] 25)).alloc (Obj.cells #[.int .i64 0,.int .i64 0,.int .i64 0,.int .i64 0,.int .i64 0,.int .i64 0] 42)).heap[w.heap.size+1]?=some (.cells #[.int .i64 0,.int .i64 0,.int .i64 0,.int .i64 0,.int .i64 0,.int .i64 0] 42 (0,0)):=lay_new _ _ _
 replace cb:=row_keep b2 cb
 have B:=b2
 clear b2
 go_enter Tryz.func10,Tryz.ntmps10
 go_wp2
 generalize ((w.alloc (Obj.cells #[.int .i64 0,.int .i64 0,.int .i64 0] 25)).alloc (Obj.cells #[.int .i64 0,.int .i64 0,.int .i64 0,.int .i64 0,.int .i64 0,.int .i64 0] 42))=y0 at *
 obtain ⟨s0,s1,s2⟩:=cb_st cb
 obtain ⟨d0,d1,d2,d3,d4,d5⟩:=cb_db cb
 obtain ⟨v0,v1,v2⟩:=vr_tc (k:=fun _=>0) kV
 have z0:=frozen_of_row y0 w.heap.size 0 _ _ kV
 have z1:=frozen_of_row y0 w.heap.size 1 _ _ kV
 have z2:=frozen_of_row y0 w.heap.size 2 _ _ kV
 have r6:=row6 kS
 have f6:=fz6 kS
 have lV:w.heap.size<y0.heap.size:=(Array.getElem?_eq_some_iff.1 kV).1
 have lS:w.heap.size+1<y0.heap.size:=(Array.getElem?_eq_some_iff.1 kS).1
 have sN:SR w a u (((((((((y0.setCell ⟨w.heap.size,0,none⟩ (.int .i64 (a 0))).setCell ⟨w.heap.size,1,none⟩ (.int .i64 (a 1))).setCell ⟨w.heap.size,2,none⟩ (.int .i64 (a 2))).setCell ⟨(w.heap.size+1),0,none⟩ (.int .i64 (u 0))).setCell ⟨(w.heap.size+1),1,none⟩ (.int .i64 (u 1))).setCell ⟨(w.heap.size+1),2,none⟩ (.int .i64 (u 2))).setCell ⟨(w.heap.size+1),3,none⟩ (.int .i64 (u 3))).setCell ⟨(w.heap.size+1),4,none⟩ (.int .i64 (u 4))).setCell ⟨(w.heap.size+1),5,none⟩ (.int .i64 (u 5))):=⟨but_row but_set6 (Ne.symm nr) (vr_put (k:=fun _=>0) kV),row6_put (but_row but_v3 nr kS),bb_set6 (z:=u) (b_set (b_set (b_set B (Nat.le_refl _)) (Nat.le_refl _)) (Nat.le_refl _)) (Nat.le_succ _)⟩
 clear cb kV kS B
 go_region
 generalize (((((((((y0.setCell ⟨w.heap.size,0,none⟩ (.int .i64 (a 0))).setCell ⟨w.heap.size,1,none⟩ (.int .i64 (a 1))).setCell ⟨w.heap.size,2,none⟩ (.int .i64 (a 2))).setCell ⟨(w.heap.size+1),0,none⟩ (.int .i64 (u 0))).setCell ⟨(w.heap.size+1),1,none⟩ (.int .i64 (u 1))).setCell ⟨(w.heap.size+1),2,none⟩ (.int .i64 (u 2))).setCell ⟨(w.heap.size+1),3,none⟩ (.int .i64 (u 3))).setCell ⟨(w.heap.size+1),4,none⟩ (.int .i64 (u 4))).setCell ⟨(w.heap.size+1),5,none⟩ (.int .i64 (u 5)))=y1 at *
 obtain ⟨h1,h2,h3⟩:=vr_tc sN.v
 obtain ⟨q0,q1,q2,q3,q4,q5⟩:=row6 sN.s
 go_wp2
 exact bodyPost_ret (v:=.tuple #[tv (a 0) (a 1) (a 2),sv u]) (by simp [results,Tryz.results10,go_sem,h1,h2,h3,q0,q1,q2,q3,q4,q5]) rfl ⟨rfl,b_drew sN.b⟩
end Go.Proofs.YthnofhjgfhapiaaGreatDoor
namespace Go.Proofs.YthnofhjgfhapiaaGreatDoor
open Go.RowKit Go.Shelf Go.Joins
noncomputable def itr (x:Nat→Int) (a p:Nat→Int) (h s:Nat→Bool):Nat→Cn
 | 0=>cn0
 | k+1=>(stp x (itr x a p h s k) (a k) (h k) (p k) (s k)).1
noncomputable def otr (x:Nat→Int) (a p:Nat→Int) (h s:Nat→Bool) (k:Nat):Td:=(stp x (itr x a p h s k) (a k) (h k) (p k) (s k)).2
theorem ok_0:Okc cn0:=⟨fun _ _=>(show I64 0 by decide),fun _ _=>(show I64 0 by decide),(show I64 0 by decide),(show (0:Int)≤0 by decide),Or.inl rfl,Nat.zero_le _,fun _ h=>absurd h (Nat.not_lt_zero _),(show (0:Int)≤0 by decide)⟩
theorem ok_itr {x:Nat→Int} (hx:C64 x) (ck:cks x=0) (a p:Nat→Int) (h s:Nat→Bool):∀ k,Okc (itr x a p h s k)
 | 0=>ok_0
 | k+1=>ok_stp hx ck (ok_itr hx ck a p h s k) _ _ _ _
theorem stp_r (x:Nat→Int) (C:Cn) (a:Int) (h:Bool) (p:Int) (s:Bool):(stp x C a h p s).1.r=ar x C.r a:=by
 show (trn x (mid x (fed x C a) (ap x C.l a) (ah x a) (aq x C.r a) (br h p) p s).1 _).r=_
 show (mid x (fed x C a) (ap x C.l a) (ah x a) (aq x C.r a) (br h p) p s).1.r=_
 unfold mid gat tke
 repeat' split
 all_goals rfl
theorem itr_r (x:Nat→Int) (a p:Nat→Int) (h s:Nat→Bool):∀ k:Nat,(itr x a p h s k).r≤k
 | 0=>(show (0:Int)≤0 by decide)
 | k+1=>by
  have i:=itr_r x a p h s k
  show (stp x (itr x a p h s k) (a k) (h k) (p k) (s k)).1.r≤_
  rw [stp_r]
  unfold ar
  split <;> omega
theorem nxt_m {m s e co ou:Int} (h0:0≤m) (h3:m≤3):0≤(nxt (m,s) e co ou).1∧(nxt (m,s) e co ou).1≤3:=by
 unfold nxt msd
 dsimp only
 repeat' split
 all_goals (constructor <;> first | assumption | (dsimp only; omega))
theorem stp_m {x:Nat→Int} {C:Cn} (h:0≤C.m∧C.m≤3) (a:Int) (hh:Bool) (p:Int) (s:Bool):0≤(stp x C a hh p s).1.m∧(stp x C a hh p s).1.m≤3:=by
 have e:∀ t ho lo b,(mid x (fed x C a) t ho lo b p s).1.m=C.m:=fun t ho lo b=>by
  unfold mid gat tke
  repeat' split
  all_goals rfl
 show 0≤(nxt ((mid x (fed x C a) (ap x C.l a) (ah x a) (aq x C.r a) (br hh p) p s).1.m,_) _ _ _).1∧(nxt ((mid x (fed x C a) (ap x C.l a) (ah x a) (aq x C.r a) (br hh p) p s).1.m,_) _ _ _).1≤3
 rw [e]
 exact nxt_m h.1 h.2
theorem itr_m (x:Nat→Int) (a p:Nat→Int) (h s:Nat→Bool):∀ k:Nat,0≤(itr x a p h s k).m∧(itr x a p h s k).m≤3
 | 0=>⟨(show (0:Int)≤0 by decide),(show (0:Int)≤3 by decide)⟩
 | k+1=>stp_m (itr_m x a p h s k) _ _ _ _
structure Tw (t:Td):Prop where
 m:I64 t.m
 a:I64 t.al
 s:I64 t.sp
 b:I64 t.bi
theorem evn24 {v:Int} (h:I64 v):I64 (evn v 16777216):=by
 obtain ⟨h0,h1⟩:=h
 unfold evn near
 split <;> exact ⟨by omega,by omega⟩
theorem tw_tel {C:Cn} (hm:0≤C.m∧C.m≤3) (hv:∀ i,i<3→I64 (C.v i)) (ac rf hl gr:Bool):Tw (tel C ac rf hl gr):=by
 have z:I64 0:=by decide
 refine ⟨⟨by show _≤C.m; omega,by show C.m≤_; omega⟩,?_,?_,?_⟩
 ·show I64 (if vld C.m then evn (C.v 0) 16777216 else 0)
  split
  ·exact evn24 (hv 0 (by decide))
  ·exact z
 ·show I64 (if vld C.m then evn (C.v 1) 16777216 else 0)
  split
  ·exact evn24 (hv 1 (by decide))
  ·exact z
 ·show I64 (if vld C.m then evn (C.v 2) 16777216 else 0)
  split
  ·exact evn24 (hv 2 (by decide))
  ·exact z
theorem tw_stp {x:Nat→Int} (hx:C64 x) (ck:cks x=0) {C:Cn} (k:Okc C) (hm:0≤C.m∧C.m≤3) (a:Int) (h:Bool) (p:Int) (s:Bool):Tw (stp x C a h p s).2 :=
 tw_tel (stp_m hm a h p s) (ok_stp hx ck k a h p s).v _ _ _ _
theorem tw_otr {x:Nat→Int} (hx:C64 x) (ck:cks x=0) (a p:Nat→Int) (h s:Nat→Bool) (k:Nat):Tw (otr x a p h s k):=tw_stp hx ck (ok_itr hx ck a p h s k) (itr_m x a p h s k) _ _ _ _
theorem lit64 {n:Int} (h:I64 n):(Lit.int .i64 n).wf=true:=by
 have h1:=h.1
 have h2:=h.2
 simp [Lit.wf]
 exact ⟨h1,h2⟩
theorem kl_td {m:Int} {vd ac rf ho gr:Bool} {al sp bi:Int} (hm:I64 m) (ha:I64 al) (hs:I64 sp) (hb:I64 bi):∃ la,Tryz.prog.keyLits 5 39 (tdv m vd ac rf ho gr al sp bi).cells.toList=some la:=by
 have h1:Tryz.prog.cellsOf 2=1:=by kernel_rfl
 have h2:Tryz.prog.cellsOf 3=1:=by kernel_rfl
 have h3:Tryz.prog.cellsOf 4=1:=by kernel_rfl
 have h9:Tryz.prog.cellsOf 39=9:=by kernel_rfl
 have K:=fun (n:Int) (h:I64 n)=>(show Tryz.prog.keyLits 4 2 [.int .i64 n]=some [.int .i64 n] by simp only [Program.keyLits,Tryz.underlying2]; rw [if_pos ⟨trivial,lit64 h⟩])
 have I:=fun (n:Int) (h:I64 n)=>(show Tryz.prog.keyLits 4 3 [.int .i64 n]=some [.int .i64 n] by simp only [Program.keyLits,Tryz.underlying3]; rw [if_pos ⟨trivial,lit64 h⟩])
 have L:=fun (q:Bool)=>(show Tryz.prog.keyLits 4 4 [.bool q]=some [.bool q] by simp only [Program.keyLits,Tryz.underlying4])
 refine ⟨[.int .i64 m,.bool vd,.bool ac,.bool rf,.bool ho,.bool gr,.int .i64 al,.int .i64 sp,.int .i64 bi],?_⟩
 unfold Program.keyLits
 rw [Tryz.underlying39]
 simp only
 rw [if_pos ⟨by rw [h9]; rfl,by kernel_rfl⟩]
 simp [Value.cells,h1,h2,h3,K al ha,K sp hs,K bi hb,I m hm,L]
theorem td_eq_self {m:Int} {vd ac rf ho gr:Bool} {al sp bi:Int} (hm:I64 m) (ha:I64 al) (hs:I64 sp) (hb:I64 bi) (w:World):(Op.equalIn 10000 39 (tdv m vd ac rf ho gr al sp bi) (tdv m vd ac rf ho gr al sp bi)).run Tryz.prog w=.ok true w:=by
 have hk:Tryz.prog.keyTypeAt 5 39=true:=by kernel_rfl
 have hf:(tdv m vd ac rf ho gr al sp bi).formed Tryz.prog 39=true:=by kernel_rfl
 obtain ⟨la,hla⟩:=kl_td (vd:=vd) (ac:=ac) (rf:=rf) (ho:=ho) (gr:=gr) hm ha hs hb
 obtain ⟨r,hr,hiff⟩:=run_equalIn_deep (P:=Tryz.prog) 9995 5 39 hk w 5 5 _ _ la la hf hf hla hla
 rw [hiff.2 rfl] at hr
 exact hr
theorem nxt_seek {m s e co ou:Int} (h:sks m=true) (he:e=2):nxt (m,s) e co ou=(m,s):=by
 subst he
 have v:vld m=false:=by
  unfold sks at h
  unfold vld
  simp at h
  rcases h with rfl | rfl <;> rfl
 unfold nxt
 simp [v,h]
theorem nxt_in {m s co ou:Int} (h:sks m=true):nxt (m,s) 0 co ou=(1,0):=by
 unfold nxt
 simp [h]
theorem stp_gather {x:Nat→Int} {C:Cn} {a p:Int} (s:Bool) (hs:sks C.m=true) (ha:the x a=0) (gp:gd p=true) (n:C.n<15) :
  stp x C a true p s=({ C with l:=thv x a,r:=0,n:=C.n+1,z:=more C.z C.n p },⟨C.m,vld C.m,false,false,false,false,(tel C false false false false).al,(tel C false false false false).sp,(tel C false false false false).bi⟩):=by
 obtain ⟨e0,e1,e2,e3⟩:=a_ok ha C.l C.r
 have em:mid x (fed x C a) (thv x a) false false true p s=({ C with l:=thv x a,r:=0,n:=C.n+1,z:=more C.z C.n p },2,false,false):=by
  unfold mid
  rw [if_neg (by decide),if_pos (show sks (fed x C a).m=true from hs),if_pos rfl]
  unfold gat fed
  dsimp only
  rw [if_pos (by omega),e0,e2]
 have eb:br true p=true:=by simp [br,gp]
 unfold stp
 rw [e0,e1,e3,eb,em]
 unfold fin trn clk2
 dsimp only
 rw [nxt_seek hs rfl,if_neg (by rw [hs]; simp)]
 rfl
theorem stp_enter {x:Nat→Int} {C:Cn} {a p:Int} (s:Bool) (hs:sks C.m=true) (ha:the x a=0) (gp:gd p=true) (n:C.n=15) :
  stp x C a true p s=({ C with l:=thv x a,r:=0,n:=0,z:=more C.z C.n p,m:=1,s:=0,v:=tri (az (mv (more C.z C.n p) (C.n+1))) 0 0,u:=dgm (x 8) (x 9) (x 10),g:=sc C.g (mv (more C.z C.n p) (C.n+1)) },
   ⟨1,true,true,false,false,false,evn (az (mv (more C.z C.n p) (C.n+1))) 16777216,0,0⟩):=by
 obtain ⟨e0,e1,e2,e3⟩:=a_ok ha C.l C.r
 have em:mid x (fed x C a) (thv x a) false false true p s=(ent x (fed x C a) p,0,false,false):=by
  unfold mid
  rw [if_neg (by decide),if_pos (show sks (fed x C a).m=true from hs),if_pos rfl]
  unfold gat
  rw [if_neg (show ¬ (fed x C a).n+1<16 by show ¬ C.n+1<16; omega)]
 have eb:br true p=true:=by simp [br,gp]
 have ez:evn 0 16777216=0:=by decide
 unfold stp
 rw [e0,e1,e3,eb,em]
 unfold fin trn clk2
 dsimp only
 rw [show nxt ((ent x (fed x C a) p).m,(ent x (fed x C a) p).s) 0 (x 28) (x 29)=(1,0) from nxt_in hs,if_pos (Or.inl rfl)]
 simp [tel,vld,ent,fed,e0,e2,tri,ez]
theorem sm_const {z:Nat→Int} {p:Int}:∀ {n:Nat},(∀ k,k<n→z k=p)→sm z n=p*n
 | 0,_=>by simp [sm]
 | n+1,h=>by
  rw [sm,sm_const (fun k hk=>h k (by omega)),h n (by omega),Int.natCast_succ,Int.mul_add,Int.mul_one]
theorem mv_const {z:Nat→Int} {p:Int} {n:Nat} (hn:0<n) (gp:gd p=true) (h:∀ k,k<n→z k=p):mv z n=p:=by
 rw [(m_ok hn (ag_of (fun k hk=>by rw [h k hk]; exact gp))).1,sm_const h]
 exact Int.mul_ediv_cancel _ (by omega)
structure Sk (C:Cn) (n:Nat) (z:Nat→Int):Prop where
 m:C.m=0
 s:C.s=0
 g:C.g=0
 c:C.n=n
 z:∀ k,k<n→C.z k=z k
theorem sk_0 (z:Nat→Int):Sk cn0 0 z:=⟨rfl,rfl,rfl,rfl,fun _ h=>absurd h (Nat.not_lt_zero _)⟩
theorem sk_m {C:Cn} {n:Nat} {z:Nat→Int} (k:Sk C n z):sks C.m=true:=by rw [k.m]; rfl
def td0:Td:=⟨0,false,false,false,false,false,0,0,0⟩
theorem sk_td {C:Cn} {n:Nat} {z:Nat→Int} (k:Sk C n z):(⟨C.m,vld C.m,false,false,false,false,(tel C false false false false).al,(tel C false false false false).sp,(tel C false false false false).bi⟩:Td)=td0:=by
 simp [tel,k.m,vld,td0]
theorem sk_gather {x:Nat→Int} {C:Cn} {n:Nat} {z:Nat→Int} (k:Sk C n z) (hn:n<15) {a:Int} (s:Bool) (ha:the x a=0) (gp:gd (z n)=true):Sk (stp x C a true (z n) s).1 (n+1) z∧(stp x C a true (z n) s).2=td0:=by
 rw [stp_gather s (sk_m k) ha gp (by rw [k.c]; exact hn)]
 refine ⟨⟨k.m,k.s,k.g,by show C.n+1=_; rw [k.c],fun j hj=>?_⟩,sk_td k⟩
 show more C.z C.n (z n) j=z j
 rw [k.c]
 by_cases e:j<n
 ·rw [more_old e]; exact k.z j e
 ·rw [show j=n by omega,more_new]
structure En (x:Nat→Int) (C:Cn) (M:Int):Prop where
 m:C.m=1
 s:C.s=0
 n:C.n=0
 g:C.g=sc 0 M
 v:C.v=tri (az M) 0 0
 u:C.u=dgm (x 8) (x 9) (x 10)
 l:C.r=0
theorem sk_enter {x:Nat→Int} {C:Cn} {z:Nat→Int} (k:Sk C 15 z) {a:Int} (s:Bool) (ha:the x a=0) (gp:gd (z 15)=true) :
  En x (stp x C a true (z 15) s).1 (mv z 16)∧(stp x C a true (z 15) s).2=⟨1,true,true,false,false,false,evn (az (mv z 16)) 16777216,0,0⟩:=by
 have e:mv (more C.z C.n (z 15)) (C.n+1)=mv z 16:=by
  rw [k.c]
  refine (m_same (fun j hj=>?_)).1
  by_cases e:j<15
  ·rw [more_old e]; exact k.z j e
  ·rw [show j=15 by omega,more_new]
 rw [stp_enter s (sk_m k) ha gp k.c,e,k.g]
 exact ⟨⟨rfl,rfl,rfl,rfl,rfl,rfl,rfl⟩,rfl⟩
structure LC (W:World) (b fb gb:Nat) (hl:Value) (x:Nat→Int) (C:Cn) (U:World):Prop where
 c:CH U b fb gb hl x C
 o:∀ q,Ow b fb gb hl q→W.heap.size≤q
 b:Below W.heap.size W U
 t:Tb3 U
theorem lc_keep {W U U':World} {b fb gb:Nat} {hl:Value} {x:Nat→Int} {C:Cn} (h:LC W b fb gb hl x C U) (k:Below U.heap.size U U'):LC W b fb gb hl x C U' :=
 ⟨ch_keep h.c k,h.o,b_trans h.b k,t3_keep k h.t⟩
theorem lc_step {W U U':World} {b fb gb:Nat} {hl h1:Value} {x:Nat→Int} {C C':Cn} (h:LC W b fb gb hl x C U) (c:CH U' b fb gb h1 x C') (q:∀ k,h1.ownBlock=some k→hl.ownBlock=some k∨U.heap.size≤k) (k:Chs (Ow b fb gb hl) U U'):LC W b fb gb h1 x C' U':=by
 refine ⟨c,fun j hj=>?_,below_chs h.b k (fun j hj=>h.o j hj),t3_chs k (fun j hj=>h.c.up j hj) h.t⟩
 rcases hj with rfl | rfl | rfl | hj
 ·exact h.o _ (Or.inl rfl)
 ·exact h.o _ (Or.inr (Or.inl rfl))
 ·exact h.o _ (Or.inr (Or.inr (Or.inl rfl)))
 ·rcases q j hj with e | e
  ·exact h.o j (Or.inr (Or.inr (Or.inr e)))
  ·exact Nat.le_trans h.b.size e
theorem lc_new {W U U':World} {b fb gb:Nat} {x:Nat→Int} (E:Below W.heap.size W U) (T:Tb3 U) (c:CH U' b fb gb (.slice none 0 0) x cn0) (h0:U.heap.size≤b) (h1:U.heap.size≤fb) (h2:U.heap.size≤gb) (k:Below U.heap.size U U'):LC W b fb gb (.slice none 0 0) x cn0 U':=by
 refine ⟨c,fun j hj=>?_,b_trans E k,t3_keep k T⟩
 have s:=E.size
 rcases hj with rfl | rfl | rfl | hj
 ·omega
 ·omega
 ·omega
 ·cases hj
theorem lc_but {W U U':World} {b fb gb D:Nat} {hl:Value} {x:Nat→Int} {C:Cn} (h:LC W b fb gb hl x C U) (k:But D U U') (hD:W.heap.size≤D) (hu:Up D) (nD:¬ Ow b fb gb hl D):LC W b fb gb hl x C U' :=
 ⟨ch_chs (S:=fun q=>q=D) h.c (chs_of_but k rfl) (fun _ hq e=>nD (e ▸ hq)),h.o,below_but h.b hD k,t3_but k hu h.t⟩
end Go.Proofs.YthnofhjgfhapiaaGreatDoor

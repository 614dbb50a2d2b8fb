import Derived.Deep.WholeRow
import Derived.Deep.LoopGhost
import Derived.Deep.QuietTactic
import Derived.BigQuiet
import Derived.Lib.SmallJoins
import Derived.LoopN
import Derived.Laws.Cover1
import Derived.ChangeKeysEq
import Derived.Orders
import Derived.RegionTactic
import Derived.Below
import Derived.StillTactics
import Derived.Laws.Pointers
import Derived.Deep.RegionHeld3
import Derived.RowKit3
import Derived.Lib.Hide
import Derived.Lib.QuietBelow
import Derived.Laws.Bits64b
import Derived.Test.YtjifkmldigemkaaGreatDoorProg
import Derived.Shelf.Spec.BitsCarry
import Derived.Shelf.Bits.Mul64
import Derived.WalkKit
import Derived.WalkSpells
import Derived.ScopeJumps
import Derived.WalkMore
import Derived.Test.YtjifkmldigemkaaGreatDoorTam
import Derived.Test.YtjifkmldigemkaaGreatDoorTal
import Derived.Test.YtjifkmldigemkaaGreatDoorTak
import Derived.Test.YtjifkmldigemkaaGreatDoorTaf
import Derived.Test.YtjifkmldigemkaaGreatDoorTae
import Derived.Test.YtjifkmldigemkaaGreatDoorTaa
import Derived.Test.YtjifkmldigemkaaGreatDoorTab
import Derived.Test.YtjifkmldigemkaaGreatDoorTad
import Derived.Test.YtjifkmldigemkaaGreatDoorTac
import Derived.Test.YtjifkmldigemkaaGreatDoorTag
import Derived.Test.YtjifkmldigemkaaGreatDoorTan
set_option maxHeartbeats 8000000
set_option maxRecDepth 20000
namespace Go.Proofs.YtjifkmldigemkaaGreatDoor
open Go.RowKit Go.Shelf Go.Joins
theorem copy_any (b:Nat) (x:Nat→Int) (l r:Int) (w:World) (h:FR w b x l r):Calls Tryz.prog 49 #[.pointer (some ⟨b,0,none⟩)] w fun e w'=>∃ n,e=.returned (.pointer (some ⟨n,0,none⟩))∧w.heap.size≤n∧FR w' n x l r∧Below w.heap.size w w':=by
 go_enter Tryz.func49,Tryz.ntmps49
 go_wp2
 refine region_each [3,4,5,6,7,8,9,10] (fun i_ X_ U_=>match i_ with | 0=>X_=.pointer (some ⟨b,0,none⟩) | 1=>X_=.pointer (some ⟨b,0,none⟩) | 2=>X_=.pointer (some ⟨b,0,none⟩) | 3=>X_=.agg #[.int .i64 (x 0),.int .i64 (x 1),.int .i64 (x 2),.int .i64 (x 3),.int .i64 (x 4),.int .i64 (x 5),.int .i64 (x 6),.int .i64 (x 7),.int .i64 (x 8),.int .i64 (x 9),.int .i64 (x 10),.int .i64 (x 11),.int .i64 (x 12),.int .i64 (x 13),.int .i64 (x 14),.int .i64 (x 15),.int .i64 (x 16),.int .i64 (x 17),.int .i64 (x 18),.int .i64 (x 19),.int .i64 (x 20),.int .i64 (x 21),.int .i64 (x 22),.int .i64 (x 23),.int .i64 (x 24),.int .i64 (x 25),.int .i64 (x 26),.int .i64 (x 27),.int .i64 (x 28),.int .i64 (x 29),.int .i64 (x 30)] | 4=>X_=.pointer (some ⟨b,0,none⟩) | 5=>X_=.pointer (some ⟨b,0,none⟩) | 6=>X_=.pointer (some ⟨b,31,none⟩) | 7=>X_=.agg #[.int .i64 l,.int .i64 r] | _=>True) (fun i_=>false) (by kernel_rfl) (by kernel_rfl) (by kernel_rfl) (by kernel_rfl) (by kernel_rfl) ?_ (fun i x w hi ha h=>by cases ha) ?_ ?_
 ·refine swp (upS (upS (upS (upS (upS (upS (upS (upS up0 ?_) ?_) ?_) ?_) ?_) ?_) ?_) ?_)
  all_goals exact fun _ _ _ h _=>h
 ·refine upS (upS (upS (upS (upS (upS (upS (upS up0 ?_) ?_) ?_) ?_) ?_) ?_) ?_) ?_
  all_goals intro v f w' hb hv hB hd
  ·have b0:f.tmps[0]?=some (.pointer (some ⟨b,0,none⟩)):=(hb 0 (by decide)).trans rfl
   clear hb hv hd
   refine wpOp_step rfl fun K hK=>?_
   go_simp
   exact hK _ _ ⟨_,rfl,Below.refl _ _,rfl,fun h=>absurd h (by decide)⟩
  ·have d0:=got (hv 0 3 rfl) (hd 0 (by kernel_rfl))
   clear hb hv hd
   refine wpOp_step rfl fun K hK=>?_
   go_simp
   exact hK _ _ ⟨_,rfl,Below.refl _ _,rfl,fun h=>absurd h (by decide)⟩
  ·have d1:=got (hv 1 4 rfl) (hd 1 (by kernel_rfl))
   clear hb hv hd
   refine wpOp_step rfl fun K hK=>?_
   go_simp
   exact hK _ _ ⟨_,rfl,Below.refl _ _,rfl,fun h=>absurd h (by decide)⟩
  ·have d2:=got (hv 2 5 rfl) (hd 2 (by kernel_rfl))
   clear hb hv hd
   refine wpOp_step rfl fun K hK=>?_
   refine Eq.mpr (if_pos rfl) ?_
   refine wp_load_part 25 (.tmp 5) rfl b 0 (eval_tmp d2) 132 _ _ (0,0) _ (row_keep hB h) fr_part Tryz.underlying25 rfl (by kernel_rfl) ?_
   exact hK _ _ ⟨_,rfl,Below.refl _ _,rfl,fun h=>absurd h (by decide)⟩
  ·have b0:f.tmps[0]?=some (.pointer (some ⟨b,0,none⟩)):=(hb 0 (by decide)).trans rfl
   clear hb hv hd
   refine wpOp_step rfl fun K hK=>?_
   go_simp
   exact hK _ _ ⟨_,rfl,Below.refl _ _,rfl,fun h=>absurd h (by decide)⟩
  ·have d4:=got (hv 4 7 rfl) (hd 4 (by kernel_rfl))
   clear hb hv hd
   refine wpOp_step rfl fun K hK=>?_
   go_simp
   exact hK _ _ ⟨_,rfl,Below.refl _ _,rfl,fun h=>absurd h (by decide)⟩
  ·have d5:=got (hv 5 8 rfl) (hd 5 (by kernel_rfl))
   clear hb hv hd
   refine wpOp_step rfl fun K hK=>?_
   go_simp
   exact hK _ _ ⟨_,rfl,Below.refl _ _,rfl,fun h=>absurd h (by decide)⟩
  ·have d6:=got (hv 6 9 rfl) (hd 6 (by kernel_rfl))
   clear hb hv hd
   have q31:w'.cell? ⟨b,31,none⟩=some (.int .i64 l):=(cell_of_row _ _ 31 _ _ _ (row_keep hB h)).trans rfl
   have q32:w'.cell? ⟨b,32,none⟩=some (.int .i64 r):=(cell_of_row _ _ 32 _ _ _ (row_keep hB h)).trans rfl
   refine wpOp_step rfl fun K hK=>?_
   go_simp
   exact hK _ _ ⟨_,rfl,Below.refl _ _,rfl,fun h=>absurd h (by decide)⟩
 ·intro v w' hB hF hD
  have F0:v 0=_:=hF 0 (by simp)
  have F1:v 1=_:=hF 1 (by simp)
  have F2:v 2=_:=hF 2 (by simp)
  have F3:v 3=_:=hF 3 (by simp)
  have F4:v 4=_:=hF 4 (by simp)
  have F5:v 5=_:=hF 5 (by simp)
  have F6:v 6=_:=hF 6 (by simp)
  have F7:v 7=_:=hF 7 (by simp)
  clear hF
  simp only [frOf,frGo,Nat.zero_add,Nat.reduceAdd,F0,F1,F2,F3,F4,F5,F6,F7]
  clear F0 F1 F2 F3 F4 F5 F6 F7 hD
  go_wp2
  go_ret
  exact ⟨_,rfl,hB.size,heap_alloc_last _ _,b_alloc hB⟩
end Go.Proofs.YtjifkmldigemkaaGreatDoor

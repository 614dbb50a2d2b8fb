import Derived.Lib.SmallJoins
import Derived.Deep.WholeRow
import Derived.Test.YtjifkmldigemkaaGreatDoorTam
import Derived.Test.YtjifkmldigemkaaGreatDoorTag
import Derived.Test.YtjifkmldigemkaaGreatDoorTak
import Derived.Test.YtjifkmldigemkaaGreatDoorTab
import Derived.Test.YtjifkmldigemkaaGreatDoorTae
import Derived.Test.YtjifkmldigemkaaGreatDoorTav
import Derived.Test.YtjifkmldigemkaaGreatDoorTaf
import Derived.Test.YtjifkmldigemkaaGreatDoorTaa
import Derived.Test.YtjifkmldigemkaaGreatDoorTap
import Derived.Test.YtjifkmldigemkaaGreatDoorTad
set_option maxHeartbeats 8000000
set_option maxRecDepth 20000
namespace Go.Proofs.YtjifkmldigemkaaGreatDoor
open Go.RowKit Go.Shelf Go.Joins
abbrev FR (w:World) (b:Nat) (x:Nat→Int) (l r:Int):Prop:=w.heap[b]?=some (.cells #[.int .i64 (x 0),.int .i64 (x 1),.int .i64 (x 2),.int .i64 (x 3),.int .i64 (x 4),.int .i64 (x 5),.int .i64 (x 6),.int .i64 (x 7),.int .i64 (x 8),.int .i64 (x 9),.int .i64 (x 10),.int .i64 (x 11),.int .i64 (x 12),.int .i64 (x 13),.int .i64 (x 14),.int .i64 (x 15),.int .i64 (x 16),.int .i64 (x 17),.int .i64 (x 18),.int .i64 (x 19),.int .i64 (x 20),.int .i64 (x 21),.int .i64 (x 22),.int .i64 (x 23),.int .i64 (x 24),.int .i64 (x 25),.int .i64 (x 26),.int .i64 (x 27),.int .i64 (x 28),.int .i64 (x 29),.int .i64 (x 30),.int .i64 l,.int .i64 r] 132 (0,0))
theorem fr_31 {w:World} {b:Nat} {x:Nat→Int} {l r v:Int} (h:FR w b x l r):FR (w.setCell ⟨b,31,none⟩ (.int .i64 v)) b x v r:=(heap_setCell_same w b 31 _ _ _ h).trans rfl
theorem fr_32 {w:World} {b:Nat} {x:Nat→Int} {l r v:Int} (h:FR w b x l r):FR (w.setCell ⟨b,32,none⟩ (.int .i64 v)) b x l v:=(heap_setCell_same w b 32 _ _ _ h).trans rfl
theorem fr_part {x:Nat→Int} {l r:Int}:(#[.int .i64 (x 0),.int .i64 (x 1),.int .i64 (x 2),.int .i64 (x 3),.int .i64 (x 4),.int .i64 (x 5),.int .i64 (x 6),.int .i64 (x 7),.int .i64 (x 8),.int .i64 (x 9),.int .i64 (x 10),.int .i64 (x 11),.int .i64 (x 12),.int .i64 (x 13),.int .i64 (x 14),.int .i64 (x 15),.int .i64 (x 16),.int .i64 (x 17),.int .i64 (x 18),.int .i64 (x 19),.int .i64 (x 20),.int .i64 (x 21),.int .i64 (x 22),.int .i64 (x 23),.int .i64 (x 24),.int .i64 (x 25),.int .i64 (x 26),.int .i64 (x 27),.int .i64 (x 28),.int .i64 (x 29),.int .i64 (x 30),.int .i64 l,.int .i64 r]:Array Value).extract 0 (0+(#[.int .i64 (x 0),.int .i64 (x 1),.int .i64 (x 2),.int .i64 (x 3),.int .i64 (x 4),.int .i64 (x 5),.int .i64 (x 6),.int .i64 (x 7),.int .i64 (x 8),.int .i64 (x 9),.int .i64 (x 10),.int .i64 (x 11),.int .i64 (x 12),.int .i64 (x 13),.int .i64 (x 14),.int .i64 (x 15),.int .i64 (x 16),.int .i64 (x 17),.int .i64 (x 18),.int .i64 (x 19),.int .i64 (x 20),.int .i64 (x 21),.int .i64 (x 22),.int .i64 (x 23),.int .i64 (x 24),.int .i64 (x 25),.int .i64 (x 26),.int .i64 (x 27),.int .i64 (x 28),.int .i64 (x 29),.int .i64 (x 30)]:Array Value).size)=#[.int .i64 (x 0),.int .i64 (x 1),.int .i64 (x 2),.int .i64 (x 3),.int .i64 (x 4),.int .i64 (x 5),.int .i64 (x 6),.int .i64 (x 7),.int .i64 (x 8),.int .i64 (x 9),.int .i64 (x 10),.int .i64 (x 11),.int .i64 (x 12),.int .i64 (x 13),.int .i64 (x 14),.int .i64 (x 15),.int .i64 (x 16),.int .i64 (x 17),.int .i64 (x 18),.int .i64 (x 19),.int .i64 (x 20),.int .i64 (x 21),.int .i64 (x 22),.int .i64 (x 23),.int .i64 (x 24),.int .i64 (x 25),.int .i64 (x 26),.int .i64 (x 27),.int .i64 (x 28),.int .i64 (x 29),.int .i64 (x 30)]:=by kernel_rfl
def ap (x:Nat→Int) (l n:Int):Int:=if the x n=0 then thv x n else l
def ah (x:Nat→Int) (n:Int):Bool:=!decide (the x n=0)
def ar (x:Nat→Int) (r n:Int):Int:=if the x n=0 then 0 else r+1
def aq (x:Nat→Int) (r n:Int):Bool:=ah x n && decide (x 27<r+1)
theorem a_ok {x:Nat→Int} {n:Int} (h:the x n=0) (l r:Int):ap x l n=thv x n∧ah x n=false∧ar x r n=0∧aq x r n=false:=by
 unfold aq ap ah ar
 rw [if_pos h,if_pos h,decide_eq_true h]
 exact ⟨rfl,rfl,rfl,rfl⟩
theorem a_no {x:Nat→Int} {n:Int} (h:¬ the x n=0) (l r:Int):ap x l n=l∧ah x n=true∧ar x r n=r+1∧aq x r n=decide (x 27<r+1):=by
 unfold aq ap ah ar
 rw [if_neg h,if_neg h,decide_eq_false h]
 exact ⟨rfl,rfl,rfl,rfl⟩
theorem the_or {x:Nat→Int} (c:cks x=0) (n:Int):the x n=0∨the x n=2:=by
 cases i:inb n (1 - x 26) (x 26 - 1)
 ·exact Or.inr (th_out c i).2
 ·exact Or.inl (th_ok c i).2
theorem new_ok (x:Nat→Int) (hx:C64 x) (c:cks x=0) (w:World):Calls Tryz.prog 22 #[cv x] w fun e w'=>∃ b,e=.returned (.tuple #[.pointer (some ⟨b,0,none⟩),.int .i64 0])∧w.heap.size≤b∧FR w' b x 0 0∧Below w.heap.size w w':=by
 have ck:=check_any x hx
 rw [c] at ck
 clear c
 have E:Below w.heap.size w (w.alloc (Obj.cells #[.int .i64 (x 0),.int .i64 (x 1),.int .i64 (x 2),.int .i64 (x 3),.int .i64 (x 4),.int .i64 (x 5),.int .i64 (x 6),.int .i64 (x 7),.int .i64 (x 8),.int .i64 (x 9),.int .i64 (x 10),.int .i64 (x 11),.int .i64 (x 12),.int .i64 (x 13),.int .i64 (x 14),.int .i64 (x 15),.int .i64 (x 16),.int .i64 (x 17),.int .i64 (x 18),.int .i64 (x 19),.int .i64 (x 20),.int .i64 (x 21),.int .i64 (x 22),.int .i64 (x 23),.int .i64 (x 24),.int .i64 (x 25),.int .i64 (x 26),.int .i64 (x 27),.int .i64 (x 28),.int .i64 (x 29),.int .i64 (x 30)] 25)):=b_alloc (Below.refl _ _)
 have cr:CR (w.alloc (Obj.cells #[.int .i64 (x 0),.int .i64 (x 1),.int .i64 (x 2),.int .i64 (x 3),.int .i64 (x 4),.int .i64 (x 5),.int .i64 (x 6),.int .i64 (x 7),.int .i64 (x 8),.int .i64 (x 9),.int .i64 (x 10),.int .i64 (x 11),.int .i64 (x 12),.int .i64 (x 13),.int .i64 (x 14),.int .i64 (x 15),.int .i64 (x 16),.int .i64 (x 17),.int .i64 (x 18),.int .i64 (x 19),.int .i64 (x 20),.int .i64 (x 21),.int .i64 (x 22),.int .i64 (x 23),.int .i64 (x 24),.int .i64 (x 25),.int .i64 (x 26),.int .i64 (x 27),.int .i64 (x 28),.int .i64 (x 29),.int .i64 (x 30)] 25)) w.heap.size x:=cr_new
 go_enter Tryz.func22,Tryz.ntmps22
 go_wp2_with (with_reducible refine stop_at (some 4) rfl ?_)
 generalize (w.alloc (Obj.cells #[.int .i64 (x 0),.int .i64 (x 1),.int .i64 (x 2),.int .i64 (x 3),.int .i64 (x 4),.int .i64 (x 5),.int .i64 (x 6),.int .i64 (x 7),.int .i64 (x 8),.int .i64 (x 9),.int .i64 (x 10),.int .i64 (x 11),.int .i64 (x 12),.int .i64 (x 13),.int .i64 (x 14),.int .i64 (x 15),.int .i64 (x 16),.int .i64 (x 17),.int .i64 (x 18),.int .i64 (x 19),.int .i64 (x 20),.int .i64 (x 21),.int .i64 (x 22),.int .i64 (x 23),.int .i64 (x 24),.int .i64 (x 25),.int .i64 (x 26),.int .i64 (x 27),.int .i64 (x 28),.int .i64 (x 29),.int .i64 (x 30)] 25))=z0 at *
 refine unstop ?_
 refine wpList_load_row rfl 25 (.tmp 1) rfl w.heap.size rfl 25 _ (0,0) _ cr Tryz.underlying25 rfl (by kernel_rfl) ?_
 go_wp2_with fail
 refine (ck _).mono ?_
 rintro e y0 ⟨rfl,hb⟩
 replace cr:=cr_keep hb cr
 replace E:=b_trans E hb
 clear hb ck
 go_wp2_with (with_reducible refine stop_at (some 7) rfl ?_)
 refine unstop ?_
 refine wpList_load_row rfl 25 (.tmp 1) rfl w.heap.size rfl 25 _ (0,0) _ cr Tryz.underlying25 rfl (by kernel_rfl) ?_
 go_wp2
 go_ret2
 exact ⟨_,rfl,E.size,heap_alloc_last _ _,b_alloc E⟩
theorem new_bad (x:Nat→Int) (hx:C64 x) (c:¬ cks x=0) (w:World):Calls Tryz.prog 22 #[cv x] w (RetV (.tuple #[.pointer none,.int .i64 1]) w):=by
 have ck:=check_any x hx
 generalize cks x=m at *
 have E:Below w.heap.size w (w.alloc (Obj.cells #[.int .i64 (x 0),.int .i64 (x 1),.int .i64 (x 2),.int .i64 (x 3),.int .i64 (x 4),.int .i64 (x 5),.int .i64 (x 6),.int .i64 (x 7),.int .i64 (x 8),.int .i64 (x 9),.int .i64 (x 10),.int .i64 (x 11),.int .i64 (x 12),.int .i64 (x 13),.int .i64 (x 14),.int .i64 (x 15),.int .i64 (x 16),.int .i64 (x 17),.int .i64 (x 18),.int .i64 (x 19),.int .i64 (x 20),.int .i64 (x 21),.int .i64 (x 22),.int .i64 (x 23),.int .i64 (x 24),.int .i64 (x 25),.int .i64 (x 26),.int .i64 (x 27),.int .i64 (x 28),.int .i64 (x 29),.int .i64 (x 30)] 25)):=b_alloc (Below.refl _ _)
 have cr:CR (w.alloc (Obj.cells #[.int .i64 (x 0),.int .i64 (x 1),.int .i64 (x 2),.int .i64 (x 3),.int .i64 (x 4),.int .i64 (x 5),.int .i64 (x 6),.int .i64 (x 7),.int .i64 (x 8),.int .i64 (x 9),.int .i64 (x 10),.int .i64 (x 11),.int .i64 (x 12),.int .i64 (x 13),.int .i64 (x 14),.int .i64 (x 15),.int .i64 (x 16),.int .i64 (x 17),.int .i64 (x 18),.int .i64 (x 19),.int .i64 (x 20),.int .i64 (x 21),.int .i64 (x 22),.int .i64 (x 23),.int .i64 (x 24),.int .i64 (x 25),.int .i64 (x 26),.int .i64 (x 27),.int .i64 (x 28),.int .i64 (x 29),.int .i64 (x 30)] 25)) w.heap.size x:=cr_new
 go_enter Tryz.func22,Tryz.ntmps22
 go_wp2_with (with_reducible refine stop_at (some 4) rfl ?_)
 generalize (w.alloc (Obj.cells #[.int .i64 (x 0),.int .i64 (x 1),.int .i64 (x 2),.int .i64 (x 3),.int .i64 (x 4),.int .i64 (x 5),.int .i64 (x 6),.int .i64 (x 7),.int .i64 (x 8),.int .i64 (x 9),.int .i64 (x 10),.int .i64 (x 11),.int .i64 (x 12),.int .i64 (x 13),.int .i64 (x 14),.int .i64 (x 15),.int .i64 (x 16),.int .i64 (x 17),.int .i64 (x 18),.int .i64 (x 19),.int .i64 (x 20),.int .i64 (x 21),.int .i64 (x 22),.int .i64 (x 23),.int .i64 (x 24),.int .i64 (x 25),.int .i64 (x 26),.int .i64 (x 27),.int .i64 (x 28),.int .i64 (x 29),.int .i64 (x 30)] 25))=z0 at *
 refine unstop ?_
 refine wpList_load_row rfl 25 (.tmp 1) rfl w.heap.size rfl 25 _ (0,0) _ cr Tryz.underlying25 rfl (by kernel_rfl) ?_
 go_wp2_with fail
 refine (ck _).mono ?_
 rintro e y0 ⟨rfl,hb⟩
 replace E:=b_trans E hb
 clear hb ck cr
 go_wp2
 go_ret2
 exact ⟨rfl,E⟩
theorem add_held (b:Nat) (x:Nat→Int) (l r:Int) (w:World) (h:FR w b x l r):Calls Tryz.prog 63 #[.pointer (some ⟨b,0,none⟩),.bool true] w (RetV (tv (x 3) (x 4) (x 5)) w):=by
 have g0:(w.alloc (Obj.cells #[.int .i64 0,.int .i64 0,.int .i64 0] 23)).cell? ⟨b,3,none⟩=some (.int .i64 (x 3)):=(cell_of_row _ _ 3 _ _ _ (row_keep (b_alloc (Below.refl _ _)) h)).trans rfl
 have g1:(w.alloc (Obj.cells #[.int .i64 0,.int .i64 0,.int .i64 0] 23)).cell? ⟨b,4,none⟩=some (.int .i64 (x 4)):=(cell_of_row _ _ 4 _ _ _ (row_keep (b_alloc (Below.refl _ _)) h)).trans rfl
 have g2:(w.alloc (Obj.cells #[.int .i64 0,.int .i64 0,.int .i64 0] 23)).cell? ⟨b,5,none⟩=some (.int .i64 (x 5)):=(cell_of_row _ _ 5 _ _ _ (row_keep (b_alloc (Below.refl _ _)) h)).trans rfl
 clear h
 go_enter Tryz.func63,Tryz.ntmps63
 go_wp2
 exact bodyPost_ret (v:=tv (x 3) (x 4) (x 5)) (by simp [results,Tryz.results63,go_sem]) rfl ⟨rfl,b_alloc (Below.refl _ _)⟩
theorem add_not (b:Nat) (x:Nat→Int) (l r:Int) (w:World) (h:FR w b x l r):Calls Tryz.prog 63 #[.pointer (some ⟨b,0,none⟩),.bool false] w (RetV (tv (x 0) (x 1) (x 2)) w):=by
 have g0:(w.alloc (Obj.cells #[.int .i64 0,.int .i64 0,.int .i64 0] 23)).cell? ⟨b,0,none⟩=some (.int .i64 (x 0)):=(cell_of_row _ _ 0 _ _ _ (row_keep (b_alloc (Below.refl _ _)) h)).trans rfl
 have g1:(w.alloc (Obj.cells #[.int .i64 0,.int .i64 0,.int .i64 0] 23)).cell? ⟨b,1,none⟩=some (.int .i64 (x 1)):=(cell_of_row _ _ 1 _ _ _ (row_keep (b_alloc (Below.refl _ _)) h)).trans rfl
 have g2:(w.alloc (Obj.cells #[.int .i64 0,.int .i64 0,.int .i64 0] 23)).cell? ⟨b,2,none⟩=some (.int .i64 (x 2)):=(cell_of_row _ _ 2 _ _ _ (row_keep (b_alloc (Below.refl _ _)) h)).trans rfl
 clear h
 go_enter Tryz.func63,Tryz.ntmps63
 go_wp2
 exact bodyPost_ret (v:=tv (x 0) (x 1) (x 2)) (by simp [results,Tryz.results63,go_sem]) rfl ⟨rfl,b_alloc (Below.refl _ _)⟩
theorem in_ok (b:Nat) (x:Nat→Int) (hx:C64 x) (l r n:Int) (_c:cks x=0) (t:the x n=0) (w:World) (h:FR w b x l r):Calls Tryz.prog 26 #[.pointer (some ⟨b,0,none⟩),.int .i64 n] w fun e w'=>e=.returned (.tuple #[.int .i64 (thv x n),.bool false,.bool false])∧FR w' b x (thv x n) 0∧But b w w':=by
 have ct:=thrust_any x hx n
 rw [t] at ct
 clear _c t
 have B:=but_refl b w
 generalize thv x n=p at *
 go_enter Tryz.func26,Tryz.ntmps26
 go_wp2_with (with_reducible refine stop_at (some 12) rfl ?_)
 refine unstop ?_
 refine wpList_load_part rfl 25 (.tmp 11) rfl b 0 rfl 132 _ _ (0,0) _ h fr_part Tryz.underlying25 rfl (by kernel_rfl) ?_
 go_wp2_with fail
 refine (ct _).mono ?_
 rintro e y0 ⟨rfl,hb⟩
 replace h:=row_keep hb h
 replace B:=but_trans B (but_below hb)
 clear hb ct
 have g31:y0.cell? ⟨b,31,none⟩=some (.int .i64 l):=(cell_of_row _ _ 31 _ _ _ h).trans rfl
 have g32:y0.cell? ⟨b,32,none⟩=some (.int .i64 r):=(cell_of_row _ _ 32 _ _ _ h).trans rfl
 have z31:=frozen_of_row y0 b 31 _ _ h
 have z32:=frozen_of_row y0 b 32 _ _ h
 go_wp2
 go_ret3
 exact ⟨rfl,fr_32 (fr_31 h),but_trans B (but_trans but_set but_set)⟩
theorem in_held (b:Nat) (x:Nat→Int) (hx:C64 x) (l r n:Int) (_c:cks x=0) (t:the x n=2) (r0:0≤r) (r1:r≤1000000) (w:World) (h:FR w b x l r):Calls Tryz.prog 26 #[.pointer (some ⟨b,0,none⟩),.int .i64 n] w fun e w'=>e=.returned (.tuple #[.int .i64 l,.bool true,.bool (decide (x 27<r+1))])∧FR w' b x l (r+1)∧But b w w':=by
 have ct:=thrust_any x hx n
 rw [t] at ct
 clear _c t
 have B:=but_refl b w
 generalize thv x n=p at *
 have ws:IntKind.i64.wrap (r+1)=r+1:=by rw [IntKind.wrap_i64]; omega
 go_enter Tryz.func26,Tryz.ntmps26
 go_wp2_with (with_reducible refine stop_at (some 12) rfl ?_)
 refine unstop ?_
 refine wpList_load_part rfl 25 (.tmp 11) rfl b 0 rfl 132 _ _ (0,0) _ h fr_part Tryz.underlying25 rfl (by kernel_rfl) ?_
 go_wp2_with fail
 refine (ct _).mono ?_
 rintro e y0 ⟨rfl,hb⟩
 replace h:=row_keep hb h
 replace B:=but_trans B (but_below hb)
 clear hb ct
 have g32:y0.cell? ⟨b,32,none⟩=some (.int .i64 r):=(cell_of_row _ _ 32 _ _ _ h).trans rfl
 have z32:=frozen_of_row y0 b 32 _ _ h
 go_wp2_with fail
 replace h:=fr_32 (v:=r+1) h
 replace B:=but_trans B (but_set (i:=32) (v:=.int .i64 (r+1)))
 clear g32 z32 ws
 generalize y0.setCell ⟨b,32,none⟩ (.int .i64 (r+1))=y1 at *
 have g27:=cell_regrown (show y1.cell? ⟨b,27,none⟩=some (.int .i64 (x 27)) from (cell_of_row _ _ 27 _ _ _ h).trans rfl)
 have g31:=cell_regrown (show y1.cell? ⟨b,31,none⟩=some (.int .i64 l) from (cell_of_row _ _ 31 _ _ _ h).trans rfl)
 have g32:=cell_regrown (show y1.cell? ⟨b,32,none⟩=some (.int .i64 (r+1)) from (cell_of_row _ _ 32 _ _ _ h).trans rfl)
 refine wp_region_quiet_below (by kernel_rfl) (by kernel_rfl) ?_
 repeat (with_reducible refine wpQuiet_step (fun KQ hKQ=>?_); go_simp; with_reducible refine hKQ _ ?_; clear hKQ KQ)
 refine wpQuiet_nil ?_
 intro _ hw'
 obtain ⟨⟨dq,osq⟩,hw''⟩:=hw'
 subst hw''
 replace B:=but_trans B (but_below (below_regrown _ dq osq))
 replace h:=row_keep (below_regrown _ dq osq) h
 clear g27 g31 g32
 generalize Sort.grow (redrawn y1 dq) osq=y2 at *
 go_wp2
 go_ret3
 exact ⟨rfl,h,B⟩
end Go.Proofs.YtjifkmldigemkaaGreatDoor
namespace Go.Proofs.YtjifkmldigemkaaGreatDoor
open Go.RowKit Go.Shelf
theorem fits_spr (m:Nat→Int) (hm:I6 m) (w:World) :
  Calls Tryz.prog 182 #[sv m] w (RetV (.bool (f6b m)) w):=by
 have B:=b_alloc (o:=Obj.cells #[.int .i64 (m 0),.int .i64 (m 1),.int .i64 (m 2),.int .i64 (m 3),.int .i64 (m 4),.int .i64 (m 5)] 40) (Below.refl w.heap.size w)
 obtain ⟨x0,x1,x2,x3,x4,x5⟩:=ix_sym m
 go_enter Tryz.func182,Tryz.ntmps182
 go_wp2
 go_loop [6] (fun iv=>∃ k:Nat,k≤6∧iv=.int .i64 k∧Hid (∀ i,i<k→FitP (m i))) (fun iv=>6 - (intOf iv).toNat)
 case atStart=>exact ⟨0,by decide,rfl,Lib.hid (fun i hi=>absurd hi (by omega))⟩
 case round =>
  obtain ⟨k,hk,rfl,hf⟩:=hrel
  by_cases c:k<6∧¬ FitP (m k)
  ·have E:=Lib.hid (f6b_no (fun h=>c.2 (h k c.1)))
   have ex:=Lib.hid (fitb_no c.2)
   have hx:=Lib.hid (hm k c.1)
   obtain ⟨c,_⟩:=c
   rcases seven hk with rfl | rfl | rfl | rfl | rfl | rfl | rfl
   ·exact absurd c (by decide)
   all_goals
    go_wp2_with fail
    refine (fits_any _ hx.out.1 hx.out.2 _).mono ?_
    rintro e w9 ⟨rfl,rfl⟩
    rw [ex.out]
    go_wp2
    go_ret
    exact ⟨by rw [E.out]; rfl,B⟩
  ·by_cases d:k=6
   ·subst d
    have E:=Lib.hid (f6b_yes hf.out)
    go_wp2
    go_ret
    exact ⟨by rw [E.out]; rfl,B⟩
   ·have fk:FitP (m k):=Classical.byContradiction (fun h=>c ⟨by omega,h⟩)
    have hf':=Lib.hid (less_succ hf.out fk)
    have hx:=Lib.hid (hm k (by omega))
    have ex:=Lib.hid (fitb_yes fk)
    clear c fk
    rcases seven hk with rfl | rfl | rfl | rfl | rfl | rfl | rfl
    ·exact absurd rfl d
    all_goals
     go_wp2_with fail
     refine (fits_any _ hx.out.1 hx.out.2 _).mono ?_
     rintro e w9 ⟨rfl,rfl⟩
     rw [ex.out]
     go_wp2
     go_round
     case rel=>exact ⟨_,by decide,rfl,hf'⟩
     case measure=>simp [intOf]
abbrev srv (f g:Nat→Int):Value:=.agg #[.int .i64 (f 0),.int .u64 (g 0),.int .i64 (f 1),.int .u64 (g 1),.int .i64 (f 2),.int .u64 (g 2),.int .i64 (f 3),.int .u64 (g 3),.int .i64 (f 4),.int .u64 (g 4),.int .i64 (f 5),.int .u64 (g 5)]
abbrev YC (w:World) (b:Nat) (f g:Nat→Int):Prop:=∀ k,k<6→w.cell? ⟨b,2*k,none⟩=some (.int .i64 (f k))∧w.cell? ⟨b,2*k+1,none⟩=some (.int .u64 (g k))
abbrev YF (w:World) (b:Nat):Prop:=∀ k,k<12→w.frozen? ⟨b,k,none⟩=false
theorem yc_keep {w w':World} (hb:Below w.heap.size w w') {b:Nat} {f g:Nat→Int} (c:YC w b f g):YC w' b f g:=fun k hk=>⟨cell_keep hb (c k hk).1,cell_keep hb (c k hk).2⟩
theorem yc_lt {w:World} {b:Nat} {f g:Nat→Int} (c:YC w b f g):b<w.heap.size:=World.block_lt_of_cell? w _ (c 0 (by decide)).1
theorem yf_keep {w w':World} (hb:Below w.heap.size w w') {b:Nat} {f g:Nat→Int} (c:YC w b f g) (h:YF w b):YF w' b:=fun k hk=>by rw [hb.frozen (p:=⟨b,k,none⟩) (yc_lt c)]; exact h k hk
theorem yc_set {w:World} {b b1 o:Nat} {f g:Nat→Int} {v:Value} (c:YC w b f g) (hb:b1≠b):YC (w.setCell ⟨b1,o,none⟩ v) b f g:=fun k hk=>⟨by rw [World.cell?_setCell_far _ _ _ _ hb]; exact (c k hk).1,by rw [World.cell?_setCell_far _ _ _ _ hb]; exact (c k hk).2⟩
theorem yf_set {w:World} {b b1 o:Nat} {v:Value} (c:YF w b):YF (w.setCell ⟨b1,o,none⟩ v) b:=fun k hk=>by rw [World.frozen?_setCell]; exact c k hk
abbrev YC12 (w:World) (b:Nat) (f g:Nat→Int):Prop:=w.cell? ⟨b,0,none⟩=some (.int .i64 (f 0))∧w.cell? ⟨b,1,none⟩=some (.int .u64 (g 0))∧w.cell? ⟨b,2,none⟩=some (.int .i64 (f 1))∧w.cell? ⟨b,3,none⟩=some (.int .u64 (g 1))∧w.cell? ⟨b,4,none⟩=some (.int .i64 (f 2))∧w.cell? ⟨b,5,none⟩=some (.int .u64 (g 2))∧w.cell? ⟨b,6,none⟩=some (.int .i64 (f 3))∧w.cell? ⟨b,7,none⟩=some (.int .u64 (g 3))∧w.cell? ⟨b,8,none⟩=some (.int .i64 (f 4))∧w.cell? ⟨b,9,none⟩=some (.int .u64 (g 4))∧w.cell? ⟨b,10,none⟩=some (.int .i64 (f 5))∧w.cell? ⟨b,11,none⟩=some (.int .u64 (g 5))
abbrev YF12 (w:World) (b:Nat):Prop:=w.frozen? ⟨b,0,none⟩=false∧w.frozen? ⟨b,1,none⟩=false∧w.frozen? ⟨b,2,none⟩=false∧w.frozen? ⟨b,3,none⟩=false∧w.frozen? ⟨b,4,none⟩=false∧w.frozen? ⟨b,5,none⟩=false∧w.frozen? ⟨b,6,none⟩=false∧w.frozen? ⟨b,7,none⟩=false∧w.frozen? ⟨b,8,none⟩=false∧w.frozen? ⟨b,9,none⟩=false∧w.frozen? ⟨b,10,none⟩=false∧w.frozen? ⟨b,11,none⟩=false
theorem yc_12 {w:World} {b:Nat} {f g:Nat→Int} (c:YC w b f g):YC12 w b f g:=⟨(c 0 (by decide)).1,(c 0 (by decide)).2,(c 1 (by decide)).1,(c 1 (by decide)).2,(c 2 (by decide)).1,(c 2 (by decide)).2,(c 3 (by decide)).1,(c 3 (by decide)).2,(c 4 (by decide)).1,(c 4 (by decide)).2,(c 5 (by decide)).1,(c 5 (by decide)).2⟩
theorem yf_12 {w:World} {b:Nat} (c:YF w b):YF12 w b:=⟨c 0 (by decide),c 1 (by decide),c 2 (by decide),c 3 (by decide),c 4 (by decide),c 5 (by decide),c 6 (by decide),c 7 (by decide),c 8 (by decide),c 9 (by decide),c 10 (by decide),c 11 (by decide)⟩
theorem yc_of {w:World} {b:Nat} {f g:Nat→Int} (c:YC12 w b f g):YC w b f g:=fun k hk=>by
 obtain ⟨c0,c1,c2,c3,c4,c5,c6,c7,c8,c9,c10,c11⟩:=c
 match k,hk with
 | 0,_=>exact ⟨c0,c1⟩
 | 1,_=>exact ⟨c2,c3⟩
 | 2,_=>exact ⟨c4,c5⟩
 | 3,_=>exact ⟨c6,c7⟩
 | 4,_=>exact ⟨c8,c9⟩
 | 5,_=>exact ⟨c10,c11⟩
theorem yf_of {w:World} {b:Nat} (c:YF12 w b):YF w b:=fun k hk=>by
 obtain ⟨c0,c1,c2,c3,c4,c5,c6,c7,c8,c9,c10,c11⟩:=c
 match k,hk with
 | 0,_=>exact c0
 | 1,_=>exact c1
 | 2,_=>exact c2
 | 3,_=>exact c3
 | 4,_=>exact c4
 | 5,_=>exact c5
 | 6,_=>exact c6
 | 7,_=>exact c7
 | 8,_=>exact c8
 | 9,_=>exact c9
 | 10,_=>exact c10
 | 11,_=>exact c11
theorem yc_new {w:World} {b:Nat} (hn:b=w.heap.size):YC (w.alloc (Obj.cells #[.int .i64 0,.int .u64 0,.int .i64 0,.int .u64 0,.int .i64 0,.int .u64 0,.int .i64 0,.int .u64 0,.int .i64 0,.int .u64 0,.int .i64 0,.int .u64 0] 191)) b (fun _=>0) (fun _=>0):=by subst hn; exact yc_of (by simp [YC12,go_sem])
theorem yf_new {w:World} {b:Nat} (hn:b=w.heap.size):YF (w.alloc (Obj.cells #[.int .i64 0,.int .u64 0,.int .i64 0,.int .u64 0,.int .i64 0,.int .u64 0,.int .i64 0,.int .u64 0,.int .i64 0,.int .u64 0,.int .i64 0,.int .u64 0] 191)) b:=by subst hn; exact yf_of (by simp [YF12,go_sem])
abbrev upto (p:Nat) (f:Nat→Int):Nat→Int:=fun k=>if k<p then f k else 0
theorem yc_put {w:World} {b p:Nat} {f g:Nat→Int} (c:YC w b (upto p f) (upto p g)) (hp:p<6):YC ((w.setCell ⟨b,2*p,none⟩ (.int .i64 (f p))).setCell ⟨b,2*p+1,none⟩ (.int .u64 (g p))) b (upto (p+1) f) (upto (p+1) g):=by
 intro k hk
 by_cases e:k=p
 ·subst e
  refine ⟨?_,?_⟩
  ·rw [World.cell?_setCell_other _ _ _ _ (by intro c; simp at c),World.cell?_setCell_same' _ _ _ (by rw [(c k hk).1]; rfl)]
   simp [upto]
  ·rw [World.cell?_setCell_same' _ _ _ (by rw [World.cell?_setCell_other _ _ _ _ (by intro c; simp at c),(c k hk).2]; rfl)]
   simp [upto]
 ·have h1:(if k<p+1 then f k else 0)=if k<p then f k else 0:=by
   by_cases d:k<p
   ·rw [if_pos d,if_pos (by omega)]
   ·rw [if_neg d,if_neg (by omega)]
  have h2:(if k<p+1 then g k else 0)=if k<p then g k else 0:=by
   by_cases d:k<p
   ·rw [if_pos d,if_pos (by omega)]
   ·rw [if_neg d,if_neg (by omega)]
  refine ⟨?_,?_⟩
  ·rw [World.cell?_setCell_other _ _ _ _ (by intro c; simp at c <;> omega),World.cell?_setCell_other _ _ _ _ (by intro c; simp at c <;> omega),(c k hk).1]
   simp only [upto,h1]
  ·rw [World.cell?_setCell_other _ _ _ _ (by intro c; simp at c <;> omega),World.cell?_setCell_other _ _ _ _ (by intro c; simp at c <;> omega),(c k hk).2]
   simp only [upto,h2]
theorem yc_mine {w:World} {b:Nat} {f g f' g':Nat→Int} (c:YC w b f g):YC ((((((((((((w.setCell ⟨b,0,none⟩ (.int .i64 (f' 0))).setCell ⟨b,1,none⟩ (.int .u64 (g' 0))).setCell ⟨b,2,none⟩ (.int .i64 (f' 1))).setCell ⟨b,3,none⟩ (.int .u64 (g' 1))).setCell ⟨b,4,none⟩ (.int .i64 (f' 2))).setCell ⟨b,5,none⟩ (.int .u64 (g' 2))).setCell ⟨b,6,none⟩ (.int .i64 (f' 3))).setCell ⟨b,7,none⟩ (.int .u64 (g' 3))).setCell ⟨b,8,none⟩ (.int .i64 (f' 4))).setCell ⟨b,9,none⟩ (.int .u64 (g' 4))).setCell ⟨b,10,none⟩ (.int .i64 (f' 5))).setCell ⟨b,11,none⟩ (.int .u64 (g' 5))) b f' g':=by
 obtain ⟨c0,c1,c2,c3,c4,c5,c6,c7,c8,c9,c10,c11⟩:=yc_12 c
 exact yc_of (by simp [YC12,go_sem,c0,c1,c2,c3,c4,c5,c6,c7,c8,c9,c10,c11])
theorem yc_all {w:World} {b:Nat} {f g:Nat→Int} (c:YC w b (upto 6 f) (upto 6 g)):YC w b f g:=fun k hk=>by
 have h:=c k hk
 simp only [upto,if_pos hk] at h
 exact h
theorem yc_none {w:World} {b:Nat} {f g:Nat→Int} (c:YC w b (fun _=>0) (fun _=>0)):YC w b (upto 0 f) (upto 0 g):=fun k hk=>by
 simp only [upto,if_neg (Nat.not_lt_zero k)]
 exact c k hk
theorem yc_back {w:World} {b:Nat} {f g:Nat→Int} (c:YC w b (upto 0 f) (upto 0 g)):YC w b (fun _=>0) (fun _=>0):=fun k hk=>by
 have h:=c k hk
 simp only [upto,if_neg (Nat.not_lt_zero k)] at h
 exact h
def rawn (m:Nat→Int) (k:Nat):Int:=match k with | 0=>rwn m 0 0 | 1=>rwn m 0 1 | 2=>rwn m 0 2 | 3=>rwn m 1 1 | 4=>rwn m 1 2 | _=>rwn m 2 2
abbrev hin (r:Nat→Int) (k:Nat):Int:=r k / 18446744073709551616
abbrev lon (r:Nat→Int) (k:Nat):Int:=r k % 18446744073709551616
theorem terms_ti (m:Nat→Int) (i j:Nat) (w:World) (hl:ML w) (hp:PL w) :
  Calls Tryz.prog 184 #[sv m,.int .i64 i,.int .i64 j] w fun e w'=>∃ P I J,e=.returned (.func (.func 214) #[] #[.pointer (some ⟨I,0,none⟩),.pointer (some ⟨J,0,none⟩),.pointer (some ⟨P,0,none⟩)])∧TI w'.heap.size w' P I J m i j∧Below w.heap.size w w':=by
 refine (terms_any m i j w).mono ?_
 rintro e w' ⟨rfl,rfl⟩
 have B:Below w.heap.size w (((w.alloc (Obj.cells #[.int .i64 (m 0),.int .i64 (m 1),.int .i64 (m 2),.int .i64 (m 3),.int .i64 (m 4),.int .i64 (m 5)] 40)).alloc (Obj.cells #[.int .i64 (i:Int)] 3)).alloc (Obj.cells #[.int .i64 (j:Int)] 3)):=b_alloc (b_alloc (b_alloc (Below.refl _ _)))
 have z:=ml_lt hl
 have z0:=pl_lt hp
 exact ⟨_,_,_,rfl,⟨by simp <;> omega,by simp,by simp,by simp <;> omega,by simp <;> omega,sc_alloc (sc_alloc (sc_new rfl)),by simp [go_sem],by simp [go_sem],ml_keep B hl,pl_keep B hp⟩,B⟩
structure RK (W:World) (A R X:Nat) (m:Nat→Int) (p:Nat) (U:World):Prop where
 b:Below W.heap.size W U
 a:SC U A m
 r:YC U R (fun _=>0) (fun _=>0)
 rf:YF U R
 x:YC U X (upto p (hin (rawn m))) (upto p (lon (rawn m)))
 xf:YF U X
 ml:ML U
 pl:PL U
theorem rk_keep {W U U':World} {A R X:Nat} {m:Nat→Int} {p:Nat} (h:RK W A R X m p U) (hb:Below U.heap.size U U'):RK W A R X m p U' :=
 ⟨b_trans h.b hb,sc_keep hb h.a,yc_keep hb h.r,yf_keep hb h.r h.rf,yc_keep hb h.x,yf_keep hb h.x h.xf,ml_keep hb h.ml,pl_keep hb h.pl⟩
theorem ml_set {w:World} {b o:Nat} {v:Value} (h:ML w) (hb:2<b):ML (w.setCell ⟨b,o,none⟩ v):=fun i hi a ha=>by rw [World.cell?_setCell_far _ _ _ _ (show b≠2 by omega)]; exact h i hi a ha
theorem rk_put {W U:World} {A R X:Nat} {m:Nat→Int} {p:Nat} (h:RK W A R X m p U) (hp:p<6) (q:W.heap.size≤X) (q1:2<X∧0<X) (qa:X≠A) (qr:X≠R) :
  RK W A R X m (p+1) ((U.setCell ⟨X,2*p,none⟩ (.int .i64 (hin (rawn m) p))).setCell ⟨X,2*p+1,none⟩ (.int .u64 (lon (rawn m) p))) :=
 ⟨b_set (b_set h.b q) q,sc_set (sc_set h.a qa) qa,yc_set (yc_set h.r qr) qr,yf_set (yf_set h.rf),yc_put h.x hp,yf_set (yf_set h.xf),ml_set (ml_set h.ml q1.1) q1.1,pl_put (pl_put h.pl (by omega)) (by omega)⟩
theorem raw_ok (m:Nat→Int) (hm:I6 m) (ca:F6 m) (w:World) (hl:ML w) (hp:PL w) :
  Calls Tryz.prog 130 #[sv m] w (RetV (.tuple #[srv (hin (rawn m)) (lon (rawn m)),.int .i64 0]) w):=by
 have ea:=Lib.hid (f6b_yes ca)
 have CA:=Lib.hid ca
 clear ca
 have z1:=ml_lt hl
 have zp:=pl_lt hp
 have kA:SC ((w.alloc (Obj.cells #[.int .i64 (m 0),.int .i64 (m 1),.int .i64 (m 2),.int .i64 (m 3),.int .i64 (m 4),.int .i64 (m 5)] 40)).alloc (Obj.cells #[.int .i64 0,.int .u64 0,.int .i64 0,.int .u64 0,.int .i64 0,.int .u64 0,.int .i64 0,.int .u64 0,.int .i64 0,.int .u64 0,.int .i64 0,.int .u64 0] 191)) w.heap.size m:=sc_alloc (sc_new (w:=w) (m:=m) (t:=40) rfl)
 have kR:YC ((w.alloc (Obj.cells #[.int .i64 (m 0),.int .i64 (m 1),.int .i64 (m 2),.int .i64 (m 3),.int .i64 (m 4),.int .i64 (m 5)] 40)).alloc (Obj.cells #[.int .i64 0,.int .u64 0,.int .i64 0,.int .u64 0,.int .i64 0,.int .u64 0,.int .i64 0,.int .u64 0,.int .i64 0,.int .u64 0,.int .i64 0,.int .u64 0] 191)) (w.heap.size+1) (fun _=>0) (fun _=>0):=yc_new (by simp)
 have fR:YF ((w.alloc (Obj.cells #[.int .i64 (m 0),.int .i64 (m 1),.int .i64 (m 2),.int .i64 (m 3),.int .i64 (m 4),.int .i64 (m 5)] 40)).alloc (Obj.cells #[.int .i64 0,.int .u64 0,.int .i64 0,.int .u64 0,.int .i64 0,.int .u64 0,.int .i64 0,.int .u64 0,.int .i64 0,.int .u64 0,.int .i64 0,.int .u64 0] 191)) (w.heap.size+1):=yf_new (by simp)
 have B0:Below w.heap.size w ((w.alloc (Obj.cells #[.int .i64 (m 0),.int .i64 (m 1),.int .i64 (m 2),.int .i64 (m 3),.int .i64 (m 4),.int .i64 (m 5)] 40)).alloc (Obj.cells #[.int .i64 0,.int .u64 0,.int .i64 0,.int .u64 0,.int .i64 0,.int .u64 0,.int .i64 0,.int .u64 0,.int .i64 0,.int .u64 0,.int .i64 0,.int .u64 0] 191)):=b_alloc (b_alloc (Below.refl _ _))
 replace hl:=ml_keep B0 hl
 replace hp:=pl_keep B0 hp
 have hb9:Below (((w.alloc (Obj.cells #[.int .i64 (m 0),.int .i64 (m 1),.int .i64 (m 2),.int .i64 (m 3),.int .i64 (m 4),.int .i64 (m 5)] 40)).alloc (Obj.cells #[.int .i64 0,.int .u64 0,.int .i64 0,.int .u64 0,.int .i64 0,.int .u64 0,.int .i64 0,.int .u64 0,.int .i64 0,.int .u64 0,.int .i64 0,.int .u64 0] 191))).heap.size ((w.alloc (Obj.cells #[.int .i64 (m 0),.int .i64 (m 1),.int .i64 (m 2),.int .i64 (m 3),.int .i64 (m 4),.int .i64 (m 5)] 40)).alloc (Obj.cells #[.int .i64 0,.int .u64 0,.int .i64 0,.int .u64 0,.int .i64 0,.int .u64 0,.int .i64 0,.int .u64 0,.int .i64 0,.int .u64 0,.int .i64 0,.int .u64 0] 191)) (((w.alloc (Obj.cells #[.int .i64 (m 0),.int .i64 (m 1),.int .i64 (m 2),.int .i64 (m 3),.int .i64 (m 4),.int .i64 (m 5)] 40)).alloc (Obj.cells #[.int .i64 0,.int .u64 0,.int .i64 0,.int .u64 0,.int .i64 0,.int .u64 0,.int .i64 0,.int .u64 0,.int .i64 0,.int .u64 0,.int .i64 0,.int .u64 0] 191)).alloc (Obj.cells #[.int .i64 0,.int .u64 0,.int .i64 0,.int .u64 0,.int .i64 0,.int .u64 0,.int .i64 0,.int .u64 0,.int .i64 0,.int .u64 0,.int .i64 0,.int .u64 0] 191)):=b_alloc (Below.refl _ _)
 have s0:RK w w.heap.size (w.heap.size+1) (w.heap.size+1+1) m 0 (((w.alloc (Obj.cells #[.int .i64 (m 0),.int .i64 (m 1),.int .i64 (m 2),.int .i64 (m 3),.int .i64 (m 4),.int .i64 (m 5)] 40)).alloc (Obj.cells #[.int .i64 0,.int .u64 0,.int .i64 0,.int .u64 0,.int .i64 0,.int .u64 0,.int .i64 0,.int .u64 0,.int .i64 0,.int .u64 0,.int .i64 0,.int .u64 0] 191)).alloc (Obj.cells #[.int .i64 0,.int .u64 0,.int .i64 0,.int .u64 0,.int .i64 0,.int .u64 0,.int .i64 0,.int .u64 0,.int .i64 0,.int .u64 0,.int .i64 0,.int .u64 0] 191)):=⟨b_trans B0 hb9,sc_keep hb9 kA,yc_keep hb9 kR,yf_keep hb9 kR fR,yc_none (yc_new (by simp)),yf_new (by simp),ml_keep hb9 hl,pl_keep hb9 hp⟩
 clear kA kR fR B0 hl hp hb9
 have l6:=sc_six s0.a
 go_enter Tryz.func130,Tryz.ntmps130
 go_wp2_with fail
 refine (fits_spr m hm _).mono ?_
 rintro e0 w0 ⟨rfl,hb9⟩
 rw [ea.out]
 replace s0:=rk_keep s0 hb9
 clear hb9 l6
 have q:w.heap.size≤w.heap.size+1+1:=by omega
 have q1:2<w.heap.size+1+1∧0<w.heap.size+1+1:=by omega
 have qa:w.heap.size+1+1≠w.heap.size:=by omega
 have qr:w.heap.size+1+1≠w.heap.size+1:=by omega
 go_wp2
 refine wp_loop_rounds 4 ?_
 rw [rounds_succ]
 go_wp2
 refine wp_loop_rounds 4 ?_
 rw [rounds_succ]
 have l6:=sc_six s0.a
 have x12:=yc_12 s0.x
 have g12:=yf_12 s0.xf
 go_wp2_with fail
 refine (terms_ti m 0 0 _ s0.ml s0.pl).mono ?_
 rintro e_ v0 ⟨P0,I0,J0,rfl,hT,hb9⟩
 replace s0:=rk_keep s0 hb9
 clear hb9 l6 x12 g12
 have x12:=yc_12 s0.x
 have g12:=yf_12 s0.xf
 go_wp2_with fail
 refine (sum_spr m 0 0 CA.out (by decide) (by decide) P0 I0 J0 _ hT).mono ?_
 rintro e_ u0 ⟨rfl,hb9⟩
 replace s0:=rk_keep s0 hb9
 clear hb9 x12 g12 hT
 have x12:=yc_12 s0.x
 have g12:=yf_12 s0.xf
 have K:Hid (RK w w.heap.size (w.heap.size+1) (w.heap.size+1+1) m 1 ((u0.setCell ⟨w.heap.size+1+1,0,none⟩ (.int .i64 (rwn m 0 0 / 18446744073709551616))).setCell ⟨w.heap.size+1+1,1,none⟩ (.int .u64 (rwn m 0 0 % 18446744073709551616)))):=rk_put s0 (by decide) q q1 qa qr
 clear s0
 go_wp2
 generalize (u0.setCell ⟨w.heap.size+1+1,0,none⟩ (.int .i64 (rwn m 0 0 / 18446744073709551616))).setCell ⟨w.heap.size+1+1,1,none⟩ (.int .u64 (rwn m 0 0 % 18446744073709551616))=y0 at *
 have s0:=K.out
 clear K x12 g12
 rw [rounds_succ]
 have l6:=sc_six s0.a
 have x12:=yc_12 s0.x
 have g12:=yf_12 s0.xf
 go_wp2_with fail
 refine (terms_ti m 0 1 _ s0.ml s0.pl).mono ?_
 rintro e_ v1 ⟨P1,I1,J1,rfl,hT,hb9⟩
 replace s0:=rk_keep s0 hb9
 clear hb9 l6 x12 g12
 have x12:=yc_12 s0.x
 have g12:=yf_12 s0.xf
 go_wp2_with fail
 refine (sum_spr m 0 1 CA.out (by decide) (by decide) P1 I1 J1 _ hT).mono ?_
 rintro e_ u1 ⟨rfl,hb9⟩
 replace s0:=rk_keep s0 hb9
 clear hb9 x12 g12 hT
 have x12:=yc_12 s0.x
 have g12:=yf_12 s0.xf
 have K:Hid (RK w w.heap.size (w.heap.size+1) (w.heap.size+1+1) m 2 ((u1.setCell ⟨w.heap.size+1+1,2,none⟩ (.int .i64 (rwn m 0 1 / 18446744073709551616))).setCell ⟨w.heap.size+1+1,3,none⟩ (.int .u64 (rwn m 0 1 % 18446744073709551616)))):=rk_put s0 (by decide) q q1 qa qr
 clear s0
 go_wp2
 generalize (u1.setCell ⟨w.heap.size+1+1,2,none⟩ (.int .i64 (rwn m 0 1 / 18446744073709551616))).setCell ⟨w.heap.size+1+1,3,none⟩ (.int .u64 (rwn m 0 1 % 18446744073709551616))=y1 at *
 have s0:=K.out
 clear K x12 g12
 rw [rounds_succ]
 have l6:=sc_six s0.a
 have x12:=yc_12 s0.x
 have g12:=yf_12 s0.xf
 go_wp2_with fail
 refine (terms_ti m 0 2 _ s0.ml s0.pl).mono ?_
 rintro e_ v2 ⟨P2,I2,J2,rfl,hT,hb9⟩
 replace s0:=rk_keep s0 hb9
 clear hb9 l6 x12 g12
 have x12:=yc_12 s0.x
 have g12:=yf_12 s0.xf
 go_wp2_with fail
 refine (sum_spr m 0 2 CA.out (by decide) (by decide) P2 I2 J2 _ hT).mono ?_
 rintro e_ u2 ⟨rfl,hb9⟩
 replace s0:=rk_keep s0 hb9
 clear hb9 x12 g12 hT
 have x12:=yc_12 s0.x
 have g12:=yf_12 s0.xf
 have K:Hid (RK w w.heap.size (w.heap.size+1) (w.heap.size+1+1) m 3 ((u2.setCell ⟨w.heap.size+1+1,4,none⟩ (.int .i64 (rwn m 0 2 / 18446744073709551616))).setCell ⟨w.heap.size+1+1,5,none⟩ (.int .u64 (rwn m 0 2 % 18446744073709551616)))):=rk_put s0 (by decide) q q1 qa qr
 clear s0
 go_wp2
 generalize (u2.setCell ⟨w.heap.size+1+1,4,none⟩ (.int .i64 (rwn m 0 2 / 18446744073709551616))).setCell ⟨w.heap.size+1+1,5,none⟩ (.int .u64 (rwn m 0 2 % 18446744073709551616))=y2 at *
 have s0:=K.out
 clear K x12 g12
 rw [rounds_succ]
 go_wp2
 rw [rounds_succ]
 go_wp2
 refine wp_loop_rounds 4 ?_
 rw [rounds_succ]
 have l6:=sc_six s0.a
 have x12:=yc_12 s0.x
 have g12:=yf_12 s0.xf
 go_wp2_with fail
 refine (terms_ti m 1 1 _ s0.ml s0.pl).mono ?_
 rintro e_ v3 ⟨P3,I3,J3,rfl,hT,hb9⟩
 replace s0:=rk_keep s0 hb9
 clear hb9 l6 x12 g12
 have x12:=yc_12 s0.x
 have g12:=yf_12 s0.xf
 go_wp2_with fail
 refine (sum_spr m 1 1 CA.out (by decide) (by decide) P3 I3 J3 _ hT).mono ?_
 rintro e_ u3 ⟨rfl,hb9⟩
 replace s0:=rk_keep s0 hb9
 clear hb9 x12 g12 hT
 have x12:=yc_12 s0.x
 have g12:=yf_12 s0.xf
 have K:Hid (RK w w.heap.size (w.heap.size+1) (w.heap.size+1+1) m 4 ((u3.setCell ⟨w.heap.size+1+1,6,none⟩ (.int .i64 (rwn m 1 1 / 18446744073709551616))).setCell ⟨w.heap.size+1+1,7,none⟩ (.int .u64 (rwn m 1 1 % 18446744073709551616)))):=rk_put s0 (by decide) q q1 qa qr
 clear s0
 go_wp2
 generalize (u3.setCell ⟨w.heap.size+1+1,6,none⟩ (.int .i64 (rwn m 1 1 / 18446744073709551616))).setCell ⟨w.heap.size+1+1,7,none⟩ (.int .u64 (rwn m 1 1 % 18446744073709551616))=y3 at *
 have s0:=K.out
 clear K x12 g12
 rw [rounds_succ]
 have l6:=sc_six s0.a
 have x12:=yc_12 s0.x
 have g12:=yf_12 s0.xf
 go_wp2_with fail
 refine (terms_ti m 1 2 _ s0.ml s0.pl).mono ?_
 rintro e_ v4 ⟨P4,I4,J4,rfl,hT,hb9⟩
 replace s0:=rk_keep s0 hb9
 clear hb9 l6 x12 g12
 have x12:=yc_12 s0.x
 have g12:=yf_12 s0.xf
 go_wp2_with fail
 refine (sum_spr m 1 2 CA.out (by decide) (by decide) P4 I4 J4 _ hT).mono ?_
 rintro e_ u4 ⟨rfl,hb9⟩
 replace s0:=rk_keep s0 hb9
 clear hb9 x12 g12 hT
 have x12:=yc_12 s0.x
 have g12:=yf_12 s0.xf
 have K:Hid (RK w w.heap.size (w.heap.size+1) (w.heap.size+1+1) m 5 ((u4.setCell ⟨w.heap.size+1+1,8,none⟩ (.int .i64 (rwn m 1 2 / 18446744073709551616))).setCell ⟨w.heap.size+1+1,9,none⟩ (.int .u64 (rwn m 1 2 % 18446744073709551616)))):=rk_put s0 (by decide) q q1 qa qr
 clear s0
 go_wp2
 generalize (u4.setCell ⟨w.heap.size+1+1,8,none⟩ (.int .i64 (rwn m 1 2 / 18446744073709551616))).setCell ⟨w.heap.size+1+1,9,none⟩ (.int .u64 (rwn m 1 2 % 18446744073709551616))=y4 at *
 have s0:=K.out
 clear K x12 g12
 rw [rounds_succ]
 go_wp2
 rw [rounds_succ]
 go_wp2
 refine wp_loop_rounds 4 ?_
 rw [rounds_succ]
 have l6:=sc_six s0.a
 have x12:=yc_12 s0.x
 have g12:=yf_12 s0.xf
 go_wp2_with fail
 refine (terms_ti m 2 2 _ s0.ml s0.pl).mono ?_
 rintro e_ v5 ⟨P5,I5,J5,rfl,hT,hb9⟩
 replace s0:=rk_keep s0 hb9
 clear hb9 l6 x12 g12
 have x12:=yc_12 s0.x
 have g12:=yf_12 s0.xf
 go_wp2_with fail
 refine (sum_spr m 2 2 CA.out (by decide) (by decide) P5 I5 J5 _ hT).mono ?_
 rintro e_ u5 ⟨rfl,hb9⟩
 replace s0:=rk_keep s0 hb9
 clear hb9 x12 g12 hT
 have x12:=yc_12 s0.x
 have g12:=yf_12 s0.xf
 have K:Hid (RK w w.heap.size (w.heap.size+1) (w.heap.size+1+1) m 6 ((u5.setCell ⟨w.heap.size+1+1,10,none⟩ (.int .i64 (rwn m 2 2 / 18446744073709551616))).setCell ⟨w.heap.size+1+1,11,none⟩ (.int .u64 (rwn m 2 2 % 18446744073709551616)))):=rk_put s0 (by decide) q q1 qa qr
 clear s0
 go_wp2
 generalize (u5.setCell ⟨w.heap.size+1+1,10,none⟩ (.int .i64 (rwn m 2 2 / 18446744073709551616))).setCell ⟨w.heap.size+1+1,11,none⟩ (.int .u64 (rwn m 2 2 % 18446744073709551616))=y5 at *
 have s0:=K.out
 clear K x12 g12
 rw [rounds_succ]
 go_wp2
 rw [rounds_succ]
 have x12:=yc_12 (yc_all s0.x)
 have r12:=yc_12 s0.r
 have f12:=yf_12 s0.rf
 have B9:=s0.b
 have c12:=yc_12 (yc_mine (f':=hin (rawn m)) (g':=lon (rawn m)) s0.r)
 have HC:=Lib.hid c12
 clear c12
 go_wp2
 obtain ⟨c0,c1,c2,c3,c4,c5,c6,c7,c8,c9,c10,c11⟩:=HC.out
 clear HC
 refine bodyPost_ret (v:=.tuple #[srv (hin (rawn m)) (lon (rawn m)),.int .i64 0]) (by simp [results,Tryz.results130,go_sem,c0,c1,c2,c3,c4,c5,c6,c7,c8,c9,c10,c11]) rfl ⟨rfl,?_⟩
 repeat (refine b_set ?_ (Nat.le_succ _))
 exact B9
theorem raw_bad (m:Nat→Int) (hm:I6 m) (ca:¬ F6 m) (w:World) (hl:ML w) (hp:PL w) :
  Calls Tryz.prog 130 #[sv m] w (RetV (.tuple #[srv (fun _=>0) (fun _=>0),.int .i64 1]) w):=by
 have ea:=Lib.hid (f6b_no ca)
 clear ca
 have z1:=ml_lt hl
 have zp:=pl_lt hp
 have kA:SC ((w.alloc (Obj.cells #[.int .i64 (m 0),.int .i64 (m 1),.int .i64 (m 2),.int .i64 (m 3),.int .i64 (m 4),.int .i64 (m 5)] 40)).alloc (Obj.cells #[.int .i64 0,.int .u64 0,.int .i64 0,.int .u64 0,.int .i64 0,.int .u64 0,.int .i64 0,.int .u64 0,.int .i64 0,.int .u64 0,.int .i64 0,.int .u64 0] 191)) w.heap.size m:=sc_alloc (sc_new (w:=w) (m:=m) (t:=40) rfl)
 have kR:YC ((w.alloc (Obj.cells #[.int .i64 (m 0),.int .i64 (m 1),.int .i64 (m 2),.int .i64 (m 3),.int .i64 (m 4),.int .i64 (m 5)] 40)).alloc (Obj.cells #[.int .i64 0,.int .u64 0,.int .i64 0,.int .u64 0,.int .i64 0,.int .u64 0,.int .i64 0,.int .u64 0,.int .i64 0,.int .u64 0,.int .i64 0,.int .u64 0] 191)) (w.heap.size+1) (fun _=>0) (fun _=>0):=yc_new (by simp)
 have fR:YF ((w.alloc (Obj.cells #[.int .i64 (m 0),.int .i64 (m 1),.int .i64 (m 2),.int .i64 (m 3),.int .i64 (m 4),.int .i64 (m 5)] 40)).alloc (Obj.cells #[.int .i64 0,.int .u64 0,.int .i64 0,.int .u64 0,.int .i64 0,.int .u64 0,.int .i64 0,.int .u64 0,.int .i64 0,.int .u64 0,.int .i64 0,.int .u64 0] 191)) (w.heap.size+1):=yf_new (by simp)
 have B0:Below w.heap.size w ((w.alloc (Obj.cells #[.int .i64 (m 0),.int .i64 (m 1),.int .i64 (m 2),.int .i64 (m 3),.int .i64 (m 4),.int .i64 (m 5)] 40)).alloc (Obj.cells #[.int .i64 0,.int .u64 0,.int .i64 0,.int .u64 0,.int .i64 0,.int .u64 0,.int .i64 0,.int .u64 0,.int .i64 0,.int .u64 0,.int .i64 0,.int .u64 0] 191)):=b_alloc (b_alloc (Below.refl _ _))
 replace hl:=ml_keep B0 hl
 replace hp:=pl_keep B0 hp
 have hb9:Below (((w.alloc (Obj.cells #[.int .i64 (m 0),.int .i64 (m 1),.int .i64 (m 2),.int .i64 (m 3),.int .i64 (m 4),.int .i64 (m 5)] 40)).alloc (Obj.cells #[.int .i64 0,.int .u64 0,.int .i64 0,.int .u64 0,.int .i64 0,.int .u64 0,.int .i64 0,.int .u64 0,.int .i64 0,.int .u64 0,.int .i64 0,.int .u64 0] 191))).heap.size ((w.alloc (Obj.cells #[.int .i64 (m 0),.int .i64 (m 1),.int .i64 (m 2),.int .i64 (m 3),.int .i64 (m 4),.int .i64 (m 5)] 40)).alloc (Obj.cells #[.int .i64 0,.int .u64 0,.int .i64 0,.int .u64 0,.int .i64 0,.int .u64 0,.int .i64 0,.int .u64 0,.int .i64 0,.int .u64 0,.int .i64 0,.int .u64 0] 191)) (((w.alloc (Obj.cells #[.int .i64 (m 0),.int .i64 (m 1),.int .i64 (m 2),.int .i64 (m 3),.int .i64 (m 4),.int .i64 (m 5)] 40)).alloc (Obj.cells #[.int .i64 0,.int .u64 0,.int .i64 0,.int .u64 0,.int .i64 0,.int .u64 0,.int .i64 0,.int .u64 0,.int .i64 0,.int .u64 0,.int .i64 0,.int .u64 0] 191)).alloc (Obj.cells #[.int .i64 0,.int .u64 0,.int .i64 0,.int .u64 0,.int .i64 0,.int .u64 0,.int .i64 0,.int .u64 0,.int .i64 0,.int .u64 0,.int .i64 0,.int .u64 0] 191)):=b_alloc (Below.refl _ _)
 have s0:RK w w.heap.size (w.heap.size+1) (w.heap.size+1+1) m 0 (((w.alloc (Obj.cells #[.int .i64 (m 0),.int .i64 (m 1),.int .i64 (m 2),.int .i64 (m 3),.int .i64 (m 4),.int .i64 (m 5)] 40)).alloc (Obj.cells #[.int .i64 0,.int .u64 0,.int .i64 0,.int .u64 0,.int .i64 0,.int .u64 0,.int .i64 0,.int .u64 0,.int .i64 0,.int .u64 0,.int .i64 0,.int .u64 0] 191)).alloc (Obj.cells #[.int .i64 0,.int .u64 0,.int .i64 0,.int .u64 0,.int .i64 0,.int .u64 0,.int .i64 0,.int .u64 0,.int .i64 0,.int .u64 0,.int .i64 0,.int .u64 0] 191)):=⟨b_trans B0 hb9,sc_keep hb9 kA,yc_keep hb9 kR,yf_keep hb9 kR fR,yc_none (yc_new (by simp)),yf_new (by simp),ml_keep hb9 hl,pl_keep hb9 hp⟩
 clear kA kR fR B0 hl hp hb9
 have l6:=sc_six s0.a
 go_enter Tryz.func130,Tryz.ntmps130
 go_wp2_with fail
 refine (fits_spr m hm _).mono ?_
 rintro e0 w0 ⟨rfl,hb9⟩
 rw [ea.out]
 replace s0:=rk_keep s0 hb9
 clear hb9 l6
 have x12:=yc_12 (yc_back s0.x)
 have r12:=yc_12 s0.r
 have f12:=yf_12 s0.rf
 have B9:=s0.b
 have c12:=yc_12 (yc_mine (f':=fun _=>0) (g':=fun _=>0) s0.r)
 have HC:=Lib.hid c12
 clear c12
 go_wp2
 obtain ⟨c0,c1,c2,c3,c4,c5,c6,c7,c8,c9,c10,c11⟩:=HC.out
 clear HC
 refine bodyPost_ret (v:=.tuple #[srv (fun _=>0) (fun _=>0),.int .i64 1]) (by simp [results,Tryz.results130,go_sem,c0,c1,c2,c3,c4,c5,c6,c7,c8,c9,c10,c11]) rfl ⟨rfl,?_⟩
 repeat (refine b_set ?_ (Nat.le_succ _))
 exact B9
end Go.Proofs.YtjifkmldigemkaaGreatDoor

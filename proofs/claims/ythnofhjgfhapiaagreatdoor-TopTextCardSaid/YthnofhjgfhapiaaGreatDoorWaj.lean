import Derived.Lib.SmallJoins
import Derived.Deep.WholeRow
import Derived.Test.YthnofhjgfhapiaaGreatDoorWah
import Derived.Test.YthnofhjgfhapiaaGreatDoorWai
import Derived.Test.YthnofhjgfhapiaaGreatDoorWaa
import Derived.Test.YthnofhjgfhapiaaGreatDoorWag
import Derived.Test.YthnofhjgfhapiaaGreatDoorWae
set_option maxHeartbeats 8000000
set_option maxRecDepth 20000
namespace Go.Proofs.YthnofhjgfhapiaaGreatDoor
open Go.RowKit Go.Shelf Go.Joins
def rv:Value:=.agg #[.int .i64 1,(.func (.func 44) #[] #[]),.int .i64 2,(.func (.func 46) #[] #[]),.int .i64 3,(.func (.func 47) #[] #[]),.int .i64 4,(.func (.func 49) #[] #[]),.int .i64 5,(.func (.func 50) #[] #[]),.int .i64 6,(.func (.func 52) #[] #[]),.int .i64 7,(.func (.func 53) #[] #[]),.int .i64 8,(.func (.func 54) #[] #[]),.int .i64 9,(.func (.func 55) #[] #[]),.int .i64 10,(.func (.func 56) #[] #[]),.int .i64 11,(.func (.func 57) #[] #[]),.int .i64 12,(.func (.func 59) #[] #[]),.int .i64 13,(.func (.func 60) #[] #[]),.int .i64 14,(.func (.func 61) #[] #[])]
theorem ix_rules:(∀ w,(Instr.index 76 rv (.int .i64 0)).run Tryz.prog w=.ok (.agg #[.int .i64 1,(.func (.func 44) #[] #[])]) w)∧(∀ w,(Instr.index 76 rv (.int .i64 1)).run Tryz.prog w=.ok (.agg #[.int .i64 2,(.func (.func 46) #[] #[])]) w)∧(∀ w,(Instr.index 76 rv (.int .i64 2)).run Tryz.prog w=.ok (.agg #[.int .i64 3,(.func (.func 47) #[] #[])]) w)∧(∀ w,(Instr.index 76 rv (.int .i64 3)).run Tryz.prog w=.ok (.agg #[.int .i64 4,(.func (.func 49) #[] #[])]) w)∧(∀ w,(Instr.index 76 rv (.int .i64 4)).run Tryz.prog w=.ok (.agg #[.int .i64 5,(.func (.func 50) #[] #[])]) w)∧(∀ w,(Instr.index 76 rv (.int .i64 5)).run Tryz.prog w=.ok (.agg #[.int .i64 6,(.func (.func 52) #[] #[])]) w)∧(∀ w,(Instr.index 76 rv (.int .i64 6)).run Tryz.prog w=.ok (.agg #[.int .i64 7,(.func (.func 53) #[] #[])]) w)∧(∀ w,(Instr.index 76 rv (.int .i64 7)).run Tryz.prog w=.ok (.agg #[.int .i64 8,(.func (.func 54) #[] #[])]) w)∧(∀ w,(Instr.index 76 rv (.int .i64 8)).run Tryz.prog w=.ok (.agg #[.int .i64 9,(.func (.func 55) #[] #[])]) w)∧(∀ w,(Instr.index 76 rv (.int .i64 9)).run Tryz.prog w=.ok (.agg #[.int .i64 10,(.func (.func 56) #[] #[])]) w)∧(∀ w,(Instr.index 76 rv (.int .i64 10)).run Tryz.prog w=.ok (.agg #[.int .i64 11,(.func (.func 57) #[] #[])]) w)∧(∀ w,(Instr.index 76 rv (.int .i64 11)).run Tryz.prog w=.ok (.agg #[.int .i64 12,(.func (.func 59) #[] #[])]) w)∧(∀ w,(Instr.index 76 rv (.int .i64 12)).run Tryz.prog w=.ok (.agg #[.int .i64 13,(.func (.func 60) #[] #[])]) w)∧(∀ w,(Instr.index 76 rv (.int .i64 13)).run Tryz.prog w=.ok (.agg #[.int .i64 14,(.func (.func 61) #[] #[])]) w):=⟨fun _=>by kernel_rfl,fun _=>by kernel_rfl,fun _=>by kernel_rfl,fun _=>by kernel_rfl,fun _=>by kernel_rfl,fun _=>by kernel_rfl,fun _=>by kernel_rfl,fun _=>by kernel_rfl,fun _=>by kernel_rfl,fun _=>by kernel_rfl,fun _=>by kernel_rfl,fun _=>by kernel_rfl,fun _=>by kernel_rfl,fun _=>by kernel_rfl⟩
abbrev CR (w:World) (b:Nat) (x:Nat→Int):Prop:=w.heap[b]?=some (.cells #[.int .i64 (x 0),.int .i64 (x 1),.int .i64 (x 2),.int .i64 (x 3),.int .i64 (x 4),.int .i64 (x 5),.int .i64 (x 6),.int .i64 (x 7),.int .i64 (x 8),.int .i64 (x 9),.int .i64 (x 10),.int .i64 (x 11),.int .i64 (x 12),.int .i64 (x 13),.int .i64 (x 14),.int .i64 (x 15),.int .i64 (x 16),.int .i64 (x 17),.int .i64 (x 18),.int .i64 (x 19),.int .i64 (x 20),.int .i64 (x 21),.int .i64 (x 22),.int .i64 (x 23),.int .i64 (x 24),.int .i64 (x 25),.int .i64 (x 26),.int .i64 (x 27),.int .i64 (x 28),.int .i64 (x 29),.int .i64 (x 30)] 27 (0,0))
theorem cr_lt {w:World} {b:Nat} {x:Nat→Int} (c:CR w b x):b<w.heap.size:=(Array.getElem?_eq_some_iff.1 c).1
theorem cr_keep {w w':World} (hb:Below w.heap.size w w') {b:Nat} {x:Nat→Int} (c:CR w b x):CR w' b x:=(hb.block b (cr_lt c)).trans c
theorem cr_alloc {w:World} {b:Nat} {x:Nat→Int} (c:CR w b x) (o:Obj):CR (w.alloc o) b x:=cr_keep (b_alloc (Below.refl _ _)) c
theorem cr_new {w:World} {x:Nat→Int}:CR (w.alloc (Obj.cells #[.int .i64 (x 0),.int .i64 (x 1),.int .i64 (x 2),.int .i64 (x 3),.int .i64 (x 4),.int .i64 (x 5),.int .i64 (x 6),.int .i64 (x 7),.int .i64 (x 8),.int .i64 (x 9),.int .i64 (x 10),.int .i64 (x 11),.int .i64 (x 12),.int .i64 (x 13),.int .i64 (x 14),.int .i64 (x 15),.int .i64 (x 16),.int .i64 (x 17),.int .i64 (x 18),.int .i64 (x 19),.int .i64 (x 20),.int .i64 (x 21),.int .i64 (x 22),.int .i64 (x 23),.int .i64 (x 24),.int .i64 (x 25),.int .i64 (x 26),.int .i64 (x 27),.int .i64 (x 28),.int .i64 (x 29),.int .i64 (x 30)] 27)) w.heap.size x:=heap_alloc_last _ _
theorem cr_load {w:World} {b:Nat} {x:Nat→Int} (c:CR w b x):(loadCellsFrom ⟨b,0,none⟩ 0 31 #[]).run Tryz.prog w=.ok #[.int .i64 (x 0),.int .i64 (x 1),.int .i64 (x 2),.int .i64 (x 3),.int .i64 (x 4),.int .i64 (x 5),.int .i64 (x 6),.int .i64 (x 7),.int .i64 (x 8),.int .i64 (x 9),.int .i64 (x 10),.int .i64 (x 11),.int .i64 (x 12),.int .i64 (x 13),.int .i64 (x 14),.int .i64 (x 15),.int .i64 (x 16),.int .i64 (x 17),.int .i64 (x 18),.int .i64 (x 19),.int .i64 (x 20),.int .i64 (x 21),.int .i64 (x 22),.int .i64 (x 23),.int .i64 (x 24),.int .i64 (x 25),.int .i64 (x 26),.int .i64 (x 27),.int .i64 (x 28),.int .i64 (x 29),.int .i64 (x 30)] w:=by
 have:=run_loadCells_list (P:=Tryz.prog) w ⟨b,0,none⟩ [.int .i64 (x 0),.int .i64 (x 1),.int .i64 (x 2),.int .i64 (x 3),.int .i64 (x 4),.int .i64 (x 5),.int .i64 (x 6),.int .i64 (x 7),.int .i64 (x 8),.int .i64 (x 9),.int .i64 (x 10),.int .i64 (x 11),.int .i64 (x 12),.int .i64 (x 13),.int .i64 (x 14),.int .i64 (x 15),.int .i64 (x 16),.int .i64 (x 17),.int .i64 (x 18),.int .i64 (x 19),.int .i64 (x 20),.int .i64 (x 21),.int .i64 (x 22),.int .i64 (x 23),.int .i64 (x 24),.int .i64 (x 25),.int .i64 (x 26),.int .i64 (x 27),.int .i64 (x 28),.int .i64 (x 29),.int .i64 (x 30)] (fun j v hv=>by
  have hadd:(⟨b,0,none⟩:Addr).add j=⟨b,j,none⟩:=by unfold Addr.add; split <;> simp_all
  rw [hadd,cell_of_row _ _ j _ _ _ c]
  simpa using hv)
 simpa [loadCells] using this
theorem rules_any (w:World):Calls Tryz.prog 20 #[] w (RetV rv w):=by
 go_enter Tryz.func20,Tryz.ntmps20
 go_wp2_with (with_reducible refine stop_at none rfl ?_)
 refine unstop ?_
 refine wpList_store_row rfl 76 (.tmp 0) (.tmp 15) rfl w.heap.size #[.int .i64 1,(.func (.func 44) #[] #[]),.int .i64 2,(.func (.func 46) #[] #[]),.int .i64 3,(.func (.func 47) #[] #[]),.int .i64 4,(.func (.func 49) #[] #[]),.int .i64 5,(.func (.func 50) #[] #[]),.int .i64 6,(.func (.func 52) #[] #[]),.int .i64 7,(.func (.func 53) #[] #[]),.int .i64 8,(.func (.func 54) #[] #[]),.int .i64 9,(.func (.func 55) #[] #[]),.int .i64 10,(.func (.func 56) #[] #[]),.int .i64 11,(.func (.func 57) #[] #[]),.int .i64 12,(.func (.func 59) #[] #[]),.int .i64 13,(.func (.func 60) #[] #[]),.int .i64 14,(.func (.func 61) #[] #[])] rfl rfl 76 _ (heap_alloc_last w _) (by kernel_rfl) rfl (by first | kernel_rfl | decide | simp) ?_
 rw [World.setRow_alloc_new]
 go_wp2
 exact bodyPost_ret (v:=rv) (results_cell_row Tryz.results20 _ _ w.heap.size 76 _ (0,0) _ rfl (heap_alloc_last w _) Tryz.underlying76 rfl (by kernel_rfl)) rfl ⟨rfl,b_alloc (Below.refl _ _)⟩
theorem check_any (x:Nat→Int) (hx:C64 x) (w:World):Calls Tryz.prog 8 #[cv x] w (RetV (.int .i64 (cks x)) w):=by
 have E:Below w.heap.size w (w.alloc (Obj.cells #[.int .i64 (x 0),.int .i64 (x 1),.int .i64 (x 2),.int .i64 (x 3),.int .i64 (x 4),.int .i64 (x 5),.int .i64 (x 6),.int .i64 (x 7),.int .i64 (x 8),.int .i64 (x 9),.int .i64 (x 10),.int .i64 (x 11),.int .i64 (x 12),.int .i64 (x 13),.int .i64 (x 14),.int .i64 (x 15),.int .i64 (x 16),.int .i64 (x 17),.int .i64 (x 18),.int .i64 (x 19),.int .i64 (x 20),.int .i64 (x 21),.int .i64 (x 22),.int .i64 (x 23),.int .i64 (x 24),.int .i64 (x 25),.int .i64 (x 26),.int .i64 (x 27),.int .i64 (x 28),.int .i64 (x 29),.int .i64 (x 30)] 27)):=b_alloc (Below.refl _ _)
 have cr:CR (w.alloc (Obj.cells #[.int .i64 (x 0),.int .i64 (x 1),.int .i64 (x 2),.int .i64 (x 3),.int .i64 (x 4),.int .i64 (x 5),.int .i64 (x 6),.int .i64 (x 7),.int .i64 (x 8),.int .i64 (x 9),.int .i64 (x 10),.int .i64 (x 11),.int .i64 (x 12),.int .i64 (x 13),.int .i64 (x 14),.int .i64 (x 15),.int .i64 (x 16),.int .i64 (x 17),.int .i64 (x 18),.int .i64 (x 19),.int .i64 (x 20),.int .i64 (x 21),.int .i64 (x 22),.int .i64 (x 23),.int .i64 (x 24),.int .i64 (x 25),.int .i64 (x 26),.int .i64 (x 27),.int .i64 (x 28),.int .i64 (x 29),.int .i64 (x 30)] 27)) w.heap.size x:=cr_new
 obtain ⟨j1,j2,j3,j4,j5,j6,j7,j8,j9,j10,j11,j12,j13,j14⟩:=ix_rules
 go_enter Tryz.func8,Tryz.ntmps8
 go_wp2_with fail
 generalize (w.alloc (Obj.cells #[.int .i64 (x 0),.int .i64 (x 1),.int .i64 (x 2),.int .i64 (x 3),.int .i64 (x 4),.int .i64 (x 5),.int .i64 (x 6),.int .i64 (x 7),.int .i64 (x 8),.int .i64 (x 9),.int .i64 (x 10),.int .i64 (x 11),.int .i64 (x 12),.int .i64 (x 13),.int .i64 (x 14),.int .i64 (x 15),.int .i64 (x 16),.int .i64 (x 17),.int .i64 (x 18),.int .i64 (x 19),.int .i64 (x 20),.int .i64 (x 21),.int .i64 (x 22),.int .i64 (x 23),.int .i64 (x 24),.int .i64 (x 25),.int .i64 (x 26),.int .i64 (x 27),.int .i64 (x 28),.int .i64 (x 29),.int .i64 (x 30)] 27))=z0 at *
 refine (rules_any _).mono ?_
 rintro e y0 ⟨rfl,hb⟩
 replace cr:=cr_keep hb cr
 replace E:=b_trans E hb
 clear hb
 go_wp2
 refine wp_loop_rounds 15 ?_
 have st:∀ (w:World) (a:Addr),(store a (.func (.func 44) #[] #[])).run Tryz.prog w=stored Tryz.prog w a (.func (.func 44) #[] #[]) .plain:=fun w a=>run_store _ w a _ _ rfl
 rw [rounds_succ]
 go_wp2_with (with_reducible refine stop_at (some 11) rfl ?_)
 refine unstop ?_
 refine wpList_load_row rfl 27 (.tmp 1) rfl w.heap.size rfl 27 _ (0,0) _ (cr_alloc cr _) Tryz.underlying27 rfl (by kernel_rfl) ?_
 go_wp2_with fail
 refine (rule1_any x _).mono ?_
 rintro e y1 ⟨rfl,hb⟩
 replace cr:=cr_keep hb (cr_alloc cr _)
 replace E:=b_trans (b_alloc E) hb
 have g:y1.cell? ⟨y0.heap.size,0,none⟩=some (.int .i64 1):=cell_keep hb (by simp [go_sem])
 clear hb st
 cases q1:k1 x
 ·go_wp2
  go_ret
  exact ⟨by rw [show cks x=1 from by unfold cks; rw [q1]; rfl]; rfl,E⟩
 ·clear g
  go_wp2
  have st:∀ (w:World) (a:Addr),(store a (.func (.func 46) #[] #[])).run Tryz.prog w=stored Tryz.prog w a (.func (.func 46) #[] #[]) .plain:=fun w a=>run_store _ w a _ _ rfl
  rw [rounds_succ]
  go_wp2_with (with_reducible refine stop_at (some 11) rfl ?_)
  refine unstop ?_
  refine wpList_load_row rfl 27 (.tmp 1) rfl w.heap.size rfl 27 _ (0,0) _ (cr_alloc cr _) Tryz.underlying27 rfl (by kernel_rfl) ?_
  go_wp2_with fail
  refine (rule2_any x _).mono ?_
  rintro e y2 ⟨rfl,hb⟩
  replace cr:=cr_keep hb (cr_alloc cr _)
  replace E:=b_trans (b_alloc E) hb
  have g:y2.cell? ⟨y1.heap.size,0,none⟩=some (.int .i64 2):=cell_keep hb (by simp [go_sem])
  clear hb st
  cases q2:k2 x
  ·go_wp2
   go_ret
   exact ⟨by rw [show cks x=2 from by unfold cks; rw [q1,q2]; rfl]; rfl,E⟩
  ·clear g
   go_wp2
   have st:∀ (w:World) (a:Addr),(store a (.func (.func 47) #[] #[])).run Tryz.prog w=stored Tryz.prog w a (.func (.func 47) #[] #[]) .plain:=fun w a=>run_store _ w a _ _ rfl
   rw [rounds_succ]
   go_wp2_with (with_reducible refine stop_at (some 11) rfl ?_)
   refine unstop ?_
   refine wpList_load_row rfl 27 (.tmp 1) rfl w.heap.size rfl 27 _ (0,0) _ (cr_alloc cr _) Tryz.underlying27 rfl (by kernel_rfl) ?_
   go_wp2_with fail
   refine (rule3_any x _).mono ?_
   rintro e y3 ⟨rfl,hb⟩
   replace cr:=cr_keep hb (cr_alloc cr _)
   replace E:=b_trans (b_alloc E) hb
   have g:y3.cell? ⟨y2.heap.size,0,none⟩=some (.int .i64 3):=cell_keep hb (by simp [go_sem])
   clear hb st
   cases q3:k3 x
   ·go_wp2
    go_ret
    exact ⟨by rw [show cks x=3 from by unfold cks; rw [q1,q2,q3]; rfl]; rfl,E⟩
   ·clear g
    go_wp2
    have st:∀ (w:World) (a:Addr),(store a (.func (.func 49) #[] #[])).run Tryz.prog w=stored Tryz.prog w a (.func (.func 49) #[] #[]) .plain:=fun w a=>run_store _ w a _ _ rfl
    rw [rounds_succ]
    go_wp2_with (with_reducible refine stop_at (some 11) rfl ?_)
    refine unstop ?_
    refine wpList_load_row rfl 27 (.tmp 1) rfl w.heap.size rfl 27 _ (0,0) _ (cr_alloc cr _) Tryz.underlying27 rfl (by kernel_rfl) ?_
    go_wp2_with fail
    refine (rule4_any x _).mono ?_
    rintro e y4 ⟨rfl,hb⟩
    replace cr:=cr_keep hb (cr_alloc cr _)
    replace E:=b_trans (b_alloc E) hb
    have g:y4.cell? ⟨y3.heap.size,0,none⟩=some (.int .i64 4):=cell_keep hb (by simp [go_sem])
    clear hb st
    cases q4:k4 x
    ·go_wp2
     go_ret
     exact ⟨by rw [show cks x=4 from by unfold cks; rw [q1,q2,q3,q4]; rfl]; rfl,E⟩
    ·clear g
     go_wp2
     have st:∀ (w:World) (a:Addr),(store a (.func (.func 50) #[] #[])).run Tryz.prog w=stored Tryz.prog w a (.func (.func 50) #[] #[]) .plain:=fun w a=>run_store _ w a _ _ rfl
     rw [rounds_succ]
     go_wp2_with (with_reducible refine stop_at (some 11) rfl ?_)
     refine unstop ?_
     refine wpList_load_row rfl 27 (.tmp 1) rfl w.heap.size rfl 27 _ (0,0) _ (cr_alloc cr _) Tryz.underlying27 rfl (by kernel_rfl) ?_
     go_wp2_with fail
     refine (rule5_any x hx _).mono ?_
     rintro e y5 ⟨rfl,hb⟩
     replace cr:=cr_keep hb (cr_alloc cr _)
     replace E:=b_trans (b_alloc E) hb
     have g:y5.cell? ⟨y4.heap.size,0,none⟩=some (.int .i64 5):=cell_keep hb (by simp [go_sem])
     clear hb st
     cases q5:k5 x
     ·go_wp2
      go_ret
      exact ⟨by rw [show cks x=5 from by unfold cks; rw [q1,q2,q3,q4,q5]; rfl]; rfl,E⟩
     ·clear g
      go_wp2
      have st:∀ (w:World) (a:Addr),(store a (.func (.func 52) #[] #[])).run Tryz.prog w=stored Tryz.prog w a (.func (.func 52) #[] #[]) .plain:=fun w a=>run_store _ w a _ _ rfl
      rw [rounds_succ]
      go_wp2_with (with_reducible refine stop_at (some 11) rfl ?_)
      refine unstop ?_
      refine wpList_load_row rfl 27 (.tmp 1) rfl w.heap.size rfl 27 _ (0,0) _ (cr_alloc cr _) Tryz.underlying27 rfl (by kernel_rfl) ?_
      go_wp2_with fail
      refine (rule6_any x _).mono ?_
      rintro e y6 ⟨rfl,hb⟩
      replace cr:=cr_keep hb (cr_alloc cr _)
      replace E:=b_trans (b_alloc E) hb
      have g:y6.cell? ⟨y5.heap.size,0,none⟩=some (.int .i64 6):=cell_keep hb (by simp [go_sem])
      clear hb st
      cases q6:k6 x
      ·go_wp2
       go_ret
       exact ⟨by rw [show cks x=6 from by unfold cks; rw [q1,q2,q3,q4,q5,q6]; rfl]; rfl,E⟩
      ·clear g
       go_wp2
       have st:∀ (w:World) (a:Addr),(store a (.func (.func 53) #[] #[])).run Tryz.prog w=stored Tryz.prog w a (.func (.func 53) #[] #[]) .plain:=fun w a=>run_store _ w a _ _ rfl
       rw [rounds_succ]
       go_wp2_with (with_reducible refine stop_at (some 11) rfl ?_)
       refine unstop ?_
       refine wpList_load_row rfl 27 (.tmp 1) rfl w.heap.size rfl 27 _ (0,0) _ (cr_alloc cr _) Tryz.underlying27 rfl (by kernel_rfl) ?_
       go_wp2_with fail
       refine (rule7_any x _).mono ?_
       rintro e y7 ⟨rfl,hb⟩
       replace cr:=cr_keep hb (cr_alloc cr _)
       replace E:=b_trans (b_alloc E) hb
       have g:y7.cell? ⟨y6.heap.size,0,none⟩=some (.int .i64 7):=cell_keep hb (by simp [go_sem])
       clear hb st
       cases q7:k7 x
       ·go_wp2
        go_ret
        exact ⟨by rw [show cks x=7 from by unfold cks; rw [q1,q2,q3,q4,q5,q6,q7]; rfl]; rfl,E⟩
       ·clear g
        go_wp2
        have st:∀ (w:World) (a:Addr),(store a (.func (.func 54) #[] #[])).run Tryz.prog w=stored Tryz.prog w a (.func (.func 54) #[] #[]) .plain:=fun w a=>run_store _ w a _ _ rfl
        rw [rounds_succ]
        go_wp2_with (with_reducible refine stop_at (some 11) rfl ?_)
        refine unstop ?_
        refine wpList_load_row rfl 27 (.tmp 1) rfl w.heap.size rfl 27 _ (0,0) _ (cr_alloc cr _) Tryz.underlying27 rfl (by kernel_rfl) ?_
        go_wp2_with fail
        refine (rule8_any x _).mono ?_
        rintro e y8 ⟨rfl,hb⟩
        replace cr:=cr_keep hb (cr_alloc cr _)
        replace E:=b_trans (b_alloc E) hb
        have g:y8.cell? ⟨y7.heap.size,0,none⟩=some (.int .i64 8):=cell_keep hb (by simp [go_sem])
        clear hb st
        cases q8:k8 x
        ·go_wp2
         go_ret
         exact ⟨by rw [show cks x=8 from by unfold cks; rw [q1,q2,q3,q4,q5,q6,q7,q8]; rfl]; rfl,E⟩
        ·clear g
         go_wp2
         have st:∀ (w:World) (a:Addr),(store a (.func (.func 55) #[] #[])).run Tryz.prog w=stored Tryz.prog w a (.func (.func 55) #[] #[]) .plain:=fun w a=>run_store _ w a _ _ rfl
         rw [rounds_succ]
         go_wp2_with (with_reducible refine stop_at (some 11) rfl ?_)
         refine unstop ?_
         refine wpList_load_row rfl 27 (.tmp 1) rfl w.heap.size rfl 27 _ (0,0) _ (cr_alloc cr _) Tryz.underlying27 rfl (by kernel_rfl) ?_
         go_wp2_with fail
         refine (rule9_any x _).mono ?_
         rintro e y9 ⟨rfl,hb⟩
         replace cr:=cr_keep hb (cr_alloc cr _)
         replace E:=b_trans (b_alloc E) hb
         have g:y9.cell? ⟨y8.heap.size,0,none⟩=some (.int .i64 9):=cell_keep hb (by simp [go_sem])
         clear hb st
         cases q9:k9 x
         ·go_wp2
          go_ret
          exact ⟨by rw [show cks x=9 from by unfold cks; rw [q1,q2,q3,q4,q5,q6,q7,q8,q9]; rfl]; rfl,E⟩
         ·clear g
          go_wp2
          have st:∀ (w:World) (a:Addr),(store a (.func (.func 56) #[] #[])).run Tryz.prog w=stored Tryz.prog w a (.func (.func 56) #[] #[]) .plain:=fun w a=>run_store _ w a _ _ rfl
          rw [rounds_succ]
          go_wp2_with (with_reducible refine stop_at (some 11) rfl ?_)
          refine unstop ?_
          refine wpList_load_row rfl 27 (.tmp 1) rfl w.heap.size rfl 27 _ (0,0) _ (cr_alloc cr _) Tryz.underlying27 rfl (by kernel_rfl) ?_
          go_wp2_with fail
          refine (rule10_any x _).mono ?_
          rintro e y10 ⟨rfl,hb⟩
          replace cr:=cr_keep hb (cr_alloc cr _)
          replace E:=b_trans (b_alloc E) hb
          have g:y10.cell? ⟨y9.heap.size,0,none⟩=some (.int .i64 10):=cell_keep hb (by simp [go_sem])
          clear hb st
          cases q10:k10 x
          ·go_wp2
           go_ret
           exact ⟨by rw [show cks x=10 from by unfold cks; rw [q1,q2,q3,q4,q5,q6,q7,q8,q9,q10]; rfl]; rfl,E⟩
          ·clear g
           go_wp2
           have st:∀ (w:World) (a:Addr),(store a (.func (.func 57) #[] #[])).run Tryz.prog w=stored Tryz.prog w a (.func (.func 57) #[] #[]) .plain:=fun w a=>run_store _ w a _ _ rfl
           rw [rounds_succ]
           go_wp2_with (with_reducible refine stop_at (some 11) rfl ?_)
           refine unstop ?_
           refine wpList_load_row rfl 27 (.tmp 1) rfl w.heap.size rfl 27 _ (0,0) _ (cr_alloc cr _) Tryz.underlying27 rfl (by kernel_rfl) ?_
           go_wp2_with fail
           refine (rule11_any x _).mono ?_
           rintro e y11 ⟨rfl,hb⟩
           replace cr:=cr_keep hb (cr_alloc cr _)
           replace E:=b_trans (b_alloc E) hb
           have g:y11.cell? ⟨y10.heap.size,0,none⟩=some (.int .i64 11):=cell_keep hb (by simp [go_sem])
           clear hb st
           cases q11:k11 x
           ·go_wp2
            go_ret
            exact ⟨by rw [show cks x=11 from by unfold cks; rw [q1,q2,q3,q4,q5,q6,q7,q8,q9,q10,q11]; rfl]; rfl,E⟩
           ·clear g
            go_wp2
            have st:∀ (w:World) (a:Addr),(store a (.func (.func 59) #[] #[])).run Tryz.prog w=stored Tryz.prog w a (.func (.func 59) #[] #[]) .plain:=fun w a=>run_store _ w a _ _ rfl
            rw [rounds_succ]
            go_wp2_with (with_reducible refine stop_at (some 11) rfl ?_)
            refine unstop ?_
            refine wpList_load_row rfl 27 (.tmp 1) rfl w.heap.size rfl 27 _ (0,0) _ (cr_alloc cr _) Tryz.underlying27 rfl (by kernel_rfl) ?_
            go_wp2_with fail
            refine (rule12_any x _).mono ?_
            rintro e y12 ⟨rfl,hb⟩
            replace cr:=cr_keep hb (cr_alloc cr _)
            replace E:=b_trans (b_alloc E) hb
            have g:y12.cell? ⟨y11.heap.size,0,none⟩=some (.int .i64 12):=cell_keep hb (by simp [go_sem])
            clear hb st
            cases q12:k12 x
            ·go_wp2
             go_ret
             exact ⟨by rw [show cks x=12 from by unfold cks; rw [q1,q2,q3,q4,q5,q6,q7,q8,q9,q10,q11,q12]; rfl]; rfl,E⟩
            ·clear g
             go_wp2
             have st:∀ (w:World) (a:Addr),(store a (.func (.func 60) #[] #[])).run Tryz.prog w=stored Tryz.prog w a (.func (.func 60) #[] #[]) .plain:=fun w a=>run_store _ w a _ _ rfl
             rw [rounds_succ]
             go_wp2_with (with_reducible refine stop_at (some 11) rfl ?_)
             refine unstop ?_
             refine wpList_load_row rfl 27 (.tmp 1) rfl w.heap.size rfl 27 _ (0,0) _ (cr_alloc cr _) Tryz.underlying27 rfl (by kernel_rfl) ?_
             go_wp2_with fail
             refine (rule13_any x _).mono ?_
             rintro e y13 ⟨rfl,hb⟩
             replace cr:=cr_keep hb (cr_alloc cr _)
             replace E:=b_trans (b_alloc E) hb
             have g:y13.cell? ⟨y12.heap.size,0,none⟩=some (.int .i64 13):=cell_keep hb (by simp [go_sem])
             clear hb st
             cases q13:k13 x
             ·go_wp2
              go_ret
              exact ⟨by rw [show cks x=13 from by unfold cks; rw [q1,q2,q3,q4,q5,q6,q7,q8,q9,q10,q11,q12,q13]; rfl]; rfl,E⟩
             ·clear g
              go_wp2
              have st:∀ (w:World) (a:Addr),(store a (.func (.func 61) #[] #[])).run Tryz.prog w=stored Tryz.prog w a (.func (.func 61) #[] #[]) .plain:=fun w a=>run_store _ w a _ _ rfl
              rw [rounds_succ]
              go_wp2_with (with_reducible refine stop_at (some 11) rfl ?_)
              refine unstop ?_
              refine wpList_load_row rfl 27 (.tmp 1) rfl w.heap.size rfl 27 _ (0,0) _ (cr_alloc cr _) Tryz.underlying27 rfl (by kernel_rfl) ?_
              go_wp2_with fail
              refine (rule14_any x _).mono ?_
              rintro e y14 ⟨rfl,hb⟩
              replace cr:=cr_keep hb (cr_alloc cr _)
              replace E:=b_trans (b_alloc E) hb
              have g:y14.cell? ⟨y13.heap.size,0,none⟩=some (.int .i64 14):=cell_keep hb (by simp [go_sem])
              clear hb st
              cases q14:k14 x
              ·go_wp2
               go_ret
               exact ⟨by rw [show cks x=14 from by unfold cks; rw [q1,q2,q3,q4,q5,q6,q7,q8,q9,q10,q11,q12,q13,q14]; rfl]; rfl,E⟩
              ·clear g
               go_wp2
               rw [rounds_succ]
               go_wp2
               go_ret
               exact ⟨by rw [show cks x=0 from by unfold cks; rw [q1,q2,q3,q4,q5,q6,q7,q8,q9,q10,q11,q12,q13,q14]; rfl]; rfl,E⟩
end Go.Proofs.YthnofhjgfhapiaaGreatDoor
namespace Go.Proofs.YthnofhjgfhapiaaGreatDoor
open Go.RowKit Go.Shelf Go.Joins
def dflt:Nat→Int:=fun i=>[1024,65536,256,16384,4194304,4096,274877906944,4398046511104,4398046511104,1099511627776,68719476736,256,256,256,1125899906842624,281474976710656,17592186044416,18014398509481984,562949953421312,8796093022208,9,34359738368,17179869184,-1073741824,536870912,2048,32768,32,64,1280,240].getD i 0
abbrev dv:Value:=.agg #[.int .i64 1024,.int .i64 65536,.int .i64 256,.int .i64 16384,.int .i64 4194304,.int .i64 4096,.int .i64 274877906944,.int .i64 4398046511104,.int .i64 4398046511104,.int .i64 1099511627776,.int .i64 68719476736,.int .i64 256,.int .i64 256,.int .i64 256,.int .i64 1125899906842624,.int .i64 281474976710656,.int .i64 17592186044416,.int .i64 18014398509481984,.int .i64 562949953421312,.int .i64 8796093022208,.int .i64 9,.int .i64 34359738368,.int .i64 17179869184,.int .i64 (-1073741824),.int .i64 536870912,.int .i64 2048,.int .i64 32768,.int .i64 32,.int .i64 64,.int .i64 1280,.int .i64 240]
theorem default_kept:cks dflt=0:=by decide +kernel
theorem small64 {l:List Int} (h:(l.all fun v=>decide (-9223372036854775808≤v) && decide (v≤9223372036854775807))=true):∀ i,I64 (l.getD i 0):=by
 intro i
 by_cases c:i<l.length
 ·rw [List.getD_eq_getElem?_getD,List.getElem?_eq_getElem c]
  have:=List.all_eq_true.1 h _ (List.getElem_mem c)
  simp only [Bool.and_eq_true,decide_eq_true_eq] at this
  exact this
 ·rw [List.getD_eq_getElem?_getD,List.getElem?_eq_none (by omega)]
  exact ⟨by decide,by decide⟩
theorem dflt64:C64 dflt:=fun i _=>small64 (by decide +kernel) i
theorem row_below {w w1:World} (E:Below w.heap.size w w1) {g:Nat} {cs:Array Value} (h:w.heap.size≤g):Below w.heap.size w (w1.setRow g cs) :=
 ⟨E.os,E.tape,E.output,by simp; exact E.size,fun k hk=>by rw [setRow_other _ _ _ _ (by omega)]; exact E.block k hk⟩
theorem default_any (w:World):Calls Tryz.prog 14 #[] w (RetV dv w):=by
 go_enter Tryz.func14,Tryz.ntmps14
 go_wp2_with fail
 refine (same_any 256 _).mono ?_
 rintro e y0 ⟨rfl,hb⟩
 have hg:=(hb.block w.heap.size (by simp)).trans (heap_alloc_last w _)
 have E:=b_trans (b_alloc (Below.refl w.heap.size w)) hb
 clear hb
 go_wp2_with (with_reducible refine stop_at none rfl ?_)
 refine unstop ?_
 refine wpList_store_row rfl 27 (.tmp 0) (.tmp 8) rfl w.heap.size #[.int .i64 1024,.int .i64 65536,.int .i64 256,.int .i64 16384,.int .i64 4194304,.int .i64 4096,.int .i64 274877906944,.int .i64 4398046511104,.int .i64 4398046511104,.int .i64 1099511627776,.int .i64 68719476736,.int .i64 256,.int .i64 256,.int .i64 256,.int .i64 1125899906842624,.int .i64 281474976710656,.int .i64 17592186044416,.int .i64 18014398509481984,.int .i64 562949953421312,.int .i64 8796093022208,.int .i64 9,.int .i64 34359738368,.int .i64 17179869184,.int .i64 (-1073741824),.int .i64 536870912,.int .i64 2048,.int .i64 32768,.int .i64 32,.int .i64 64,.int .i64 1280,.int .i64 240] rfl rfl 27 _ hg (by kernel_rfl) rfl (by kernel_rfl) ?_
 replace hg:=setRow_heap _ _ _ #[.int .i64 1024,.int .i64 65536,.int .i64 256,.int .i64 16384,.int .i64 4194304,.int .i64 4096,.int .i64 274877906944,.int .i64 4398046511104,.int .i64 4398046511104,.int .i64 1099511627776,.int .i64 68719476736,.int .i64 256,.int .i64 256,.int .i64 256,.int .i64 1125899906842624,.int .i64 281474976710656,.int .i64 17592186044416,.int .i64 18014398509481984,.int .i64 562949953421312,.int .i64 8796093022208,.int .i64 9,.int .i64 34359738368,.int .i64 17179869184,.int .i64 (-1073741824),.int .i64 536870912,.int .i64 2048,.int .i64 32768,.int .i64 32,.int .i64 64,.int .i64 1280,.int .i64 240] _ _ hg
 replace E:=row_below E (cs:=#[.int .i64 1024,.int .i64 65536,.int .i64 256,.int .i64 16384,.int .i64 4194304,.int .i64 4096,.int .i64 274877906944,.int .i64 4398046511104,.int .i64 4398046511104,.int .i64 1099511627776,.int .i64 68719476736,.int .i64 256,.int .i64 256,.int .i64 256,.int .i64 1125899906842624,.int .i64 281474976710656,.int .i64 17592186044416,.int .i64 18014398509481984,.int .i64 562949953421312,.int .i64 8796093022208,.int .i64 9,.int .i64 34359738368,.int .i64 17179869184,.int .i64 (-1073741824),.int .i64 536870912,.int .i64 2048,.int .i64 32768,.int .i64 32,.int .i64 64,.int .i64 1280,.int .i64 240]) (Nat.le_refl _)
 generalize y0.setRow w.heap.size #[.int .i64 1024,.int .i64 65536,.int .i64 256,.int .i64 16384,.int .i64 4194304,.int .i64 4096,.int .i64 274877906944,.int .i64 4398046511104,.int .i64 4398046511104,.int .i64 1099511627776,.int .i64 68719476736,.int .i64 256,.int .i64 256,.int .i64 256,.int .i64 1125899906842624,.int .i64 281474976710656,.int .i64 17592186044416,.int .i64 18014398509481984,.int .i64 562949953421312,.int .i64 8796093022208,.int .i64 9,.int .i64 34359738368,.int .i64 17179869184,.int .i64 (-1073741824),.int .i64 536870912,.int .i64 2048,.int .i64 32768,.int .i64 32,.int .i64 64,.int .i64 1280,.int .i64 240]=y1 at *
 go_wp2
 exact bodyPost_ret (v:=dv) (results_cell_row Tryz.results14 _ _ w.heap.size 27 _ (0,0) _ rfl hg Tryz.underlying27 rfl (by kernel_rfl)) rfl ⟨rfl,E⟩
theorem bif_zero {a:Bool} {b c:Int} (hc:c≠0) (h:(bif a then b else c)=0):a=true∧b=0:=by
 cases a
 ·exact absurd h hc
 ·exact ⟨rfl,h⟩
theorem cks_zero {x:Nat→Int} (h:cks x=0):k10 x=true∧k11 x=true:=by
 unfold cks at h
 replace h:=(bif_zero (by decide) h).2
 replace h:=(bif_zero (by decide) h).2
 replace h:=(bif_zero (by decide) h).2
 replace h:=(bif_zero (by decide) h).2
 replace h:=(bif_zero (by decide) h).2
 replace h:=(bif_zero (by decide) h).2
 replace h:=(bif_zero (by decide) h).2
 replace h:=(bif_zero (by decide) h).2
 replace h:=(bif_zero (by decide) h).2
 obtain ⟨h10,h⟩:=bif_zero (by decide) h
 obtain ⟨h11,h⟩:=bif_zero (by decide) h
 exact ⟨h10,h11⟩
structure Kept (s r c:Int):Prop where
 s1:1≤s
 s2:s≤1099511627776
 c1:1≤c
 c2:c≤131072
 r1:1 - c≤r
 r2:r≤c - 1
theorem kept_of {x:Nat→Int} (h:cks x=0):Kept (x 24) (x 25) (x 26):=by
 obtain ⟨h10,h11⟩:=cks_zero h
 unfold k10 at h10
 unfold k11 at h11
 rw [Bool.and_eq_true] at h11
 obtain ⟨a,b⟩:=inb_iff.1 h10
 obtain ⟨c,d⟩:=inb_iff.1 h11.1
 obtain ⟨e,f⟩:=inb_iff.1 h11.2
 exact ⟨a,b,c,d,e,f⟩
theorem thrust_small {s r c n:Int} (k:Kept s r c) (h1:1 - c≤n) (h2:n≤c - 1):-288230376151711744≤(n - r)*s∧(n - r)*s≤288230376151711744:=by
 obtain ⟨s1,s2,c1,c2,r1,r2⟩:=k
 have a:(n - r)*s≤262142*s:=Int.mul_le_mul_of_nonneg_right (by omega) (by omega)
 have b:(-262142)*s≤(n - r)*s:=Int.mul_le_mul_of_nonneg_right (by omega) (by omega)
 omega
def thv (x:Nat→Int) (n:Int):Int:=if cks x=0 then (if inb n (1 - x 26) (x 26 - 1)=true then (n - x 25)*x 24 else 0) else 0
def the (x:Nat→Int) (n:Int):Int:=if cks x=0 then (if inb n (1 - x 26) (x 26 - 1)=true then 0 else 2) else 1
theorem th_bad {x:Nat→Int} {n:Int} (h:¬ cks x=0):thv x n=0∧the x n=1:=⟨if_neg h,if_neg h⟩
theorem th_out {x:Nat→Int} {n:Int} (h:cks x=0) (i:inb n (1 - x 26) (x 26 - 1)=false):thv x n=0∧the x n=2:=by
 unfold thv the
 rw [if_pos h,if_pos h,if_neg (by rw [i]; decide),if_neg (by rw [i]; decide)]
 exact ⟨rfl,rfl⟩
theorem th_ok {x:Nat→Int} {n:Int} (h:cks x=0) (i:inb n (1 - x 26) (x 26 - 1)=true):thv x n=(n - x 25)*x 24∧the x n=0:=by
 unfold thv the
 rw [if_pos h,if_pos h,if_pos i,if_pos i]
 exact ⟨rfl,rfl⟩
theorem cr_cell {w:World} {b:Nat} {x:Nat→Int} (c:CR w b x):CF w b x:=fun i hi=>(cell_of_row w b i _ _ _ c).trans <| match i,hi with
 | 0,_=>rfl
 | 1,_=>rfl
 | 2,_=>rfl
 | 3,_=>rfl
 | 4,_=>rfl
 | 5,_=>rfl
 | 6,_=>rfl
 | 7,_=>rfl
 | 8,_=>rfl
 | 9,_=>rfl
 | 10,_=>rfl
 | 11,_=>rfl
 | 12,_=>rfl
 | 13,_=>rfl
 | 14,_=>rfl
 | 15,_=>rfl
 | 16,_=>rfl
 | 17,_=>rfl
 | 18,_=>rfl
 | 19,_=>rfl
 | 20,_=>rfl
 | 21,_=>rfl
 | 22,_=>rfl
 | 23,_=>rfl
 | 24,_=>rfl
 | 25,_=>rfl
 | 26,_=>rfl
 | 27,_=>rfl
 | 28,_=>rfl
 | 29,_=>rfl
 | 30,_=>rfl
 | (n+31),h=>absurd h (by omega)
theorem thrust_any (x:Nat→Int) (hx:C64 x) (n:Int) (w:World):Calls Tryz.prog 62 #[cv x,.int .i64 n] w (RetV (.tuple #[.int .i64 (thv x n),.int .i64 (the x n)]) w):=by
 have ck:=check_any x hx
 by_cases c:cks x=0
 ·rw [c] at ck
  have kp:=kept_of c
  cases i:inb n (1 - x 26) (x 26 - 1)
  ·obtain ⟨e1,e2⟩:=th_out c i
   rw [e1,e2]
   clear e1 e2
   have E:Below w.heap.size w (w.alloc (Obj.cells #[.int .i64 (x 0),.int .i64 (x 1),.int .i64 (x 2),.int .i64 (x 3),.int .i64 (x 4),.int .i64 (x 5),.int .i64 (x 6),.int .i64 (x 7),.int .i64 (x 8),.int .i64 (x 9),.int .i64 (x 10),.int .i64 (x 11),.int .i64 (x 12),.int .i64 (x 13),.int .i64 (x 14),.int .i64 (x 15),.int .i64 (x 16),.int .i64 (x 17),.int .i64 (x 18),.int .i64 (x 19),.int .i64 (x 20),.int .i64 (x 21),.int .i64 (x 22),.int .i64 (x 23),.int .i64 (x 24),.int .i64 (x 25),.int .i64 (x 26),.int .i64 (x 27),.int .i64 (x 28),.int .i64 (x 29),.int .i64 (x 30)] 27)):=b_alloc (Below.refl _ _)
   have cr:CR (w.alloc (Obj.cells #[.int .i64 (x 0),.int .i64 (x 1),.int .i64 (x 2),.int .i64 (x 3),.int .i64 (x 4),.int .i64 (x 5),.int .i64 (x 6),.int .i64 (x 7),.int .i64 (x 8),.int .i64 (x 9),.int .i64 (x 10),.int .i64 (x 11),.int .i64 (x 12),.int .i64 (x 13),.int .i64 (x 14),.int .i64 (x 15),.int .i64 (x 16),.int .i64 (x 17),.int .i64 (x 18),.int .i64 (x 19),.int .i64 (x 20),.int .i64 (x 21),.int .i64 (x 22),.int .i64 (x 23),.int .i64 (x 24),.int .i64 (x 25),.int .i64 (x 26),.int .i64 (x 27),.int .i64 (x 28),.int .i64 (x 29),.int .i64 (x 30)] 27)) w.heap.size x:=cr_new
   go_enter Tryz.func62,Tryz.ntmps62
   go_wp2_with (with_reducible refine stop_at (some 6) rfl ?_)
   generalize (w.alloc (Obj.cells #[.int .i64 (x 0),.int .i64 (x 1),.int .i64 (x 2),.int .i64 (x 3),.int .i64 (x 4),.int .i64 (x 5),.int .i64 (x 6),.int .i64 (x 7),.int .i64 (x 8),.int .i64 (x 9),.int .i64 (x 10),.int .i64 (x 11),.int .i64 (x 12),.int .i64 (x 13),.int .i64 (x 14),.int .i64 (x 15),.int .i64 (x 16),.int .i64 (x 17),.int .i64 (x 18),.int .i64 (x 19),.int .i64 (x 20),.int .i64 (x 21),.int .i64 (x 22),.int .i64 (x 23),.int .i64 (x 24),.int .i64 (x 25),.int .i64 (x 26),.int .i64 (x 27),.int .i64 (x 28),.int .i64 (x 29),.int .i64 (x 30)] 27))=z0 at *
   refine unstop ?_
   refine wpList_load_row rfl 27 (.tmp 2) rfl w.heap.size rfl 27 _ (0,0) _ cr Tryz.underlying27 rfl (by kernel_rfl) ?_
   go_wp2_with fail
   refine (ck _).mono ?_
   rintro e y0 ⟨rfl,hb⟩
   replace cr:=cr_keep hb cr
   replace E:=b_trans E hb
   clear hb
   have g6:=cr_cell cr 26 (by decide)
   have ci:=inside_any n (x 26) kp.c1 kp.c2
   rw [i] at ci
   clear i kp c ck
   go_wp2_with fail
   refine (ci _).mono ?_
   rintro e y1 ⟨rfl,hb⟩
   replace E:=b_trans E hb
   clear hb cr
   go_wp2
   go_ret2
   exact ⟨rfl,E⟩
  ·obtain ⟨e1,e2⟩:=th_ok c i
   rw [e1,e2]
   clear e1 e2
   have E:Below w.heap.size w (w.alloc (Obj.cells #[.int .i64 (x 0),.int .i64 (x 1),.int .i64 (x 2),.int .i64 (x 3),.int .i64 (x 4),.int .i64 (x 5),.int .i64 (x 6),.int .i64 (x 7),.int .i64 (x 8),.int .i64 (x 9),.int .i64 (x 10),.int .i64 (x 11),.int .i64 (x 12),.int .i64 (x 13),.int .i64 (x 14),.int .i64 (x 15),.int .i64 (x 16),.int .i64 (x 17),.int .i64 (x 18),.int .i64 (x 19),.int .i64 (x 20),.int .i64 (x 21),.int .i64 (x 22),.int .i64 (x 23),.int .i64 (x 24),.int .i64 (x 25),.int .i64 (x 26),.int .i64 (x 27),.int .i64 (x 28),.int .i64 (x 29),.int .i64 (x 30)] 27)):=b_alloc (Below.refl _ _)
   have cr:CR (w.alloc (Obj.cells #[.int .i64 (x 0),.int .i64 (x 1),.int .i64 (x 2),.int .i64 (x 3),.int .i64 (x 4),.int .i64 (x 5),.int .i64 (x 6),.int .i64 (x 7),.int .i64 (x 8),.int .i64 (x 9),.int .i64 (x 10),.int .i64 (x 11),.int .i64 (x 12),.int .i64 (x 13),.int .i64 (x 14),.int .i64 (x 15),.int .i64 (x 16),.int .i64 (x 17),.int .i64 (x 18),.int .i64 (x 19),.int .i64 (x 20),.int .i64 (x 21),.int .i64 (x 22),.int .i64 (x 23),.int .i64 (x 24),.int .i64 (x 25),.int .i64 (x 26),.int .i64 (x 27),.int .i64 (x 28),.int .i64 (x 29),.int .i64 (x 30)] 27)) w.heap.size x:=cr_new
   go_enter Tryz.func62,Tryz.ntmps62
   go_wp2_with (with_reducible refine stop_at (some 6) rfl ?_)
   generalize (w.alloc (Obj.cells #[.int .i64 (x 0),.int .i64 (x 1),.int .i64 (x 2),.int .i64 (x 3),.int .i64 (x 4),.int .i64 (x 5),.int .i64 (x 6),.int .i64 (x 7),.int .i64 (x 8),.int .i64 (x 9),.int .i64 (x 10),.int .i64 (x 11),.int .i64 (x 12),.int .i64 (x 13),.int .i64 (x 14),.int .i64 (x 15),.int .i64 (x 16),.int .i64 (x 17),.int .i64 (x 18),.int .i64 (x 19),.int .i64 (x 20),.int .i64 (x 21),.int .i64 (x 22),.int .i64 (x 23),.int .i64 (x 24),.int .i64 (x 25),.int .i64 (x 26),.int .i64 (x 27),.int .i64 (x 28),.int .i64 (x 29),.int .i64 (x 30)] 27))=z0 at *
   refine unstop ?_
   refine wpList_load_row rfl 27 (.tmp 2) rfl w.heap.size rfl 27 _ (0,0) _ cr Tryz.underlying27 rfl (by kernel_rfl) ?_
   go_wp2_with fail
   refine (ck _).mono ?_
   rintro e y0 ⟨rfl,hb⟩
   replace cr:=cr_keep hb cr
   replace E:=b_trans E hb
   clear hb
   have g6:=cr_cell cr 26 (by decide)
   have ci:=inside_any n (x 26) kp.c1 kp.c2
   rw [i] at ci
   obtain ⟨a1,a2⟩:=inb_iff.1 i
   obtain ⟨t1,t2⟩:=thrust_small kp a1 a2
   have w1:IntKind.i64.wrap (n - x 25)=n - x 25:=by
    have:=kp.r1
    have:=kp.r2
    have:=kp.c2
    rw [IntKind.wrap_i64]; omega
   have w2:IntKind.i64.wrap ((n - x 25)*x 24)=(n - x 25)*x 24:=by rw [IntKind.wrap_i64]; omega
   clear i kp c ck a1 a2 t1 t2
   go_wp2_with fail
   refine (ci _).mono ?_
   rintro e y1 ⟨rfl,hb⟩
   replace E:=b_trans E hb
   replace cr:=cr_keep hb cr
   have g4:=cr_cell cr 24 (by decide)
   have g5:=cr_cell cr 25 (by decide)
   clear hb cr
   go_wp2
   go_ret2
   exact ⟨rfl,E⟩
 ·obtain ⟨e1,e2⟩:=th_bad (n:=n) c
  rw [e1,e2]
  clear e1 e2
  generalize cks x=m at *
  have E:Below w.heap.size w (w.alloc (Obj.cells #[.int .i64 (x 0),.int .i64 (x 1),.int .i64 (x 2),.int .i64 (x 3),.int .i64 (x 4),.int .i64 (x 5),.int .i64 (x 6),.int .i64 (x 7),.int .i64 (x 8),.int .i64 (x 9),.int .i64 (x 10),.int .i64 (x 11),.int .i64 (x 12),.int .i64 (x 13),.int .i64 (x 14),.int .i64 (x 15),.int .i64 (x 16),.int .i64 (x 17),.int .i64 (x 18),.int .i64 (x 19),.int .i64 (x 20),.int .i64 (x 21),.int .i64 (x 22),.int .i64 (x 23),.int .i64 (x 24),.int .i64 (x 25),.int .i64 (x 26),.int .i64 (x 27),.int .i64 (x 28),.int .i64 (x 29),.int .i64 (x 30)] 27)):=b_alloc (Below.refl _ _)
  have cr:CR (w.alloc (Obj.cells #[.int .i64 (x 0),.int .i64 (x 1),.int .i64 (x 2),.int .i64 (x 3),.int .i64 (x 4),.int .i64 (x 5),.int .i64 (x 6),.int .i64 (x 7),.int .i64 (x 8),.int .i64 (x 9),.int .i64 (x 10),.int .i64 (x 11),.int .i64 (x 12),.int .i64 (x 13),.int .i64 (x 14),.int .i64 (x 15),.int .i64 (x 16),.int .i64 (x 17),.int .i64 (x 18),.int .i64 (x 19),.int .i64 (x 20),.int .i64 (x 21),.int .i64 (x 22),.int .i64 (x 23),.int .i64 (x 24),.int .i64 (x 25),.int .i64 (x 26),.int .i64 (x 27),.int .i64 (x 28),.int .i64 (x 29),.int .i64 (x 30)] 27)) w.heap.size x:=cr_new
  go_enter Tryz.func62,Tryz.ntmps62
  go_wp2_with (with_reducible refine stop_at (some 6) rfl ?_)
  generalize (w.alloc (Obj.cells #[.int .i64 (x 0),.int .i64 (x 1),.int .i64 (x 2),.int .i64 (x 3),.int .i64 (x 4),.int .i64 (x 5),.int .i64 (x 6),.int .i64 (x 7),.int .i64 (x 8),.int .i64 (x 9),.int .i64 (x 10),.int .i64 (x 11),.int .i64 (x 12),.int .i64 (x 13),.int .i64 (x 14),.int .i64 (x 15),.int .i64 (x 16),.int .i64 (x 17),.int .i64 (x 18),.int .i64 (x 19),.int .i64 (x 20),.int .i64 (x 21),.int .i64 (x 22),.int .i64 (x 23),.int .i64 (x 24),.int .i64 (x 25),.int .i64 (x 26),.int .i64 (x 27),.int .i64 (x 28),.int .i64 (x 29),.int .i64 (x 30)] 27))=z0 at *
  refine unstop ?_
  refine wpList_load_row rfl 27 (.tmp 2) rfl w.heap.size rfl 27 _ (0,0) _ cr Tryz.underlying27 rfl (by kernel_rfl) ?_
  go_wp2_with fail
  refine (ck _).mono ?_
  rintro e y0 ⟨rfl,hb⟩
  replace cr:=cr_keep hb cr
  replace E:=b_trans E hb
  clear hb
  have g6:=cr_cell cr 26 (by decide)
  go_wp2
  go_ret2
  exact ⟨rfl,E⟩
end Go.Proofs.YthnofhjgfhapiaaGreatDoor

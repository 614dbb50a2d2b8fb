import Derived.Laws.Cover1
import Derived.ChangeKeysEq
import Derived.Test.YtjifkmldigemkaaGreatDoorTae
import Derived.Test.YtjifkmldigemkaaGreatDoorTab
import Derived.Test.YtjifkmldigemkaaGreatDoorTaa
import Derived.LoopN
import Derived.Test.YtjifkmldigemkaaGreatDoorTag
import Derived.Deep.QuietTactic
import Derived.BigQuiet
import Derived.Lib.SmallJoins
import Derived.BigRegion
import Derived.Test.YtjifkmldigemkaaGreatDoorTad
set_option maxHeartbeats 4000000
set_option maxRecDepth 10000
namespace Go.Proofs.YtjifkmldigemkaaGreatDoor
open Go.RowKit Go.Shelf
abbrev sv (m:Nat→Int):Value:=.agg #[.int .i64 (m 0),.int .i64 (m 1),.int .i64 (m 2),.int .i64 (m 3),.int .i64 (m 4),.int .i64 (m 5)]
abbrev SC (w:World) (b:Nat) (m:Nat→Int):Prop:=∀ i,i<6→w.cell? ⟨b,i,none⟩=some (.int .i64 (m i))
abbrev SF (w:World) (b:Nat):Prop:=∀ i,i<6→w.frozen? ⟨b,i,none⟩=false
theorem sc_keep {w w':World} (hb:Below w.heap.size w w') {b:Nat} {m:Nat→Int} (c:SC w b m):SC w' b m:=fun i hi=>cell_keep hb (c i hi)
theorem sc_alloc {w:World} {o:Obj} {b:Nat} {m:Nat→Int} (c:SC w b m):SC (w.alloc o) b m:=sc_keep (b_alloc (Below.refl _ _)) c
theorem sc_lt {w:World} {b:Nat} {m:Nat→Int} (c:SC w b m):b<w.heap.size:=World.block_lt_of_cell? w _ (c 0 (by decide))
theorem sf_keep {w w':World} (hb:Below w.heap.size w w') {b:Nat} {m:Nat→Int} (c:SC w b m) (f:SF w b):SF w' b:=fun i hi=>by rw [hb.frozen (p:=⟨b,i,none⟩) (sc_lt c)]; exact f i hi
theorem sc_set {w:World} {b b1 o:Nat} {m:Nat→Int} {v:Value} (c:SC w b m) (hb:b1≠b):SC (w.setCell ⟨b1,o,none⟩ v) b m:=fun i hi=>by rw [World.cell?_setCell_far _ _ _ _ hb]; exact c i hi
theorem sf_set {w:World} {b b1 o:Nat} {v:Value} (c:SF w b):SF (w.setCell ⟨b1,o,none⟩ v) b:=fun i hi=>by rw [World.frozen?_setCell]; exact c i hi
abbrev SC6 (w:World) (b:Nat) (m:Nat→Int):Prop:=w.cell? ⟨b,0,none⟩=some (.int .i64 (m 0))∧w.cell? ⟨b,1,none⟩=some (.int .i64 (m 1))∧w.cell? ⟨b,2,none⟩=some (.int .i64 (m 2))∧w.cell? ⟨b,3,none⟩=some (.int .i64 (m 3))∧w.cell? ⟨b,4,none⟩=some (.int .i64 (m 4))∧w.cell? ⟨b,5,none⟩=some (.int .i64 (m 5))
theorem sc_six {w:World} {b:Nat} {m:Nat→Int} (c:SC w b m):SC6 w b m:=⟨c 0 (by decide),c 1 (by decide),c 2 (by decide),c 3 (by decide),c 4 (by decide),c 5 (by decide)⟩
abbrev SF6 (w:World) (b:Nat):Prop:=w.frozen? ⟨b,0,none⟩=false∧w.frozen? ⟨b,1,none⟩=false∧w.frozen? ⟨b,2,none⟩=false∧w.frozen? ⟨b,3,none⟩=false∧w.frozen? ⟨b,4,none⟩=false∧w.frozen? ⟨b,5,none⟩=false
theorem sf_six {w:World} {b:Nat} (c:SF w b):SF6 w b:=⟨c 0 (by decide),c 1 (by decide),c 2 (by decide),c 3 (by decide),c 4 (by decide),c 5 (by decide)⟩
theorem six_sc {w:World} {b:Nat} {m:Nat→Int} (c:SC6 w b m):SC w b m:=fun i hi=>by
 obtain ⟨c0,c1,c2,c3,c4,c5⟩:=c
 match i,hi with
 | 0,_=>exact c0
 | 1,_=>exact c1
 | 2,_=>exact c2
 | 3,_=>exact c3
 | 4,_=>exact c4
 | 5,_=>exact c5
theorem sc_new {w:World} {b:Nat} {m:Nat→Int} {t:TypeId} (hn:b=w.heap.size):SC (w.alloc (Obj.cells #[.int .i64 (m 0),.int .i64 (m 1),.int .i64 (m 2),.int .i64 (m 3),.int .i64 (m 4),.int .i64 (m 5)] t)) b m:=by subst hn; exact six_sc (by simp [SC6,go_sem])
theorem sf_new {w:World} {b:Nat} {c0 c1 c2 c3 c4 c5:Value} {t:TypeId} (hn:b=w.heap.size):SF (w.alloc (Obj.cells #[c0,c1,c2,c3,c4,c5] t)) b:=by
 subst hn
 intro i hi
 match i,hi with
 | 0,_=>simp [go_sem]
 | 1,_=>simp [go_sem]
 | 2,_=>simp [go_sem]
 | 3,_=>simp [go_sem]
 | 4,_=>simp [go_sem]
 | 5,_=>simp [go_sem]
abbrev I6 (m:Nat→Int):Prop:=∀ i,i<6→I64 (m i)
abbrev F6 (m:Nat→Int):Prop:=∀ i,i<6→FitP (m i)
def f6b (m:Nat→Int):Bool:=decide (F6 m)
theorem f6b_yes {m:Nat→Int} (h:F6 m):f6b m=true:=decide_eq_true h
theorem f6b_no {m:Nat→Int} (h:¬ F6 m):f6b m=false:=decide_eq_false h
theorem six {P:Nat→Prop} (h0:P 0) (h1:P 1) (h2:P 2) (h3:P 3) (h4:P 4) (h5:P 5):∀ i,i<6→P i:=fun i hi =>
 match i,hi with
 | 0,_=>h0
 | 1,_=>h1
 | 2,_=>h2
 | 3,_=>h3
 | 4,_=>h4
 | 5,_=>h5
theorem less_succ {P:Nat→Prop} {k:Nat} (h:∀ i,i<k→P i) (hk:P k):∀ i,i<k+1→P i:=fun i hi=>if e:i=k then e ▸ hk else h i (by omega)
theorem ix_sym (m:Nat→Int):(∀ w,(Instr.index 40 (sv m) (.int .i64 0)).run Tryz.prog w=.ok (.int .i64 (m 0)) w)∧(∀ w,(Instr.index 40 (sv m) (.int .i64 1)).run Tryz.prog w=.ok (.int .i64 (m 1)) w)∧(∀ w,(Instr.index 40 (sv m) (.int .i64 2)).run Tryz.prog w=.ok (.int .i64 (m 2)) w)∧(∀ w,(Instr.index 40 (sv m) (.int .i64 3)).run Tryz.prog w=.ok (.int .i64 (m 3)) w)∧(∀ w,(Instr.index 40 (sv m) (.int .i64 4)).run Tryz.prog w=.ok (.int .i64 (m 4)) w)∧(∀ w,(Instr.index 40 (sv m) (.int .i64 5)).run Tryz.prog w=.ok (.int .i64 (m 5)) w) :=
 ⟨fun _=>by kernel_rfl,fun _=>by kernel_rfl,fun _=>by kernel_rfl,fun _=>by kernel_rfl,fun _=>by kernel_rfl,fun _=>by kernel_rfl⟩
theorem ix_vec (x y z:Int):(∀ w,(Instr.index 23 (tv x y z) (.int .i64 0)).run Tryz.prog w=.ok (.int .i64 x) w)∧(∀ w,(Instr.index 23 (tv x y z) (.int .i64 1)).run Tryz.prog w=.ok (.int .i64 y) w)∧(∀ w,(Instr.index 23 (tv x y z) (.int .i64 2)).run Tryz.prog w=.ok (.int .i64 z) w) :=
 ⟨fun _=>by kernel_rfl,fun _=>by kernel_rfl,fun _=>by kernel_rfl⟩
theorem seven {k:Nat} (h:k≤6):k=6∨k=0∨k=1∨k=2∨k=3∨k=4∨k=5:=by omega
theorem fits_sym (m:Nat→Int) (hm:I6 m) (w:World) :
  Calls Tryz.prog 185 #[sv m] w (RetV (.bool (f6b m)) w):=by
 have B:=b_alloc (o:=Obj.cells #[.int .i64 (m 0),.int .i64 (m 1),.int .i64 (m 2),.int .i64 (m 3),.int .i64 (m 4),.int .i64 (m 5)] 40) (Below.refl w.heap.size w)
 obtain ⟨x0,x1,x2,x3,x4,x5⟩:=ix_sym m
 go_enter Tryz.func185,Tryz.ntmps185
 go_wp2
 go_loop [6] (fun iv=>∃ k:Nat,k≤6∧iv=.int .i64 k∧Hid (∀ i,i<k→FitP (m i))) (fun iv=>6 - (intOf iv).toNat)
 case atStart=>exact ⟨0,by decide,rfl,Lib.hid (fun i hi=>absurd hi (by omega))⟩
 case round =>
  obtain ⟨k,hk,rfl,hf⟩:=hrel
  by_cases c:k<6∧¬ FitP (m k)
  ·have E:=Lib.hid (f6b_no (fun h=>c.2 (h k c.1)))
   have ex:=Lib.hid (fitb_no c.2)
   have hx:=Lib.hid (hm k c.1)
   obtain ⟨c,_⟩:=c
   rcases seven hk with rfl | rfl | rfl | rfl | rfl | rfl | rfl
   ·exact absurd c (by decide)
   all_goals
    go_wp2_with fail
    refine (fits_any _ hx.out.1 hx.out.2 _).mono ?_
    rintro e w9 ⟨rfl,rfl⟩
    rw [ex.out]
    go_wp2
    go_ret
    exact ⟨by rw [E.out]; rfl,B⟩
  ·by_cases d:k=6
   ·subst d
    have E:=Lib.hid (f6b_yes hf.out)
    go_wp2
    go_ret
    exact ⟨by rw [E.out]; rfl,B⟩
   ·have fk:FitP (m k):=Classical.byContradiction (fun h=>c ⟨by omega,h⟩)
    have hf':=Lib.hid (less_succ hf.out fk)
    have hx:=Lib.hid (hm k (by omega))
    have ex:=Lib.hid (fitb_yes fk)
    clear c fk
    rcases seven hk with rfl | rfl | rfl | rfl | rfl | rfl | rfl
    ·exact absurd rfl d
    all_goals
     go_wp2_with fail
     refine (fits_any _ hx.out.1 hx.out.2 _).mono ?_
     rintro e w9 ⟨rfl,rfl⟩
     rw [ex.out]
     go_wp2
     go_round
     case rel=>exact ⟨_,by decide,rfl,hf'⟩
     case measure=>simp [intOf]
end Go.Proofs.YtjifkmldigemkaaGreatDoor
namespace Go.Proofs.YtjifkmldigemkaaGreatDoor
open Go.RowKit Go.Shelf
abbrev PL (w:World):Prop:=w.cell? ⟨0,0,none⟩=some (.int .i64 0)∧w.cell? ⟨0,1,none⟩=some (.int .i64 1)∧w.cell? ⟨0,2,none⟩=some (.int .i64 2)∧w.cell? ⟨0,3,none⟩=some (.int .i64 1)∧w.cell? ⟨0,4,none⟩=some (.int .i64 3)∧w.cell? ⟨0,5,none⟩=some (.int .i64 4)∧w.cell? ⟨0,6,none⟩=some (.int .i64 2)∧w.cell? ⟨0,7,none⟩=some (.int .i64 4)∧w.cell? ⟨0,8,none⟩=some (.int .i64 5)
theorem pl_keep {w w':World} (hb:Below w.heap.size w w') (h:PL w):PL w':=by
 obtain ⟨a0,a1,a2,a3,a4,a5,a6,a7,a8⟩:=h
 exact ⟨cell_keep hb a0,cell_keep hb a1,cell_keep hb a2,cell_keep hb a3,cell_keep hb a4,cell_keep hb a5,cell_keep hb a6,cell_keep hb a7,cell_keep hb a8⟩
theorem pl_lt {w:World} (h:PL w):0<w.heap.size:=World.block_lt_of_cell? w _ h.1
abbrev At9 (i j:Int) (k:Nat):Prop:=(i=0∧j=0∧k=0)∨(i=0∧j=1∧k=1)∨(i=0∧j=2∧k=2)∨(i=1∧j=0∧k=1)∨(i=1∧j=1∧k=3)∨(i=1∧j=2∧k=4)∨(i=2∧j=0∧k=2)∨(i=2∧j=1∧k=4)∨(i=2∧j=2∧k=5)
abbrev Inb (i:Int):Prop:=0≤i∧i<3
theorem within_yes (i:Int) (h:Inb i) (w:World):Calls Tryz.prog 190 #[.int .i64 i] w (RetV (.bool true) w):=by
 obtain ⟨h0,h1⟩:=h
 go_enter Tryz.func190,Tryz.ntmps190
 go_wp2
 go_ret
 exact ⟨rfl,Below.refl _ _⟩
theorem at_ok (m:Nat→Int) (i j:Int) (k:Nat) (h:At9 i j k) (w:World) (hp:PL w) :
  Calls Tryz.prog 139 #[sv m,.int .i64 i,.int .i64 j] w (RetV (.tuple #[.int .i64 (m k),.int .i64 0]) w):=by
 have B:=b_alloc (o:=Obj.cells #[.int .i64 (m 0),.int .i64 (m 1),.int .i64 (m 2),.int .i64 (m 3),.int .i64 (m 4),.int .i64 (m 5)] 40) (Below.refl w.heap.size w)
 have S:=sc_six (sc_new (w:=w) (m:=m) (t:=40) rfl)
 have P:=pl_keep B hp
 rcases h with ⟨rfl,rfl,rfl⟩ | ⟨rfl,rfl,rfl⟩ | ⟨rfl,rfl,rfl⟩ | ⟨rfl,rfl,rfl⟩ | ⟨rfl,rfl,rfl⟩ | ⟨rfl,rfl,rfl⟩ | ⟨rfl,rfl,rfl⟩ | ⟨rfl,rfl,rfl⟩ | ⟨rfl,rfl,rfl⟩
 all_goals
  go_enter Tryz.func139,Tryz.ntmps139
  go_wp2_with fail
  refine (within_yes _ (by decide) _).mono ?_
  rintro e w1 ⟨rfl,hb1⟩
  replace S:=sc_six (sc_keep hb1 (six_sc S))
  replace P:=pl_keep hb1 P
  replace B:=b_trans B hb1
  clear hb1
  go_wp2_with fail
  refine (within_yes _ (by decide) _).mono ?_
  rintro e w1 ⟨rfl,hb1⟩
  replace S:=sc_six (sc_keep hb1 (six_sc S))
  replace P:=pl_keep hb1 P
  replace B:=b_trans B hb1
  clear hb1
  go_wp2
  go_ret2
  exact ⟨rfl,B⟩
def umk (m:Nat→Int) (k:Nat) (x:Int):Nat→Int:=fun i=>if i=k then x else m i
theorem put_ok (m:Nat→Int) (i j x:Int) (k:Nat) (h:At9 i j k) (w:World) (hp:PL w) :
  Calls Tryz.prog 151 #[sv m,.int .i64 i,.int .i64 j,.int .i64 x] w (RetV (.tuple #[sv (umk m k x),.int .i64 0]) w):=by
 have B:=b_alloc (o:=Obj.cells #[.int .i64 0,.int .i64 0,.int .i64 0,.int .i64 0,.int .i64 0,.int .i64 0] 40) (b_alloc (o:=Obj.cells #[.int .i64 (m 0),.int .i64 (m 1),.int .i64 (m 2),.int .i64 (m 3),.int .i64 (m 4),.int .i64 (m 5)] 40) (Below.refl w.heap.size w))
 have S:=sc_alloc (o:=Obj.cells #[.int .i64 0,.int .i64 0,.int .i64 0,.int .i64 0,.int .i64 0,.int .i64 0] 40) (sc_new (w:=w) (m:=m) (t:=40) rfl)
 have SW:=sf_keep (b_alloc (o:=Obj.cells #[.int .i64 0,.int .i64 0,.int .i64 0,.int .i64 0,.int .i64 0,.int .i64 0] 40) (Below.refl _ _)) (sc_new (w:=w) (m:=m) (t:=40) rfl) (sf_new rfl)
 have R:=sc_new (w:=w.alloc (Obj.cells #[.int .i64 (m 0),.int .i64 (m 1),.int .i64 (m 2),.int .i64 (m 3),.int .i64 (m 4),.int .i64 (m 5)] 40)) (m:=fun _=>0) (t:=40) rfl
 have RW:=sf_new (w:=w.alloc (Obj.cells #[.int .i64 (m 0),.int .i64 (m 1),.int .i64 (m 2),.int .i64 (m 3),.int .i64 (m 4),.int .i64 (m 5)] 40)) (c0:=.int .i64 0) (c1:=.int .i64 0) (c2:=.int .i64 0) (c3:=.int .i64 0) (c4:=.int .i64 0) (c5:=.int .i64 0) (t:=40) rfl
 have P:=pl_keep B hp
 have z:=pl_lt hp
 rw [World.size_alloc] at R RW
 clear hp
 rcases h with ⟨rfl,rfl,rfl⟩ | ⟨rfl,rfl,rfl⟩ | ⟨rfl,rfl,rfl⟩ | ⟨rfl,rfl,rfl⟩ | ⟨rfl,rfl,rfl⟩ | ⟨rfl,rfl,rfl⟩ | ⟨rfl,rfl,rfl⟩ | ⟨rfl,rfl,rfl⟩ | ⟨rfl,rfl,rfl⟩
 all_goals
  go_enter Tryz.func151,Tryz.ntmps151
  go_wp2_with fail
  refine (within_yes _ (by decide) _).mono ?_
  rintro e w1 ⟨rfl,hb1⟩
  replace SW:=sf_keep hb1 S SW
  replace S:=sc_keep hb1 S
  replace RW:=sf_keep hb1 R RW
  replace R:=sc_keep hb1 R
  replace P:=pl_keep hb1 P
  replace B:=b_trans B hb1
  clear hb1
  go_wp2_with fail
  refine (within_yes _ (by decide) _).mono ?_
  rintro e w1 ⟨rfl,hb1⟩
  replace SW:=sf_six (sf_keep hb1 S SW)
  replace S:=sc_six (sc_keep hb1 S)
  replace RW:=sf_six (sf_keep hb1 R RW)
  replace R:=sc_six (sc_keep hb1 R)
  replace P:=pl_keep hb1 P
  replace B:=b_trans B hb1
  clear hb1
  go_wp2
  obtain ⟨r0,r1,r2,r3,r4,r5⟩:=R
  refine bodyPost_ret (v:=.tuple #[sv _,.int .i64 0]) (by simp [results,Tryz.results151,go_sem,r0,r1,r2,r3,r4,r5]; exact ⟨rfl,rfl,rfl,rfl,rfl,rfl⟩) rfl ⟨rfl,?_⟩
  repeat (refine b_set ?_ (by simp))
  exact B
abbrev Row3 (i:Int) (k0 k1 k2:Nat):Prop:=(i=0∧k0=0∧k1=1∧k2=2)∨(i=1∧k0=1∧k1=3∧k2=4)∨(i=2∧k0=2∧k1=4∧k2=5)
theorem ix_ints (x y z:Int):(∀ w,(Instr.index 122 (tv x y z) (.int .i64 0)).run Tryz.prog w=.ok (.int .i64 x) w)∧(∀ w,(Instr.index 122 (tv x y z) (.int .i64 1)).run Tryz.prog w=.ok (.int .i64 y) w)∧(∀ w,(Instr.index 122 (tv x y z) (.int .i64 2)).run Tryz.prog w=.ok (.int .i64 z) w) :=
 ⟨fun _=>by kernel_rfl,fun _=>by kernel_rfl,fun _=>by kernel_rfl⟩
theorem row_ok (m:Nat→Int) (i:Int) (k0 k1 k2:Nat) (h:Row3 i k0 k1 k2) (w:World) (hp:PL w) :
  Calls Tryz.prog 220 #[sv m,.int .i64 i] w (RetV (.tuple #[tv (m k0) (m k1) (m k2),.int .i64 0]) w):=by
 have B:=b_alloc (o:=Obj.cells #[.int .i64 0,.int .i64 0,.int .i64 0] 23) (b_alloc (o:=Obj.cells #[.int .i64 (m 0),.int .i64 (m 1),.int .i64 (m 2),.int .i64 (m 3),.int .i64 (m 4),.int .i64 (m 5)] 40) (Below.refl w.heap.size w))
 have S:=sc_alloc (o:=Obj.cells #[.int .i64 0,.int .i64 0,.int .i64 0] 23) (sc_new (w:=w) (m:=m) (t:=40) rfl)
 have R:=tc_new (w:=w.alloc (Obj.cells #[.int .i64 (m 0),.int .i64 (m 1),.int .i64 (m 2),.int .i64 (m 3),.int .i64 (m 4),.int .i64 (m 5)] 40)) (x:=0) (y:=0) (z:=0) (t:=23) rfl
 have RW:=tf_new (w:=w.alloc (Obj.cells #[.int .i64 (m 0),.int .i64 (m 1),.int .i64 (m 2),.int .i64 (m 3),.int .i64 (m 4),.int .i64 (m 5)] 40)) (x:=0) (y:=0) (z:=0) (t:=23) rfl
 have P:=pl_keep B hp
 have z:=pl_lt hp
 rw [World.size_alloc] at R RW
 clear hp
 rcases h with ⟨rfl,rfl,rfl,rfl⟩ | ⟨rfl,rfl,rfl,rfl⟩ | ⟨rfl,rfl,rfl,rfl⟩
 all_goals
  obtain ⟨x0,x1,x2⟩:=ix_ints 0 1 2
  obtain ⟨y0,y1,y2⟩:=ix_ints 1 3 4
  obtain ⟨u0,u1,u2⟩:=ix_ints 2 4 5
  go_enter Tryz.func220,Tryz.ntmps220
  go_wp2_with fail
  refine (within_yes _ (by decide) _).mono ?_
  rintro e w1 ⟨rfl,hb1⟩
  replace RW:=tf_keep hb1 R RW
  replace R:=tc_keep hb1 R
  replace S:=sc_six (sc_keep hb1 S)
  replace P:=pl_keep hb1 P
  replace B:=b_trans B hb1
  clear hb1
  have z1:=pl_lt P
  have z2:=sc_lt (six_sc S)
  have z3:=tc_lt R
  go_wp2
  refine wp_loop_rounds 4 ?_
  repeat (rw [rounds_succ]; go_wp2)
  obtain ⟨q0,q1,q2⟩:=R
  refine bodyPost_ret (v:=.tuple #[tv _ _ _,.int .i64 0]) (by simp [results,Tryz.results220,go_sem,q0,q1,q2,z3]) rfl ⟨rfl,?_⟩
  repeat (first | refine b_alloc ?_ | refine b_set ?_ (by simp))
  exact B
def dgm (x y z:Int):Nat→Int:=fun i=>if i=0 then x else if i=3 then y else if i=5 then z else 0
theorem diag_any (x y z:Int) (w:World) (hp:PL w) :
  Calls Tryz.prog 18 #[tv x y z] w (RetV (sv (dgm x y z)) w):=by
 have h0:=pl_lt hp
 have h1:0<w.heap.size:=by omega
 obtain ⟨x0,x1,x2⟩:=ix_vec x y z
 go_enter Tryz.func18,Tryz.ntmps18
 go_wp2
 refine wp_loop_rounds 4 ?_
 repeat (rw [rounds_succ]; go_wp2)
 exact bodyPost_ret (v:=sv (dgm x y z)) (by simp [results,Tryz.results18,go_sem,dgm]) rfl ⟨rfl,b_alloc (b_alloc (b_alloc (Below.refl _ _)))⟩
theorem main_any (m:Nat→Int) (w:World) (hp:PL w) :
  Calls Tryz.prog 187 #[sv m] w (RetV (tv (m 0) (m 3) (m 5)) w):=by
 have h0:=pl_lt hp
 have h1:0<w.heap.size:=by omega
 go_enter Tryz.func187,Tryz.ntmps187
 go_wp2
 refine wp_loop_rounds 4 ?_
 repeat (rw [rounds_succ]; go_wp2)
 exact bodyPost_ret (v:=tv (m 0) (m 3) (m 5)) (by simp [results,Tryz.results187,go_sem]) rfl ⟨rfl,b_alloc (b_alloc (b_alloc (Below.refl _ _)))⟩
end Go.Proofs.YtjifkmldigemkaaGreatDoor
namespace Go.Proofs.YtjifkmldigemkaaGreatDoor
open Go.RowKit Go.Shelf
def mvn (i a:Nat):Int:=if a<i then 0 else if a=i then 32768 else if i+2≤a then -1 else if i=0 then 256 else -256
theorem mvn_bd (i a:Nat):-32768≤mvn i a∧mvn i a≤32768:=by
 unfold mvn
 repeat' split
 all_goals omega
def pln (a b:Nat):Nat:=if a=0 then (if b=0 then 0 else if b=1 then 1 else 2) else if a=1 then (if b=0 then 1 else if b=1 then 3 else 4) else (if b=0 then 2 else if b=1 then 4 else 5)
theorem pln_lt (a b:Nat):pln a b<6:=by
 unfold pln
 repeat' split
 all_goals omega
theorem pln_at {a b:Nat} (ha:a<3) (hb:b<3):At9 a b (pln a b):=by
 rcases (show a=0∨a=1∨a=2 by omega) with rfl | rfl | rfl <;> rcases (show b=0∨b=1∨b=2 by omega) with rfl | rfl | rfl <;> decide
theorem abs_mul {x y:Int} {A B:Nat} (hx:x.natAbs≤A) (hy:y.natAbs≤B):(x*y).natAbs≤A*B:=by rw [Int.natAbs_mul]; exact Nat.mul_le_mul hx hy
def tmn (m:Nat→Int) (i j k:Nat):Int:=mvn i (k / 3)*mvn j (k % 3)*m (pln (k / 3) (k % 3))
theorem tmn_eq (m:Nat→Int) (i j a b:Nat) (hb:b<3):tmn m i j (3*a+b)=mvn i a*mvn j b*m (pln a b):=by
 have h1:(3*a+b) / 3=a:=by omega
 have h2:(3*a+b) % 3=b:=by omega
 rw [tmn,h1,h2]
theorem tmn_bd {m:Nat→Int} (h:F6 m) (i j k:Nat):(tmn m i j k).natAbs≤309485009821345068724781056:=by
 have h1:=mvn_bd i (k / 3)
 have h2:=mvn_bd j (k % 3)
 have h3:=h (pln (k / 3) (k % 3)) (pln_lt _ _)
 exact abs_mul (A:=1073741824) (B:=288230376151711744) (abs_mul (A:=32768) (B:=32768) (by omega) (by omega)) (by omega)
def smT (T:Nat→Int) (l:List Nat):Int:=l.foldl (fun s k=>s+T k) 0
theorem smT_snoc (T:Nat→Int) (l:List Nat) (k:Nat):smT T (l ++ [k])=smT T l+T k:=by simp [smT]
theorem fold_bd {T:Nat→Int} {B:Nat} (h:∀ k,(T k).natAbs≤B) (l:List Nat):∀ s:Int,(l.foldl (fun s k=>s+T k) s).natAbs≤s.natAbs+l.length*B:=by
 induction l with
 | nil=>intro s; simp
 | cons k l ih =>
  intro s
  have h1:=ih (s+T k)
  have h2:=h k
  simp only [List.foldl_cons,List.length_cons,Nat.add_mul,Nat.one_mul]
  omega
theorem smT_bd {T:Nat→Int} {B:Nat} (h:∀ k,(T k).natAbs≤B) (l:List Nat):(smT T l).natAbs≤l.length*B:=by
 have:=fold_bd h l 0
 simpa [smT] using this
theorem smT_fits {T:Nat→Int} (h:∀ k,(T k).natAbs≤309485009821345068724781056) {l:List Nat} (hl:l.length≤9):Fits (smT T l):=by
 have:=smT_bd h l
 have:l.length*309485009821345068724781056≤9*309485009821345068724781056:=Nat.mul_le_mul_right _ hl
 exact ⟨by omega,by omega⟩
theorem term_fits {T:Nat→Int} (h:∀ k,(T k).natAbs≤309485009821345068724781056) (k:Nat):Fits (T k):=by
 have:=h k
 exact ⟨by omega,by omega⟩
def rwn (m:Nat→Int) (i j:Nat):Int:=smT (tmn m i j) (List.range 9)
abbrev wof (z:Int):Value:=wv (z / 18446744073709551616) (z % 18446744073709551616)
abbrev ML (w:World):Prop:=∀ i,i<3→∀ a,a<3→w.cell? ⟨2,i*3+a,none⟩=some (.int .i64 (mvn i a))
theorem ml_keep {w w':World} (hb:Below w.heap.size w w') (h:ML w):ML w':=fun i hi a ha=>cell_keep hb (h i hi a ha)
theorem ml_lt {w:World} (h:ML w):2<w.heap.size:=World.block_lt_of_cell? w _ (h 0 (by decide) 0 (by decide))
theorem pl_put {w:World} {b o:Nat} {v:Value} (h:PL w) (hb:0<b):PL (w.setCell ⟨b,o,none⟩ v):=by
 have n:b≠0:=by omega
 obtain ⟨a0,a1,a2,a3,a4,a5,a6,a7,a8⟩:=h
 have K:∀ i u,w.cell? ⟨0,i,none⟩=some u→(w.setCell ⟨b,o,none⟩ v).cell? ⟨0,i,none⟩=some u:=fun i u hu=>by rw [World.cell?_setCell_far _ _ _ _ n]; exact hu
 exact ⟨K _ _ a0,K _ _ a1,K _ _ a2,K _ _ a3,K _ _ a4,K _ _ a5,K _ _ a6,K _ _ a7,K _ _ a8⟩
theorem grown_of {W W':World} (h:Below W.heap.size W W'):W.grownBy W' none:=⟨h.os,h.tape,h.output,h.size,fun k hk _=>h.block k hk⟩
theorem ix_move (x y z:Int):(∀ w,(Instr.index 22 (tv x y z) (.int .i64 0)).run Tryz.prog w=.ok (.int .i64 x) w)∧(∀ w,(Instr.index 22 (tv x y z) (.int .i64 1)).run Tryz.prog w=.ok (.int .i64 y) w)∧(∀ w,(Instr.index 22 (tv x y z) (.int .i64 2)).run Tryz.prog w=.ok (.int .i64 z) w) :=
 ⟨fun _=>by kernel_rfl,fun _=>by kernel_rfl,fun _=>by kernel_rfl⟩
theorem ix_row (r:Nat→Int) {a:Nat} (ha:a<3) (w:World):(Instr.index 22 (tv (r 0) (r 1) (r 2)) (.int .i64 a)).run Tryz.prog w=.ok (.int .i64 (r a)) w:=by
 obtain ⟨h0,h1,h2⟩:=ix_move (r 0) (r 1) (r 2)
 match a,ha with
 | 0,_=>exact h0 w
 | 1,_=>exact h1 w
 | 2,_=>exact h2 w
end Go.Proofs.YtjifkmldigemkaaGreatDoor
namespace Go.Proofs.YtjifkmldigemkaaGreatDoor
open Go.RowKit Go.Shelf
abbrev Snd (m:Nat→Int) (f0 f1 f2:Int):Prop:=F6 m∧f0≤m 0∧f1≤m 3∧f2≤m 5∧m 1*m 1≤(m 3 - f1)*(m 0 - f0)∧m 2*m 2≤(m 5 - f2)*(m 0 - f0)∧m 4*m 4≤(m 5 - f2)*(m 3 - f1)
theorem wpList_end {P:Program} {ops:Array Oper} {Q:Exit→Act→World→Prop} {a:Act} {w:World} (h:Q Exit.normal a w):wpList P ops Q [] a w:=h
theorem pl_set {w:World} {b o:Nat} {v:Value} (h:PL w) (hb:0<b):PL (w.setCell ⟨b,o,none⟩ v):=by
 have n:b≠0:=by omega
 obtain ⟨a0,a1,a2,a3,a4,a5,a6,a7,a8⟩:=h
 have K:∀ i u,w.cell? ⟨0,i,none⟩=some u→(w.setCell ⟨b,o,none⟩ v).cell? ⟨0,i,none⟩=some u:=fun i u hu=>by rw [World.cell?_setCell_far _ _ _ _ n]; exact hu
 exact ⟨K _ _ a0,K _ _ a1,K _ _ a2,K _ _ a3,K _ _ a4,K _ _ a5,K _ _ a6,K _ _ a7,K _ _ a8⟩
theorem fit_i64 {x:Int} (h:FitP x):I64 x:=⟨by omega,by omega⟩
end Go.Proofs.YtjifkmldigemkaaGreatDoor
namespace Go.Proofs.YtjifkmldigemkaaGreatDoor
def tdg (x f c:Int):Int:=if c<(if x<f then f else x) then c else (if x<f then f else x)
theorem tdg_in {x f c:Int} (h:f≤c):f≤tdg x f c∧tdg x f c≤c:=by
 unfold tdg
 by_cases k:x<f
 ·rw [if_pos k]; by_cases q:c<f
  ·omega
  ·rw [if_neg q]; omega
 ·rw [if_neg k]; by_cases q:c<x
  ·rw [if_pos q]; omega
  ·rw [if_neg q]; omega
theorem clz_bd {x m:Int} (h:0≤m):-m≤clz x m∧clz x m≤m:=by
 unfold clz
 rw [if_neg (by omega)]
 by_cases k:x < -m
 ·rw [if_pos k]; omega
 ·rw [if_neg k]; by_cases q:m<x
  ·rw [if_pos q]; omega
  ·rw [if_neg q]; omega
theorem sq_abs {x r:Int} (h:-r≤x) (k:x≤r):x*x≤r*r:=by
 by_cases c:0≤x
 ·exact sq_le c k
 ·have:=sq_le (a:=-x) (b:=r) (by omega) (by omega)
  rwa [Int.neg_mul_neg] at this
theorem root_abs {z r x:Int} (R:IsRoot z r):x*x≤z↔-r≤x∧x≤r:=by
 have r0:=R.r0
 constructor
 ·intro h
  by_cases c:0≤x
  ·exact ⟨by omega,R.ge h⟩
  ·have:=R.ge (l:=-x) (by rwa [Int.neg_mul_neg])
   omega
 ·rintro ⟨h,k⟩
  exact Int.le_trans (sq_abs h k) R.lo
abbrev FB (f c:Int):Prop:=0≤f∧f≤c∧c≤288230376151711744
theorem root_fits {x y r:Int} (_x0:0≤x) (x1:x≤288230376151711744) (y0:0≤y) (y1:y≤288230376151711744) (R:IsRoot (x*y) r):0≤r∧r≤288230376151711744:=by
 have h:x*y≤288230376151711744*288230376151711744:=Int.mul_le_mul x1 y1 y0 (by decide)
 have:=R.lt (h:=288230376151711745) (by decide) (by omega)
 exact ⟨R.r0,by omega⟩
def tmz (m:Nat→Int) (f0 f1 f2 c0 c1 c2 a b c:Int):Nat→Int:=fun i =>
 if i=0 then tdg (m 0) f0 c0 else if i=1 then clz (m 1) a else if i=2 then clz (m 2) b else if i=3 then tdg (m 3) f1 c1 else if i=4 then clz (m 4) c else tdg (m 5) f2 c2
theorem tmz_lits (m:Nat→Int) (f0 f1 f2 c0 c1 c2 a b c:Int):tmz m f0 f1 f2 c0 c1 c2 a b c 0=tdg (m 0) f0 c0∧tmz m f0 f1 f2 c0 c1 c2 a b c 1=clz (m 1) a∧tmz m f0 f1 f2 c0 c1 c2 a b c 2=clz (m 2) b ∧
  tmz m f0 f1 f2 c0 c1 c2 a b c 3=tdg (m 3) f1 c1∧tmz m f0 f1 f2 c0 c1 c2 a b c 4=clz (m 4) c∧tmz m f0 f1 f2 c0 c1 c2 a b c 5=tdg (m 5) f2 c2:=⟨rfl,rfl,rfl,rfl,rfl,rfl⟩
structure TR (m:Nat→Int) (f0 f1 f2 c0 c1 c2 a b c:Int):Prop where
 a:IsRoot ((tdg (m 0) f0 c0 - f0)*(tdg (m 3) f1 c1 - f1)) a
 b:IsRoot ((tdg (m 0) f0 c0 - f0)*(tdg (m 5) f2 c2 - f2)) b
 c:IsRoot ((tdg (m 3) f1 c1 - f1)*(tdg (m 5) f2 c2 - f2)) c
section
variable {m:Nat→Int} {f0 f1 f2 c0 c1 c2 a b c:Int}
theorem tr_some (m:Nat→Int) (h0:FB f0 c0) (h1:FB f1 c1) (h2:FB f2 c2):∃ a b c,TR m f0 f1 f2 c0 c1 c2 a b c:=by
 have d0:=tdg_in (x:=m 0) h0.2.1
 have d1:=tdg_in (x:=m 3) h1.2.1
 have d2:=tdg_in (x:=m 5) h2.2.1
 obtain ⟨a,ha⟩:=root_any (Int.mul_nonneg (show 0≤tdg (m 0) f0 c0 - f0 by omega) (show 0≤tdg (m 3) f1 c1 - f1 by omega))
 obtain ⟨b,hb⟩:=root_any (Int.mul_nonneg (show 0≤tdg (m 0) f0 c0 - f0 by omega) (show 0≤tdg (m 5) f2 c2 - f2 by omega))
 obtain ⟨c,hc⟩:=root_any (Int.mul_nonneg (show 0≤tdg (m 3) f1 c1 - f1 by omega) (show 0≤tdg (m 5) f2 c2 - f2 by omega))
 exact ⟨a,b,c,ha,hb,hc⟩
theorem tr_fits (h0:FB f0 c0) (h1:FB f1 c1) (h2:FB f2 c2) (R:TR m f0 f1 f2 c0 c1 c2 a b c):(0≤a∧a≤288230376151711744)∧(0≤b∧b≤288230376151711744)∧(0≤c∧c≤288230376151711744):=by
 have d0:=tdg_in (x:=m 0) h0.2.1
 have d1:=tdg_in (x:=m 3) h1.2.1
 have d2:=tdg_in (x:=m 5) h2.2.1
 exact ⟨root_fits (by omega) (by omega) (by omega) (by omega) R.a,root_fits (by omega) (by omega) (by omega) (by omega) R.b,root_fits (by omega) (by omega) (by omega) (by omega) R.c⟩
theorem tmz_snd (h0:FB f0 c0) (h1:FB f1 c1) (h2:FB f2 c2) (R:TR m f0 f1 f2 c0 c1 c2 a b c):Snd (tmz m f0 f1 f2 c0 c1 c2 a b c) f0 f1 f2:=by
 obtain ⟨e0,e1,e2,e3,e4,e5⟩:=tmz_lits m f0 f1 f2 c0 c1 c2 a b c
 have d0:=tdg_in (x:=m 0) h0.2.1
 have d1:=tdg_in (x:=m 3) h1.2.1
 have d2:=tdg_in (x:=m 5) h2.2.1
 obtain ⟨ha,hb,hc⟩:=tr_fits h0 h1 h2 R
 have k1:=clz_bd (x:=m 1) ha.1
 have k2:=clz_bd (x:=m 2) hb.1
 have k4:=clz_bd (x:=m 4) hc.1
 refine ⟨six (P:=fun i=>FitP (tmz m f0 f1 f2 c0 c1 c2 a b c i)) ?_ ?_ ?_ ?_ ?_ ?_,?_,?_,?_,?_,?_,?_⟩
 ·rw [e0]; constructor <;> omega
 ·rw [e1]; constructor <;> omega
 ·rw [e2]; constructor <;> omega
 ·rw [e3]; constructor <;> omega
 ·rw [e4]; constructor <;> omega
 ·rw [e5]; constructor <;> omega
 ·rw [e0]; exact d0.1
 ·rw [e3]; exact d1.1
 ·rw [e5]; exact d2.1
 ·rw [e0,e1,e3,Int.mul_comm (tdg (m 3) f1 c1 - f1)]; exact (root_abs R.a).2 k1
 ·rw [e0,e2,e5,Int.mul_comm (tdg (m 5) f2 c2 - f2)]; exact (root_abs R.b).2 k2
 ·rw [e3,e4,e5,Int.mul_comm (tdg (m 5) f2 c2 - f2)]; exact (root_abs R.c).2 k4
end
end Go.Proofs.YtjifkmldigemkaaGreatDoor
namespace Go.Proofs.YtjifkmldigemkaaGreatDoor
open Go.RowKit Go.Shelf Go.Joins
abbrev FB3 (f0 f1 f2 c0 c1 c2:Int):Prop:=FB f0 c0∧FB f1 c1∧FB f2 c2
def mayb (f0 f1 f2 c0 c1 c2:Int):Bool:=decide (FB3 f0 f1 f2 c0 c1 c2)
theorem mayb_yes {f0 f1 f2 c0 c1 c2:Int} (h:FB3 f0 f1 f2 c0 c1 c2):mayb f0 f1 f2 c0 c1 c2=true:=decide_eq_true h
theorem mayb_no {f0 f1 f2 c0 c1 c2:Int} (h:¬ FB3 f0 f1 f2 c0 c1 c2):mayb f0 f1 f2 c0 c1 c2=false:=decide_eq_false h
theorem may_any (f0 f1 f2 c0 c1 c2:Int) (h0:I64 c0) (h1:I64 c1) (h2:I64 c2) (w:World) :
  Calls Tryz.prog 95 #[tv f0 f1 f2,tv c0 c1 c2] w (RetV (.bool (mayb f0 f1 f2 c0 c1 c2)) w):=by
 have B:Below w.heap.size w ((w.alloc (Obj.cells #[.int .i64 f0,.int .i64 f1,.int .i64 f2] 23)).alloc (Obj.cells #[.int .i64 c0,.int .i64 c1,.int .i64 c2] 23)):=b_alloc (b_alloc (Below.refl _ _))
 obtain ⟨u0,t0⟩:=h0
 obtain ⟨u1,t1⟩:=h1
 obtain ⟨u2,t2⟩:=h2
 obtain ⟨i0,i1,i2⟩:=ix_vec f0 f1 f2
 go_enter Tryz.func95,Tryz.ntmps95
 go_wp2
 refine wp_loop_rounds 4 ?_
 rw [rounds_succ]
 by_cases n0:f0<0
 ·have N0:=Lib.hid n0
  go_wp2
  go_ret
  exact ⟨by rw [mayb_no (fun h=>by have:=h.1; have:=N0.out; omega)]; rfl,B⟩
 have N0:=Lib.hid n0
 by_cases m0:c0<f0
 ·have M0:=Lib.hid m0
  go_wp2
  go_ret
  exact ⟨by rw [mayb_no (fun h=>by have:=h.1; have:=M0.out; omega)]; rfl,B⟩
 have M0:=Lib.hid m0
 by_cases e0:FitP c0
 rotate_left
 ·go_wp2_with fail
  refine (fits_any c0 u0 t0 _).mono ?_
  rintro x_ w0 ⟨rfl,rfl⟩
  rw [fitb_no e0]
  go_wp2
  go_ret
  exact ⟨by rw [mayb_no (fun h=>e0 ⟨by have:=h.1; omega,(h.1).2.2⟩)]; rfl,B⟩
 have E0:=Lib.hid e0
 go_wp2_with fail
 refine (fits_any c0 u0 t0 _).mono ?_
 rintro x_ w0 ⟨rfl,rfl⟩
 rw [fitb_yes e0]
 go_wp2
 clear e0
 rw [rounds_succ]
 by_cases n1:f1<0
 ·have N1:=Lib.hid n1
  go_wp2
  go_ret
  exact ⟨by rw [mayb_no (fun h=>by have:=h.2.1; have:=N1.out; omega)]; rfl,B⟩
 have N1:=Lib.hid n1
 by_cases m1:c1<f1
 ·have M1:=Lib.hid m1
  go_wp2
  go_ret
  exact ⟨by rw [mayb_no (fun h=>by have:=h.2.1; have:=M1.out; omega)]; rfl,B⟩
 have M1:=Lib.hid m1
 by_cases e1:FitP c1
 rotate_left
 ·go_wp2_with fail
  refine (fits_any c1 u1 t1 _).mono ?_
  rintro x_ w1 ⟨rfl,rfl⟩
  rw [fitb_no e1]
  go_wp2
  go_ret
  exact ⟨by rw [mayb_no (fun h=>e1 ⟨by have:=h.2.1; omega,(h.2.1).2.2⟩)]; rfl,B⟩
 have E1:=Lib.hid e1
 go_wp2_with fail
 refine (fits_any c1 u1 t1 _).mono ?_
 rintro x_ w1 ⟨rfl,rfl⟩
 rw [fitb_yes e1]
 go_wp2
 clear e1
 rw [rounds_succ]
 by_cases n2:f2<0
 ·have N2:=Lib.hid n2
  go_wp2
  go_ret
  exact ⟨by rw [mayb_no (fun h=>by have:=h.2.2; have:=N2.out; omega)]; rfl,B⟩
 have N2:=Lib.hid n2
 by_cases m2:c2<f2
 ·have M2:=Lib.hid m2
  go_wp2
  go_ret
  exact ⟨by rw [mayb_no (fun h=>by have:=h.2.2; have:=M2.out; omega)]; rfl,B⟩
 have M2:=Lib.hid m2
 by_cases e2:FitP c2
 rotate_left
 ·go_wp2_with fail
  refine (fits_any c2 u2 t2 _).mono ?_
  rintro x_ w2 ⟨rfl,rfl⟩
  rw [fitb_no e2]
  go_wp2
  go_ret
  exact ⟨by rw [mayb_no (fun h=>e2 ⟨by have:=h.2.2; omega,(h.2.2).2.2⟩)]; rfl,B⟩
 have E2:=Lib.hid e2
 go_wp2_with fail
 refine (fits_any c2 u2 t2 _).mono ?_
 rintro x_ w2 ⟨rfl,rfl⟩
 rw [fitb_yes e2]
 go_wp2
 clear e2
 rw [rounds_succ]
 go_wp2
 go_ret
 exact ⟨by rw [mayb_yes (by have:=N0.out; have:=N1.out; have:=N2.out; have:=M0.out; have:=M1.out; have:=M2.out; exact ⟨⟨by omega,by omega,E0.out.2⟩,⟨by omega,by omega,E1.out.2⟩,⟨by omega,by omega,E2.out.2⟩⟩)]; rfl,B⟩
end Go.Proofs.YtjifkmldigemkaaGreatDoor
namespace Go.Proofs.YtjifkmldigemkaaGreatDoor
open Go.RowKit Go.Shelf
theorem wp_part {P:Program} {s:Code} {Q:Exit→Act→World→Prop} {a:Act} {w:World} (R:Act→World→Prop) (rest:∀ a' w',R a' w'→Q .normal a' w') (first:∀ K:Act→World→Prop,(∀ a' w',R a' w'→K a' w')→s.wp P (Exit.then K fun _ _ _=>False) a w):s.wp P Q a w:=by
 refine wp_mono (first R fun _ _ q=>q) ?_
 intro e a' w' hq
 cases e with
 | normal=>exact rest _ _ hq
 | exit id=>exact hq.elim
 | goto l=>exact hq.elim
 | ret=>exact hq.elim
 | panic ch=>exact hq.elim
 | outgrown=>exact hq.elim
structure BM (W:World) (A B C D:Nat) (d0 d1 d2 f0 f1 f2 c0 c1 c2:Int) (U:World):Prop where
 b:Below W.heap.size W U
 ka:TC U A d0 d1 d2
 fa:TF U A
 kb:TC U B f0 f1 f2
 kc:TC U C c0 c1 c2
 kd:TC U D 0 0 0
 fd:TF U D
theorem bm_keep {W U U':World} {A B C D:Nat} {d0 d1 d2 f0 f1 f2 c0 c1 c2:Int} (h:BM W A B C D d0 d1 d2 f0 f1 f2 c0 c1 c2 U) (hb:Below U.heap.size U U'):BM W A B C D d0 d1 d2 f0 f1 f2 c0 c1 c2 U' :=
 ⟨b_trans h.b hb,tc_keep hb h.ka,tf_keep hb h.ka h.fa,tc_keep hb h.kb,tc_keep hb h.kc,tc_keep hb h.kd,tf_keep hb h.kd h.fd⟩
theorem bm_drew {W U:World} {A B C D:Nat} {d0 d1 d2 f0 f1 f2 c0 c1 c2:Int} (h:BM W A B C D d0 d1 d2 f0 f1 f2 c0 c1 c2 U):BM W A B C D d0 d1 d2 f0 f1 f2 c0 c1 c2 U.drew:=bm_keep h (b_drew (Below.refl _ _))
theorem tc_at0 {w:World} {b:Nat} {x y z v:Int} (c:TC w b x y z):TC (w.setCell ⟨b,0,none⟩ (.int .i64 v)) b v y z:=by
 obtain ⟨c0,c1,c2⟩:=c
 simp [TC,go_sem,c0,c1,c2]
theorem tc_at1 {w:World} {b:Nat} {x y z v:Int} (c:TC w b x y z):TC (w.setCell ⟨b,1,none⟩ (.int .i64 v)) b x v z:=by
 obtain ⟨c0,c1,c2⟩:=c
 simp [TC,go_sem,c0,c1,c2]
theorem tc_at2 {w:World} {b:Nat} {x y z v:Int} (c:TC w b x y z):TC (w.setCell ⟨b,2,none⟩ (.int .i64 v)) b x y v:=by
 obtain ⟨c0,c1,c2⟩:=c
 simp [TC,go_sem,c0,c1,c2]
theorem bm_put0 {W U:World} {A B C D:Nat} {d0 d1 d2 f0 f1 f2 c0 c1 c2 u:Int} (h:BM W A B C D d0 d1 d2 f0 f1 f2 c0 c1 c2 U) (qA:W.heap.size≤A) (nB:A≠B) (nC:A≠C) (nD:A≠D) :
  BM W A B C D u d1 d2 f0 f1 f2 c0 c1 c2 (U.setCell ⟨A,0,none⟩ (.int .i64 u)) :=
 ⟨b_set h.b qA,tc_at0 h.ka,tf_set h.fa,tc_set h.kb nB,tc_set h.kc nC,tc_set h.kd nD,tf_set h.fd⟩
theorem bm_put1 {W U:World} {A B C D:Nat} {d0 d1 d2 f0 f1 f2 c0 c1 c2 u:Int} (h:BM W A B C D d0 d1 d2 f0 f1 f2 c0 c1 c2 U) (qA:W.heap.size≤A) (nB:A≠B) (nC:A≠C) (nD:A≠D) :
  BM W A B C D d0 u d2 f0 f1 f2 c0 c1 c2 (U.setCell ⟨A,1,none⟩ (.int .i64 u)) :=
 ⟨b_set h.b qA,tc_at1 h.ka,tf_set h.fa,tc_set h.kb nB,tc_set h.kc nC,tc_set h.kd nD,tf_set h.fd⟩
theorem bm_put2 {W U:World} {A B C D:Nat} {d0 d1 d2 f0 f1 f2 c0 c1 c2 u:Int} (h:BM W A B C D d0 d1 d2 f0 f1 f2 c0 c1 c2 U) (qA:W.heap.size≤A) (nB:A≠B) (nC:A≠C) (nD:A≠D) :
  BM W A B C D d0 d1 u f0 f1 f2 c0 c1 c2 (U.setCell ⟨A,2,none⟩ (.int .i64 u)) :=
 ⟨b_set h.b qA,tc_at2 h.ka,tf_set h.fa,tc_set h.kb nB,tc_set h.kc nC,tc_set h.kd nD,tf_set h.fd⟩
theorem between_go (x0 x1 x2 f0 f1 f2 c0 c1 c2 u0 u1 u2 v0 v1 v2:Int)
  (mx0:(if x0<f0 then f0 else x0)=u0) (mn0:(if c0<u0 then c0 else u0)=v0)
  (mx1:(if x1<f1 then f1 else x1)=u1) (mn1:(if c1<u1 then c1 else u1)=v1)
  (mx2:(if x2<f2 then f2 else x2)=u2) (mn2:(if c2<u2 then c2 else u2)=v2) (w:World) :
  Calls Tryz.prog 186 #[tv x0 x1 x2,tv f0 f1 f2,tv c0 c1 c2] w (RetV (tv v0 v1 v2) w):=by
 have H0:=Lib.hid (And.intro mx0 mn0)
 have H1:=Lib.hid (And.intro mx1 mn1)
 have H2:=Lib.hid (And.intro mx2 mn2)
 clear mx0 mn0 mx1 mn1 mx2 mn2
 have s:BM w w.heap.size (w.heap.size+1) (w.heap.size+1+1) (w.heap.size+1+1+1) x0 x1 x2 f0 f1 f2 c0 c1 c2 ((((w.alloc (Obj.cells #[.int .i64 x0,.int .i64 x1,.int .i64 x2] 23)).alloc (Obj.cells #[.int .i64 f0,.int .i64 f1,.int .i64 f2] 23)).alloc (Obj.cells #[.int .i64 c0,.int .i64 c1,.int .i64 c2] 23)).alloc (Obj.cells #[.int .i64 0,.int .i64 0,.int .i64 0] 23)):=⟨b_alloc (b_alloc (b_alloc (b_alloc (Below.refl _ _)))),tc_alloc (tc_alloc (tc_alloc (tc_new rfl))),tf_keep (b_alloc (b_alloc (b_alloc (Below.refl _ _)))) (tc_new (w:=w) (t:=23) (x:=x0) (y:=x1) (z:=x2) rfl) (tf_new rfl),tc_alloc (tc_alloc (tc_new (by simp))),tc_alloc (tc_new (by simp)),tc_new (by simp),tf_new (by simp)⟩
 replace s:=Lib.hid s
 obtain ⟨i0,i1,i2⟩:=ix_vec x0 x1 x2
 have qA:w.heap.size≤w.heap.size:=Nat.le_refl _
 have nB:w.heap.size≠w.heap.size+1:=by omega
 have nC:w.heap.size≠w.heap.size+1+1:=by omega
 have nD:w.heap.size≠w.heap.size+1+1+1:=by omega
 go_enter Tryz.func186,Tryz.ntmps186
 go_wp2
 generalize ((((w.alloc (Obj.cells #[.int .i64 x0,.int .i64 x1,.int .i64 x2] 23)).alloc (Obj.cells #[.int .i64 f0,.int .i64 f1,.int .i64 f2] 23)).alloc (Obj.cells #[.int .i64 c0,.int .i64 c1,.int .i64 c2] 23)).alloc (Obj.cells #[.int .i64 0,.int .i64 0,.int .i64 0] 23))=y0 at *
 replace s:=s.out
 refine wp_loop_rounds 4 ?_
 rw [rounds_succ]
 obtain ⟨mx0,mn0⟩:=H0.out
 clear H0
 have ka:=s.ka
 go_wp2
 refine wp_part (fun a_ w_=>a_=⟨#[tv x0 x1 x2,tv f0 f1 f2,tv c0 c1 c2,.pointer (some ⟨w.heap.size,0,none⟩),.pointer (some ⟨w.heap.size+1,0,none⟩),.pointer (some ⟨w.heap.size+1+1,0,none⟩),.pointer (some ⟨w.heap.size+1+1+1,0,none⟩),.int .i64 0,.int .i64 x0,tv x0 x1 x2,.int .i64 0,.bool true,.int .i64 0,.int .i64 x0,.int .i64 0,.int .i64 x0,.int .i64 0,.pointer (some ⟨w.heap.size+1,0,none⟩),.int .i64 f0,.int .i64 u0,.int .i64 0,.pointer (some ⟨w.heap.size+1+1,0,none⟩),.int .i64 c0,.int .i64 v0,.pointer (some ⟨w.heap.size,0,none⟩),undef,undef],[]⟩∧BM w w.heap.size (w.heap.size+1) (w.heap.size+1+1) (w.heap.size+1+1+1) v0 x1 x2 f0 f1 f2 c0 c1 c2 w_) ?rest0 ?first0
 case first0 =>
  intro Q hQ
  have fa:=s.fa
  have kb:=s.kb
  have kc:=s.kc
  have K:=Lib.hid (bm_drew (bm_put0 (u:=v0) s qA nB nC nD))
  go_region
  exact hQ _ _ ⟨rfl,K.out⟩
 clear mx0 mn0 s ka
 rintro _ y1 ⟨rfl,s⟩
 go_wp2
 rw [rounds_succ]
 obtain ⟨mx1,mn1⟩:=H1.out
 clear H1
 have ka:=s.ka
 go_wp2
 refine wp_part (fun a_ w_=>a_=⟨#[tv x0 x1 x2,tv f0 f1 f2,tv c0 c1 c2,.pointer (some ⟨w.heap.size,0,none⟩),.pointer (some ⟨w.heap.size+1,0,none⟩),.pointer (some ⟨w.heap.size+1+1,0,none⟩),.pointer (some ⟨w.heap.size+1+1+1,0,none⟩),.int .i64 1,.int .i64 x1,tv x0 x1 x2,.int .i64 1,.bool true,.int .i64 1,.int .i64 x1,.int .i64 1,.int .i64 x1,.int .i64 1,.pointer (some ⟨w.heap.size+1,1,none⟩),.int .i64 f1,.int .i64 u1,.int .i64 1,.pointer (some ⟨w.heap.size+1+1,1,none⟩),.int .i64 c1,.int .i64 v1,.pointer (some ⟨w.heap.size,1,none⟩),.int .i64 1,undef],[]⟩∧BM w w.heap.size (w.heap.size+1) (w.heap.size+1+1) (w.heap.size+1+1+1) v0 v1 x2 f0 f1 f2 c0 c1 c2 w_) ?rest1 ?first1
 case first1 =>
  intro Q hQ
  have fa:=s.fa
  have kb:=s.kb
  have kc:=s.kc
  have K:=Lib.hid (bm_drew (bm_put1 (u:=v1) s qA nB nC nD))
  go_region
  exact hQ _ _ ⟨rfl,K.out⟩
 clear mx1 mn1 s ka
 rintro _ y2 ⟨rfl,s⟩
 go_wp2
 rw [rounds_succ]
 obtain ⟨mx2,mn2⟩:=H2.out
 clear H2
 have ka:=s.ka
 go_wp2
 refine wp_part (fun a_ w_=>a_=⟨#[tv x0 x1 x2,tv f0 f1 f2,tv c0 c1 c2,.pointer (some ⟨w.heap.size,0,none⟩),.pointer (some ⟨w.heap.size+1,0,none⟩),.pointer (some ⟨w.heap.size+1+1,0,none⟩),.pointer (some ⟨w.heap.size+1+1+1,0,none⟩),.int .i64 2,.int .i64 x2,tv x0 x1 x2,.int .i64 2,.bool true,.int .i64 2,.int .i64 x2,.int .i64 2,.int .i64 x2,.int .i64 2,.pointer (some ⟨w.heap.size+1,2,none⟩),.int .i64 f2,.int .i64 u2,.int .i64 2,.pointer (some ⟨w.heap.size+1+1,2,none⟩),.int .i64 c2,.int .i64 v2,.pointer (some ⟨w.heap.size,2,none⟩),.int .i64 2,undef],[]⟩∧BM w w.heap.size (w.heap.size+1) (w.heap.size+1+1) (w.heap.size+1+1+1) v0 v1 v2 f0 f1 f2 c0 c1 c2 w_) ?rest2 ?first2
 case first2 =>
  intro Q hQ
  have fa:=s.fa
  have kb:=s.kb
  have kc:=s.kc
  have K:=Lib.hid (bm_drew (bm_put2 (u:=v2) s qA nB nC nD))
  go_region
  exact hQ _ _ ⟨rfl,K.out⟩
 clear mx2 mn2 s ka
 rintro _ y3 ⟨rfl,s⟩
 go_wp2
 rw [rounds_succ]
 clear nB nC nD qA
 have ka:=s.ka
 have kd:=s.kd
 have fd:=s.fd
 have B9:=s.b
 clear s
 go_wp2
 obtain ⟨q0,q1,q2⟩:=kd
 refine bodyPost_ret (v:=tv v0 v1 v2) (by simp [results,Tryz.results186,go_sem,q0,q1,q2]) rfl ⟨rfl,?_⟩
 have q:w.heap.size≤w.heap.size+1+1+1:=by omega
 exact b_set (b_set (b_set B9 q) q) q
theorem between_tam (x0 x1 x2 f0 f1 f2 c0 c1 c2:Int) (w:World) :
  Calls Tryz.prog 186 #[tv x0 x1 x2,tv f0 f1 f2,tv c0 c1 c2] w (RetV (tv (tdg x0 f0 c0) (tdg x1 f1 c1) (tdg x2 f2 c2)) w) :=
 between_go x0 x1 x2 f0 f1 f2 c0 c1 c2 _ _ _ _ _ _ rfl rfl rfl rfl rfl rfl w
end Go.Proofs.YtjifkmldigemkaaGreatDoor
namespace Go.Proofs.YtjifkmldigemkaaGreatDoor
open Go.RowKit Go.Shelf
theorem ef_evn (x:Int) {y:Int} (h:0<y):ef x y=evn x y:=by
 unfold ef qf rf sg evn
 rw [if_neg (by omega),show (y.natAbs:Int)=y by omega]
def bq (m:Nat→Int) (s:Int) (i:Nat):Int:=evn (m i*1099511627776) s
def BK (m:Nat→Int) (s:Int):Prop:=F6 m∧FitP s∧1≤s
def BF (m:Nat→Int) (s:Int):Prop:=FitP (bq m s 0)∧FitP (bq m s 1)∧FitP (bq m s 2)
instance (m:Nat→Int) (s:Int):Decidable (BK m s):=by unfold BK; infer_instance
instance (m:Nat→Int) (s:Int):Decidable (BF m s):=by unfold BF; infer_instance
def bz (m:Nat→Int) (s:Int) (i:Nat):Int:=if BK m s∧BF m s then bq m s i else 0
def be (m:Nat→Int) (s:Int):Int:=if BK m s then (if BF m s then 0 else 3) else 1
theorem b_ok {m:Nat→Int} {s:Int} (h:BK m s) (f:BF m s):bz m s=bq m s∧be m s=0:=by
 refine ⟨funext fun i=>if_pos ⟨h,f⟩,?_⟩
 unfold be
 rw [if_pos h,if_pos f]
theorem b_wide {m:Nat→Int} {s:Int} (h:BK m s) (f:¬ BF m s):bz m s=(fun _=>0)∧be m s=3:=by
 refine ⟨funext fun i=>if_neg (fun k=>f k.2),?_⟩
 unfold be
 rw [if_pos h,if_neg f]
theorem b_wrong {m:Nat→Int} {s:Int} (h:¬ BK m s):bz m s=(fun _=>0)∧be m s=1:=by
 refine ⟨funext fun i=>if_neg (fun k=>h k.1),?_⟩
 unfold be
 rw [if_neg h]
theorem div_bq {m:Nat→Int} {s:Int} (h:BK m s) {i:Nat} (hi:i<6):dz (m i) s=nz (bq m s i)∧de (m i) s=ne (bq m s i):=by
 have:=dz_of (show FitP (m i)∧FitP s from ⟨h.1 i hi,h.2.1⟩) (by have:=h.2.2; omega)
 rwa [ef_evn _ (by have:=h.2.2; omega)] at this
end Go.Proofs.YtjifkmldigemkaaGreatDoor

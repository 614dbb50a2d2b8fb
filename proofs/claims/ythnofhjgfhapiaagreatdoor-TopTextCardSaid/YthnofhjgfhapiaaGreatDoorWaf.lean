import Derived.LoopN
import Derived.Test.YthnofhjgfhapiaaGreatDoorWae
import Derived.Test.YthnofhjgfhapiaaGreatDoorWaa
import Derived.Test.YthnofhjgfhapiaaGreatDoorWac
import Derived.Test.YthnofhjgfhapiaaGreatDoorWab
set_option maxHeartbeats 8000000
set_option maxRecDepth 10000
namespace Go.Proofs.YthnofhjgfhapiaaGreatDoor
open Go.RowKit Go.Shelf
abbrev PL (w:World):Prop:=w.cell? ⟨0,0,none⟩=some (.int .i64 0)∧w.cell? ⟨0,1,none⟩=some (.int .i64 1)∧w.cell? ⟨0,2,none⟩=some (.int .i64 2)∧w.cell? ⟨0,3,none⟩=some (.int .i64 1)∧w.cell? ⟨0,4,none⟩=some (.int .i64 3)∧w.cell? ⟨0,5,none⟩=some (.int .i64 4)∧w.cell? ⟨0,6,none⟩=some (.int .i64 2)∧w.cell? ⟨0,7,none⟩=some (.int .i64 4)∧w.cell? ⟨0,8,none⟩=some (.int .i64 5)
theorem pl_keep {w w':World} (hb:Below w.heap.size w w') (h:PL w):PL w':=by
 obtain ⟨a0,a1,a2,a3,a4,a5,a6,a7,a8⟩:=h
 exact ⟨cell_keep hb a0,cell_keep hb a1,cell_keep hb a2,cell_keep hb a3,cell_keep hb a4,cell_keep hb a5,cell_keep hb a6,cell_keep hb a7,cell_keep hb a8⟩
theorem pl_lt {w:World} (h:PL w):0<w.heap.size:=World.block_lt_of_cell? w _ h.1
abbrev At9 (i j:Int) (k:Nat):Prop:=(i=0∧j=0∧k=0)∨(i=0∧j=1∧k=1)∨(i=0∧j=2∧k=2)∨(i=1∧j=0∧k=1)∨(i=1∧j=1∧k=3)∨(i=1∧j=2∧k=4)∨(i=2∧j=0∧k=2)∨(i=2∧j=1∧k=4)∨(i=2∧j=2∧k=5)
abbrev Inb (i:Int):Prop:=0≤i∧i<3
theorem within_yes (i:Int) (h:Inb i) (w:World):Calls Tryz.prog 139 #[.int .i64 i] w (RetV (.bool true) w):=by
 obtain ⟨h0,h1⟩:=h
 go_enter Tryz.func139,Tryz.ntmps139
 go_wp2
 go_ret
 exact ⟨rfl,Below.refl _ _⟩
theorem at_ok (m:Nat→Int) (i j:Int) (k:Nat) (h:At9 i j k) (w:World) (hp:PL w) :
  Calls Tryz.prog 105 #[sv m,.int .i64 i,.int .i64 j] w (RetV (.tuple #[.int .i64 (m k),.int .i64 0]) w):=by
 have B:=b_alloc (o:=Obj.cells #[.int .i64 (m 0),.int .i64 (m 1),.int .i64 (m 2),.int .i64 (m 3),.int .i64 (m 4),.int .i64 (m 5)] 42) (Below.refl w.heap.size w)
 have S:=sc_six (sc_new (w:=w) (m:=m) (t:=42) rfl)
 have P:=pl_keep B hp
 rcases h with ⟨rfl,rfl,rfl⟩ | ⟨rfl,rfl,rfl⟩ | ⟨rfl,rfl,rfl⟩ | ⟨rfl,rfl,rfl⟩ | ⟨rfl,rfl,rfl⟩ | ⟨rfl,rfl,rfl⟩ | ⟨rfl,rfl,rfl⟩ | ⟨rfl,rfl,rfl⟩ | ⟨rfl,rfl,rfl⟩
 all_goals
  go_enter Tryz.func105,Tryz.ntmps105
  go_wp2_with fail
  refine (within_yes _ (by decide) _).mono ?_
  rintro e w1 ⟨rfl,hb1⟩
  replace S:=sc_six (sc_keep hb1 (six_sc S))
  replace P:=pl_keep hb1 P
  replace B:=b_trans B hb1
  clear hb1
  go_wp2_with fail
  refine (within_yes _ (by decide) _).mono ?_
  rintro e w1 ⟨rfl,hb1⟩
  replace S:=sc_six (sc_keep hb1 (six_sc S))
  replace P:=pl_keep hb1 P
  replace B:=b_trans B hb1
  clear hb1
  go_wp2
  go_ret2
  exact ⟨rfl,B⟩
def umk (m:Nat→Int) (k:Nat) (x:Int):Nat→Int:=fun i=>if i=k then x else m i
theorem put_ok (m:Nat→Int) (i j x:Int) (k:Nat) (h:At9 i j k) (w:World) (hp:PL w) :
  Calls Tryz.prog 116 #[sv m,.int .i64 i,.int .i64 j,.int .i64 x] w (RetV (.tuple #[sv (umk m k x),.int .i64 0]) w):=by
 have B:=b_alloc (o:=Obj.cells #[.int .i64 0,.int .i64 0,.int .i64 0,.int .i64 0,.int .i64 0,.int .i64 0] 42) (b_alloc (o:=Obj.cells #[.int .i64 (m 0),.int .i64 (m 1),.int .i64 (m 2),.int .i64 (m 3),.int .i64 (m 4),.int .i64 (m 5)] 42) (Below.refl w.heap.size w))
 have S:=sc_alloc (o:=Obj.cells #[.int .i64 0,.int .i64 0,.int .i64 0,.int .i64 0,.int .i64 0,.int .i64 0] 42) (sc_new (w:=w) (m:=m) (t:=42) rfl)
 have SW:=sf_keep (b_alloc (o:=Obj.cells #[.int .i64 0,.int .i64 0,.int .i64 0,.int .i64 0,.int .i64 0,.int .i64 0] 42) (Below.refl _ _)) (sc_new (w:=w) (m:=m) (t:=42) rfl) (sf_new rfl)
 have R:=sc_new (w:=w.alloc (Obj.cells #[.int .i64 (m 0),.int .i64 (m 1),.int .i64 (m 2),.int .i64 (m 3),.int .i64 (m 4),.int .i64 (m 5)] 42)) (m:=fun _=>0) (t:=42) rfl
 have RW:=sf_new (w:=w.alloc (Obj.cells #[.int .i64 (m 0),.int .i64 (m 1),.int .i64 (m 2),.int .i64 (m 3),.int .i64 (m 4),.int .i64 (m 5)] 42)) (c0:=.int .i64 0) (c1:=.int .i64 0) (c2:=.int .i64 0) (c3:=.int .i64 0) (c4:=.int .i64 0) (c5:=.int .i64 0) (t:=42) rfl
 have P:=pl_keep B hp
 have z:=pl_lt hp
 rw [World.size_alloc] at R RW
 clear hp
 rcases h with ⟨rfl,rfl,rfl⟩ | ⟨rfl,rfl,rfl⟩ | ⟨rfl,rfl,rfl⟩ | ⟨rfl,rfl,rfl⟩ | ⟨rfl,rfl,rfl⟩ | ⟨rfl,rfl,rfl⟩ | ⟨rfl,rfl,rfl⟩ | ⟨rfl,rfl,rfl⟩ | ⟨rfl,rfl,rfl⟩
 all_goals
  go_enter Tryz.func116,Tryz.ntmps116
  go_wp2_with fail
  refine (within_yes _ (by decide) _).mono ?_
  rintro e w1 ⟨rfl,hb1⟩
  replace SW:=sf_keep hb1 S SW
  replace S:=sc_keep hb1 S
  replace RW:=sf_keep hb1 R RW
  replace R:=sc_keep hb1 R
  replace P:=pl_keep hb1 P
  replace B:=b_trans B hb1
  clear hb1
  go_wp2_with fail
  refine (within_yes _ (by decide) _).mono ?_
  rintro e w1 ⟨rfl,hb1⟩
  replace SW:=sf_six (sf_keep hb1 S SW)
  replace S:=sc_six (sc_keep hb1 S)
  replace RW:=sf_six (sf_keep hb1 R RW)
  replace R:=sc_six (sc_keep hb1 R)
  replace P:=pl_keep hb1 P
  replace B:=b_trans B hb1
  clear hb1
  go_wp2
  obtain ⟨r0,r1,r2,r3,r4,r5⟩:=R
  refine bodyPost_ret (v:=.tuple #[sv _,.int .i64 0]) (by simp [results,Tryz.results116,go_sem,r0,r1,r2,r3,r4,r5]; exact ⟨rfl,rfl,rfl,rfl,rfl,rfl⟩) rfl ⟨rfl,?_⟩
  repeat (refine b_set ?_ (by simp))
  exact B
abbrev Row3 (i:Int) (k0 k1 k2:Nat):Prop:=(i=0∧k0=0∧k1=1∧k2=2)∨(i=1∧k0=1∧k1=3∧k2=4)∨(i=2∧k0=2∧k1=4∧k2=5)
theorem ix_ints (x y z:Int):(∀ w,(Instr.index 88 (tv x y z) (.int .i64 0)).run Tryz.prog w=.ok (.int .i64 x) w)∧(∀ w,(Instr.index 88 (tv x y z) (.int .i64 1)).run Tryz.prog w=.ok (.int .i64 y) w)∧(∀ w,(Instr.index 88 (tv x y z) (.int .i64 2)).run Tryz.prog w=.ok (.int .i64 z) w) :=
 ⟨fun _=>by kernel_rfl,fun _=>by kernel_rfl,fun _=>by kernel_rfl⟩
theorem row_ok (m:Nat→Int) (i:Int) (k0 k1 k2:Nat) (h:Row3 i k0 k1 k2) (w:World) (hp:PL w) :
  Calls Tryz.prog 176 #[sv m,.int .i64 i] w (RetV (.tuple #[tv (m k0) (m k1) (m k2),.int .i64 0]) w):=by
 have B:=b_alloc (o:=Obj.cells #[.int .i64 0,.int .i64 0,.int .i64 0] 25) (b_alloc (o:=Obj.cells #[.int .i64 (m 0),.int .i64 (m 1),.int .i64 (m 2),.int .i64 (m 3),.int .i64 (m 4),.int .i64 (m 5)] 42) (Below.refl w.heap.size w))
 have S:=sc_alloc (o:=Obj.cells #[.int .i64 0,.int .i64 0,.int .i64 0] 25) (sc_new (w:=w) (m:=m) (t:=42) rfl)
 have R:=tc_new (w:=w.alloc (Obj.cells #[.int .i64 (m 0),.int .i64 (m 1),.int .i64 (m 2),.int .i64 (m 3),.int .i64 (m 4),.int .i64 (m 5)] 42)) (x:=0) (y:=0) (z:=0) (t:=25) rfl
 have RW:=tf_new (w:=w.alloc (Obj.cells #[.int .i64 (m 0),.int .i64 (m 1),.int .i64 (m 2),.int .i64 (m 3),.int .i64 (m 4),.int .i64 (m 5)] 42)) (x:=0) (y:=0) (z:=0) (t:=25) rfl
 have P:=pl_keep B hp
 have z:=pl_lt hp
 rw [World.size_alloc] at R RW
 clear hp
 rcases h with ⟨rfl,rfl,rfl,rfl⟩ | ⟨rfl,rfl,rfl,rfl⟩ | ⟨rfl,rfl,rfl,rfl⟩
 all_goals
  obtain ⟨x0,x1,x2⟩:=ix_ints 0 1 2
  obtain ⟨y0,y1,y2⟩:=ix_ints 1 3 4
  obtain ⟨u0,u1,u2⟩:=ix_ints 2 4 5
  go_enter Tryz.func176,Tryz.ntmps176
  go_wp2_with fail
  refine (within_yes _ (by decide) _).mono ?_
  rintro e w1 ⟨rfl,hb1⟩
  replace RW:=tf_keep hb1 R RW
  replace R:=tc_keep hb1 R
  replace S:=sc_six (sc_keep hb1 S)
  replace P:=pl_keep hb1 P
  replace B:=b_trans B hb1
  clear hb1
  have z1:=pl_lt P
  have z2:=sc_lt (six_sc S)
  have z3:=tc_lt R
  go_wp2
  refine wp_loop_rounds 4 ?_
  repeat (rw [rounds_succ]; go_wp2)
  obtain ⟨q0,q1,q2⟩:=R
  refine bodyPost_ret (v:=.tuple #[tv _ _ _,.int .i64 0]) (by simp [results,Tryz.results176,go_sem,q0,q1,q2,z3]) rfl ⟨rfl,?_⟩
  repeat (first | refine b_alloc ?_ | refine b_set ?_ (by simp))
  exact B
def dgm (x y z:Int):Nat→Int:=fun i=>if i=0 then x else if i=3 then y else if i=5 then z else 0
theorem diag_any (x y z:Int) (w:World) (hp:PL w) :
  Calls Tryz.prog 66 #[tv x y z] w (RetV (sv (dgm x y z)) w):=by
 have h0:=pl_lt hp
 have h1:0<w.heap.size:=by omega
 obtain ⟨x0,x1,x2⟩:=ix_vec x y z
 go_enter Tryz.func66,Tryz.ntmps66
 go_wp2
 refine wp_loop_rounds 4 ?_
 repeat (rw [rounds_succ]; go_wp2)
 exact bodyPost_ret (v:=sv (dgm x y z)) (by simp [results,Tryz.results66,go_sem,dgm]) rfl ⟨rfl,b_alloc (b_alloc (b_alloc (Below.refl _ _)))⟩
theorem main_any (m:Nat→Int) (w:World) (hp:PL w) :
  Calls Tryz.prog 11 #[sv m] w (RetV (tv (m 0) (m 3) (m 5)) w):=by
 have h0:=pl_lt hp
 have h1:0<w.heap.size:=by omega
 go_enter Tryz.func11,Tryz.ntmps11
 go_wp2
 refine wp_loop_rounds 4 ?_
 repeat (rw [rounds_succ]; go_wp2)
 exact bodyPost_ret (v:=tv (m 0) (m 3) (m 5)) (by simp [results,Tryz.results11,go_sem]) rfl ⟨rfl,b_alloc (b_alloc (b_alloc (Below.refl _ _)))⟩
end Go.Proofs.YthnofhjgfhapiaaGreatDoor
namespace Go.Proofs.YthnofhjgfhapiaaGreatDoor
open Go.RowKit Go.Shelf
abbrev Snd (m:Nat→Int) (f0 f1 f2:Int):Prop:=F6 m∧f0≤m 0∧f1≤m 3∧f2≤m 5∧m 1*m 1≤(m 3 - f1)*(m 0 - f0)∧m 2*m 2≤(m 5 - f2)*(m 0 - f0)∧m 4*m 4≤(m 5 - f2)*(m 3 - f1)
def sndb (m:Nat→Int) (f0 f1 f2:Int):Bool:=decide (Snd m f0 f1 f2)
theorem sndb_yes {m:Nat→Int} {f0 f1 f2:Int} (h:Snd m f0 f1 f2):sndb m f0 f1 f2=true:=decide_eq_true h
theorem sndb_no {m:Nat→Int} {f0 f1 f2:Int} (h:¬ Snd m f0 f1 f2):sndb m f0 f1 f2=false:=decide_eq_false h
theorem wpList_end {P:Program} {ops:Array Oper} {Q:Exit→Act→World→Prop} {a:Act} {w:World} (h:Q Exit.normal a w):wpList P ops Q [] a w:=h
theorem above_any (x f:Int) (hx:FitP x) (hf:I64 f) (h:f≤x) (w:World) :
  Calls Tryz.prog 30 #[.int .i64 x,.int .i64 f] w fun e w'=>e=.returned (.int .u64 (x - f))∧w=w':=by
 have E:=Lib.hid (show IntKind.u64.wrap (IntKind.u64.wrap x - IntKind.u64.wrap f)=x - f by rw [wrapu,wrapu,wrapu]; omega)
 clear hx hf h
 go_enter Tryz.func30,Tryz.ntmps30
 go_wp2
 go_ret
 exact ⟨by rw [← E.out]; rfl,rfl⟩
theorem prod_fits {a b:Int} (a0:0≤a) (a1:a≤9511602413006487552) (b0:0≤b) (b1:b≤9511602413006487552):0≤a*b∧a*b≤90470580463239060908069418866212704256:=by
 refine ⟨Int.mul_nonneg a0 b0,?_⟩
 have h1:a*b≤9511602413006487552*b:=Int.mul_le_mul_of_nonneg_right a1 b0
 omega
theorem product_sym (a b h l:Int) (a0:0≤a) (a1:a≤9511602413006487552) (b0:0≤b) (b1:b≤9511602413006487552) (x:IsW h l (a*b)) (w:World) :
  Calls Tryz.prog 33 #[.int .u64 a,.int .u64 b] w (RetV (wv h l) w):=by
 have pf:=prod_fits a0 a1 b0 b1
 have X:=Lib.hid x
 have PF:=Lib.hid pf
 clear x pf
 have kq:WC (w.alloc (Obj.cells #[.int .i64 0,.int .u64 0] 96)) w.heap.size 0 0:=by simp [WC,go_sem]
 have kf:WF (w.alloc (Obj.cells #[.int .i64 0,.int .u64 0] 96)) w.heap.size:=by simp [WF,go_sem]
 go_enter Tryz.func33,Tryz.ntmps33
 go_wp2_with fail
 refine (mul64 a b a0 (by omega) b0 (by omega) _).mono ?_
 rintro e w1 ⟨h',l',rfl,h0,h1,l0,l1,hh,rfl⟩
 have E:=Lib.hid (show wrap64 h'=h∧l'=l by
  obtain ⟨c0,c1,c2,c3,c4⟩:=X.out
  have:=hh.out
  have:=PF.out
  rw [wrapi]; unfold s64
  generalize a*b=p at *
  omega)
 clear hh a0 a1 b0 b1 h0 h1 l0 l1
 go_wp2
 refine bodyPost_ret (v:=wv h l) (by simp [results,Tryz.results33,go_sem]; exact E.out) rfl ⟨rfl,b_alloc (Below.refl _ _)⟩
abbrev UC (w:World) (b:Nat) (x y z:Int):Prop:=w.cell? ⟨b,0,none⟩=some (.int .u64 x)∧w.cell? ⟨b,1,none⟩=some (.int .u64 y)∧w.cell? ⟨b,2,none⟩=some (.int .u64 z)
theorem uc_keep {w w':World} (hb:Below w.heap.size w w') {b:Nat} {x y z:Int} (c:UC w b x y z):UC w' b x y z:=⟨cell_keep hb c.1,cell_keep hb c.2.1,cell_keep hb c.2.2⟩
theorem uf_keep {w w':World} (hb:Below w.heap.size w w') {b:Nat} {x y z:Int} (c:UC w b x y z) (f:TF w b):TF w' b:=by
 have h1:=World.block_lt_of_cell? w _ c.1
 exact ⟨by rw [hb.frozen (p:=⟨b,0,none⟩) h1]; exact f.1,by rw [hb.frozen (p:=⟨b,1,none⟩) h1]; exact f.2.1,by rw [hb.frozen (p:=⟨b,2,none⟩) h1]; exact f.2.2⟩
theorem pl_set {w:World} {b o:Nat} {v:Value} (h:PL w) (hb:0<b):PL (w.setCell ⟨b,o,none⟩ v):=by
 have n:b≠0:=by omega
 obtain ⟨a0,a1,a2,a3,a4,a5,a6,a7,a8⟩:=h
 have K:∀ i u,w.cell? ⟨0,i,none⟩=some u→(w.setCell ⟨b,o,none⟩ v).cell? ⟨0,i,none⟩=some u:=fun i u hu=>by rw [World.cell?_setCell_far _ _ _ _ n]; exact hu
 exact ⟨K _ _ a0,K _ _ a1,K _ _ a2,K _ _ a3,K _ _ a4,K _ _ a5,K _ _ a6,K _ _ a7,K _ _ a8⟩
def SJ (W:World) (A B Q:Nat) (m:Nat→Int) (f0 f1 f2 o0 o1 o2:Int) (w:World):Prop :=
 Below W.heap.size W w∧SC w A m∧TC w B f0 f1 f2∧UC w Q o0 o1 o2∧TF w Q∧PL w
theorem sj_keep {W:World} {A B Q:Nat} {m:Nat→Int} {f0 f1 f2 o0 o1 o2:Int} {w w':World} (h:SJ W A B Q m f0 f1 f2 o0 o1 o2 w) (hb:Below w.heap.size w w'):SJ W A B Q m f0 f1 f2 o0 o1 o2 w' :=
 ⟨b_trans h.1 hb,sc_keep hb h.2.1,tc_keep hb h.2.2.1,uc_keep hb h.2.2.2.1,uf_keep hb h.2.2.2.1 h.2.2.2.2.1,pl_keep hb h.2.2.2.2.2⟩
theorem sj_sc {W:World} {A B Q:Nat} {m:Nat→Int} {f0 f1 f2 o0 o1 o2:Int} {w:World} (h:SJ W A B Q m f0 f1 f2 o0 o1 o2 w):SC w A m:=h.2.1
theorem sj_tc {W:World} {A B Q:Nat} {m:Nat→Int} {f0 f1 f2 o0 o1 o2:Int} {w:World} (h:SJ W A B Q m f0 f1 f2 o0 o1 o2 w):TC w B f0 f1 f2:=h.2.2.1
theorem sj_uc {W:World} {A B Q:Nat} {m:Nat→Int} {f0 f1 f2 o0 o1 o2:Int} {w:World} (h:SJ W A B Q m f0 f1 f2 o0 o1 o2 w):UC w Q o0 o1 o2:=h.2.2.2.1
theorem sj_tf {W:World} {A B Q:Nat} {m:Nat→Int} {f0 f1 f2 o0 o1 o2:Int} {w:World} (h:SJ W A B Q m f0 f1 f2 o0 o1 o2 w):TF w Q:=h.2.2.2.2.1
theorem sj_pl {W:World} {A B Q:Nat} {m:Nat→Int} {f0 f1 f2 o0 o1 o2:Int} {w:World} (h:SJ W A B Q m f0 f1 f2 o0 o1 o2 w):PL w:=h.2.2.2.2.2
theorem sj_put0 {W:World} {A B Q:Nat} {m:Nat→Int} {f0 f1 f2 o0 o1 o2 v:Int} {w:World} (h:SJ W A B Q m f0 f1 f2 o0 o1 o2 w) (q:W.heap.size≤Q) (q0:0<Q) (qa:Q≠A) (qb:Q≠B):SJ W A B Q m f0 f1 f2 v o1 o2 (w.setCell ⟨Q,0,none⟩ (.int .u64 v)):=by
 obtain ⟨h0,h1,h2,h3,h4,h5⟩:=h
 refine ⟨b_set h0 q,sc_set h1 qa,tc_set h2 qb,?_,tf_set h4,pl_set h5 q0⟩
 obtain ⟨c0,c1,c2⟩:=h3
 simp [UC,go_sem,c0,c1,c2]
theorem sj_put1 {W:World} {A B Q:Nat} {m:Nat→Int} {f0 f1 f2 o0 o1 o2 v:Int} {w:World} (h:SJ W A B Q m f0 f1 f2 o0 o1 o2 w) (q:W.heap.size≤Q) (q0:0<Q) (qa:Q≠A) (qb:Q≠B):SJ W A B Q m f0 f1 f2 o0 v o2 (w.setCell ⟨Q,1,none⟩ (.int .u64 v)):=by
 obtain ⟨h0,h1,h2,h3,h4,h5⟩:=h
 refine ⟨b_set h0 q,sc_set h1 qa,tc_set h2 qb,?_,tf_set h4,pl_set h5 q0⟩
 obtain ⟨c0,c1,c2⟩:=h3
 simp [UC,go_sem,c0,c1,c2]
theorem sj_put2 {W:World} {A B Q:Nat} {m:Nat→Int} {f0 f1 f2 o0 o1 o2 v:Int} {w:World} (h:SJ W A B Q m f0 f1 f2 o0 o1 o2 w) (q:W.heap.size≤Q) (q0:0<Q) (qa:Q≠A) (qb:Q≠B):SJ W A B Q m f0 f1 f2 o0 o1 v (w.setCell ⟨Q,2,none⟩ (.int .u64 v)):=by
 obtain ⟨h0,h1,h2,h3,h4,h5⟩:=h
 refine ⟨b_set h0 q,sc_set h1 qa,tc_set h2 qb,?_,tf_set h4,pl_set h5 q0⟩
 obtain ⟨c0,c1,c2⟩:=h3
 simp [UC,go_sem,c0,c1,c2]
theorem cmp_le {a b:Int} (h:a≤b):¬ 0<cmp3 a b:=by
 unfold cmp3
 by_cases c:a=b
 ·rw [if_pos c]; decide
 ·rw [if_neg c,if_pos (by omega)]; decide
theorem cmp_gt {a b:Int} (h:¬ a≤b):0<cmp3 a b:=by unfold cmp3; rw [if_neg (by omega),if_neg (by omega)]; decide
theorem fits_prod {p:Int} (h:0≤p∧p≤90470580463239060908069418866212704256):Fits p:=⟨by omega,by omega⟩
theorem fit_i64 {x:Int} (h:FitP x):I64 x:=⟨by omega,by omega⟩
theorem ob_of {x f:Int} (h:FitP x) (hf:I64 f) (c:f≤x):0≤x - f∧x - f≤9511602413006487552:=⟨by omega,by omega⟩
theorem sound_sym (m:Nat→Int) (f0 f1 f2:Int) (hm:I6 m) (hf0:I64 f0) (hf1:I64 f1) (hf2:I64 f2) (w:World) (hp:PL w) :
  Calls Tryz.prog 12 #[sv m,tv f0 f1 f2] w (RetV (.bool (sndb m f0 f1 f2)) w):=by
 have hf:=Lib.hid (And.intro hf0 (And.intro hf1 hf2))
 have z0:=pl_lt hp
 have kA:SC ((w.alloc (Obj.cells #[.int .i64 (m 0),.int .i64 (m 1),.int .i64 (m 2),.int .i64 (m 3),.int .i64 (m 4),.int .i64 (m 5)] 42)).alloc (Obj.cells #[.int .i64 f0,.int .i64 f1,.int .i64 f2] 25)) w.heap.size m:=sc_alloc (sc_new (w:=w) (m:=m) (t:=42) rfl)
 have kB:TC ((w.alloc (Obj.cells #[.int .i64 (m 0),.int .i64 (m 1),.int .i64 (m 2),.int .i64 (m 3),.int .i64 (m 4),.int .i64 (m 5)] 42)).alloc (Obj.cells #[.int .i64 f0,.int .i64 f1,.int .i64 f2] 25)) (w.heap.size+1) f0 f1 f2:=tc_new (w:=(w.alloc (Obj.cells #[.int .i64 (m 0),.int .i64 (m 1),.int .i64 (m 2),.int .i64 (m 3),.int .i64 (m 4),.int .i64 (m 5)] 42))) (t:=25) (by simp)
 have kP:PL ((w.alloc (Obj.cells #[.int .i64 (m 0),.int .i64 (m 1),.int .i64 (m 2),.int .i64 (m 3),.int .i64 (m 4),.int .i64 (m 5)] 42)).alloc (Obj.cells #[.int .i64 f0,.int .i64 f1,.int .i64 f2] 25)):=pl_keep (b_alloc (b_alloc (Below.refl _ _))) hp
 have hB0:Below w.heap.size w ((w.alloc (Obj.cells #[.int .i64 (m 0),.int .i64 (m 1),.int .i64 (m 2),.int .i64 (m 3),.int .i64 (m 4),.int .i64 (m 5)] 42)).alloc (Obj.cells #[.int .i64 f0,.int .i64 f1,.int .i64 f2] 25)):=b_alloc (b_alloc (Below.refl _ _))
 clear hp
 by_cases ca:F6 m
 rotate_left
 ·have ea:=Lib.hid (f6b_no ca)
  have E:=Lib.hid (sndb_no (f0:=f0) (f1:=f1) (f2:=f2) (fun h=>ca h.1))
  have l6:=sc_six kA
  clear ca kA kP
  go_enter Tryz.func12,Tryz.ntmps12
  go_wp2_with fail
  refine (fits_sym m hm _).mono ?_
  rintro e1 w1 ⟨rfl,hb9⟩
  rw [ea.out]
  replace hB0:=b_trans hB0 hb9
  clear l6 kB hb9
  go_wp2
  go_ret
  exact ⟨by rw [E.out]; rfl,hB0⟩
 have ea:=Lib.hid (f6b_yes ca)
 have CA:=Lib.hid ca
 clear ca
 have l6:=sc_six kA
 go_enter Tryz.func12,Tryz.ntmps12
 go_wp2_with fail
 refine (fits_sym m hm _).mono ?_
 rintro e1 w1 ⟨rfl,hb9⟩
 rw [ea.out]
 replace kA:=sc_keep hb9 kA
 replace kB:=tc_keep hb9 kB
 replace kP:=pl_keep hb9 kP
 replace hB0:=b_trans hB0 hb9
 clear l6 hb9 ea
 have zB:=tc_lt kB
 have s0:SJ w w.heap.size (w.heap.size+1) w1.heap.size m f0 f1 f2 0 0 0 (w1.alloc (Obj.cells #[.int .u64 0,.int .u64 0,.int .u64 0] 92)):=⟨b_alloc hB0,sc_alloc kA,tc_alloc kB,by simp [UC,go_sem],by simp [TF,go_sem],pl_keep (b_alloc (Below.refl _ _)) kP⟩
 have l6:=sc_six kA
 clear kA kB kP hB0
 have zA:w.heap.size<w1.heap.size:=by omega
 go_wp2_with fail
 refine (main_any m _ (sj_pl s0)).mono ?_
 rintro e2 w2 ⟨rfl,hb9⟩
 replace s0:=sj_keep s0 hb9
 clear hb9 l6
 generalize w1.heap.size=Q at *
 have q1:w.heap.size≤Q:=by omega
 have q2:0<Q:=by omega
 have q3:Q≠w.heap.size:=by omega
 have q4:Q≠w.heap.size+1:=by omega
 clear zA zB z0
 obtain ⟨x0,x1,x2⟩:=ix_vec (m 0) (m 3) (m 5)
 go_wp2
 refine wp_loop_rounds 4 ?_
 rw [rounds_succ]
 by_cases c0:f0≤m 0
 rotate_left
 ·have E:=Lib.hid (sndb_no (m:=m) (f0:=f0) (f1:=f1) (f2:=f2) (fun h=>c0 h.2.1))
  have hl:m 0<f0:=by omega
  have c:=sj_tc s0
  have B9:=s0.1
  clear s0 c0
  go_wp2
  go_ret
  exact ⟨by rw [E.out]; rfl,B9⟩
 have hl:¬ m 0<f0:=by omega
 have c:=sj_tc s0
 have cu:=sj_uc s0
 have cf:=sj_tf s0
 have s1:=Lib.hid (sj_put0 (v:=m 0 - f0) s0 q1 q2 q3 q4)
 clear s0
 go_wp2_with fail
 refine (above_any _ _ (CA.out 0 (by decide)) hf0 c0 _).mono ?_
 rintro e9 w9 ⟨rfl,rfl⟩
 go_wp2
 clear c cu cf hl
 generalize w2.setCell ⟨Q,0,none⟩ (.int .u64 (m 0 - f0))=u0 at *
 replace s0:=s1.out
 clear s1
 rw [rounds_succ]
 by_cases c1:f1≤m 3
 rotate_left
 ·have E:=Lib.hid (sndb_no (m:=m) (f0:=f0) (f1:=f1) (f2:=f2) (fun h=>c1 h.2.2.1))
  have hl:m 3<f1:=by omega
  have c:=sj_tc s0
  have B9:=s0.1
  clear s0 c1
  go_wp2
  go_ret
  exact ⟨by rw [E.out]; rfl,B9⟩
 have hl:¬ m 3<f1:=by omega
 have c:=sj_tc s0
 have cu:=sj_uc s0
 have cf:=sj_tf s0
 have s1:=Lib.hid (sj_put1 (v:=m 3 - f1) s0 q1 q2 q3 q4)
 clear s0
 go_wp2_with fail
 refine (above_any _ _ (CA.out 3 (by decide)) hf1 c1 _).mono ?_
 rintro e9 w9 ⟨rfl,rfl⟩
 go_wp2
 clear c cu cf hl
 generalize u0.setCell ⟨Q,1,none⟩ (.int .u64 (m 3 - f1))=u1 at *
 replace s0:=s1.out
 clear s1
 rw [rounds_succ]
 by_cases c2:f2≤m 5
 rotate_left
 ·have E:=Lib.hid (sndb_no (m:=m) (f0:=f0) (f1:=f1) (f2:=f2) (fun h=>c2 h.2.2.2.1))
  have hl:m 5<f2:=by omega
  have c:=sj_tc s0
  have B9:=s0.1
  clear s0 c2
  go_wp2
  go_ret
  exact ⟨by rw [E.out]; rfl,B9⟩
 have hl:¬ m 5<f2:=by omega
 have c:=sj_tc s0
 have cu:=sj_uc s0
 have cf:=sj_tf s0
 have s1:=Lib.hid (sj_put2 (v:=m 5 - f2) s0 q1 q2 q3 q4)
 clear s0
 go_wp2_with fail
 refine (above_any _ _ (CA.out 5 (by decide)) hf2 c2 _).mono ?_
 rintro e9 w9 ⟨rfl,rfl⟩
 go_wp2
 clear c cu cf hl
 generalize u1.setCell ⟨Q,2,none⟩ (.int .u64 (m 5 - f2))=u2 at *
 replace s0:=s1.out
 clear s1
 clear x0 x1 x2 hf0 hf1 hf2
 rw [rounds_succ]
 go_wp2
 refine wp_loop_rounds 4 ?_
 have ob0:0≤m 0 - f0∧m 0 - f0≤9511602413006487552:=ob_of (CA.out 0 (by decide)) hf.out.1 c0
 have ob1:0≤m 3 - f1∧m 3 - f1≤9511602413006487552:=ob_of (CA.out 3 (by decide)) hf.out.2.1 c1
 have ob2:0≤m 5 - f2∧m 5 - f2≤9511602413006487552:=ob_of (CA.out 5 (by decide)) hf.out.2.2 c2
 have cs:=sc_six (sj_sc s0)
 have cp:=sj_pl s0
 rw [rounds_succ]
 go_wp2
 refine wp_loop_rounds 4 ?_
 rw [rounds_succ]
 go_wp2
 rw [rounds_succ]
 go_wp2
 refine wp_loop_rounds 4 ?_
 rw [rounds_succ]
 go_wp2
 clear cs cp
 obtain ⟨ph,pl,PW⟩:∃ ph pl,Hid (IsW ph pl ((m 3 - f1)*(m 0 - f0))):=⟨_,_,Lib.hid (IsW.mk' (fits_prod (prod_fits ob1.1 ob1.2 ob0.1 ob0.2)))⟩
 have xb:=fit_i64 (CA.out 1 (by decide))
 obtain ⟨sh,sl,SW⟩:∃ sh sl,Hid (IsW sh sl (m 1*m 1)):=⟨_,_,Lib.hid (IsW.mk' (mul_fits xb.1 xb.2 xb.1 xb.2))⟩
 refine region_each [47,48,49,50,51,52,53,54,55,56,57,58] (fun i X_ U_=>match i with | 0=>X_=.int .i64 (m 1) | 1=>X_=.int .i64 (m 1) | 2=>X_=wv sh sl | 3=>X_=.int .i64 1 | 4=>X_=.pointer (some ⟨Q,1,none⟩) | 5=>X_=.int .u64 (m 3 - f1) | 6=>X_=.int .i64 0 | 7=>X_=.pointer (some ⟨Q,0,none⟩) | 8=>X_=.int .u64 (m 0 - f0) | 9=>X_=wv ph pl | 10=>X_=.int .i64 (cmp3 (m 1*m 1) ((m 3 - f1)*(m 0 - f0))) | 11=>X_=.bool (decide (0<cmp3 (m 1*m 1) ((m 3 - f1)*(m 0 - f0)))) | _=>True) (fun i=>false) (by kernel_rfl) (by kernel_rfl) (by kernel_rfl) (by kernel_rfl) (by kernel_rfl) ?_ (fun i x w hi ha h=>by cases ha) ?_ ?_
 ·refine swp (upS (upS (upS (upS (upS (upS (upS (upS (upS (upS (upS (upS up0 ?_) ?_) ?_) ?_) ?_) ?_) ?_) ?_) ?_) ?_) ?_) ?_)
  all_goals exact fun _ _ _ h _=>h
 ·refine upS (upS (upS (upS (upS (upS (upS (upS (upS (upS (upS (upS up0 ?_) ?_) ?_) ?_) ?_) ?_) ?_) ?_) ?_) ?_) ?_) ?_
  all_goals intro v f w' hb hv hB hd
  ·have b10:f.tmps[10]?=some (.int .i64 (m 1)):=(hb 10 (by decide)).trans rfl
   clear hb hv hd
   refine wpOp_step rfl fun K hK=>?_
   go_simp
   exact hK _ _ ⟨_,rfl,Below.refl _ _,rfl,fun h=>absurd h (by decide)⟩
  ·have b10:f.tmps[10]?=some (.int .i64 (m 1)):=(hb 10 (by decide)).trans rfl
   clear hb hv hd
   refine wpOp_step rfl fun K hK=>?_
   go_simp
   exact hK _ _ ⟨_,rfl,Below.refl _ _,rfl,fun h=>absurd h (by decide)⟩
  ·have d0:=got (hv 0 47 rfl) (hd 0 (by kernel_rfl))
   have d1:=got (hv 1 48 rfl) (hd 1 (by kernel_rfl))
   clear hb hv hd
   refine wpOp_call rfl Tryz.call32 (args2 (eval_tmp d0) (eval_tmp d1)) ((mul_any (m 1) (m 1) xb.1 xb.2 xb.1 xb.2 _).mono (fun _ _ r=>retW_det SW.out r)) ?_
   rintro e5 w5 ⟨rfl,hb5⟩
   exact ⟨_,rfl,_,rfl,hb5,rfl,fun h=>absurd h (by decide)⟩
  ·have b8:f.tmps[8]?=some (.int .i64 1):=(hb 8 (by decide)).trans rfl
   clear hb hv hd
   refine wpOp_step rfl fun K hK=>?_
   go_simp
   exact hK _ _ ⟨_,rfl,Below.refl _ _,rfl,fun h=>absurd h (by decide)⟩
  ·have b5:f.tmps[5]?=some (.pointer (some ⟨Q,0,none⟩)):=(hb 5 (by decide)).trans rfl
   have d3:=got (hv 3 50 rfl) (hd 3 (by kernel_rfl))
   clear hb hv hd
   refine wpOp_step rfl fun K hK=>?_
   go_simp
   exact hK _ _ ⟨_,rfl,Below.refl _ _,rfl,fun h=>absurd h (by decide)⟩
  ·have d4:=got (hv 4 51 rfl) (hd 4 (by kernel_rfl))
   clear hb hv hd
   have c:=uc_keep hB (sj_uc s0)
   refine wpOp_step rfl fun K hK=>?_
   go_simp
   exact hK _ _ ⟨_,rfl,Below.refl _ _,rfl,fun h=>absurd h (by decide)⟩
  ·have b9:f.tmps[9]?=some (.int .i64 0):=(hb 9 (by decide)).trans rfl
   clear hb hv hd
   refine wpOp_step rfl fun K hK=>?_
   go_simp
   exact hK _ _ ⟨_,rfl,Below.refl _ _,rfl,fun h=>absurd h (by decide)⟩
  ·have b5:f.tmps[5]?=some (.pointer (some ⟨Q,0,none⟩)):=(hb 5 (by decide)).trans rfl
   have d6:=got (hv 6 53 rfl) (hd 6 (by kernel_rfl))
   clear hb hv hd
   refine wpOp_step rfl fun K hK=>?_
   go_simp
   exact hK _ _ ⟨_,rfl,Below.refl _ _,rfl,fun h=>absurd h (by decide)⟩
  ·have d7:=got (hv 7 54 rfl) (hd 7 (by kernel_rfl))
   clear hb hv hd
   have c:=uc_keep hB (sj_uc s0)
   refine wpOp_step rfl fun K hK=>?_
   go_simp
   exact hK _ _ ⟨_,rfl,Below.refl _ _,rfl,fun h=>absurd h (by decide)⟩
  ·have d5:=got (hv 5 52 rfl) (hd 5 (by kernel_rfl))
   have d8:=got (hv 8 55 rfl) (hd 8 (by kernel_rfl))
   clear hb hv hd
   refine wpOp_call rfl Tryz.call33 (args2 (eval_tmp d5) (eval_tmp d8)) (product_sym (m 3 - f1) (m 0 - f0) ph pl ob1.1 ob1.2 ob0.1 ob0.2 PW.out _) ?_
   rintro e5 w5 ⟨rfl,hb5⟩
   exact ⟨_,rfl,_,rfl,hb5,rfl,fun h=>absurd h (by decide)⟩
  ·have d2:=got (hv 2 49 rfl) (hd 2 (by kernel_rfl))
   have d9:=got (hv 9 56 rfl) (hd 9 (by kernel_rfl))
   clear hb hv hd
   refine wpOp_call rfl Tryz.call31 (args2 (eval_tmp d2) (eval_tmp d9)) (cmp_any sh sl _ ph pl _ SW.out PW.out _) ?_
   rintro e5 w5 ⟨rfl,hb5⟩
   exact ⟨_,rfl,_,rfl,hb5,rfl,fun h=>absurd h (by decide)⟩
  ·have d10:=got (hv 10 57 rfl) (hd 10 (by kernel_rfl))
   clear hb hv hd
   refine wpOp_step rfl fun K hK=>?_
   go_simp
   exact hK _ _ ⟨_,rfl,Below.refl _ _,rfl,fun h=>absurd h (by decide)⟩
 ·intro v w' hB hF hD
  have F0:v 0=_:=hF 0 (by simp)
  have F1:v 1=_:=hF 1 (by simp)
  have F2:v 2=_:=hF 2 (by simp)
  have F3:v 3=_:=hF 3 (by simp)
  have F4:v 4=_:=hF 4 (by simp)
  have F5:v 5=_:=hF 5 (by simp)
  have F6:v 6=_:=hF 6 (by simp)
  have F7:v 7=_:=hF 7 (by simp)
  have F8:v 8=_:=hF 8 (by simp)
  have F9:v 9=_:=hF 9 (by simp)
  have F10:v 10=_:=hF 10 (by simp)
  have F11:v 11=_:=hF 11 (by simp)
  clear hF
  simp only [frOf,frGo,Nat.zero_add,Nat.reduceAdd,F0,F1,F2,F3,F4,F5,F6,F7,F8,F9,F10,F11]
  rw [List.drop_eq_nil_of_le (by simp)]
  refine wpList_end ?_
  simp only [Act.put,List.setIfInBounds_toArray,List.set_cons_zero,List.set_cons_succ]
  replace s0:=sj_keep s0 hB
  clear F0 F1 F2 F3 F4 F5 F6 F7 F8 F9 F10 F11 hD hB PW SW xb
  by_cases c10:m 1*m 1≤(m 3 - f1)*(m 0 - f0)
  rotate_left
  ·have E:=Lib.hid (sndb_no (m:=m) (f0:=f0) (f1:=f1) (f2:=f2) (fun h=>c10 h.2.2.2.2.1))
   have hq:=cmp_gt c10
   have B9:=s0.1
   clear s0
   generalize cmp3 (m 1*m 1) ((m 3 - f1)*(m 0 - f0))=q at *
   clear c10
   go_wp2
   go_ret
   exact ⟨by rw [E.out]; rfl,B9⟩
  have hq:=cmp_le c10
  generalize cmp3 (m 1*m 1) ((m 3 - f1)*(m 0 - f0))=q10 at *
  have C10:=Lib.hid c10
  clear c10
  go_wp2
  clear hq
  rw [rounds_succ]
  go_wp2
  rw [rounds_succ]
  have cs:=sc_six (sj_sc s0)
  have cp:=sj_pl s0
  go_wp2
  refine wp_loop_rounds 4 ?_
  rw [rounds_succ]
  go_wp2
  clear cs cp
  obtain ⟨ph,pl,PW⟩:∃ ph pl,Hid (IsW ph pl ((m 5 - f2)*(m 0 - f0))):=⟨_,_,Lib.hid (IsW.mk' (fits_prod (prod_fits ob2.1 ob2.2 ob0.1 ob0.2)))⟩
  have xb:=fit_i64 (CA.out 2 (by decide))
  obtain ⟨sh,sl,SW⟩:∃ sh sl,Hid (IsW sh sl (m 2*m 2)):=⟨_,_,Lib.hid (IsW.mk' (mul_fits xb.1 xb.2 xb.1 xb.2))⟩
  refine region_each [47,48,49,50,51,52,53,54,55,56,57,58] (fun i X_ U_=>match i with | 0=>X_=.int .i64 (m 2) | 1=>X_=.int .i64 (m 2) | 2=>X_=wv sh sl | 3=>X_=.int .i64 2 | 4=>X_=.pointer (some ⟨Q,2,none⟩) | 5=>X_=.int .u64 (m 5 - f2) | 6=>X_=.int .i64 0 | 7=>X_=.pointer (some ⟨Q,0,none⟩) | 8=>X_=.int .u64 (m 0 - f0) | 9=>X_=wv ph pl | 10=>X_=.int .i64 (cmp3 (m 2*m 2) ((m 5 - f2)*(m 0 - f0))) | 11=>X_=.bool (decide (0<cmp3 (m 2*m 2) ((m 5 - f2)*(m 0 - f0)))) | _=>True) (fun i=>false) (by kernel_rfl) (by kernel_rfl) (by kernel_rfl) (by kernel_rfl) (by kernel_rfl) ?_ (fun i x w hi ha h=>by cases ha) ?_ ?_
  ·refine swp (upS (upS (upS (upS (upS (upS (upS (upS (upS (upS (upS (upS up0 ?_) ?_) ?_) ?_) ?_) ?_) ?_) ?_) ?_) ?_) ?_) ?_)
   all_goals exact fun _ _ _ h _=>h
  ·refine upS (upS (upS (upS (upS (upS (upS (upS (upS (upS (upS (upS up0 ?_) ?_) ?_) ?_) ?_) ?_) ?_) ?_) ?_) ?_) ?_) ?_
   all_goals intro v f w' hb hv hB hd
   ·have b10:f.tmps[10]?=some (.int .i64 (m 2)):=(hb 10 (by decide)).trans rfl
    clear hb hv hd
    refine wpOp_step rfl fun K hK=>?_
    go_simp
    exact hK _ _ ⟨_,rfl,Below.refl _ _,rfl,fun h=>absurd h (by decide)⟩
   ·have b10:f.tmps[10]?=some (.int .i64 (m 2)):=(hb 10 (by decide)).trans rfl
    clear hb hv hd
    refine wpOp_step rfl fun K hK=>?_
    go_simp
    exact hK _ _ ⟨_,rfl,Below.refl _ _,rfl,fun h=>absurd h (by decide)⟩
   ·have d0:=got (hv 0 47 rfl) (hd 0 (by kernel_rfl))
    have d1:=got (hv 1 48 rfl) (hd 1 (by kernel_rfl))
    clear hb hv hd
    refine wpOp_call rfl Tryz.call32 (args2 (eval_tmp d0) (eval_tmp d1)) ((mul_any (m 2) (m 2) xb.1 xb.2 xb.1 xb.2 _).mono (fun _ _ r=>retW_det SW.out r)) ?_
    rintro e5 w5 ⟨rfl,hb5⟩
    exact ⟨_,rfl,_,rfl,hb5,rfl,fun h=>absurd h (by decide)⟩
   ·have b8:f.tmps[8]?=some (.int .i64 2):=(hb 8 (by decide)).trans rfl
    clear hb hv hd
    refine wpOp_step rfl fun K hK=>?_
    go_simp
    exact hK _ _ ⟨_,rfl,Below.refl _ _,rfl,fun h=>absurd h (by decide)⟩
   ·have b5:f.tmps[5]?=some (.pointer (some ⟨Q,0,none⟩)):=(hb 5 (by decide)).trans rfl
    have d3:=got (hv 3 50 rfl) (hd 3 (by kernel_rfl))
    clear hb hv hd
    refine wpOp_step rfl fun K hK=>?_
    go_simp
    exact hK _ _ ⟨_,rfl,Below.refl _ _,rfl,fun h=>absurd h (by decide)⟩
   ·have d4:=got (hv 4 51 rfl) (hd 4 (by kernel_rfl))
    clear hb hv hd
    have c:=uc_keep hB (sj_uc s0)
    refine wpOp_step rfl fun K hK=>?_
    go_simp
    exact hK _ _ ⟨_,rfl,Below.refl _ _,rfl,fun h=>absurd h (by decide)⟩
   ·have b9:f.tmps[9]?=some (.int .i64 0):=(hb 9 (by decide)).trans rfl
    clear hb hv hd
    refine wpOp_step rfl fun K hK=>?_
    go_simp
    exact hK _ _ ⟨_,rfl,Below.refl _ _,rfl,fun h=>absurd h (by decide)⟩
   ·have b5:f.tmps[5]?=some (.pointer (some ⟨Q,0,none⟩)):=(hb 5 (by decide)).trans rfl
    have d6:=got (hv 6 53 rfl) (hd 6 (by kernel_rfl))
    clear hb hv hd
    refine wpOp_step rfl fun K hK=>?_
    go_simp
    exact hK _ _ ⟨_,rfl,Below.refl _ _,rfl,fun h=>absurd h (by decide)⟩
   ·have d7:=got (hv 7 54 rfl) (hd 7 (by kernel_rfl))
    clear hb hv hd
    have c:=uc_keep hB (sj_uc s0)
    refine wpOp_step rfl fun K hK=>?_
    go_simp
    exact hK _ _ ⟨_,rfl,Below.refl _ _,rfl,fun h=>absurd h (by decide)⟩
   ·have d5:=got (hv 5 52 rfl) (hd 5 (by kernel_rfl))
    have d8:=got (hv 8 55 rfl) (hd 8 (by kernel_rfl))
    clear hb hv hd
    refine wpOp_call rfl Tryz.call33 (args2 (eval_tmp d5) (eval_tmp d8)) (product_sym (m 5 - f2) (m 0 - f0) ph pl ob2.1 ob2.2 ob0.1 ob0.2 PW.out _) ?_
    rintro e5 w5 ⟨rfl,hb5⟩
    exact ⟨_,rfl,_,rfl,hb5,rfl,fun h=>absurd h (by decide)⟩
   ·have d2:=got (hv 2 49 rfl) (hd 2 (by kernel_rfl))
    have d9:=got (hv 9 56 rfl) (hd 9 (by kernel_rfl))
    clear hb hv hd
    refine wpOp_call rfl Tryz.call31 (args2 (eval_tmp d2) (eval_tmp d9)) (cmp_any sh sl _ ph pl _ SW.out PW.out _) ?_
    rintro e5 w5 ⟨rfl,hb5⟩
    exact ⟨_,rfl,_,rfl,hb5,rfl,fun h=>absurd h (by decide)⟩
   ·have d10:=got (hv 10 57 rfl) (hd 10 (by kernel_rfl))
    clear hb hv hd
    refine wpOp_step rfl fun K hK=>?_
    go_simp
    exact hK _ _ ⟨_,rfl,Below.refl _ _,rfl,fun h=>absurd h (by decide)⟩
  ·intro v w' hB hF hD
   have F0:v 0=_:=hF 0 (by simp)
   have F1:v 1=_:=hF 1 (by simp)
   have F2:v 2=_:=hF 2 (by simp)
   have F3:v 3=_:=hF 3 (by simp)
   have F4:v 4=_:=hF 4 (by simp)
   have F5:v 5=_:=hF 5 (by simp)
   have F6:v 6=_:=hF 6 (by simp)
   have F7:v 7=_:=hF 7 (by simp)
   have F8:v 8=_:=hF 8 (by simp)
   have F9:v 9=_:=hF 9 (by simp)
   have F10:v 10=_:=hF 10 (by simp)
   have F11:v 11=_:=hF 11 (by simp)
   clear hF
   simp only [frOf,frGo,Nat.zero_add,Nat.reduceAdd,F0,F1,F2,F3,F4,F5,F6,F7,F8,F9,F10,F11]
   rw [List.drop_eq_nil_of_le (by simp)]
   refine wpList_end ?_
   simp only [Act.put,List.setIfInBounds_toArray,List.set_cons_zero,List.set_cons_succ]
   replace s0:=sj_keep s0 hB
   clear F0 F1 F2 F3 F4 F5 F6 F7 F8 F9 F10 F11 hD hB PW SW xb
   by_cases c20:m 2*m 2≤(m 5 - f2)*(m 0 - f0)
   rotate_left
   ·have E:=Lib.hid (sndb_no (m:=m) (f0:=f0) (f1:=f1) (f2:=f2) (fun h=>c20 h.2.2.2.2.2.1))
    have hq:=cmp_gt c20
    have B9:=s0.1
    clear s0
    generalize cmp3 (m 2*m 2) ((m 5 - f2)*(m 0 - f0))=q at *
    clear c20
    go_wp2
    go_ret
    exact ⟨by rw [E.out]; rfl,B9⟩
   have hq:=cmp_le c20
   generalize cmp3 (m 2*m 2) ((m 5 - f2)*(m 0 - f0))=q20 at *
   have C20:=Lib.hid c20
   clear c20
   go_wp2
   clear hq
   rw [rounds_succ]
   have cs:=sc_six (sj_sc s0)
   have cp:=sj_pl s0
   go_wp2
   clear cs cp
   obtain ⟨ph,pl,PW⟩:∃ ph pl,Hid (IsW ph pl ((m 5 - f2)*(m 3 - f1))):=⟨_,_,Lib.hid (IsW.mk' (fits_prod (prod_fits ob2.1 ob2.2 ob1.1 ob1.2)))⟩
   have xb:=fit_i64 (CA.out 4 (by decide))
   obtain ⟨sh,sl,SW⟩:∃ sh sl,Hid (IsW sh sl (m 4*m 4)):=⟨_,_,Lib.hid (IsW.mk' (mul_fits xb.1 xb.2 xb.1 xb.2))⟩
   refine region_each [47,48,49,50,51,52,53,54,55,56,57,58] (fun i X_ U_=>match i with | 0=>X_=.int .i64 (m 4) | 1=>X_=.int .i64 (m 4) | 2=>X_=wv sh sl | 3=>X_=.int .i64 2 | 4=>X_=.pointer (some ⟨Q,2,none⟩) | 5=>X_=.int .u64 (m 5 - f2) | 6=>X_=.int .i64 1 | 7=>X_=.pointer (some ⟨Q,1,none⟩) | 8=>X_=.int .u64 (m 3 - f1) | 9=>X_=wv ph pl | 10=>X_=.int .i64 (cmp3 (m 4*m 4) ((m 5 - f2)*(m 3 - f1))) | 11=>X_=.bool (decide (0<cmp3 (m 4*m 4) ((m 5 - f2)*(m 3 - f1)))) | _=>True) (fun i=>false) (by kernel_rfl) (by kernel_rfl) (by kernel_rfl) (by kernel_rfl) (by kernel_rfl) ?_ (fun i x w hi ha h=>by cases ha) ?_ ?_
   ·refine swp (upS (upS (upS (upS (upS (upS (upS (upS (upS (upS (upS (upS up0 ?_) ?_) ?_) ?_) ?_) ?_) ?_) ?_) ?_) ?_) ?_) ?_)
    all_goals exact fun _ _ _ h _=>h
   ·refine upS (upS (upS (upS (upS (upS (upS (upS (upS (upS (upS (upS up0 ?_) ?_) ?_) ?_) ?_) ?_) ?_) ?_) ?_) ?_) ?_) ?_
    all_goals intro v f w' hb hv hB hd
    ·have b10:f.tmps[10]?=some (.int .i64 (m 4)):=(hb 10 (by decide)).trans rfl
     clear hb hv hd
     refine wpOp_step rfl fun K hK=>?_
     go_simp
     exact hK _ _ ⟨_,rfl,Below.refl _ _,rfl,fun h=>absurd h (by decide)⟩
    ·have b10:f.tmps[10]?=some (.int .i64 (m 4)):=(hb 10 (by decide)).trans rfl
     clear hb hv hd
     refine wpOp_step rfl fun K hK=>?_
     go_simp
     exact hK _ _ ⟨_,rfl,Below.refl _ _,rfl,fun h=>absurd h (by decide)⟩
    ·have d0:=got (hv 0 47 rfl) (hd 0 (by kernel_rfl))
     have d1:=got (hv 1 48 rfl) (hd 1 (by kernel_rfl))
     clear hb hv hd
     refine wpOp_call rfl Tryz.call32 (args2 (eval_tmp d0) (eval_tmp d1)) ((mul_any (m 4) (m 4) xb.1 xb.2 xb.1 xb.2 _).mono (fun _ _ r=>retW_det SW.out r)) ?_
     rintro e5 w5 ⟨rfl,hb5⟩
     exact ⟨_,rfl,_,rfl,hb5,rfl,fun h=>absurd h (by decide)⟩
    ·have b8:f.tmps[8]?=some (.int .i64 2):=(hb 8 (by decide)).trans rfl
     clear hb hv hd
     refine wpOp_step rfl fun K hK=>?_
     go_simp
     exact hK _ _ ⟨_,rfl,Below.refl _ _,rfl,fun h=>absurd h (by decide)⟩
    ·have b5:f.tmps[5]?=some (.pointer (some ⟨Q,0,none⟩)):=(hb 5 (by decide)).trans rfl
     have d3:=got (hv 3 50 rfl) (hd 3 (by kernel_rfl))
     clear hb hv hd
     refine wpOp_step rfl fun K hK=>?_
     go_simp
     exact hK _ _ ⟨_,rfl,Below.refl _ _,rfl,fun h=>absurd h (by decide)⟩
    ·have d4:=got (hv 4 51 rfl) (hd 4 (by kernel_rfl))
     clear hb hv hd
     have c:=uc_keep hB (sj_uc s0)
     refine wpOp_step rfl fun K hK=>?_
     go_simp
     exact hK _ _ ⟨_,rfl,Below.refl _ _,rfl,fun h=>absurd h (by decide)⟩
    ·have b9:f.tmps[9]?=some (.int .i64 1):=(hb 9 (by decide)).trans rfl
     clear hb hv hd
     refine wpOp_step rfl fun K hK=>?_
     go_simp
     exact hK _ _ ⟨_,rfl,Below.refl _ _,rfl,fun h=>absurd h (by decide)⟩
    ·have b5:f.tmps[5]?=some (.pointer (some ⟨Q,0,none⟩)):=(hb 5 (by decide)).trans rfl
     have d6:=got (hv 6 53 rfl) (hd 6 (by kernel_rfl))
     clear hb hv hd
     refine wpOp_step rfl fun K hK=>?_
     go_simp
     exact hK _ _ ⟨_,rfl,Below.refl _ _,rfl,fun h=>absurd h (by decide)⟩
    ·have d7:=got (hv 7 54 rfl) (hd 7 (by kernel_rfl))
     clear hb hv hd
     have c:=uc_keep hB (sj_uc s0)
     refine wpOp_step rfl fun K hK=>?_
     go_simp
     exact hK _ _ ⟨_,rfl,Below.refl _ _,rfl,fun h=>absurd h (by decide)⟩
    ·have d5:=got (hv 5 52 rfl) (hd 5 (by kernel_rfl))
     have d8:=got (hv 8 55 rfl) (hd 8 (by kernel_rfl))
     clear hb hv hd
     refine wpOp_call rfl Tryz.call33 (args2 (eval_tmp d5) (eval_tmp d8)) (product_sym (m 5 - f2) (m 3 - f1) ph pl ob2.1 ob2.2 ob1.1 ob1.2 PW.out _) ?_
     rintro e5 w5 ⟨rfl,hb5⟩
     exact ⟨_,rfl,_,rfl,hb5,rfl,fun h=>absurd h (by decide)⟩
    ·have d2:=got (hv 2 49 rfl) (hd 2 (by kernel_rfl))
     have d9:=got (hv 9 56 rfl) (hd 9 (by kernel_rfl))
     clear hb hv hd
     refine wpOp_call rfl Tryz.call31 (args2 (eval_tmp d2) (eval_tmp d9)) (cmp_any sh sl _ ph pl _ SW.out PW.out _) ?_
     rintro e5 w5 ⟨rfl,hb5⟩
     exact ⟨_,rfl,_,rfl,hb5,rfl,fun h=>absurd h (by decide)⟩
    ·have d10:=got (hv 10 57 rfl) (hd 10 (by kernel_rfl))
     clear hb hv hd
     refine wpOp_step rfl fun K hK=>?_
     go_simp
     exact hK _ _ ⟨_,rfl,Below.refl _ _,rfl,fun h=>absurd h (by decide)⟩
   ·intro v w' hB hF hD
    have F0:v 0=_:=hF 0 (by simp)
    have F1:v 1=_:=hF 1 (by simp)
    have F2:v 2=_:=hF 2 (by simp)
    have F3:v 3=_:=hF 3 (by simp)
    have F4:v 4=_:=hF 4 (by simp)
    have F5:v 5=_:=hF 5 (by simp)
    have F6:v 6=_:=hF 6 (by simp)
    have F7:v 7=_:=hF 7 (by simp)
    have F8:v 8=_:=hF 8 (by simp)
    have F9:v 9=_:=hF 9 (by simp)
    have F10:v 10=_:=hF 10 (by simp)
    have F11:v 11=_:=hF 11 (by simp)
    clear hF
    simp only [frOf,frGo,Nat.zero_add,Nat.reduceAdd,F0,F1,F2,F3,F4,F5,F6,F7,F8,F9,F10,F11]
    rw [List.drop_eq_nil_of_le (by simp)]
    refine wpList_end ?_
    simp only [Act.put,List.setIfInBounds_toArray,List.set_cons_zero,List.set_cons_succ]
    replace s0:=sj_keep s0 hB
    clear F0 F1 F2 F3 F4 F5 F6 F7 F8 F9 F10 F11 hD hB PW SW xb
    by_cases c21:m 4*m 4≤(m 5 - f2)*(m 3 - f1)
    rotate_left
    ·have E:=Lib.hid (sndb_no (m:=m) (f0:=f0) (f1:=f1) (f2:=f2) (fun h=>c21 h.2.2.2.2.2.2))
     have hq:=cmp_gt c21
     have B9:=s0.1
     clear s0
     generalize cmp3 (m 4*m 4) ((m 5 - f2)*(m 3 - f1))=q at *
     clear c21
     go_wp2
     go_ret
     exact ⟨by rw [E.out]; rfl,B9⟩
    have hq:=cmp_le c21
    generalize cmp3 (m 4*m 4) ((m 5 - f2)*(m 3 - f1))=q21 at *
    have C21:=Lib.hid c21
    clear c21
    go_wp2
    clear hq
    have B9:=s0.1
    have E:=Lib.hid (sndb_yes (m:=m) (f0:=f0) (f1:=f1) (f2:=f2) ⟨CA.out,c0,c1,c2,C10.out,C20.out,C21.out⟩)
    clear s0
    rw [rounds_succ]
    go_wp2
    rw [rounds_succ]
    go_wp2
    go_ret
    exact ⟨by rw [E.out]; rfl,B9⟩
end Go.Proofs.YthnofhjgfhapiaaGreatDoor

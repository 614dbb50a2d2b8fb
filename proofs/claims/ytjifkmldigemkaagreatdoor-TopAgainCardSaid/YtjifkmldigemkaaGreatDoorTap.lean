import Derived.Defers
import Derived.Tactics
import Derived.Test.YtjifkmldigemkaaGreatDoorTak
import Derived.Test.YtjifkmldigemkaaGreatDoorTag
import Derived.Test.YtjifkmldigemkaaGreatDoorTab
import Derived.RangeFuncNested
import Derived.RangeFuncLeaves
import Derived.RangeFuncCalls
import Derived.Shelf.Abstract
import Derived.WalkKit
import Derived.OwnWalkIn
import Derived.TacticsInMore
import Derived.LoopNIn
import Derived.LoopIn
import Derived.Test.YtjifkmldigemkaaGreatDoorTaf
import Derived.Test.YtjifkmldigemkaaGreatDoorTae
import Derived.Test.YtjifkmldigemkaaGreatDoorTaa
set_option maxHeartbeats 4000000
set_option maxRecDepth 100000
namespace Go.Proofs.YtjifkmldigemkaaGreatDoor
open Go.RowKit Go.Shelf Go.Joins
def mz (x y:Int):Int:=if x<y then y else x
def lz (c m p:Int):Int:=if gd p=true then (if nr c m p=true then mz (al p) (al c) else al p) else 0
def ln (c m n r p:Int):Int:=if gd p=true then (if nr c m p=true then r else n) else 0
theorem nr_bad {c m p:Int} (g:gd p=false):nr c m p=false:=by simp [nr,g]
theorem nr_known {c m p:Int} (h:nr c m p=true):c≠0:=by
 simp [nr] at h
 exact h.1.2
theorem l_bad {c m n r p:Int} (g:gd p=false):lz c m p=0∧ln c m n r p=0:=by simp [lz,ln,g]
theorem l_far {c m n r p:Int} (g:gd p=true) (h:nr c m p=false):lz c m p=al p∧ln c m n r p=n:=by simp [lz,ln,g,h]
theorem l_near {c m n r p:Int} (g:gd p=true) (h:nr c m p=true):lz c m p=mz (al p) (al c)∧ln c m n r p=r:=by simp [lz,ln,g,h]
abbrev lv (h n:Int) (t:Bool):Value:=.agg #[.int .i64 h,.int .i64 n,.bool t]
abbrev LZ (w:World) (b:Nat) (h n:Int) (t:Bool):Prop:=w.heap[b]?=some (.cells #[.int .i64 h,.int .i64 n,.bool t] 198 (0,0))
theorem level_bad (b:Nat) (p:Int) (g:gd p=false) (w:World) (hT:TB w):Calls Tryz.prog 136 #[.pointer (some ⟨b,0,none⟩),.int .i64 p] w (RetV (.tuple #[lv 0 0 false,.int .i64 2]) w):=by
 have ca:=altitude_bad p g
 clear g
 have N0:=heap_alloc_last w (Obj.cells #[.int .i64 0,.int .i64 0,.bool false] 198)
 have E:=b_alloc (o:=Obj.cells #[.int .i64 0,.int .i64 0,.bool false] 198) (Below.refl w.heap.size w)
 replace hT:=tb_keep E hT
 go_enter Tryz.func136,Tryz.ntmps136
 go_wp2_with fail
 refine (ca _).mono ?_
 rintro e y1 ⟨rfl,hb⟩
 replace N0:=row_keep hb N0
 replace E:=b_trans E hb
 clear hb ca hT
 have q0:y1.cell? ⟨w.heap.size,0,none⟩=some (Value.int .i64 0):=(cell_of_row _ _ 0 _ _ _ N0).trans rfl
 have f0:=frozen_of_row y1 w.heap.size 0 _ _ N0
 have q1:y1.cell? ⟨w.heap.size,1,none⟩=some (Value.int .i64 0):=(cell_of_row _ _ 1 _ _ _ N0).trans rfl
 have f1:=frozen_of_row y1 w.heap.size 1 _ _ N0
 have q2:y1.cell? ⟨w.heap.size,2,none⟩=some (Value.bool false):=(cell_of_row _ _ 2 _ _ _ N0).trans rfl
 have f2:=frozen_of_row y1 w.heap.size 2 _ _ N0
 replace E:=Lib.hid (b_set (p:=⟨w.heap.size,2,none⟩) (v:=.bool false) (b_set (p:=⟨w.heap.size,1,none⟩) (v:=.int .i64 0) (b_set (p:=⟨w.heap.size,0,none⟩) (v:=.int .i64 0) E (Nat.le_refl _)) (Nat.le_refl _)) (Nat.le_refl _))
 clear N0
 go_wp2
 exact bodyPost_ret (v:=.tuple #[lv 0 0 false,.int .i64 2]) (by simp [results,Tryz.results136,go_sem,q0,q1,q2]) rfl ⟨rfl,E.out⟩
theorem level_far (b:Nat) (c m n r p a:Int) (w:World) (hT:TB w) (h:GR w b c m n r)
  (ca:∀ w,TB w→Calls Tryz.prog 59 #[.int .i64 p] w (RetV (.tuple #[.int .i64 a,.int .i64 0]) w))
  (cn:∀ w,GR w b c m n r→Calls Tryz.prog 189 #[.pointer (some ⟨b,0,none⟩),.int .i64 p] w (RetV (.bool false) w)):Calls Tryz.prog 136 #[.pointer (some ⟨b,0,none⟩),.int .i64 p] w (RetV (.tuple #[lv a n false,.int .i64 0]) w):=by
 have N0:=heap_alloc_last w (Obj.cells #[.int .i64 0,.int .i64 0,.bool false] 198)
 have E:=b_alloc (o:=Obj.cells #[.int .i64 0,.int .i64 0,.bool false] 198) (Below.refl w.heap.size w)
 replace h:=row_keep E h
 replace hT:=tb_keep E hT
 go_enter Tryz.func136,Tryz.ntmps136
 go_wp2_with fail
 refine (ca _ hT).mono ?_
 rintro e y1 ⟨rfl,hb⟩
 replace N0:=row_keep hb N0
 replace h:=row_keep hb h
 replace E:=b_trans E hb
 clear hb ca hT
 go_wp2_with fail
 refine (cn _ h).mono ?_
 rintro e y2 ⟨rfl,hb⟩
 replace N0:=row_keep hb N0
 replace h:=row_keep hb h
 replace E:=b_trans E hb
 clear hb cn
 have h2:y2.cell? ⟨b,2,none⟩=some (.int .i64 n):=(cell_of_row _ _ 2 _ _ _ h).trans rfl
 clear h
 have q0:y2.cell? ⟨w.heap.size,0,none⟩=some (Value.int .i64 0):=(cell_of_row _ _ 0 _ _ _ N0).trans rfl
 have f0:=frozen_of_row y2 w.heap.size 0 _ _ N0
 have q1:y2.cell? ⟨w.heap.size,1,none⟩=some (Value.int .i64 0):=(cell_of_row _ _ 1 _ _ _ N0).trans rfl
 have f1:=frozen_of_row y2 w.heap.size 1 _ _ N0
 have q2:y2.cell? ⟨w.heap.size,2,none⟩=some (Value.bool false):=(cell_of_row _ _ 2 _ _ _ N0).trans rfl
 have f2:=frozen_of_row y2 w.heap.size 2 _ _ N0
 replace E:=Lib.hid (b_set (p:=⟨w.heap.size,2,none⟩) (v:=.bool false) (b_set (p:=⟨w.heap.size,1,none⟩) (v:=.int .i64 n) (b_set (p:=⟨w.heap.size,0,none⟩) (v:=.int .i64 a) E (Nat.le_refl _)) (Nat.le_refl _)) (Nat.le_refl _))
 clear N0
 go_wp2
 exact bodyPost_ret (v:=.tuple #[lv a n false,.int .i64 0]) (by simp [results,Tryz.results136,go_sem,q0,q1,q2]) rfl ⟨rfl,E.out⟩
theorem level_near (b:Nat) (c m n r p a:Int) (w:World) (hT:TB w) (h:GR w b c m n r)
  (ca:∀ w,TB w→Calls Tryz.prog 59 #[.int .i64 p] w (RetV (.tuple #[.int .i64 a,.int .i64 0]) w))
  (cn:∀ w,GR w b c m n r→Calls Tryz.prog 189 #[.pointer (some ⟨b,0,none⟩),.int .i64 p] w (RetV (.bool true) w)):Calls Tryz.prog 136 #[.pointer (some ⟨b,0,none⟩),.int .i64 p] w (RetV (.tuple #[lv a r true,.int .i64 0]) w):=by
 have N0:=heap_alloc_last w (Obj.cells #[.int .i64 0,.int .i64 0,.bool false] 198)
 have E:=b_alloc (o:=Obj.cells #[.int .i64 0,.int .i64 0,.bool false] 198) (Below.refl w.heap.size w)
 replace h:=row_keep E h
 replace hT:=tb_keep E hT
 go_enter Tryz.func136,Tryz.ntmps136
 go_wp2_with fail
 refine (ca _ hT).mono ?_
 rintro e y1 ⟨rfl,hb⟩
 replace N0:=row_keep hb N0
 replace h:=row_keep hb h
 replace E:=b_trans E hb
 clear hb ca hT
 go_wp2_with fail
 refine (cn _ h).mono ?_
 rintro e y2 ⟨rfl,hb⟩
 replace N0:=row_keep hb N0
 replace h:=row_keep hb h
 replace E:=b_trans E hb
 clear hb cn
 have h2:y2.cell? ⟨b,3,none⟩=some (.int .i64 r):=(cell_of_row _ _ 3 _ _ _ h).trans rfl
 clear h
 have q0:y2.cell? ⟨w.heap.size,0,none⟩=some (Value.int .i64 0):=(cell_of_row _ _ 0 _ _ _ N0).trans rfl
 have f0:=frozen_of_row y2 w.heap.size 0 _ _ N0
 have q1:y2.cell? ⟨w.heap.size,1,none⟩=some (Value.int .i64 0):=(cell_of_row _ _ 1 _ _ _ N0).trans rfl
 have f1:=frozen_of_row y2 w.heap.size 1 _ _ N0
 have q2:y2.cell? ⟨w.heap.size,2,none⟩=some (Value.bool false):=(cell_of_row _ _ 2 _ _ _ N0).trans rfl
 have f2:=frozen_of_row y2 w.heap.size 2 _ _ N0
 replace E:=Lib.hid (b_set (p:=⟨w.heap.size,2,none⟩) (v:=.bool true) (b_set (p:=⟨w.heap.size,1,none⟩) (v:=.int .i64 r) (b_set (p:=⟨w.heap.size,0,none⟩) (v:=.int .i64 a) E (Nat.le_refl _)) (Nat.le_refl _)) (Nat.le_refl _))
 clear N0
 go_wp2
 exact bodyPost_ret (v:=.tuple #[lv a r true,.int .i64 0]) (by simp [results,Tryz.results136,go_sem,q0,q1,q2]) rfl ⟨rfl,E.out⟩
theorem lift_any (b:Nat) (h n c l:Int) (t:Bool) (w:World) (hT:TB w) (hl:LZ w b h n t)
  (ca:∀ w,TB w→Calls Tryz.prog 59 #[.int .i64 c] w (RetV (.tuple #[.int .i64 l,.int .i64 0]) w)):Calls Tryz.prog 135 #[.pointer (some ⟨b,0,none⟩),.int .i64 c] w fun e w'=>e=.returned (.tuple #[])∧∃ y,Below w.heap.size w y∧w'=y.setCell ⟨b,0,none⟩ (.int .i64 (mz h l)):=by
 have hm:(if h<l then l else h)=mz h l:=rfl
 generalize mz h l=x at *
 go_enter Tryz.func135,Tryz.ntmps135
 go_wp2_with fail
 refine (ca _ hT).mono ?_
 rintro e y1 ⟨rfl,hb⟩
 replace hl:=row_keep hb hl
 clear ca hT
 have q0:y1.cell? ⟨b,0,none⟩=some (.int .i64 h):=(cell_of_row _ _ 0 _ _ _ hl).trans rfl
 have f0:=frozen_of_row y1 b 0 _ _ hl
 clear hl
 have HB:=Lib.hid hb
 clear hb
 go_wp2
 go_end0
 exact ⟨rfl,y1,HB.out,rfl⟩
abbrev NV (w:World) (b:Nat):Prop:=w.heap[b]?=some (.cells #[.int .i64 0] 2 (0,0))
abbrev OV (w:World) (b:Nat):Prop:=w.heap[b]?=some (.cells #[.bool false] 4 (0,0))
abbrev PV (w:World) (b g:Nat):Prop:=w.heap[b]?=some (.cells #[.pointer (some ⟨g,0,none⟩)] 78 (0,0))
def Told (b2 b3 b4:Nat) (y:World) (z n:Int) (t:Bool):World:=((y.setCell ⟨b2,0,none⟩ (.int .i64 z)).setCell ⟨b3,0,none⟩ (.int .i64 n)).setCell ⟨b4,0,none⟩ (.bool t)
theorem told_far (b0 b1 b2 b3 b4:Nat) (h n:Int) (w:World) (hl:LZ w b0 h n false) (h2:NV w b2) (h3:NV w b3) (h4:OV w b4) (n2:b2≠b3) (n3:b2≠b4) (n4:b3≠b4):CallsD Tryz.prog 134 #[.pointer (some ⟨b0,0,none⟩),.pointer (some ⟨b1,0,none⟩),.pointer (some ⟨b2,0,none⟩),.pointer (some ⟨b3,0,none⟩),.pointer (some ⟨b4,0,none⟩)] .returning w fun e u' w'=>u'=.returning∧(e=.returned (.tuple #[])∧w'=Told b2 b3 b4 w h n false):=by
 have q0:w.cell? ⟨b0,0,none⟩=some (.int .i64 h):=(cell_of_row _ _ 0 _ _ _ hl).trans rfl
 have q1:w.cell? ⟨b0,1,none⟩=some (.int .i64 n):=(cell_of_row _ _ 1 _ _ _ hl).trans rfl
 have q2:w.cell? ⟨b0,2,none⟩=some (.bool false):=(cell_of_row _ _ 2 _ _ _ hl).trans rfl
 have r2:w.cell? ⟨b2,0,none⟩=some (.int .i64 0):=(cell_of_row _ _ 0 _ _ _ h2).trans rfl
 have r3:w.cell? ⟨b3,0,none⟩=some (.int .i64 0):=(cell_of_row _ _ 0 _ _ _ h3).trans rfl
 have r4:w.cell? ⟨b4,0,none⟩=some (.bool false):=(cell_of_row _ _ 0 _ _ _ h4).trans rfl
 have f2:=frozen_of_row w b2 0 _ _ h2
 have f3:=frozen_of_row w b3 0 _ _ h3
 have f4:=frozen_of_row w b4 0 _ _ h4
 clear hl h2 h3 h4
 unfold Told
 go_enter_d Tryz.func134,Tryz.ntmps134
 go_wp2
 go_end0
 exact ⟨rfl,rfl⟩
theorem told_near (b0 b1 b2 b3 b4 g:Nat) (h n c m k r l z:Int) (hz:mz h l=z) (w:World) (hT:TB w) (hl:LZ w b0 h n true) (h1:PV w b1 g) (h2:NV w b2) (h3:NV w b3) (h4:OV w b4) (hg:GR w g c m k r)
  (m2:b2≠b0) (m3:b3≠b0) (m4:b4≠b0) (n2:b2≠b3) (n3:b2≠b4) (n4:b3≠b4)
  (ca:∀ w,TB w→Calls Tryz.prog 59 #[.int .i64 c] w (RetV (.tuple #[.int .i64 l,.int .i64 0]) w)):CallsD Tryz.prog 134 #[.pointer (some ⟨b0,0,none⟩),.pointer (some ⟨b1,0,none⟩),.pointer (some ⟨b2,0,none⟩),.pointer (some ⟨b3,0,none⟩),.pointer (some ⟨b4,0,none⟩)] .returning w fun e u' w'=>u'=.returning∧(e=.returned (.tuple #[])∧∃ y,Below w.heap.size w y∧w'=Told b2 b3 b4 (y.setCell ⟨b0,0,none⟩ (.int .i64 z)) z n true):=by
 have q0:w.cell? ⟨b0,0,none⟩=some (.int .i64 h):=(cell_of_row _ _ 0 _ _ _ hl).trans rfl
 have q1:w.cell? ⟨b0,1,none⟩=some (.int .i64 n):=(cell_of_row _ _ 1 _ _ _ hl).trans rfl
 have q2:w.cell? ⟨b0,2,none⟩=some (.bool true):=(cell_of_row _ _ 2 _ _ _ hl).trans rfl
 have r1:w.cell? ⟨b1,0,none⟩=some (.pointer (some ⟨g,0,none⟩)):=(cell_of_row _ _ 0 _ _ _ h1).trans rfl
 have rg:w.cell? ⟨g,0,none⟩=some (.int .i64 c):=(cell_of_row _ _ 0 _ _ _ hg).trans rfl
 have CL:=lift_any b0 h n c l true w hT hl ca
 rw [hz] at CL
 have HZ:=Lib.hid hz
 clear hz ca hT h1 hg
 unfold Told
 go_enter_d Tryz.func134,Tryz.ntmps134
 go_wp2_with fail
 refine CL.mono ?_
 rintro e y9 ⟨rfl,y,hb,rfl⟩
 clear CL q0 q1 q2 r1 rg
 replace hl:LZ (y.setCell ⟨b0,0,none⟩ (.int .i64 z)) b0 z n true:=(heap_setCell_same y b0 0 _ _ _ (row_keep hb hl)).trans rfl
 replace h2:NV (y.setCell ⟨b0,0,none⟩ (.int .i64 z)) b2:=but_row but_set m2 (row_keep hb h2)
 replace h3:NV (y.setCell ⟨b0,0,none⟩ (.int .i64 z)) b3:=but_row but_set m3 (row_keep hb h3)
 replace h4:OV (y.setCell ⟨b0,0,none⟩ (.int .i64 z)) b4:=but_row but_set m4 (row_keep hb h4)
 have E:=Lib.hid hb
 clear hb
 obtain ⟨v,hv⟩:∃ v,y.setCell ⟨b0,0,none⟩ (.int .i64 z)=v:=⟨_,rfl⟩
 have HV:=Lib.hid hv
 rw [hv] at hl h2 h3 h4 ⊢
 clear hv
 have q0:v.cell? ⟨b0,0,none⟩=some (.int .i64 z):=(cell_of_row _ _ 0 _ _ _ hl).trans rfl
 have q1:v.cell? ⟨b0,1,none⟩=some (.int .i64 n):=(cell_of_row _ _ 1 _ _ _ hl).trans rfl
 have q2:v.cell? ⟨b0,2,none⟩=some (.bool true):=(cell_of_row _ _ 2 _ _ _ hl).trans rfl
 have r2:v.cell? ⟨b2,0,none⟩=some (.int .i64 0):=(cell_of_row _ _ 0 _ _ _ h2).trans rfl
 have r3:v.cell? ⟨b3,0,none⟩=some (.int .i64 0):=(cell_of_row _ _ 0 _ _ _ h3).trans rfl
 have r4:v.cell? ⟨b4,0,none⟩=some (.bool false):=(cell_of_row _ _ 0 _ _ _ h4).trans rfl
 have f2:=frozen_of_row v b2 0 _ _ h2
 have f3:=frozen_of_row v b3 0 _ _ h3
 have f4:=frozen_of_row v b4 0 _ _ h4
 clear hl h2 h3 h4
 go_wp2
 go_end0
 exact ⟨rfl,y,E.out,by rw [HV.out]⟩
theorem five (w:World) (o0 o1 o2 o3 o4:Obj):(((((w.alloc o0).alloc o1).alloc o2).alloc o3).alloc o4).heap[w.heap.size]?=some o0∧(((((w.alloc o0).alloc o1).alloc o2).alloc o3).alloc o4).heap[w.heap.size+1]?=some o1∧(((((w.alloc o0).alloc o1).alloc o2).alloc o3).alloc o4).heap[w.heap.size+1+1]?=some o2 ∧
  (((((w.alloc o0).alloc o1).alloc o2).alloc o3).alloc o4).heap[w.heap.size+1+1+1]?=some o3∧(((((w.alloc o0).alloc o1).alloc o2).alloc o3).alloc o4).heap[w.heap.size+1+1+1+1]?=some o4∧Below w.heap.size w (((((w.alloc o0).alloc o1).alloc o2).alloc o3).alloc o4):=by
 have s (w:World) (o:Obj):(w.alloc o).heap.size=w.heap.size+1:=by simp
 have k {w:World} {o o':Obj} {i:Nat} (h:w.heap[i]?=some o):(w.alloc o').heap[i]?=some o:=row_keep (b_alloc (Below.refl w.heap.size w)) h
 have e0:=heap_alloc_last w o0
 have e1:=heap_alloc_last (w.alloc o0) o1
 have e2:=heap_alloc_last ((w.alloc o0).alloc o1) o2
 have e3:=heap_alloc_last (((w.alloc o0).alloc o1).alloc o2) o3
 have e4:=heap_alloc_last ((((w.alloc o0).alloc o1).alloc o2).alloc o3) o4
 simp only [s] at e1 e2 e3 e4
 exact ⟨k (k (k (k e0))),k (k (k e1)),k (k e2),k e3,e4,b_alloc (b_alloc (b_alloc (b_alloc (b_alloc (Below.refl _ _)))))⟩
theorem lr_set {w:World} {b:Nat} {h n h' n':Int} {t t':Bool} (H:LZ w b h n t):LZ (((w.setCell ⟨b,0,none⟩ (.int .i64 h')).setCell ⟨b,1,none⟩ (.int .i64 n')).setCell ⟨b,2,none⟩ (.bool t')) b h' n' t':=by
 have h0:LZ (w.setCell ⟨b,0,none⟩ (.int .i64 h')) b h' n t:=(heap_setCell_same w b 0 _ _ _ H).trans rfl
 have h1:LZ ((w.setCell ⟨b,0,none⟩ (.int .i64 h')).setCell ⟨b,1,none⟩ (.int .i64 n')) b h' n' t:=(heap_setCell_same _ b 1 _ _ _ h0).trans rfl
 exact (heap_setCell_same _ b 2 _ _ _ h1).trans rfl
theorem told_cells {b2 b3 b4:Nat} {w:World} {z n:Int} {t:Bool} (h2:NV w b2) (h3:NV w b3) (h4:OV w b4) (n2:b2≠b3) (n3:b2≠b4) (n4:b3≠b4) :
  (Told b2 b3 b4 w z n t).cell? ⟨b2,0,none⟩=some (.int .i64 z)∧(Told b2 b3 b4 w z n t).cell? ⟨b3,0,none⟩=some (.int .i64 n)∧(Told b2 b3 b4 w z n t).cell? ⟨b4,0,none⟩=some (.bool t):=by
 have e2:(w.setCell ⟨b2,0,none⟩ (.int .i64 z)).heap[b2]?=some (.cells #[.int .i64 z] 2 (0,0)):=(heap_setCell_same w b2 0 _ _ _ h2).trans rfl
 have e3:((w.setCell ⟨b2,0,none⟩ (.int .i64 z)).setCell ⟨b3,0,none⟩ (.int .i64 n)).heap[b3]?=some (.cells #[.int .i64 n] 2 (0,0)):=(heap_setCell_same _ b3 0 _ _ _ (but_row but_set (Ne.symm n2) h3)).trans rfl
 have e4:(Told b2 b3 b4 w z n t).heap[b4]?=some (.cells #[.bool t] 4 (0,0)):=(heap_setCell_same _ b4 0 _ _ _ (but_row but_set (Ne.symm n4) (but_row but_set (Ne.symm n3) h4))).trans rfl
 exact ⟨(cell_of_row _ _ 0 _ _ _ (but_row but_set n3 (but_row but_set n2 e2))).trans rfl,(cell_of_row _ _ 0 _ _ _ (but_row but_set n4 e3)).trans rfl,(cell_of_row _ _ 0 _ _ _ e4).trans rfl⟩
theorem told_below {a w:World} {b2 b3 b4:Nat} {z n:Int} {t:Bool} (E:Below a.heap.size a w) (h2:a.heap.size≤b2) (h3:a.heap.size≤b3) (h4:a.heap.size≤b4):Below a.heap.size a (Told b2 b3 b4 w z n t) :=
 b_set (p:=⟨b4,0,none⟩) (b_set (p:=⟨b3,0,none⟩) (b_set (p:=⟨b2,0,none⟩) E h2) h3) h4
theorem Level_bad (b:Nat) (c m k r p:Int) (w:World) (hT:TB w) (h:GR w b c m k r)
  (cl:∀ w,TB w→GR w b c m k r→Calls Tryz.prog 136 #[.pointer (some ⟨b,0,none⟩),.int .i64 p] w (RetV (.tuple #[lv 0 0 false,.int .i64 2]) w)):Calls Tryz.prog 65 #[.pointer (some ⟨b,0,none⟩),.int .i64 p] w (RetV (.tuple #[.int .i64 0,.int .i64 0,.bool false,.int .i64 2]) w):=by
 have hmf:∀ (fn:Fn) (first cap:Array Value) (w:World),(Instr.makeFunc fn first cap).run Tryz.prog w=.ok (.func fn first cap) w:=fun _ _ _ _=>rfl
 have hb0:=tb_lt hT
 have hbb:b<w.heap.size:=(Array.getElem?_eq_some_iff.1 h).1
 obtain ⟨P0,P1,P2,P3,P4,E⟩:=five w (Obj.cells #[.pointer (some ⟨b,0,none⟩)] 78) (Obj.cells #[.int .i64 0] 2) (Obj.cells #[.int .i64 0] 2) (Obj.cells #[.bool false] 4) (Obj.cells #[.int .i64 0,.int .i64 0,.bool false] 198)
 replace hT:=tb_keep E hT
 replace h:=row_keep E h
 have HP:=Lib.hid (And.intro P0 (And.intro P1 (And.intro P2 (And.intro P3 (And.intro P4 E)))))
 clear P0 P1 P2 P3 P4 E
 go_enter_defers Tryz.func65,Tryz.ntmps65
 go_wp2_with fail
 obtain ⟨P0,P1,P2,P3,P4,E⟩:=HP.out
 clear HP
 generalize (((((w.alloc (Obj.cells #[.pointer (some ⟨b,0,none⟩)] 78)).alloc (Obj.cells #[.int .i64 0] 2)).alloc (Obj.cells #[.int .i64 0] 2)).alloc (Obj.cells #[.bool false] 4)).alloc (Obj.cells #[.int .i64 0,.int .i64 0,.bool false] 198))=y0 at *
 refine (cl _ hT h).mono ?_
 rintro e y1 ⟨rfl,hb⟩
 replace P0:=row_keep hb P0
 replace P1:=row_keep hb P1
 replace P2:=row_keep hb P2
 replace P3:=row_keep hb P3
 replace P4:=row_keep hb P4
 replace h:=row_keep hb h
 replace hT:=tb_keep hb hT
 replace E:=b_trans E hb
 clear hb cl
 have q0:y1.cell? ⟨w.heap.size+1+1+1+1,0,none⟩=some (Value.int .i64 0):=(cell_of_row _ _ 0 _ _ _ P4).trans rfl
 have f0:=frozen_of_row y1 (w.heap.size+1+1+1+1) 0 _ _ P4
 have q1:y1.cell? ⟨w.heap.size+1+1+1+1,1,none⟩=some (Value.int .i64 0):=(cell_of_row _ _ 1 _ _ _ P4).trans rfl
 have f1:=frozen_of_row y1 (w.heap.size+1+1+1+1) 1 _ _ P4
 have q2:y1.cell? ⟨w.heap.size+1+1+1+1,2,none⟩=some (Value.bool false):=(cell_of_row _ _ 2 _ _ _ P4).trans rfl
 have f2:=frozen_of_row y1 (w.heap.size+1+1+1+1) 2 _ _ P4
 have B:=(but_trans (but_set (b:=w.heap.size+1+1+1+1) (i:=0) (v:=.int .i64 0) (w:=y1)) (but_trans (but_set (i:=1) (v:=.int .i64 0)) (but_set (i:=2) (v:=.bool false))))
 replace P4:=lr_set (h':=0) (n':=0) (t':=false) P4
 replace P0:=but_row B (by omega) P0
 replace P1:=but_row B (by omega) P1
 replace P2:=but_row B (by omega) P2
 replace P3:=but_row B (by omega) P3
 replace h:=but_row B (by omega) h
 replace hT:=tb_but B (by omega) hT
 replace E:=below_but E (by omega) B
 clear B
 have HP:=Lib.hid (And.intro P0 (And.intro P1 (And.intro P2 (And.intro P3 (And.intro P4 (And.intro h (And.intro hT E)))))))
 clear P0 P1 P2 P3 P4 h hT E
 go_wp2_with fail
 obtain ⟨P0,P1,P2,P3,P4,h,hT,E⟩:=HP.out
 clear HP q0 q1 q2 f0 f1 f2
 generalize ((y1.setCell ⟨w.heap.size+1+1+1+1,0,none⟩ (.int .i64 0)).setCell ⟨w.heap.size+1+1+1+1,1,none⟩ (.int .i64 0)).setCell ⟨w.heap.size+1+1+1+1,2,none⟩ (.bool false)=y2 at *
 refine leaves_cons (f:=134) (args:=#[.pointer (some ⟨w.heap.size+1+1+1+1,0,none⟩),.pointer (some ⟨w.heap.size,0,none⟩),.pointer (some ⟨w.heap.size+1,0,none⟩),.pointer (some ⟨w.heap.size+1+1,0,none⟩),.pointer (some ⟨w.heap.size+1+1+1,0,none⟩)]) (by simp) (by simp [go_sem]) ?_
 refine (told_far (w.heap.size+1+1+1+1) (w.heap.size) (w.heap.size+1) (w.heap.size+1+1) (w.heap.size+1+1+1) 0 0 y2 P4 P1 P2 P3 (by omega) (by omega) (by omega)).mono ?_
 rintro e u' w' ⟨rfl,rfl,rfl⟩
 obtain ⟨c2,c3,c4⟩:=told_cells (z:=0) (n:=0) (t:=false) P1 P2 P3 (by omega) (by omega) (by omega)
 have E9:=told_below (z:=0) (n:=0) (t:=false) (b2:=w.heap.size+1) (b3:=w.heap.size+1+1) (b4:=w.heap.size+1+1+1) E (by omega) (by omega) (by omega)
 generalize Told (w.heap.size+1) (w.heap.size+1+1) (w.heap.size+1+1+1) y2 0 0 false=y4 at *
 exact ⟨.tuple #[.int .i64 0,.int .i64 0,.bool false,.int .i64 2],by simp [results,Tryz.results65,go_sem,c2,c3,c4],rfl,E9⟩
theorem Level_far (b:Nat) (c m k r p a n:Int) (w:World) (hT:TB w) (h:GR w b c m k r)
  (cl:∀ w,TB w→GR w b c m k r→Calls Tryz.prog 136 #[.pointer (some ⟨b,0,none⟩),.int .i64 p] w (RetV (.tuple #[lv a n false,.int .i64 0]) w)):Calls Tryz.prog 65 #[.pointer (some ⟨b,0,none⟩),.int .i64 p] w (RetV (.tuple #[.int .i64 a,.int .i64 n,.bool false,.int .i64 0]) w):=by
 have hmf:∀ (fn:Fn) (first cap:Array Value) (w:World),(Instr.makeFunc fn first cap).run Tryz.prog w=.ok (.func fn first cap) w:=fun _ _ _ _=>rfl
 have hb0:=tb_lt hT
 have hbb:b<w.heap.size:=(Array.getElem?_eq_some_iff.1 h).1
 obtain ⟨P0,P1,P2,P3,P4,E⟩:=five w (Obj.cells #[.pointer (some ⟨b,0,none⟩)] 78) (Obj.cells #[.int .i64 0] 2) (Obj.cells #[.int .i64 0] 2) (Obj.cells #[.bool false] 4) (Obj.cells #[.int .i64 0,.int .i64 0,.bool false] 198)
 replace hT:=tb_keep E hT
 replace h:=row_keep E h
 have HP:=Lib.hid (And.intro P0 (And.intro P1 (And.intro P2 (And.intro P3 (And.intro P4 E)))))
 clear P0 P1 P2 P3 P4 E
 go_enter_defers Tryz.func65,Tryz.ntmps65
 go_wp2_with fail
 obtain ⟨P0,P1,P2,P3,P4,E⟩:=HP.out
 clear HP
 generalize (((((w.alloc (Obj.cells #[.pointer (some ⟨b,0,none⟩)] 78)).alloc (Obj.cells #[.int .i64 0] 2)).alloc (Obj.cells #[.int .i64 0] 2)).alloc (Obj.cells #[.bool false] 4)).alloc (Obj.cells #[.int .i64 0,.int .i64 0,.bool false] 198))=y0 at *
 refine (cl _ hT h).mono ?_
 rintro e y1 ⟨rfl,hb⟩
 replace P0:=row_keep hb P0
 replace P1:=row_keep hb P1
 replace P2:=row_keep hb P2
 replace P3:=row_keep hb P3
 replace P4:=row_keep hb P4
 replace h:=row_keep hb h
 replace hT:=tb_keep hb hT
 replace E:=b_trans E hb
 clear hb cl
 have q0:y1.cell? ⟨w.heap.size+1+1+1+1,0,none⟩=some (Value.int .i64 0):=(cell_of_row _ _ 0 _ _ _ P4).trans rfl
 have f0:=frozen_of_row y1 (w.heap.size+1+1+1+1) 0 _ _ P4
 have q1:y1.cell? ⟨w.heap.size+1+1+1+1,1,none⟩=some (Value.int .i64 0):=(cell_of_row _ _ 1 _ _ _ P4).trans rfl
 have f1:=frozen_of_row y1 (w.heap.size+1+1+1+1) 1 _ _ P4
 have q2:y1.cell? ⟨w.heap.size+1+1+1+1,2,none⟩=some (Value.bool false):=(cell_of_row _ _ 2 _ _ _ P4).trans rfl
 have f2:=frozen_of_row y1 (w.heap.size+1+1+1+1) 2 _ _ P4
 have B:=(but_trans (but_set (b:=w.heap.size+1+1+1+1) (i:=0) (v:=.int .i64 a) (w:=y1)) (but_trans (but_set (i:=1) (v:=.int .i64 n)) (but_set (i:=2) (v:=.bool false))))
 replace P4:=lr_set (h':=a) (n':=n) (t':=false) P4
 replace P0:=but_row B (by omega) P0
 replace P1:=but_row B (by omega) P1
 replace P2:=but_row B (by omega) P2
 replace P3:=but_row B (by omega) P3
 replace h:=but_row B (by omega) h
 replace hT:=tb_but B (by omega) hT
 replace E:=below_but E (by omega) B
 clear B
 have HP:=Lib.hid (And.intro P0 (And.intro P1 (And.intro P2 (And.intro P3 (And.intro P4 (And.intro h (And.intro hT E)))))))
 clear P0 P1 P2 P3 P4 h hT E
 go_wp2_with fail
 obtain ⟨P0,P1,P2,P3,P4,h,hT,E⟩:=HP.out
 clear HP q0 q1 q2 f0 f1 f2
 generalize ((y1.setCell ⟨w.heap.size+1+1+1+1,0,none⟩ (.int .i64 a)).setCell ⟨w.heap.size+1+1+1+1,1,none⟩ (.int .i64 n)).setCell ⟨w.heap.size+1+1+1+1,2,none⟩ (.bool false)=y2 at *
 refine leaves_cons (f:=134) (args:=#[.pointer (some ⟨w.heap.size+1+1+1+1,0,none⟩),.pointer (some ⟨w.heap.size,0,none⟩),.pointer (some ⟨w.heap.size+1,0,none⟩),.pointer (some ⟨w.heap.size+1+1,0,none⟩),.pointer (some ⟨w.heap.size+1+1+1,0,none⟩)]) (by simp) (by simp [go_sem]) ?_
 refine (told_far (w.heap.size+1+1+1+1) (w.heap.size) (w.heap.size+1) (w.heap.size+1+1) (w.heap.size+1+1+1) a n y2 P4 P1 P2 P3 (by omega) (by omega) (by omega)).mono ?_
 rintro e u' w' ⟨rfl,rfl,rfl⟩
 obtain ⟨c2,c3,c4⟩:=told_cells (z:=a) (n:=n) (t:=false) P1 P2 P3 (by omega) (by omega) (by omega)
 have E9:=told_below (z:=a) (n:=n) (t:=false) (b2:=w.heap.size+1) (b3:=w.heap.size+1+1) (b4:=w.heap.size+1+1+1) E (by omega) (by omega) (by omega)
 generalize Told (w.heap.size+1) (w.heap.size+1+1) (w.heap.size+1+1+1) y2 a n false=y4 at *
 exact ⟨.tuple #[.int .i64 a,.int .i64 n,.bool false,.int .i64 0],by simp [results,Tryz.results65,go_sem,c2,c3,c4],rfl,E9⟩
theorem Level_near (b:Nat) (c m k r p a n l z:Int) (w:World) (hT:TB w) (h:GR w b c m k r)
  (cl:∀ w,TB w→GR w b c m k r→Calls Tryz.prog 136 #[.pointer (some ⟨b,0,none⟩),.int .i64 p] w (RetV (.tuple #[lv a n true,.int .i64 0]) w))
  (hz:mz a l=z) (ca:∀ w,TB w→Calls Tryz.prog 59 #[.int .i64 c] w (RetV (.tuple #[.int .i64 l,.int .i64 0]) w)):Calls Tryz.prog 65 #[.pointer (some ⟨b,0,none⟩),.int .i64 p] w (RetV (.tuple #[.int .i64 z,.int .i64 n,.bool true,.int .i64 0]) w):=by
 have hmf:∀ (fn:Fn) (first cap:Array Value) (w:World),(Instr.makeFunc fn first cap).run Tryz.prog w=.ok (.func fn first cap) w:=fun _ _ _ _=>rfl
 have hb0:=tb_lt hT
 have hbb:b<w.heap.size:=(Array.getElem?_eq_some_iff.1 h).1
 obtain ⟨P0,P1,P2,P3,P4,E⟩:=five w (Obj.cells #[.pointer (some ⟨b,0,none⟩)] 78) (Obj.cells #[.int .i64 0] 2) (Obj.cells #[.int .i64 0] 2) (Obj.cells #[.bool false] 4) (Obj.cells #[.int .i64 0,.int .i64 0,.bool false] 198)
 replace hT:=tb_keep E hT
 replace h:=row_keep E h
 have HP:=Lib.hid (And.intro P0 (And.intro P1 (And.intro P2 (And.intro P3 (And.intro P4 E)))))
 clear P0 P1 P2 P3 P4 E
 go_enter_defers Tryz.func65,Tryz.ntmps65
 go_wp2_with fail
 obtain ⟨P0,P1,P2,P3,P4,E⟩:=HP.out
 clear HP
 generalize (((((w.alloc (Obj.cells #[.pointer (some ⟨b,0,none⟩)] 78)).alloc (Obj.cells #[.int .i64 0] 2)).alloc (Obj.cells #[.int .i64 0] 2)).alloc (Obj.cells #[.bool false] 4)).alloc (Obj.cells #[.int .i64 0,.int .i64 0,.bool false] 198))=y0 at *
 refine (cl _ hT h).mono ?_
 rintro e y1 ⟨rfl,hb⟩
 replace P0:=row_keep hb P0
 replace P1:=row_keep hb P1
 replace P2:=row_keep hb P2
 replace P3:=row_keep hb P3
 replace P4:=row_keep hb P4
 replace h:=row_keep hb h
 replace hT:=tb_keep hb hT
 replace E:=b_trans E hb
 clear hb cl
 have q0:y1.cell? ⟨w.heap.size+1+1+1+1,0,none⟩=some (Value.int .i64 0):=(cell_of_row _ _ 0 _ _ _ P4).trans rfl
 have f0:=frozen_of_row y1 (w.heap.size+1+1+1+1) 0 _ _ P4
 have q1:y1.cell? ⟨w.heap.size+1+1+1+1,1,none⟩=some (Value.int .i64 0):=(cell_of_row _ _ 1 _ _ _ P4).trans rfl
 have f1:=frozen_of_row y1 (w.heap.size+1+1+1+1) 1 _ _ P4
 have q2:y1.cell? ⟨w.heap.size+1+1+1+1,2,none⟩=some (Value.bool false):=(cell_of_row _ _ 2 _ _ _ P4).trans rfl
 have f2:=frozen_of_row y1 (w.heap.size+1+1+1+1) 2 _ _ P4
 have B:=(but_trans (but_set (b:=w.heap.size+1+1+1+1) (i:=0) (v:=.int .i64 a) (w:=y1)) (but_trans (but_set (i:=1) (v:=.int .i64 n)) (but_set (i:=2) (v:=.bool true))))
 replace P4:=lr_set (h':=a) (n':=n) (t':=true) P4
 replace P0:=but_row B (by omega) P0
 replace P1:=but_row B (by omega) P1
 replace P2:=but_row B (by omega) P2
 replace P3:=but_row B (by omega) P3
 replace h:=but_row B (by omega) h
 replace hT:=tb_but B (by omega) hT
 replace E:=below_but E (by omega) B
 clear B
 have HP:=Lib.hid (And.intro P0 (And.intro P1 (And.intro P2 (And.intro P3 (And.intro P4 (And.intro h (And.intro hT E)))))))
 clear P0 P1 P2 P3 P4 h hT E
 go_wp2_with fail
 obtain ⟨P0,P1,P2,P3,P4,h,hT,E⟩:=HP.out
 clear HP q0 q1 q2 f0 f1 f2
 generalize ((y1.setCell ⟨w.heap.size+1+1+1+1,0,none⟩ (.int .i64 a)).setCell ⟨w.heap.size+1+1+1+1,1,none⟩ (.int .i64 n)).setCell ⟨w.heap.size+1+1+1+1,2,none⟩ (.bool true)=y2 at *
 refine leaves_cons (f:=134) (args:=#[.pointer (some ⟨w.heap.size+1+1+1+1,0,none⟩),.pointer (some ⟨w.heap.size,0,none⟩),.pointer (some ⟨w.heap.size+1,0,none⟩),.pointer (some ⟨w.heap.size+1+1,0,none⟩),.pointer (some ⟨w.heap.size+1+1+1,0,none⟩)]) (by simp) (by simp [go_sem]) ?_
 refine (told_near (w.heap.size+1+1+1+1) (w.heap.size) (w.heap.size+1) (w.heap.size+1+1) (w.heap.size+1+1+1) b a n c m k r l z hz y2 hT P4 P0 P1 P2 P3 h (by omega) (by omega) (by omega) (by omega) (by omega) (by omega) ca).mono ?_
 rintro e u' w' ⟨rfl,rfl,y3,hb,rfl⟩
 replace E:=b_trans E hb
 have g4:w.heap.size≤w.heap.size+1+1+1+1:=by omega
 replace E:=b_set (p:=⟨w.heap.size+1+1+1+1,0,none⟩) (v:=.int .i64 z) E g4
 replace P1:=but_row (but_set (b:=w.heap.size+1+1+1+1) (i:=0) (v:=.int .i64 z)) (by omega) (row_keep hb P1)
 replace P2:=but_row (but_set (b:=w.heap.size+1+1+1+1) (i:=0) (v:=.int .i64 z)) (by omega) (row_keep hb P2)
 replace P3:=but_row (but_set (b:=w.heap.size+1+1+1+1) (i:=0) (v:=.int .i64 z)) (by omega) (row_keep hb P3)
 clear P0 P4 h hT hb
 generalize y3.setCell ⟨w.heap.size+1+1+1+1,0,none⟩ (.int .i64 z)=y2 at *
 obtain ⟨c2,c3,c4⟩:=told_cells (z:=z) (n:=n) (t:=true) P1 P2 P3 (by omega) (by omega) (by omega)
 have E9:=told_below (z:=z) (n:=n) (t:=true) (b2:=w.heap.size+1) (b3:=w.heap.size+1+1) (b4:=w.heap.size+1+1+1) E (by omega) (by omega) (by omega)
 generalize Told (w.heap.size+1) (w.heap.size+1+1) (w.heap.size+1+1+1) y2 z n true=y4 at *
 exact ⟨.tuple #[.int .i64 z,.int .i64 n,.bool true,.int .i64 0],by simp [results,Tryz.results65,go_sem,c2,c3,c4],rfl,E9⟩
theorem Level_any (b:Nat) (c m n r p:Int) (hc:GK c) (m0:0≤m) (m1:m≤9223372036854775807) (w:World) (hT:TB w) (h:GR w b c m n r):Calls Tryz.prog 65 #[.pointer (some ⟨b,0,none⟩),.int .i64 p] w (RetV (.tuple #[.int .i64 (lz c m p),.int .i64 (ln c m n r p),.bool (nr c m p),.int .i64 (ae p)]) w):=by
 cases g:gd p
 ·rw [(l_bad (c:=c) (m:=m) (n:=n) (r:=r) g).1,(l_bad (c:=c) (m:=m) (n:=n) (r:=r) g).2,nr_bad g,ae_bad g]
  exact Level_bad b c m n r p w hT h (fun w hT _=>level_bad b p g w hT)
 ·have ca:=altitude_ok p g
  rw [ae_ok g]
  have cn:=fun w (h:GR w b c m n r)=>near_any b c m n r p hc m0 m1 w h
  cases k:nr c m p
  ·rw [k] at cn
   rw [(l_far (n:=n) (r:=r) g k).1,(l_far (n:=n) (r:=r) g k).2]
   exact Level_far b c m n r p (al p) n w hT h (fun w hT h=>level_far b c m n r p (al p) w hT h ca cn)
  ·rw [k] at cn
   rw [(l_near (n:=n) (r:=r) g k).1,(l_near (n:=n) (r:=r) g k).2]
   exact Level_near b c m n r p (al p) r (al c) _ w hT h (fun w hT h=>level_near b c m n r p (al p) w hT h ca cn) rfl (altitude_ok c (gk_good hc (nr_known k)))
end Go.Proofs.YtjifkmldigemkaaGreatDoor
namespace Go.Proofs.YtjifkmldigemkaaGreatDoor
open Go.RowKit Go.Shelf
attribute [local go_sem] Oper.semAt_some
structure TI (n:Nat) (W:World) (P I J:Nat) (m:Nat→Int) (i j:Nat):Prop where
 bP:P<n
 bI:I<n
 bJ:J<n
 b1:2<n
 b0:0<n
 sc:SC W P m
 ci:W.cell? ⟨I,0,none⟩=some (.int .i64 i)
 cj:W.cell? ⟨J,0,none⟩=some (.int .i64 j)
 ml:ML W
 pl:PL W
theorem ti_below {n:Nat} {W W':World} {P I J:Nat} {m:Nat→Int} {i j:Nat} (h:TI n W P I J m i j) (hb:Below n W W'):TI n W' P I J m i j:=by
 obtain ⟨bP,bI,bJ,b1,b0,sc,ci,cj,ml,p0,p1,p2,p3,p4,p5,p6,p7,p8⟩:=h
 exact ⟨bP,bI,bJ,b1,b0,fun k hk=>(hb.cell (p:=⟨P,k,none⟩) bP).trans (sc k hk),(hb.cell (p:=⟨I,0,none⟩) bI).trans ci,(hb.cell (p:=⟨J,0,none⟩) bJ).trans cj,
  fun a ha c hc=>(hb.cell (p:=⟨2,a*3+c,none⟩) b1).trans (ml a ha c hc),(hb.cell (p:=⟨0,0,none⟩) b0).trans p0,(hb.cell (p:=⟨0,1,none⟩) b0).trans p1,(hb.cell (p:=⟨0,2,none⟩) b0).trans p2,(hb.cell (p:=⟨0,3,none⟩) b0).trans p3,
  (hb.cell (p:=⟨0,4,none⟩) b0).trans p4,(hb.cell (p:=⟨0,5,none⟩) b0).trans p5,(hb.cell (p:=⟨0,6,none⟩) b0).trans p6,(hb.cell (p:=⟨0,7,none⟩) b0).trans p7,(hb.cell (p:=⟨0,8,none⟩) b0).trans p8⟩
theorem iter_in (n:Nat) (hn:1≤n) (l n₀ P I J:Nat) (m:Nat→Int) (i j:Nat) (hm:F6 m) (hi:i<3) (hj:j<3) (J1 Jx:List Nat→World→Prop) (W:World) (hA:AbidesFrom W.heap.size J1) (hn₀:n₀≤W.heap.size)
  (hY:∀ pre x W,J1 pre W→pre.length<9→YieldAt Fence.wide (n - 1) Tryz.prog l #[wof (tmn m i j x)] W fun e W' =>
   (e=.returned (.bool true)∧J1 (pre ++ [x]) W'∧Below n₀ W W')∨(e=.returned (.bool false)∧Jx (pre ++ [x]) W'))
  (hT:TI n₀ W P I J m i j) (h0:J1 [] W) :
  CallsIn Fence.wide n Tryz.prog 214 #[.func (.yield l) #[] #[],.pointer (some ⟨I,0,none⟩),.pointer (some ⟨J,0,none⟩),.pointer (some ⟨P,0,none⟩)] W fun e W'=>(∃ v,e=.returned v) ∧
   ((∃ ys,ys=List.range 9∧J1 ys W')∨(∃ pre,(∃ k,k≤9∧pre=List.range k)∧Jx pre W')):=by
 refine callsIn_of_wp Tryz.func214 rfl trivial ?_ rfl
 simp only [Tryz.ntmps214,List.size_toArray,List.length_cons,List.length_nil,Nat.reduceAdd,Nat.reduceSub,Array.replicate_succ,Array.replicate_zero,List.push_toArray,List.append_toArray,List.nil_append,List.cons_append]
 have ci:=hT.ci
 have r0:W.cell? ⟨2,i*3,none⟩=some (.int .i64 (mvn i 0)):=hT.ml i hi 0 (by decide)
 have r1:=hT.ml i hi 1 (by decide)
 have r2:=hT.ml i hi 2 (by decide)
 have q0:(0:Int)≤(i:Int):=by omega
 have q3:(i:Int)<3:=by omega
 gi_wp2
 clear ci r0 r1 r2
 gi_loopw [14] (fun av wr=>∃ a:Nat,a≤3∧av=.int .i64 a∧J1 (List.range (3*a)) wr∧Below n₀ W wr∧W.heap.size≤wr.heap.size) (fun av _=>3 - (intOf av).toNat)
 case atStart=>exact ⟨0,by decide,rfl,h0,Below.refl _ _,Nat.le_refl _⟩
 case round =>
  obtain ⟨a,ha,rfl,hJ,hb,hs⟩:=hrel
  by_cases c:a<3
  ·have x1:=ix_row (mvn i) c
   have c3:(a:Int)<3:=by omega
   have tU:=ti_below hT hb
   have cj:=tU.cj
   have r0:wr.cell? ⟨2,j*3,none⟩=some (.int .i64 (mvn j 0)):=tU.ml j hj 0 (by decide)
   have r1:=tU.ml j hj 1 (by decide)
   have r2:=tU.ml j hj 2 (by decide)
   have p0:(0:Int)≤(j:Int):=by omega
   have p3:(j:Int)<3:=by omega
   gi_wp2
   clear cj r0 r1 r2 x1 tU
   gi_loopw [21] (fun bv wr'=>∃ b:Nat,b≤3∧bv=.int .i64 b∧J1 (List.range (3*a+b)) wr'∧Below n₀ W wr'∧W.heap.size≤wr'.heap.size) (fun bv _=>3 - (intOf bv).toNat)
   case atStart=>exact ⟨0,by decide,rfl,hJ,hb,hs⟩
   case round =>
    obtain ⟨b,hb3,rfl,hJ2,hb2,hs2⟩:=hrel
    by_cases d:b<3
    ·have x2:=ix_row (mvn j) d
     have d3:(b:Int)<3:=by omega
     have tU:=ti_below hT hb2
     have l6:=sc_six tU.sc
     have AT:=Lib.hid (pln_at c d)
     have e2:=tmn_eq m i j a b d
     have k2:=tmn_bd hm i j (3*a+b)
     have ml:I64 (m (pln a b)):=by have:=hm _ (pln_lt a b); exact ⟨by omega,by omega⟩
     have lb:-1073741824≤mvn i a*mvn j b∧mvn i a*mvn j b≤1073741824:=by
      have h1:=mvn_bd i a
      have h2:=mvn_bd j b
      have:=abs_mul (x:=mvn i a) (y:=mvn j b) (A:=32768) (B:=32768) (by omega) (by omega)
      exact ⟨by omega,by omega⟩
     obtain ⟨lr,hlr⟩:∃ lr,mvn i a*mvn j b=lr:=⟨_,rfl⟩
     rw [hlr] at e2 lb
     have wr1:IntKind.i64.wrap lr=lr:=by rw [IntKind.wrap_i64]; omega
     have cM:∀ w,Calls Tryz.prog 126 #[.int .i64 lr,.int .i64 (m (pln a b))] w (RetV (wof (tmn m i j (3*a+b))) w):=fun w=>by
      have h:=mul_any lr (m (pln a b)) (by omega) (by omega) ml.1 ml.2 w
      rw [← e2] at h
      exact h.mono fun _ _=>retW_det (IsW.mk' ⟨by omega,by omega⟩)
     replace e2:=Lib.hid e2
     clear k2 lb ml
     gi_wp2_with fail
     refine ⟨trivial,(callsIn_wide.2 (at_ok m a b (pln a b) AT.out _ tU.pl)).mono ?_⟩
     rintro e w1 ⟨rfl,hb9⟩
     have hJ3:=hA _ _ _ none hJ2 (grown_of hb9) (fun r e=>by cases e)
     have hb3':=hb2.trans (hb9.mono (by omega:n₀≤wr.heap.size))
     have hs3:=Nat.le_trans hs2 hb9.size
     clear hb9 x2 tU l6 AT
     gi_wp2_with fail
     refine ⟨trivial,(callsIn_wide.2 (cM _)).mono ?_⟩
     rintro e w2 ⟨rfl,hb9⟩
     have hJ4:=hA _ _ _ none hJ3 (grown_of hb9) (fun r e=>by cases e)
     have hb4:=hb3'.trans (hb9.mono (by omega:n₀≤w1.heap.size))
     have hs4:=Nat.le_trans hs3 hb9.size
     clear hb9 wr1 cM hJ2 hb2 hs2 hJ3 hb3' hs3
     obtain ⟨fn,tmps,assign,body,hy,hR⟩:=hY _ (3*a+b) w2 hJ4 (by simp; omega)
     clear hJ4
     gi_wp2
     refine hR.mono ?_
     rintro e W3 (⟨rfl,hJ5,hk5⟩ | ⟨rfl,hJx5⟩)
     ·gi_wp2
      go_roundw
      case rel=>exact ⟨b+1,by omega,by simp,by rw [show 3*a+(b+1)=3*a+b+1 by omega,List.range_succ]; exact hJ5,hb4.trans hk5,Nat.le_trans hs4 (hk5.size)⟩
      case measure=>simp [intOf]; omega
     ·gi_wp2
      refine bodyPost_ret (results_none rfl _ _ _) rfl ?_
      exact ⟨⟨_,rfl⟩,.inr ⟨_,⟨3*a+b+1,by omega,(List.range_succ).symm⟩,hJx5⟩⟩
    ·obtain rfl:b=3:=by omega
     gi_wp2
     go_roundw
     case rel=>exact ⟨a+1,by omega,by simp,by rw [show 3*(a+1)=3*a+3 by omega]; exact hJ2,hb2,hs2⟩
     case measure=>simp [intOf]; omega
  ·obtain rfl:a=3:=by omega
   gi_wp2
   go_end0
   exact ⟨⟨_,rfl⟩,.inl ⟨_,rfl,hJ⟩⟩
end Go.Proofs.YtjifkmldigemkaaGreatDoor

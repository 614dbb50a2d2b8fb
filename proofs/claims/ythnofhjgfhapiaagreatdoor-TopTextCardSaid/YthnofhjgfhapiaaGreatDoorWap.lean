import Derived.Defers
import Derived.Tactics
import Derived.Test.YthnofhjgfhapiaaGreatDoorWan
import Derived.Test.YthnofhjgfhapiaaGreatDoorWai
import Derived.Test.YthnofhjgfhapiaaGreatDoorWaa
import Derived.Test.YthnofhjgfhapiaaGreatDoorWag
import Derived.Test.YthnofhjgfhapiaaGreatDoorWad
import Derived.Test.YthnofhjgfhapiaaGreatDoorWae
import Derived.Test.YthnofhjgfhapiaaGreatDoorWat
import Derived.Test.YthnofhjgfhapiaaGreatDoorWab
set_option maxHeartbeats 4000000
set_option maxRecDepth 10000
namespace Go.Proofs.YthnofhjgfhapiaaGreatDoor
open Go.RowKit Go.Shelf Go.Joins
def mz (x y:Int):Int:=if x<y then y else x
def lz (c m p:Int):Int:=if gd p=true then (if nr c m p=true then mz (al p) (al c) else al p) else 0
def ln (c m n r p:Int):Int:=if gd p=true then (if nr c m p=true then r else n) else 0
theorem nr_bad {c m p:Int} (g:gd p=false):nr c m p=false:=by simp [nr,g]
theorem nr_known {c m p:Int} (h:nr c m p=true):c≠0:=by
 simp [nr] at h
 exact h.1.2
theorem l_bad {c m n r p:Int} (g:gd p=false):lz c m p=0∧ln c m n r p=0:=by simp [lz,ln,g]
theorem l_far {c m n r p:Int} (g:gd p=true) (h:nr c m p=false):lz c m p=al p∧ln c m n r p=n:=by simp [lz,ln,g,h]
theorem l_near {c m n r p:Int} (g:gd p=true) (h:nr c m p=true):lz c m p=mz (al p) (al c)∧ln c m n r p=r:=by simp [lz,ln,g,h]
abbrev lv (h n:Int) (t:Bool):Value:=.agg #[.int .i64 h,.int .i64 n,.bool t]
abbrev LZ (w:World) (b:Nat) (h n:Int) (t:Bool):Prop:=w.heap[b]?=some (.cells #[.int .i64 h,.int .i64 n,.bool t] 163 (0,0))
theorem level_bad (b:Nat) (p:Int) (g:gd p=false) (w:World) (hT:TB w):Calls Tryz.prog 103 #[.pointer (some ⟨b,0,none⟩),.int .i64 p] w (RetV (.tuple #[lv 0 0 false,.int .i64 2]) w):=by
 have ca:=altitude_bad p g
 clear g
 have N0:=heap_alloc_last w (Obj.cells #[.int .i64 0,.int .i64 0,.bool false] 163)
 have E:=b_alloc (o:=Obj.cells #[.int .i64 0,.int .i64 0,.bool false] 163) (Below.refl w.heap.size w)
 replace hT:=tb_keep E hT
 go_enter Tryz.func103,Tryz.ntmps103
 go_wp2_with fail
 refine (ca _).mono ?_
 rintro e y1 ⟨rfl,hb⟩
 replace N0:=row_keep hb N0
 replace E:=b_trans E hb
 clear hb ca hT
 have q0:y1.cell? ⟨w.heap.size,0,none⟩=some (Value.int .i64 0):=(cell_of_row _ _ 0 _ _ _ N0).trans rfl
 have f0:=frozen_of_row y1 w.heap.size 0 _ _ N0
 have q1:y1.cell? ⟨w.heap.size,1,none⟩=some (Value.int .i64 0):=(cell_of_row _ _ 1 _ _ _ N0).trans rfl
 have f1:=frozen_of_row y1 w.heap.size 1 _ _ N0
 have q2:y1.cell? ⟨w.heap.size,2,none⟩=some (Value.bool false):=(cell_of_row _ _ 2 _ _ _ N0).trans rfl
 have f2:=frozen_of_row y1 w.heap.size 2 _ _ N0
 replace E:=Lib.hid (b_set (p:=⟨w.heap.size,2,none⟩) (v:=.bool false) (b_set (p:=⟨w.heap.size,1,none⟩) (v:=.int .i64 0) (b_set (p:=⟨w.heap.size,0,none⟩) (v:=.int .i64 0) E (Nat.le_refl _)) (Nat.le_refl _)) (Nat.le_refl _))
 clear N0
 go_wp2
 exact bodyPost_ret (v:=.tuple #[lv 0 0 false,.int .i64 2]) (by simp [results,Tryz.results103,go_sem,q0,q1,q2]) rfl ⟨rfl,E.out⟩
theorem level_far (b:Nat) (c m n r p a:Int) (w:World) (hT:TB w) (h:GR w b c m n r)
  (ca:∀ w,TB w→Calls Tryz.prog 65 #[.int .i64 p] w (RetV (.tuple #[.int .i64 a,.int .i64 0]) w))
  (cn:∀ w,GR w b c m n r→Calls Tryz.prog 138 #[.pointer (some ⟨b,0,none⟩),.int .i64 p] w (RetV (.bool false) w)):Calls Tryz.prog 103 #[.pointer (some ⟨b,0,none⟩),.int .i64 p] w (RetV (.tuple #[lv a n false,.int .i64 0]) w):=by
 have N0:=heap_alloc_last w (Obj.cells #[.int .i64 0,.int .i64 0,.bool false] 163)
 have E:=b_alloc (o:=Obj.cells #[.int .i64 0,.int .i64 0,.bool false] 163) (Below.refl w.heap.size w)
 replace h:=row_keep E h
 replace hT:=tb_keep E hT
 go_enter Tryz.func103,Tryz.ntmps103
 go_wp2_with fail
 refine (ca _ hT).mono ?_
 rintro e y1 ⟨rfl,hb⟩
 replace N0:=row_keep hb N0
 replace h:=row_keep hb h
 replace E:=b_trans E hb
 clear hb ca hT
 go_wp2_with fail
 refine (cn _ h).mono ?_
 rintro e y2 ⟨rfl,hb⟩
 replace N0:=row_keep hb N0
 replace h:=row_keep hb h
 replace E:=b_trans E hb
 clear hb cn
 have h2:y2.cell? ⟨b,2,none⟩=some (.int .i64 n):=(cell_of_row _ _ 2 _ _ _ h).trans rfl
 clear h
 have q0:y2.cell? ⟨w.heap.size,0,none⟩=some (Value.int .i64 0):=(cell_of_row _ _ 0 _ _ _ N0).trans rfl
 have f0:=frozen_of_row y2 w.heap.size 0 _ _ N0
 have q1:y2.cell? ⟨w.heap.size,1,none⟩=some (Value.int .i64 0):=(cell_of_row _ _ 1 _ _ _ N0).trans rfl
 have f1:=frozen_of_row y2 w.heap.size 1 _ _ N0
 have q2:y2.cell? ⟨w.heap.size,2,none⟩=some (Value.bool false):=(cell_of_row _ _ 2 _ _ _ N0).trans rfl
 have f2:=frozen_of_row y2 w.heap.size 2 _ _ N0
 replace E:=Lib.hid (b_set (p:=⟨w.heap.size,2,none⟩) (v:=.bool false) (b_set (p:=⟨w.heap.size,1,none⟩) (v:=.int .i64 n) (b_set (p:=⟨w.heap.size,0,none⟩) (v:=.int .i64 a) E (Nat.le_refl _)) (Nat.le_refl _)) (Nat.le_refl _))
 clear N0
 go_wp2
 exact bodyPost_ret (v:=.tuple #[lv a n false,.int .i64 0]) (by simp [results,Tryz.results103,go_sem,q0,q1,q2]) rfl ⟨rfl,E.out⟩
theorem level_near (b:Nat) (c m n r p a:Int) (w:World) (hT:TB w) (h:GR w b c m n r)
  (ca:∀ w,TB w→Calls Tryz.prog 65 #[.int .i64 p] w (RetV (.tuple #[.int .i64 a,.int .i64 0]) w))
  (cn:∀ w,GR w b c m n r→Calls Tryz.prog 138 #[.pointer (some ⟨b,0,none⟩),.int .i64 p] w (RetV (.bool true) w)):Calls Tryz.prog 103 #[.pointer (some ⟨b,0,none⟩),.int .i64 p] w (RetV (.tuple #[lv a r true,.int .i64 0]) w):=by
 have N0:=heap_alloc_last w (Obj.cells #[.int .i64 0,.int .i64 0,.bool false] 163)
 have E:=b_alloc (o:=Obj.cells #[.int .i64 0,.int .i64 0,.bool false] 163) (Below.refl w.heap.size w)
 replace h:=row_keep E h
 replace hT:=tb_keep E hT
 go_enter Tryz.func103,Tryz.ntmps103
 go_wp2_with fail
 refine (ca _ hT).mono ?_
 rintro e y1 ⟨rfl,hb⟩
 replace N0:=row_keep hb N0
 replace h:=row_keep hb h
 replace E:=b_trans E hb
 clear hb ca hT
 go_wp2_with fail
 refine (cn _ h).mono ?_
 rintro e y2 ⟨rfl,hb⟩
 replace N0:=row_keep hb N0
 replace h:=row_keep hb h
 replace E:=b_trans E hb
 clear hb cn
 have h2:y2.cell? ⟨b,3,none⟩=some (.int .i64 r):=(cell_of_row _ _ 3 _ _ _ h).trans rfl
 clear h
 have q0:y2.cell? ⟨w.heap.size,0,none⟩=some (Value.int .i64 0):=(cell_of_row _ _ 0 _ _ _ N0).trans rfl
 have f0:=frozen_of_row y2 w.heap.size 0 _ _ N0
 have q1:y2.cell? ⟨w.heap.size,1,none⟩=some (Value.int .i64 0):=(cell_of_row _ _ 1 _ _ _ N0).trans rfl
 have f1:=frozen_of_row y2 w.heap.size 1 _ _ N0
 have q2:y2.cell? ⟨w.heap.size,2,none⟩=some (Value.bool false):=(cell_of_row _ _ 2 _ _ _ N0).trans rfl
 have f2:=frozen_of_row y2 w.heap.size 2 _ _ N0
 replace E:=Lib.hid (b_set (p:=⟨w.heap.size,2,none⟩) (v:=.bool true) (b_set (p:=⟨w.heap.size,1,none⟩) (v:=.int .i64 r) (b_set (p:=⟨w.heap.size,0,none⟩) (v:=.int .i64 a) E (Nat.le_refl _)) (Nat.le_refl _)) (Nat.le_refl _))
 clear N0
 go_wp2
 exact bodyPost_ret (v:=.tuple #[lv a r true,.int .i64 0]) (by simp [results,Tryz.results103,go_sem,q0,q1,q2]) rfl ⟨rfl,E.out⟩
theorem lift_any (b:Nat) (h n c l:Int) (t:Bool) (w:World) (hT:TB w) (hl:LZ w b h n t)
  (ca:∀ w,TB w→Calls Tryz.prog 65 #[.int .i64 c] w (RetV (.tuple #[.int .i64 l,.int .i64 0]) w)):Calls Tryz.prog 102 #[.pointer (some ⟨b,0,none⟩),.int .i64 c] w fun e w'=>e=.returned (.tuple #[])∧∃ y,Below w.heap.size w y∧w'=y.setCell ⟨b,0,none⟩ (.int .i64 (mz h l)):=by
 have hm:(if h<l then l else h)=mz h l:=rfl
 generalize mz h l=x at *
 go_enter Tryz.func102,Tryz.ntmps102
 go_wp2_with fail
 refine (ca _ hT).mono ?_
 rintro e y1 ⟨rfl,hb⟩
 replace hl:=row_keep hb hl
 clear ca hT
 have q0:y1.cell? ⟨b,0,none⟩=some (.int .i64 h):=(cell_of_row _ _ 0 _ _ _ hl).trans rfl
 have f0:=frozen_of_row y1 b 0 _ _ hl
 clear hl
 have HB:=Lib.hid hb
 clear hb
 go_wp2
 go_end0
 exact ⟨rfl,y1,HB.out,rfl⟩
abbrev NV (w:World) (b:Nat):Prop:=w.heap[b]?=some (.cells #[.int .i64 0] 2 (0,0))
abbrev OV (w:World) (b:Nat):Prop:=w.heap[b]?=some (.cells #[.bool false] 4 (0,0))
abbrev PV (w:World) (b g:Nat):Prop:=w.heap[b]?=some (.cells #[.pointer (some ⟨g,0,none⟩)] 55 (0,0))
def Told (b2 b3 b4:Nat) (y:World) (z n:Int) (t:Bool):World:=((y.setCell ⟨b2,0,none⟩ (.int .i64 z)).setCell ⟨b3,0,none⟩ (.int .i64 n)).setCell ⟨b4,0,none⟩ (.bool t)
theorem told_far (b0 b1 b2 b3 b4:Nat) (h n:Int) (w:World) (hl:LZ w b0 h n false) (h2:NV w b2) (h3:NV w b3) (h4:OV w b4) (n2:b2≠b3) (n3:b2≠b4) (n4:b3≠b4):CallsD Tryz.prog 101 #[.pointer (some ⟨b0,0,none⟩),.pointer (some ⟨b1,0,none⟩),.pointer (some ⟨b2,0,none⟩),.pointer (some ⟨b3,0,none⟩),.pointer (some ⟨b4,0,none⟩)] .returning w fun e u' w'=>u'=.returning∧(e=.returned (.tuple #[])∧w'=Told b2 b3 b4 w h n false):=by
 have q0:w.cell? ⟨b0,0,none⟩=some (.int .i64 h):=(cell_of_row _ _ 0 _ _ _ hl).trans rfl
 have q1:w.cell? ⟨b0,1,none⟩=some (.int .i64 n):=(cell_of_row _ _ 1 _ _ _ hl).trans rfl
 have q2:w.cell? ⟨b0,2,none⟩=some (.bool false):=(cell_of_row _ _ 2 _ _ _ hl).trans rfl
 have r2:w.cell? ⟨b2,0,none⟩=some (.int .i64 0):=(cell_of_row _ _ 0 _ _ _ h2).trans rfl
 have r3:w.cell? ⟨b3,0,none⟩=some (.int .i64 0):=(cell_of_row _ _ 0 _ _ _ h3).trans rfl
 have r4:w.cell? ⟨b4,0,none⟩=some (.bool false):=(cell_of_row _ _ 0 _ _ _ h4).trans rfl
 have f2:=frozen_of_row w b2 0 _ _ h2
 have f3:=frozen_of_row w b3 0 _ _ h3
 have f4:=frozen_of_row w b4 0 _ _ h4
 clear hl h2 h3 h4
 unfold Told
 go_enter_d Tryz.func101,Tryz.ntmps101
 go_wp2
 go_end0
 exact ⟨rfl,rfl⟩
theorem told_near (b0 b1 b2 b3 b4 g:Nat) (h n c m k r l z:Int) (hz:mz h l=z) (w:World) (hT:TB w) (hl:LZ w b0 h n true) (h1:PV w b1 g) (h2:NV w b2) (h3:NV w b3) (h4:OV w b4) (hg:GR w g c m k r)
  (m2:b2≠b0) (m3:b3≠b0) (m4:b4≠b0) (n2:b2≠b3) (n3:b2≠b4) (n4:b3≠b4)
  (ca:∀ w,TB w→Calls Tryz.prog 65 #[.int .i64 c] w (RetV (.tuple #[.int .i64 l,.int .i64 0]) w)):CallsD Tryz.prog 101 #[.pointer (some ⟨b0,0,none⟩),.pointer (some ⟨b1,0,none⟩),.pointer (some ⟨b2,0,none⟩),.pointer (some ⟨b3,0,none⟩),.pointer (some ⟨b4,0,none⟩)] .returning w fun e u' w'=>u'=.returning∧(e=.returned (.tuple #[])∧∃ y,Below w.heap.size w y∧w'=Told b2 b3 b4 (y.setCell ⟨b0,0,none⟩ (.int .i64 z)) z n true):=by
 have q0:w.cell? ⟨b0,0,none⟩=some (.int .i64 h):=(cell_of_row _ _ 0 _ _ _ hl).trans rfl
 have q1:w.cell? ⟨b0,1,none⟩=some (.int .i64 n):=(cell_of_row _ _ 1 _ _ _ hl).trans rfl
 have q2:w.cell? ⟨b0,2,none⟩=some (.bool true):=(cell_of_row _ _ 2 _ _ _ hl).trans rfl
 have r1:w.cell? ⟨b1,0,none⟩=some (.pointer (some ⟨g,0,none⟩)):=(cell_of_row _ _ 0 _ _ _ h1).trans rfl
 have rg:w.cell? ⟨g,0,none⟩=some (.int .i64 c):=(cell_of_row _ _ 0 _ _ _ hg).trans rfl
 have CL:=lift_any b0 h n c l true w hT hl ca
 rw [hz] at CL
 have HZ:=Lib.hid hz
 clear hz ca hT h1 hg
 unfold Told
 go_enter_d Tryz.func101,Tryz.ntmps101
 go_wp2_with fail
 refine CL.mono ?_
 rintro e y9 ⟨rfl,y,hb,rfl⟩
 clear CL q0 q1 q2 r1 rg
 replace hl:LZ (y.setCell ⟨b0,0,none⟩ (.int .i64 z)) b0 z n true:=(heap_setCell_same y b0 0 _ _ _ (row_keep hb hl)).trans rfl
 replace h2:NV (y.setCell ⟨b0,0,none⟩ (.int .i64 z)) b2:=but_row but_set m2 (row_keep hb h2)
 replace h3:NV (y.setCell ⟨b0,0,none⟩ (.int .i64 z)) b3:=but_row but_set m3 (row_keep hb h3)
 replace h4:OV (y.setCell ⟨b0,0,none⟩ (.int .i64 z)) b4:=but_row but_set m4 (row_keep hb h4)
 have E:=Lib.hid hb
 clear hb
 obtain ⟨v,hv⟩:∃ v,y.setCell ⟨b0,0,none⟩ (.int .i64 z)=v:=⟨_,rfl⟩
 have HV:=Lib.hid hv
 rw [hv] at hl h2 h3 h4 ⊢
 clear hv
 have q0:v.cell? ⟨b0,0,none⟩=some (.int .i64 z):=(cell_of_row _ _ 0 _ _ _ hl).trans rfl
 have q1:v.cell? ⟨b0,1,none⟩=some (.int .i64 n):=(cell_of_row _ _ 1 _ _ _ hl).trans rfl
 have q2:v.cell? ⟨b0,2,none⟩=some (.bool true):=(cell_of_row _ _ 2 _ _ _ hl).trans rfl
 have r2:v.cell? ⟨b2,0,none⟩=some (.int .i64 0):=(cell_of_row _ _ 0 _ _ _ h2).trans rfl
 have r3:v.cell? ⟨b3,0,none⟩=some (.int .i64 0):=(cell_of_row _ _ 0 _ _ _ h3).trans rfl
 have r4:v.cell? ⟨b4,0,none⟩=some (.bool false):=(cell_of_row _ _ 0 _ _ _ h4).trans rfl
 have f2:=frozen_of_row v b2 0 _ _ h2
 have f3:=frozen_of_row v b3 0 _ _ h3
 have f4:=frozen_of_row v b4 0 _ _ h4
 clear hl h2 h3 h4
 go_wp2
 go_end0
 exact ⟨rfl,y,E.out,by rw [HV.out]⟩
theorem five (w:World) (o0 o1 o2 o3 o4:Obj):(((((w.alloc o0).alloc o1).alloc o2).alloc o3).alloc o4).heap[w.heap.size]?=some o0∧(((((w.alloc o0).alloc o1).alloc o2).alloc o3).alloc o4).heap[w.heap.size+1]?=some o1∧(((((w.alloc o0).alloc o1).alloc o2).alloc o3).alloc o4).heap[w.heap.size+1+1]?=some o2 ∧
  (((((w.alloc o0).alloc o1).alloc o2).alloc o3).alloc o4).heap[w.heap.size+1+1+1]?=some o3∧(((((w.alloc o0).alloc o1).alloc o2).alloc o3).alloc o4).heap[w.heap.size+1+1+1+1]?=some o4∧Below w.heap.size w (((((w.alloc o0).alloc o1).alloc o2).alloc o3).alloc o4):=by
 have s (w:World) (o:Obj):(w.alloc o).heap.size=w.heap.size+1:=by simp
 have k {w:World} {o o':Obj} {i:Nat} (h:w.heap[i]?=some o):(w.alloc o').heap[i]?=some o:=row_keep (b_alloc (Below.refl w.heap.size w)) h
 have e0:=heap_alloc_last w o0
 have e1:=heap_alloc_last (w.alloc o0) o1
 have e2:=heap_alloc_last ((w.alloc o0).alloc o1) o2
 have e3:=heap_alloc_last (((w.alloc o0).alloc o1).alloc o2) o3
 have e4:=heap_alloc_last ((((w.alloc o0).alloc o1).alloc o2).alloc o3) o4
 simp only [s] at e1 e2 e3 e4
 exact ⟨k (k (k (k e0))),k (k (k e1)),k (k e2),k e3,e4,b_alloc (b_alloc (b_alloc (b_alloc (b_alloc (Below.refl _ _)))))⟩
theorem lr_set {w:World} {b:Nat} {h n h' n':Int} {t t':Bool} (H:LZ w b h n t):LZ (((w.setCell ⟨b,0,none⟩ (.int .i64 h')).setCell ⟨b,1,none⟩ (.int .i64 n')).setCell ⟨b,2,none⟩ (.bool t')) b h' n' t':=by
 have h0:LZ (w.setCell ⟨b,0,none⟩ (.int .i64 h')) b h' n t:=(heap_setCell_same w b 0 _ _ _ H).trans rfl
 have h1:LZ ((w.setCell ⟨b,0,none⟩ (.int .i64 h')).setCell ⟨b,1,none⟩ (.int .i64 n')) b h' n' t:=(heap_setCell_same _ b 1 _ _ _ h0).trans rfl
 exact (heap_setCell_same _ b 2 _ _ _ h1).trans rfl
theorem told_cells {b2 b3 b4:Nat} {w:World} {z n:Int} {t:Bool} (h2:NV w b2) (h3:NV w b3) (h4:OV w b4) (n2:b2≠b3) (n3:b2≠b4) (n4:b3≠b4) :
  (Told b2 b3 b4 w z n t).cell? ⟨b2,0,none⟩=some (.int .i64 z)∧(Told b2 b3 b4 w z n t).cell? ⟨b3,0,none⟩=some (.int .i64 n)∧(Told b2 b3 b4 w z n t).cell? ⟨b4,0,none⟩=some (.bool t):=by
 have e2:(w.setCell ⟨b2,0,none⟩ (.int .i64 z)).heap[b2]?=some (.cells #[.int .i64 z] 2 (0,0)):=(heap_setCell_same w b2 0 _ _ _ h2).trans rfl
 have e3:((w.setCell ⟨b2,0,none⟩ (.int .i64 z)).setCell ⟨b3,0,none⟩ (.int .i64 n)).heap[b3]?=some (.cells #[.int .i64 n] 2 (0,0)):=(heap_setCell_same _ b3 0 _ _ _ (but_row but_set (Ne.symm n2) h3)).trans rfl
 have e4:(Told b2 b3 b4 w z n t).heap[b4]?=some (.cells #[.bool t] 4 (0,0)):=(heap_setCell_same _ b4 0 _ _ _ (but_row but_set (Ne.symm n4) (but_row but_set (Ne.symm n3) h4))).trans rfl
 exact ⟨(cell_of_row _ _ 0 _ _ _ (but_row but_set n3 (but_row but_set n2 e2))).trans rfl,(cell_of_row _ _ 0 _ _ _ (but_row but_set n4 e3)).trans rfl,(cell_of_row _ _ 0 _ _ _ e4).trans rfl⟩
theorem told_below {a w:World} {b2 b3 b4:Nat} {z n:Int} {t:Bool} (E:Below a.heap.size a w) (h2:a.heap.size≤b2) (h3:a.heap.size≤b3) (h4:a.heap.size≤b4):Below a.heap.size a (Told b2 b3 b4 w z n t) :=
 b_set (p:=⟨b4,0,none⟩) (b_set (p:=⟨b3,0,none⟩) (b_set (p:=⟨b2,0,none⟩) E h2) h3) h4
theorem Level_bad (b:Nat) (c m k r p:Int) (w:World) (hT:TB w) (h:GR w b c m k r)
  (cl:∀ w,TB w→GR w b c m k r→Calls Tryz.prog 103 #[.pointer (some ⟨b,0,none⟩),.int .i64 p] w (RetV (.tuple #[lv 0 0 false,.int .i64 2]) w)):Calls Tryz.prog 73 #[.pointer (some ⟨b,0,none⟩),.int .i64 p] w (RetV (.tuple #[.int .i64 0,.int .i64 0,.bool false,.int .i64 2]) w):=by
 have hmf:∀ (fn:Fn) (first cap:Array Value) (w:World),(Instr.makeFunc fn first cap).run Tryz.prog w=.ok (.func fn first cap) w:=fun _ _ _ _=>rfl
 have hb0:=tb_lt hT
 have hbb:b<w.heap.size:=(Array.getElem?_eq_some_iff.1 h).1
 obtain ⟨P0,P1,P2,P3,P4,E⟩:=five w (Obj.cells #[.pointer (some ⟨b,0,none⟩)] 55) (Obj.cells #[.int .i64 0] 2) (Obj.cells #[.int .i64 0] 2) (Obj.cells #[.bool false] 4) (Obj.cells #[.int .i64 0,.int .i64 0,.bool false] 163)
 replace hT:=tb_keep E hT
 replace h:=row_keep E h
 have HP:=Lib.hid (And.intro P0 (And.intro P1 (And.intro P2 (And.intro P3 (And.intro P4 E)))))
 clear P0 P1 P2 P3 P4 E
 go_enter_defers Tryz.func73,Tryz.ntmps73
 go_wp2_with fail
 obtain ⟨P0,P1,P2,P3,P4,E⟩:=HP.out
 clear HP
 generalize (((((w.alloc (Obj.cells #[.pointer (some ⟨b,0,none⟩)] 55)).alloc (Obj.cells #[.int .i64 0] 2)).alloc (Obj.cells #[.int .i64 0] 2)).alloc (Obj.cells #[.bool false] 4)).alloc (Obj.cells #[.int .i64 0,.int .i64 0,.bool false] 163))=y0 at *
 refine (cl _ hT h).mono ?_
 rintro e y1 ⟨rfl,hb⟩
 replace P0:=row_keep hb P0
 replace P1:=row_keep hb P1
 replace P2:=row_keep hb P2
 replace P3:=row_keep hb P3
 replace P4:=row_keep hb P4
 replace h:=row_keep hb h
 replace hT:=tb_keep hb hT
 replace E:=b_trans E hb
 clear hb cl
 have q0:y1.cell? ⟨w.heap.size+1+1+1+1,0,none⟩=some (Value.int .i64 0):=(cell_of_row _ _ 0 _ _ _ P4).trans rfl
 have f0:=frozen_of_row y1 (w.heap.size+1+1+1+1) 0 _ _ P4
 have q1:y1.cell? ⟨w.heap.size+1+1+1+1,1,none⟩=some (Value.int .i64 0):=(cell_of_row _ _ 1 _ _ _ P4).trans rfl
 have f1:=frozen_of_row y1 (w.heap.size+1+1+1+1) 1 _ _ P4
 have q2:y1.cell? ⟨w.heap.size+1+1+1+1,2,none⟩=some (Value.bool false):=(cell_of_row _ _ 2 _ _ _ P4).trans rfl
 have f2:=frozen_of_row y1 (w.heap.size+1+1+1+1) 2 _ _ P4
 have B:=(but_trans (but_set (b:=w.heap.size+1+1+1+1) (i:=0) (v:=.int .i64 0) (w:=y1)) (but_trans (but_set (i:=1) (v:=.int .i64 0)) (but_set (i:=2) (v:=.bool false))))
 replace P4:=lr_set (h':=0) (n':=0) (t':=false) P4
 replace P0:=but_row B (by omega) P0
 replace P1:=but_row B (by omega) P1
 replace P2:=but_row B (by omega) P2
 replace P3:=but_row B (by omega) P3
 replace h:=but_row B (by omega) h
 replace hT:=tb_but B (by omega) hT
 replace E:=below_but E (by omega) B
 clear B
 have HP:=Lib.hid (And.intro P0 (And.intro P1 (And.intro P2 (And.intro P3 (And.intro P4 (And.intro h (And.intro hT E)))))))
 clear P0 P1 P2 P3 P4 h hT E
 go_wp2_with fail
 obtain ⟨P0,P1,P2,P3,P4,h,hT,E⟩:=HP.out
 clear HP q0 q1 q2 f0 f1 f2
 generalize ((y1.setCell ⟨w.heap.size+1+1+1+1,0,none⟩ (.int .i64 0)).setCell ⟨w.heap.size+1+1+1+1,1,none⟩ (.int .i64 0)).setCell ⟨w.heap.size+1+1+1+1,2,none⟩ (.bool false)=y2 at *
 refine leaves_cons (f:=101) (args:=#[.pointer (some ⟨w.heap.size+1+1+1+1,0,none⟩),.pointer (some ⟨w.heap.size,0,none⟩),.pointer (some ⟨w.heap.size+1,0,none⟩),.pointer (some ⟨w.heap.size+1+1,0,none⟩),.pointer (some ⟨w.heap.size+1+1+1,0,none⟩)]) (by simp) (by simp [go_sem]) ?_
 refine (told_far (w.heap.size+1+1+1+1) (w.heap.size) (w.heap.size+1) (w.heap.size+1+1) (w.heap.size+1+1+1) 0 0 y2 P4 P1 P2 P3 (by omega) (by omega) (by omega)).mono ?_
 rintro e u' w' ⟨rfl,rfl,rfl⟩
 obtain ⟨c2,c3,c4⟩:=told_cells (z:=0) (n:=0) (t:=false) P1 P2 P3 (by omega) (by omega) (by omega)
 have E9:=told_below (z:=0) (n:=0) (t:=false) (b2:=w.heap.size+1) (b3:=w.heap.size+1+1) (b4:=w.heap.size+1+1+1) E (by omega) (by omega) (by omega)
 generalize Told (w.heap.size+1) (w.heap.size+1+1) (w.heap.size+1+1+1) y2 0 0 false=y4 at *
 exact ⟨.tuple #[.int .i64 0,.int .i64 0,.bool false,.int .i64 2],by simp [results,Tryz.results73,go_sem,c2,c3,c4],rfl,E9⟩
theorem Level_far (b:Nat) (c m k r p a n:Int) (w:World) (hT:TB w) (h:GR w b c m k r)
  (cl:∀ w,TB w→GR w b c m k r→Calls Tryz.prog 103 #[.pointer (some ⟨b,0,none⟩),.int .i64 p] w (RetV (.tuple #[lv a n false,.int .i64 0]) w)):Calls Tryz.prog 73 #[.pointer (some ⟨b,0,none⟩),.int .i64 p] w (RetV (.tuple #[.int .i64 a,.int .i64 n,.bool false,.int .i64 0]) w):=by
 have hmf:∀ (fn:Fn) (first cap:Array Value) (w:World),(Instr.makeFunc fn first cap).run Tryz.prog w=.ok (.func fn first cap) w:=fun _ _ _ _=>rfl
 have hb0:=tb_lt hT
 have hbb:b<w.heap.size:=(Array.getElem?_eq_some_iff.1 h).1
 obtain ⟨P0,P1,P2,P3,P4,E⟩:=five w (Obj.cells #[.pointer (some ⟨b,0,none⟩)] 55) (Obj.cells #[.int .i64 0] 2) (Obj.cells #[.int .i64 0] 2) (Obj.cells #[.bool false] 4) (Obj.cells #[.int .i64 0,.int .i64 0,.bool false] 163)
 replace hT:=tb_keep E hT
 replace h:=row_keep E h
 have HP:=Lib.hid (And.intro P0 (And.intro P1 (And.intro P2 (And.intro P3 (And.intro P4 E)))))
 clear P0 P1 P2 P3 P4 E
 go_enter_defers Tryz.func73,Tryz.ntmps73
 go_wp2_with fail
 obtain ⟨P0,P1,P2,P3,P4,E⟩:=HP.out
 clear HP
 generalize (((((w.alloc (Obj.cells #[.pointer (some ⟨b,0,none⟩)] 55)).alloc (Obj.cells #[.int .i64 0] 2)).alloc (Obj.cells #[.int .i64 0] 2)).alloc (Obj.cells #[.bool false] 4)).alloc (Obj.cells #[.int .i64 0,.int .i64 0,.bool false] 163))=y0 at *
 refine (cl _ hT h).mono ?_
 rintro e y1 ⟨rfl,hb⟩
 replace P0:=row_keep hb P0
 replace P1:=row_keep hb P1
 replace P2:=row_keep hb P2
 replace P3:=row_keep hb P3
 replace P4:=row_keep hb P4
 replace h:=row_keep hb h
 replace hT:=tb_keep hb hT
 replace E:=b_trans E hb
 clear hb cl
 have q0:y1.cell? ⟨w.heap.size+1+1+1+1,0,none⟩=some (Value.int .i64 0):=(cell_of_row _ _ 0 _ _ _ P4).trans rfl
 have f0:=frozen_of_row y1 (w.heap.size+1+1+1+1) 0 _ _ P4
 have q1:y1.cell? ⟨w.heap.size+1+1+1+1,1,none⟩=some (Value.int .i64 0):=(cell_of_row _ _ 1 _ _ _ P4).trans rfl
 have f1:=frozen_of_row y1 (w.heap.size+1+1+1+1) 1 _ _ P4
 have q2:y1.cell? ⟨w.heap.size+1+1+1+1,2,none⟩=some (Value.bool false):=(cell_of_row _ _ 2 _ _ _ P4).trans rfl
 have f2:=frozen_of_row y1 (w.heap.size+1+1+1+1) 2 _ _ P4
 have B:=(but_trans (but_set (b:=w.heap.size+1+1+1+1) (i:=0) (v:=.int .i64 a) (w:=y1)) (but_trans (but_set (i:=1) (v:=.int .i64 n)) (but_set (i:=2) (v:=.bool false))))
 replace P4:=lr_set (h':=a) (n':=n) (t':=false) P4
 replace P0:=but_row B (by omega) P0
 replace P1:=but_row B (by omega) P1
 replace P2:=but_row B (by omega) P2
 replace P3:=but_row B (by omega) P3
 replace h:=but_row B (by omega) h
 replace hT:=tb_but B (by omega) hT
 replace E:=below_but E (by omega) B
 clear B
 have HP:=Lib.hid (And.intro P0 (And.intro P1 (And.intro P2 (And.intro P3 (And.intro P4 (And.intro h (And.intro hT E)))))))
 clear P0 P1 P2 P3 P4 h hT E
 go_wp2_with fail
 obtain ⟨P0,P1,P2,P3,P4,h,hT,E⟩:=HP.out
 clear HP q0 q1 q2 f0 f1 f2
 generalize ((y1.setCell ⟨w.heap.size+1+1+1+1,0,none⟩ (.int .i64 a)).setCell ⟨w.heap.size+1+1+1+1,1,none⟩ (.int .i64 n)).setCell ⟨w.heap.size+1+1+1+1,2,none⟩ (.bool false)=y2 at *
 refine leaves_cons (f:=101) (args:=#[.pointer (some ⟨w.heap.size+1+1+1+1,0,none⟩),.pointer (some ⟨w.heap.size,0,none⟩),.pointer (some ⟨w.heap.size+1,0,none⟩),.pointer (some ⟨w.heap.size+1+1,0,none⟩),.pointer (some ⟨w.heap.size+1+1+1,0,none⟩)]) (by simp) (by simp [go_sem]) ?_
 refine (told_far (w.heap.size+1+1+1+1) (w.heap.size) (w.heap.size+1) (w.heap.size+1+1) (w.heap.size+1+1+1) a n y2 P4 P1 P2 P3 (by omega) (by omega) (by omega)).mono ?_
 rintro e u' w' ⟨rfl,rfl,rfl⟩
 obtain ⟨c2,c3,c4⟩:=told_cells (z:=a) (n:=n) (t:=false) P1 P2 P3 (by omega) (by omega) (by omega)
 have E9:=told_below (z:=a) (n:=n) (t:=false) (b2:=w.heap.size+1) (b3:=w.heap.size+1+1) (b4:=w.heap.size+1+1+1) E (by omega) (by omega) (by omega)
 generalize Told (w.heap.size+1) (w.heap.size+1+1) (w.heap.size+1+1+1) y2 a n false=y4 at *
 exact ⟨.tuple #[.int .i64 a,.int .i64 n,.bool false,.int .i64 0],by simp [results,Tryz.results73,go_sem,c2,c3,c4],rfl,E9⟩
theorem Level_near (b:Nat) (c m k r p a n l z:Int) (w:World) (hT:TB w) (h:GR w b c m k r)
  (cl:∀ w,TB w→GR w b c m k r→Calls Tryz.prog 103 #[.pointer (some ⟨b,0,none⟩),.int .i64 p] w (RetV (.tuple #[lv a n true,.int .i64 0]) w))
  (hz:mz a l=z) (ca:∀ w,TB w→Calls Tryz.prog 65 #[.int .i64 c] w (RetV (.tuple #[.int .i64 l,.int .i64 0]) w)):Calls Tryz.prog 73 #[.pointer (some ⟨b,0,none⟩),.int .i64 p] w (RetV (.tuple #[.int .i64 z,.int .i64 n,.bool true,.int .i64 0]) w):=by
 have hmf:∀ (fn:Fn) (first cap:Array Value) (w:World),(Instr.makeFunc fn first cap).run Tryz.prog w=.ok (.func fn first cap) w:=fun _ _ _ _=>rfl
 have hb0:=tb_lt hT
 have hbb:b<w.heap.size:=(Array.getElem?_eq_some_iff.1 h).1
 obtain ⟨P0,P1,P2,P3,P4,E⟩:=five w (Obj.cells #[.pointer (some ⟨b,0,none⟩)] 55) (Obj.cells #[.int .i64 0] 2) (Obj.cells #[.int .i64 0] 2) (Obj.cells #[.bool false] 4) (Obj.cells #[.int .i64 0,.int .i64 0,.bool false] 163)
 replace hT:=tb_keep E hT
 replace h:=row_keep E h
 have HP:=Lib.hid (And.intro P0 (And.intro P1 (And.intro P2 (And.intro P3 (And.intro P4 E)))))
 clear P0 P1 P2 P3 P4 E
 go_enter_defers Tryz.func73,Tryz.ntmps73
 go_wp2_with fail
 obtain ⟨P0,P1,P2,P3,P4,E⟩:=HP.out
 clear HP
 generalize (((((w.alloc (Obj.cells #[.pointer (some ⟨b,0,none⟩)] 55)).alloc (Obj.cells #[.int .i64 0] 2)).alloc (Obj.cells #[.int .i64 0] 2)).alloc (Obj.cells #[.bool false] 4)).alloc (Obj.cells #[.int .i64 0,.int .i64 0,.bool false] 163))=y0 at *
 refine (cl _ hT h).mono ?_
 rintro e y1 ⟨rfl,hb⟩
 replace P0:=row_keep hb P0
 replace P1:=row_keep hb P1
 replace P2:=row_keep hb P2
 replace P3:=row_keep hb P3
 replace P4:=row_keep hb P4
 replace h:=row_keep hb h
 replace hT:=tb_keep hb hT
 replace E:=b_trans E hb
 clear hb cl
 have q0:y1.cell? ⟨w.heap.size+1+1+1+1,0,none⟩=some (Value.int .i64 0):=(cell_of_row _ _ 0 _ _ _ P4).trans rfl
 have f0:=frozen_of_row y1 (w.heap.size+1+1+1+1) 0 _ _ P4
 have q1:y1.cell? ⟨w.heap.size+1+1+1+1,1,none⟩=some (Value.int .i64 0):=(cell_of_row _ _ 1 _ _ _ P4).trans rfl
 have f1:=frozen_of_row y1 (w.heap.size+1+1+1+1) 1 _ _ P4
 have q2:y1.cell? ⟨w.heap.size+1+1+1+1,2,none⟩=some (Value.bool false):=(cell_of_row _ _ 2 _ _ _ P4).trans rfl
 have f2:=frozen_of_row y1 (w.heap.size+1+1+1+1) 2 _ _ P4
 have B:=(but_trans (but_set (b:=w.heap.size+1+1+1+1) (i:=0) (v:=.int .i64 a) (w:=y1)) (but_trans (but_set (i:=1) (v:=.int .i64 n)) (but_set (i:=2) (v:=.bool true))))
 replace P4:=lr_set (h':=a) (n':=n) (t':=true) P4
 replace P0:=but_row B (by omega) P0
 replace P1:=but_row B (by omega) P1
 replace P2:=but_row B (by omega) P2
 replace P3:=but_row B (by omega) P3
 replace h:=but_row B (by omega) h
 replace hT:=tb_but B (by omega) hT
 replace E:=below_but E (by omega) B
 clear B
 have HP:=Lib.hid (And.intro P0 (And.intro P1 (And.intro P2 (And.intro P3 (And.intro P4 (And.intro h (And.intro hT E)))))))
 clear P0 P1 P2 P3 P4 h hT E
 go_wp2_with fail
 obtain ⟨P0,P1,P2,P3,P4,h,hT,E⟩:=HP.out
 clear HP q0 q1 q2 f0 f1 f2
 generalize ((y1.setCell ⟨w.heap.size+1+1+1+1,0,none⟩ (.int .i64 a)).setCell ⟨w.heap.size+1+1+1+1,1,none⟩ (.int .i64 n)).setCell ⟨w.heap.size+1+1+1+1,2,none⟩ (.bool true)=y2 at *
 refine leaves_cons (f:=101) (args:=#[.pointer (some ⟨w.heap.size+1+1+1+1,0,none⟩),.pointer (some ⟨w.heap.size,0,none⟩),.pointer (some ⟨w.heap.size+1,0,none⟩),.pointer (some ⟨w.heap.size+1+1,0,none⟩),.pointer (some ⟨w.heap.size+1+1+1,0,none⟩)]) (by simp) (by simp [go_sem]) ?_
 refine (told_near (w.heap.size+1+1+1+1) (w.heap.size) (w.heap.size+1) (w.heap.size+1+1) (w.heap.size+1+1+1) b a n c m k r l z hz y2 hT P4 P0 P1 P2 P3 h (by omega) (by omega) (by omega) (by omega) (by omega) (by omega) ca).mono ?_
 rintro e u' w' ⟨rfl,rfl,y3,hb,rfl⟩
 replace E:=b_trans E hb
 have g4:w.heap.size≤w.heap.size+1+1+1+1:=by omega
 replace E:=b_set (p:=⟨w.heap.size+1+1+1+1,0,none⟩) (v:=.int .i64 z) E g4
 replace P1:=but_row (but_set (b:=w.heap.size+1+1+1+1) (i:=0) (v:=.int .i64 z)) (by omega) (row_keep hb P1)
 replace P2:=but_row (but_set (b:=w.heap.size+1+1+1+1) (i:=0) (v:=.int .i64 z)) (by omega) (row_keep hb P2)
 replace P3:=but_row (but_set (b:=w.heap.size+1+1+1+1) (i:=0) (v:=.int .i64 z)) (by omega) (row_keep hb P3)
 clear P0 P4 h hT hb
 generalize y3.setCell ⟨w.heap.size+1+1+1+1,0,none⟩ (.int .i64 z)=y2 at *
 obtain ⟨c2,c3,c4⟩:=told_cells (z:=z) (n:=n) (t:=true) P1 P2 P3 (by omega) (by omega) (by omega)
 have E9:=told_below (z:=z) (n:=n) (t:=true) (b2:=w.heap.size+1) (b3:=w.heap.size+1+1) (b4:=w.heap.size+1+1+1) E (by omega) (by omega) (by omega)
 generalize Told (w.heap.size+1) (w.heap.size+1+1) (w.heap.size+1+1+1) y2 z n true=y4 at *
 exact ⟨.tuple #[.int .i64 z,.int .i64 n,.bool true,.int .i64 0],by simp [results,Tryz.results73,go_sem,c2,c3,c4],rfl,E9⟩
theorem Level_any (b:Nat) (c m n r p:Int) (hc:GK c) (m0:0≤m) (m1:m≤9223372036854775807) (w:World) (hT:TB w) (h:GR w b c m n r):Calls Tryz.prog 73 #[.pointer (some ⟨b,0,none⟩),.int .i64 p] w (RetV (.tuple #[.int .i64 (lz c m p),.int .i64 (ln c m n r p),.bool (nr c m p),.int .i64 (ae p)]) w):=by
 cases g:gd p
 ·rw [(l_bad (c:=c) (m:=m) (n:=n) (r:=r) g).1,(l_bad (c:=c) (m:=m) (n:=n) (r:=r) g).2,nr_bad g,ae_bad g]
  exact Level_bad b c m n r p w hT h (fun w hT _=>level_bad b p g w hT)
 ·have ca:=altitude_ok p g
  rw [ae_ok g]
  have cn:=fun w (h:GR w b c m n r)=>near_any b c m n r p hc m0 m1 w h
  cases k:nr c m p
  ·rw [k] at cn
   rw [(l_far (n:=n) (r:=r) g k).1,(l_far (n:=n) (r:=r) g k).2]
   exact Level_far b c m n r p (al p) n w hT h (fun w hT h=>level_far b c m n r p (al p) w hT h ca cn)
  ·rw [k] at cn
   rw [(l_near (n:=n) (r:=r) g k).1,(l_near (n:=n) (r:=r) g k).2]
   exact Level_near b c m n r p (al p) r (al c) _ w hT h (fun w hT h=>level_near b c m n r p (al p) w hT h ca cn) rfl (altitude_ok c (gk_good hc (nr_known k)))
end Go.Proofs.YthnofhjgfhapiaaGreatDoor
namespace Go.Proofs.YthnofhjgfhapiaaGreatDoor
open Go.RowKit Go.Shelf
abbrev W2 (w:World) (b:Nat) (h l h' l':Int):Prop:=WC w b h l∧w.cell? ⟨b,2,none⟩=some (.int .i64 h')∧w.cell? ⟨b,3,none⟩=some (.int .u64 l')
theorem w2_keep {w w':World} (hb:Below w.heap.size w w') {b:Nat} {h l h' l':Int} (c:W2 w b h l h' l'):W2 w' b h l h' l':=⟨wc_keep hb c.1,cell_keep hb c.2.1,cell_keep hb c.2.2⟩
theorem w2_set {w:World} {b b1 o:Nat} {h l h' l':Int} {v:Value} (c:W2 w b h l h' l') (hb:b1≠b):W2 (w.setCell ⟨b1,o,none⟩ v) b h l h' l' :=
 ⟨wc_set c.1 hb,by rw [World.cell?_setCell_far _ _ _ _ hb]; exact c.2.1,by rw [World.cell?_setCell_far _ _ _ _ hb]; exact c.2.2⟩
theorem rounded_2_go (n h0 l0 sh0 sl0 h1 l1 sh1 sl1 hz lz z:Int)
  (o0:∀ w,Calls Tryz.prog 95 #[.int .i64 0] w (RetV (wv 0 0) w))
  (p0:∀ w,Calls Tryz.prog 131 #[wv 0 0,wv h0 l0] w (RetV (.tuple #[wv sh0 sl0,.int .i64 0]) w))
  (p1:∀ w,Calls Tryz.prog 131 #[wv sh0 sl0,wv h1 l1] w (RetV (.tuple #[wv sh1 sl1,.int .i64 0]) w))
  (hF:∀ w,Calls Tryz.prog 118 #[wv sh1 sl1,.int .i64 n] w (RetV (.tuple #[wv hz lz,.int .i64 0]) w))
  (hI:∀ w,Calls Tryz.prog 119 #[wv hz lz] w (RetV (.tuple #[.int .i64 z,.int .i64 0]) w)) (G:Nat) (w:World) (kG:W2 w G h0 l0 h1 l1) :
  Calls Tryz.prog 94 #[.int .i64 n,.slice (some ⟨G,0,none⟩) 2 2] w (RetV (.int .i64 z) w):=by
 go_enter Tryz.func94,Tryz.ntmps94
 go_wp2_with fail
 refine (o0 _).mono ?_
 rintro e1 w1 ⟨rfl,hb1⟩
 replace kG:=w2_keep hb1 kG
 have nG:w1.heap.size≠G:=fun c=>by have:=wc_lt kG.1; omega
 have hS:w.heap.size≤w1.heap.size:=hb1.size
 have B0:=b_alloc (o:=(Obj.cells #[.int .i64 0,.int .u64 0] 96)) hb1
 have kS:WC (w1.alloc (Obj.cells #[.int .i64 0,.int .u64 0] 96)) w1.heap.size 0 0:=by simp [WC,go_sem]
 have fS:WF (w1.alloc (Obj.cells #[.int .i64 0,.int .u64 0] 96)) w1.heap.size:=by simp [WF,go_sem]
 replace kG:=w2_keep (b_alloc (o:=(Obj.cells #[.int .i64 0,.int .u64 0] 96)) (Below.refl _ _)) kG
 clear hb1 o0
 go_wp2
 generalize w1.alloc (Obj.cells #[.int .i64 0,.int .u64 0] 96)=u0 at *
 generalize w1.heap.size=S at *
 refine wp_loop_rounds 3 ?_
 rw [rounds_succ]
 have al:=b_alloc (o:=(Obj.cells #[.int .i64 h0,.int .u64 l0] 96)) (Below.refl u0.heap.size u0)
 have kT:WC (u0.alloc (Obj.cells #[.int .i64 h0,.int .u64 l0] 96)) u0.heap.size h0 l0:=by simp [WC,go_sem]
 have kS1:=wc_keep al kS
 have fS1:=wf_keep al kS fS
 have kG1:=w2_keep al kG
 replace B0:=b_trans B0 al
 clear al fS
 go_wp2_with fail
 refine (p0 _).mono ?_
 rintro e0 v0 ⟨rfl,hb9⟩
 have fS:=wf_keep hb9 kS1 fS1
 clear kS kG
 have kS:=wc_keep hb9 kS1
 have kG:=w2_keep hb9 kG1
 replace B0:=b_trans B0 hb9
 clear hb9 kT kS1 fS1 kG1 p0
 have KK:=Lib.hid (And.intro (b_set (p:=⟨S,1,none⟩) (v:=.int .u64 sl0) (b_set (p:=⟨S,0,none⟩) (v:=.int .i64 sh0) B0 hS) hS) (And.intro (wc_mine (h':=sh0) (l':=sl0) kS) (And.intro (wf_set (b1:=S) (o:=1) (v:=.int .u64 sl0) (wf_set (b1:=S) (o:=0) (v:=.int .i64 sh0) fS)) (w2_set (b1:=S) (o:=1) (v:=.int .u64 sl0) (w2_set (b1:=S) (o:=0) (v:=.int .i64 sh0) kG nG) nG))))
 clear B0 kG
 go_wp2
 clear kS fS
 generalize (v0.setCell ⟨S,0,none⟩ (.int .i64 sh0)).setCell ⟨S,1,none⟩ (.int .u64 sl0)=u1 at *
 obtain ⟨B0,kS,fS,kG⟩:=KK.out
 clear KK
 rw [rounds_succ]
 have al:=b_alloc (o:=(Obj.cells #[.int .i64 h1,.int .u64 l1] 96)) (Below.refl u1.heap.size u1)
 have kT:WC (u1.alloc (Obj.cells #[.int .i64 h1,.int .u64 l1] 96)) u1.heap.size h1 l1:=by simp [WC,go_sem]
 have kS1:=wc_keep al kS
 have fS1:=wf_keep al kS fS
 have kG1:=w2_keep al kG
 replace B0:=b_trans B0 al
 clear al fS
 go_wp2_with fail
 refine (p1 _).mono ?_
 rintro e1 v1 ⟨rfl,hb9⟩
 have fS:=wf_keep hb9 kS1 fS1
 clear kS kG
 have kS:=wc_keep hb9 kS1
 have kG:=w2_keep hb9 kG1
 replace B0:=b_trans B0 hb9
 clear hb9 kT kS1 fS1 kG1 p1
 have KK:=Lib.hid (And.intro (b_set (p:=⟨S,1,none⟩) (v:=.int .u64 sl1) (b_set (p:=⟨S,0,none⟩) (v:=.int .i64 sh1) B0 hS) hS) (And.intro (wc_mine (h':=sh1) (l':=sl1) kS) (And.intro (wf_set (b1:=S) (o:=1) (v:=.int .u64 sl1) (wf_set (b1:=S) (o:=0) (v:=.int .i64 sh1) fS)) (w2_set (b1:=S) (o:=1) (v:=.int .u64 sl1) (w2_set (b1:=S) (o:=0) (v:=.int .i64 sh1) kG nG) nG))))
 clear B0 kG
 go_wp2
 clear kS fS
 generalize (v1.setCell ⟨S,0,none⟩ (.int .i64 sh1)).setCell ⟨S,1,none⟩ (.int .u64 sl1)=u2 at *
 obtain ⟨B0,kS,fS,kG⟩:=KK.out
 clear KK
 clear kG fS
 rw [rounds_succ]
 go_wp2_with fail
 refine (hF _).mono ?_
 rintro e5 w5 ⟨rfl,hb5⟩
 replace B0:=b_alloc (o:=(Obj.cells #[.int .i64 hz,.int .u64 lz] 96)) (b_trans B0 hb5)
 have c5:WC (w5.alloc (Obj.cells #[.int .i64 hz,.int .u64 lz] 96)) w5.heap.size hz lz:=by simp [WC,go_sem]
 clear hb5 kS hF
 go_wp2_with fail
 refine (hI _).mono ?_
 rintro e6 w6 ⟨rfl,hb6⟩
 replace B0:=b_trans B0 hb6
 clear hb6 c5 hI
 go_wp2
 go_ret
 exact ⟨rfl,B0⟩
theorem rounded_1_go (n h0 l0 sh0 sl0 hz lz z:Int)
  (o0:∀ w,Calls Tryz.prog 95 #[.int .i64 0] w (RetV (wv 0 0) w))
  (p0:∀ w,Calls Tryz.prog 131 #[wv 0 0,wv h0 l0] w (RetV (.tuple #[wv sh0 sl0,.int .i64 0]) w))
  (hF:∀ w,Calls Tryz.prog 118 #[wv sh0 sl0,.int .i64 n] w (RetV (.tuple #[wv hz lz,.int .i64 0]) w))
  (hI:∀ w,Calls Tryz.prog 119 #[wv hz lz] w (RetV (.tuple #[.int .i64 z,.int .i64 0]) w)) (G:Nat) (w:World) (kG:WC w G h0 l0) :
  Calls Tryz.prog 94 #[.int .i64 n,.slice (some ⟨G,0,none⟩) 1 1] w (RetV (.int .i64 z) w):=by
 go_enter Tryz.func94,Tryz.ntmps94
 go_wp2_with fail
 refine (o0 _).mono ?_
 rintro e1 w1 ⟨rfl,hb1⟩
 replace kG:=wc_keep hb1 kG
 have nG:w1.heap.size≠G:=fun c=>by have:=wc_lt kG; omega
 have hS:w.heap.size≤w1.heap.size:=hb1.size
 have B0:=b_alloc (o:=(Obj.cells #[.int .i64 0,.int .u64 0] 96)) hb1
 have kS:WC (w1.alloc (Obj.cells #[.int .i64 0,.int .u64 0] 96)) w1.heap.size 0 0:=by simp [WC,go_sem]
 have fS:WF (w1.alloc (Obj.cells #[.int .i64 0,.int .u64 0] 96)) w1.heap.size:=by simp [WF,go_sem]
 replace kG:=wc_keep (b_alloc (o:=(Obj.cells #[.int .i64 0,.int .u64 0] 96)) (Below.refl _ _)) kG
 clear hb1 o0
 go_wp2
 generalize w1.alloc (Obj.cells #[.int .i64 0,.int .u64 0] 96)=u0 at *
 generalize w1.heap.size=S at *
 refine wp_loop_rounds 2 ?_
 rw [rounds_succ]
 have al:=b_alloc (o:=(Obj.cells #[.int .i64 h0,.int .u64 l0] 96)) (Below.refl u0.heap.size u0)
 have kT:WC (u0.alloc (Obj.cells #[.int .i64 h0,.int .u64 l0] 96)) u0.heap.size h0 l0:=by simp [WC,go_sem]
 have kS1:=wc_keep al kS
 have fS1:=wf_keep al kS fS
 have kG1:=wc_keep al kG
 replace B0:=b_trans B0 al
 clear al fS
 go_wp2_with fail
 refine (p0 _).mono ?_
 rintro e0 v0 ⟨rfl,hb9⟩
 have fS:=wf_keep hb9 kS1 fS1
 clear kS kG
 have kS:=wc_keep hb9 kS1
 have kG:=wc_keep hb9 kG1
 replace B0:=b_trans B0 hb9
 clear hb9 kT kS1 fS1 kG1 p0
 have KK:=Lib.hid (And.intro (b_set (p:=⟨S,1,none⟩) (v:=.int .u64 sl0) (b_set (p:=⟨S,0,none⟩) (v:=.int .i64 sh0) B0 hS) hS) (And.intro (wc_mine (h':=sh0) (l':=sl0) kS) (And.intro (wf_set (b1:=S) (o:=1) (v:=.int .u64 sl0) (wf_set (b1:=S) (o:=0) (v:=.int .i64 sh0) fS)) (wc_set (b1:=S) (o:=1) (v:=.int .u64 sl0) (wc_set (b1:=S) (o:=0) (v:=.int .i64 sh0) kG nG) nG))))
 clear B0 kG
 go_wp2
 clear kS fS
 generalize (v0.setCell ⟨S,0,none⟩ (.int .i64 sh0)).setCell ⟨S,1,none⟩ (.int .u64 sl0)=u1 at *
 obtain ⟨B0,kS,fS,kG⟩:=KK.out
 clear KK
 clear kG fS
 rw [rounds_succ]
 go_wp2_with fail
 refine (hF _).mono ?_
 rintro e5 w5 ⟨rfl,hb5⟩
 replace B0:=b_alloc (o:=(Obj.cells #[.int .i64 hz,.int .u64 lz] 96)) (b_trans B0 hb5)
 have c5:WC (w5.alloc (Obj.cells #[.int .i64 hz,.int .u64 lz] 96)) w5.heap.size hz lz:=by simp [WC,go_sem]
 clear hb5 kS hF
 go_wp2_with fail
 refine (hI _).mono ?_
 rintro e6 w6 ⟨rfl,hb6⟩
 replace B0:=b_trans B0 hb6
 clear hb6 c5 hI
 go_wp2
 go_ret
 exact ⟨rfl,B0⟩
theorem rounded_2 (n a b:Int) {h0 l0 h1 l1:Int} (x0:IsW h0 l0 a) (x1:IsW h1 l1 b) (n0:1≤n) (n1:n≤127) (f0:Fits (0+a)) (f1:Fits (0+a+b)) (fz':Fits (evn (0+a+b) (2 ^ n.toNat))) (i:I64 (evn (0+a+b) (2 ^ n.toNat))) (G:Nat) (w:World) (kG:W2 w G h0 l0 h1 l1) :
  Calls Tryz.prog 94 #[.int .i64 n,.slice (some ⟨G,0,none⟩) 2 2] w (RetV (.int .i64 (evn (0+a+b) (2 ^ n.toNat))) w):=by
 obtain ⟨sh,sl,y0⟩:∃ h l,IsW h l (0+a):=⟨_,_,IsW.mk' f0⟩
 obtain ⟨th,tl,y1⟩:∃ h l,IsW h l (0+a+b):=⟨_,_,IsW.mk' f1⟩
 obtain ⟨hz,lz,z3⟩:∃ h l,IsW h l (evn (0+a+b) (2 ^ n.toNat)):=⟨_,_,IsW.mk' fz'⟩
 exact rounded_2_go n h0 l0 sh sl h1 l1 th tl hz lz _
  (fun w=>(of_any 0 (by decide) (by decide) w).mono fun _ _=>retW_det isW_zero)
  (fun w=>(add_any 0 0 0 _ _ _ isW_zero x0 w).mono fun _ _ h=>retWE_det y0 (by rwa [fz_of f0,fe_of f0] at h))
  (fun w=>(add_any sh sl _ _ _ _ y0 x1 w).mono fun _ _ h=>retWE_det y1 (by rwa [fz_of f1,fe_of f1] at h))
  (fun w=>(half_any th tl _ n y1 n0 n1 w).mono fun _ _ h=>retWE_det z3 h)
  (fun w=>by have h:=int_any hz lz _ z3 w; rwa [(iz_of i).1,(iz_of i).2] at h) G w kG
theorem rounded_1 (n a:Int) {h0 l0:Int} (x0:IsW h0 l0 a) (n0:1≤n) (n1:n≤127) (f0:Fits (0+a)) (fz':Fits (evn (0+a) (2 ^ n.toNat))) (i:I64 (evn (0+a) (2 ^ n.toNat))) (G:Nat) (w:World) (kG:WC w G h0 l0) :
  Calls Tryz.prog 94 #[.int .i64 n,.slice (some ⟨G,0,none⟩) 1 1] w (RetV (.int .i64 (evn (0+a) (2 ^ n.toNat))) w):=by
 obtain ⟨sh,sl,y0⟩:∃ h l,IsW h l (0+a):=⟨_,_,IsW.mk' f0⟩
 obtain ⟨hz,lz,z3⟩:∃ h l,IsW h l (evn (0+a) (2 ^ n.toNat)):=⟨_,_,IsW.mk' fz'⟩
 exact rounded_1_go n h0 l0 sh sl hz lz _
  (fun w=>(of_any 0 (by decide) (by decide) w).mono fun _ _=>retW_det isW_zero)
  (fun w=>(add_any 0 0 0 _ _ _ isW_zero x0 w).mono fun _ _ h=>retWE_det y0 (by rwa [fz_of f0,fe_of f0] at h))
  (fun w=>(half_any sh sl _ n y0 n0 n1 w).mono fun _ _ h=>retWE_det z3 h)
  (fun w=>by have h:=int_any hz lz _ z3 w; rwa [(iz_of i).1,(iz_of i).2] at h) G w kG
end Go.Proofs.YthnofhjgfhapiaaGreatDoor

import Derived.DeepKeys
import Derived.Test.YtjifkmldigemkaaGreatDoorTbh
import Derived.Test.YtjifkmldigemkaaGreatDoorTbd
import Derived.Test.YtjifkmldigemkaaGreatDoorTag
import Derived.Test.YtjifkmldigemkaaGreatDoorTad
import Derived.Test.YtjifkmldigemkaaGreatDoorTbg
import Derived.Test.YtjifkmldigemkaaGreatDoorTam
import Derived.Test.YtjifkmldigemkaaGreatDoorTah
import Derived.Test.YtjifkmldigemkaaGreatDoorTbe
import Derived.Test.YtjifkmldigemkaaGreatDoorTab
import Derived.Test.YtjifkmldigemkaaGreatDoorTaf
import Derived.Test.YtjifkmldigemkaaGreatDoorTaj
import Derived.Test.YtjifkmldigemkaaGreatDoorTak
import Derived.Test.YtjifkmldigemkaaGreatDoorTbf
import Derived.Test.YtjifkmldigemkaaGreatDoorTas
import Derived.Test.YtjifkmldigemkaaGreatDoorTaa
import Derived.Test.YtjifkmldigemkaaGreatDoorTau
import Derived.OwnWalkIn
import Derived.BigQuiet
import Derived.Test.YtjifkmldigemkaaGreatDoorTax
import Derived.Deep.DeepCutAuto
import Derived.Deep.RegionHeld3
import Derived.Test.YtjifkmldigemkaaGreatDoorTae
set_option maxHeartbeats 8000000
set_option maxRecDepth 20000
namespace Go.Proofs.YtjifkmldigemkaaGreatDoor
open Go.RowKit Go.Shelf Go.Joins
abbrev TDR (w:World) (b:Nat) (t:Td):Prop:=w.heap[b]?=some (.cells #[.int .i64 t.m,.bool t.vd,.bool t.ac,.bool t.rf,.bool t.hl,.bool t.gr,.int .i64 t.al,.int .i64 t.sp,.int .i64 t.bi] 51 (0,0))
theorem tdr_put {w:World} {b:Nat} {t t':Td} (h:TDR w b t):TDR (((((((((w.setCell ⟨b,0,none⟩ (.int .i64 t'.m)).setCell ⟨b,1,none⟩ (.bool t'.vd)).setCell ⟨b,2,none⟩ (.bool t'.ac)).setCell ⟨b,3,none⟩ (.bool t'.rf)).setCell ⟨b,4,none⟩ (.bool t'.hl)).setCell ⟨b,5,none⟩ (.bool t'.gr)).setCell ⟨b,6,none⟩ (.int .i64 t'.al)).setCell ⟨b,7,none⟩ (.int .i64 t'.sp)).setCell ⟨b,8,none⟩ (.int .i64 t'.bi)) b t':=by
 replace h:(w.setCell ⟨b,0,none⟩ (.int .i64 t'.m)).heap[b]?=some (.cells #[.int .i64 t'.m,.bool t.vd,.bool t.ac,.bool t.rf,.bool t.hl,.bool t.gr,.int .i64 t.al,.int .i64 t.sp,.int .i64 t.bi] 51 (0,0)):=(heap_setCell_same _ b 0 _ _ _ h).trans rfl
 replace h:((w.setCell ⟨b,0,none⟩ (.int .i64 t'.m)).setCell ⟨b,1,none⟩ (.bool t'.vd)).heap[b]?=some (.cells #[.int .i64 t'.m,.bool t'.vd,.bool t.ac,.bool t.rf,.bool t.hl,.bool t.gr,.int .i64 t.al,.int .i64 t.sp,.int .i64 t.bi] 51 (0,0)):=(heap_setCell_same _ b 1 _ _ _ h).trans rfl
 replace h:(((w.setCell ⟨b,0,none⟩ (.int .i64 t'.m)).setCell ⟨b,1,none⟩ (.bool t'.vd)).setCell ⟨b,2,none⟩ (.bool t'.ac)).heap[b]?=some (.cells #[.int .i64 t'.m,.bool t'.vd,.bool t'.ac,.bool t.rf,.bool t.hl,.bool t.gr,.int .i64 t.al,.int .i64 t.sp,.int .i64 t.bi] 51 (0,0)):=(heap_setCell_same _ b 2 _ _ _ h).trans rfl
 replace h:((((w.setCell ⟨b,0,none⟩ (.int .i64 t'.m)).setCell ⟨b,1,none⟩ (.bool t'.vd)).setCell ⟨b,2,none⟩ (.bool t'.ac)).setCell ⟨b,3,none⟩ (.bool t'.rf)).heap[b]?=some (.cells #[.int .i64 t'.m,.bool t'.vd,.bool t'.ac,.bool t'.rf,.bool t.hl,.bool t.gr,.int .i64 t.al,.int .i64 t.sp,.int .i64 t.bi] 51 (0,0)):=(heap_setCell_same _ b 3 _ _ _ h).trans rfl
 replace h:(((((w.setCell ⟨b,0,none⟩ (.int .i64 t'.m)).setCell ⟨b,1,none⟩ (.bool t'.vd)).setCell ⟨b,2,none⟩ (.bool t'.ac)).setCell ⟨b,3,none⟩ (.bool t'.rf)).setCell ⟨b,4,none⟩ (.bool t'.hl)).heap[b]?=some (.cells #[.int .i64 t'.m,.bool t'.vd,.bool t'.ac,.bool t'.rf,.bool t'.hl,.bool t.gr,.int .i64 t.al,.int .i64 t.sp,.int .i64 t.bi] 51 (0,0)):=(heap_setCell_same _ b 4 _ _ _ h).trans rfl
 replace h:((((((w.setCell ⟨b,0,none⟩ (.int .i64 t'.m)).setCell ⟨b,1,none⟩ (.bool t'.vd)).setCell ⟨b,2,none⟩ (.bool t'.ac)).setCell ⟨b,3,none⟩ (.bool t'.rf)).setCell ⟨b,4,none⟩ (.bool t'.hl)).setCell ⟨b,5,none⟩ (.bool t'.gr)).heap[b]?=some (.cells #[.int .i64 t'.m,.bool t'.vd,.bool t'.ac,.bool t'.rf,.bool t'.hl,.bool t'.gr,.int .i64 t.al,.int .i64 t.sp,.int .i64 t.bi] 51 (0,0)):=(heap_setCell_same _ b 5 _ _ _ h).trans rfl
 replace h:(((((((w.setCell ⟨b,0,none⟩ (.int .i64 t'.m)).setCell ⟨b,1,none⟩ (.bool t'.vd)).setCell ⟨b,2,none⟩ (.bool t'.ac)).setCell ⟨b,3,none⟩ (.bool t'.rf)).setCell ⟨b,4,none⟩ (.bool t'.hl)).setCell ⟨b,5,none⟩ (.bool t'.gr)).setCell ⟨b,6,none⟩ (.int .i64 t'.al)).heap[b]?=some (.cells #[.int .i64 t'.m,.bool t'.vd,.bool t'.ac,.bool t'.rf,.bool t'.hl,.bool t'.gr,.int .i64 t'.al,.int .i64 t.sp,.int .i64 t.bi] 51 (0,0)):=(heap_setCell_same _ b 6 _ _ _ h).trans rfl
 replace h:((((((((w.setCell ⟨b,0,none⟩ (.int .i64 t'.m)).setCell ⟨b,1,none⟩ (.bool t'.vd)).setCell ⟨b,2,none⟩ (.bool t'.ac)).setCell ⟨b,3,none⟩ (.bool t'.rf)).setCell ⟨b,4,none⟩ (.bool t'.hl)).setCell ⟨b,5,none⟩ (.bool t'.gr)).setCell ⟨b,6,none⟩ (.int .i64 t'.al)).setCell ⟨b,7,none⟩ (.int .i64 t'.sp)).heap[b]?=some (.cells #[.int .i64 t'.m,.bool t'.vd,.bool t'.ac,.bool t'.rf,.bool t'.hl,.bool t'.gr,.int .i64 t'.al,.int .i64 t'.sp,.int .i64 t.bi] 51 (0,0)):=(heap_setCell_same _ b 7 _ _ _ h).trans rfl
 replace h:(((((((((w.setCell ⟨b,0,none⟩ (.int .i64 t'.m)).setCell ⟨b,1,none⟩ (.bool t'.vd)).setCell ⟨b,2,none⟩ (.bool t'.ac)).setCell ⟨b,3,none⟩ (.bool t'.rf)).setCell ⟨b,4,none⟩ (.bool t'.hl)).setCell ⟨b,5,none⟩ (.bool t'.gr)).setCell ⟨b,6,none⟩ (.int .i64 t'.al)).setCell ⟨b,7,none⟩ (.int .i64 t'.sp)).setCell ⟨b,8,none⟩ (.int .i64 t'.bi)).heap[b]?=some (.cells #[.int .i64 t'.m,.bool t'.vd,.bool t'.ac,.bool t'.rf,.bool t'.hl,.bool t'.gr,.int .i64 t'.al,.int .i64 t'.sp,.int .i64 t'.bi] 51 (0,0)):=(heap_setCell_same _ b 8 _ _ _ h).trans rfl
 exact h
theorem but_td {w:World} {g:Nat} {t:Td}:But g w (((((((((w.setCell ⟨g,0,none⟩ (.int .i64 t.m)).setCell ⟨g,1,none⟩ (.bool t.vd)).setCell ⟨g,2,none⟩ (.bool t.ac)).setCell ⟨g,3,none⟩ (.bool t.rf)).setCell ⟨g,4,none⟩ (.bool t.hl)).setCell ⟨g,5,none⟩ (.bool t.gr)).setCell ⟨g,6,none⟩ (.int .i64 t.al)).setCell ⟨g,7,none⟩ (.int .i64 t.sp)).setCell ⟨g,8,none⟩ (.int .i64 t.bi)):=but_g0
noncomputable def fix (k:Nat):Cn:=itr dflt (fun _=>2048) (fun _=>405300) (fun _=>true) (fun _=>false) k
theorem fix_sk:∀ k,k≤15→Sk (fix k) k (fun _=>405300)
 | 0,_=>sk_0 _
 | k+1,h=>(sk_gather (fix_sk k (by omega)) (by omega) false (show the dflt 2048=0 by decide +kernel) (show gd 405300=true by decide)).1
def fte:Td:=⟨1,true,true,false,false,false,0,0,0⟩
theorem fix_end:(stp dflt (fix 15) 2048 true 405300 false).2=fte:=by
 have h:=(sk_enter (fix_sk 15 (Nat.le_refl _)) (x:=dflt) (a:=2048) false (by decide +kernel) (by decide)).2
 have e:mv (fun _=>405300) 16=405300:=mv_const (by decide) (by decide) (fun _ _=>rfl)
 rw [e] at h
 have z:evn (az 405300) 16777216=0:=by decide +kernel
 rw [z] at h
 exact h
theorem fixed_cha (w:World) (T:Tb3 w):Calls Tryz.prog 6 #[] w (RetV (.bool true) w):=by
 go_enter Tryz.func6,Tryz.ntmps6
 go_wp2_with fail
 refine (default_any _).mono ?_
 rintro e_ y1 ⟨rfl,hb1⟩
 have E:=hb1
 replace T:=t3_keep hb1 T
 clear hb1
 go_wp2_with fail
 refine (chnew_ok dflt dflt64 default_kept _ T).mono ?_
 rintro e_ y2 ⟨b,fb,gb,rfl,c0,h0,h1,h2,hb2⟩
 have S:=lc_new E T c0 h0 h1 h2 hb2
 clear E T c0 h0 h1 h2 hb2
 have lo:∀ q,Ow b fb gb (.slice none 0 0) q→q<y2.heap.size:=fun q hq=>ch_own S.c q hq
 have b3:Below y2.heap.size y2 (y2.alloc (Obj.cells #[.int .i64 0,.bool false,.bool false,.bool false,.bool false,.bool false,.int .i64 0,.int .i64 0,.int .i64 0] 51)):=b_alloc (Below.refl _ _)
 have d0:TDR (y2.alloc (Obj.cells #[.int .i64 0,.bool false,.bool false,.bool false,.bool false,.bool false,.int .i64 0,.int .i64 0,.int .i64 0] 51)) y2.heap.size td0:=heap_alloc_last _ _
 replace S:=lc_keep S b3
 have dW:w.heap.size≤y2.heap.size:=by have:=lo b (Or.inl rfl); have:=S.o b (Or.inl rfl); omega
 have n0:b≠y2.heap.size:=Nat.ne_of_lt (lo _ (Or.inl rfl))
 have n1:fb≠y2.heap.size:=Nat.ne_of_lt (lo _ (Or.inr (Or.inl rfl)))
 have n2:gb≠y2.heap.size:=Nat.ne_of_lt (lo _ (Or.inr (Or.inr (Or.inl rfl))))
 have uD:Up y2.heap.size:=up_le (S.c.up b (Or.inl rfl)) (Nat.le_of_lt (lo b (Or.inl rfl)))
 clear lo b3
 replace S:=Lib.hid S
 go_wp2
 generalize y2.heap.size=D at *
 go_loopw [15] (fun iv wr=>∃ (k:Nat) (h1:Value) (q:Td),k≤16∧iv=.int .i64 k∧Hid (LC w b fb gb h1 dflt (fix k) wr)∧TDR wr D q∧Hid (k=16→q=fte)∧Hid (∀ i,h1.ownBlock=some i→i≠D)) (fun iv _=>16 - (intOf iv).toNat)
 case atStart=>exact ⟨0,_,td0,by decide,rfl,S,d0,Lib.hid (fun h=>by cases h),Lib.hid (fun i hi=>by cases hi)⟩
 case round =>
  clear S d0
  obtain ⟨k,h1,q,hk,rfl,S,dq,hq,nd⟩:=hrel
  by_cases hlt:k<16
  ·have hlk:(k:Int)<16:=by omega
   have hk0:(0:Int)≤k:=by omega
   have ws:IntKind.i64.wrap ((k:Int)+1)=(k:Int)+1:=by rw [IntKind.wrap_i64]; omega
   have ro:=itr_r dflt (fun _=>2048) (fun _=>405300) (fun _=>true) (fun _=>false) k
   have ok:=ok_itr dflt64 default_kept (fun _=>2048) (fun _=>405300) (fun _=>true) (fun _=>false) k
   have cs:=step_any (b:=b) (fb:=fb) (gb:=gb) (hl:=h1) dflt64 default_kept (C:=fix k) ok (by have:(fix k).r≤k:=ro; omega) 2048 true 405300 false wr S.out.c S.out.t
   replace hlt:=Lib.hid hlt
   clear ro ok
   go_wp2_with fail
   refine cs.mono ?_
   rintro e_ y3 ⟨rfl,h2,c2,q2,k2⟩
   clear cs
   have S2:=Lib.hid (lc_step S.out c2 q2 k2)
   have lD:=(Array.getElem?_eq_some_iff.1 dq).1
   have nD1:¬ Ow b fb gb h1 D:=fun c=>by
     rcases c with c | c | c | c
     ·exact n0 c.symm
     ·exact n1 c.symm
     ·exact n2 c.symm
     ·exact nd.out D c rfl
   have nd2:=Lib.hid (fun i (hi:h2.ownBlock=some i)=>(q2 i hi).elim (nd.out i) (fun e=>(by omega:i≠D)))
   replace dq:=chs_row k2 nD1 dq
   clear c2 q2 k2 S nD1 nd lD
   obtain ⟨R,hR⟩:∃ R,stp dflt (fix k) 2048 true 405300 false=R:=⟨_,rfl⟩
   have eq:Hid (k+1=16→R.2=fte):=Lib.hid (fun e=>by rw [← hR,show k=15 by omega]; exact fix_end)
   have eR:Hid (fix (k+1)=R.1):=Lib.hid (by rw [← hR]; rfl)
   rw [hR] at S2 ⊢
   clear hR
   obtain ⟨R1,R2⟩:=R
   dsimp only at S2 eq eR ⊢
   have nD2:¬ Ow b fb gb h2 D:=fun c=>by
     rcases c with c | c | c | c
     ·exact n0 c.symm
     ·exact n1 c.symm
     ·exact n2 c.symm
     ·exact nd2.out D c rfl
   have SF:=Lib.hid (lc_but S2.out (but_td (w:=y3) (g:=D) (t:=R2)) dW uD nD2)
   have dF:=Lib.hid (tdr_put (t':=R2) dq)
   have r9:=row9 dq
   have f9:=fz9 dq
   clear S2 dq nD2
   go_wp2
   refine ⟨⟨k+1,h2,R2,by omega,by go_num,by rw [eR.out]; exact SF,dF.out,eq,nd2⟩,?_⟩
   simp only [intOf]
   have:=hlt.out
   omega
  ·obtain rfl:k=16:=by omega
   obtain rfl:=hq.out rfl
   have r9:=row9 dq
   have te:=td_eq_self (m:=1) (vd:=true) (ac:=true) (rf:=false) (ho:=false) (gr:=false) (al:=0) (sp:=0) (bi:=0) (by decide) (by decide) (by decide) (by decide)
   unfold fte at r9
   clear dq hq nd hlt
   go_wp2
   go_ret
   exact ⟨rfl,S.out.b⟩
end Go.Proofs.YtjifkmldigemkaaGreatDoor
namespace Go.Proofs.YtjifkmldigemkaaGreatDoor
open Go.RowKit Go.Shelf Go.Joins
abbrev tkl (a:Int) (h:Bool) (p:Int) (s:Bool):List Value:=[.int .i64 a,.bool h,.int .i64 p,.bool s]
theorem tk_new (w:World) (a:Int) (h:Bool) (p:Int) (s:Bool) (t:TypeId):∀ j u,(tkl a h p s)[j]?=some u→(w.alloc (Obj.cells #[.int .i64 a,.bool h,.int .i64 p,.bool s] t)).cell? ((⟨w.heap.size,0,none⟩:Addr).add j)=some u:=fun j u hu=>by
 have hadd:(⟨w.heap.size,0,none⟩:Addr).add j=⟨w.heap.size,j,none⟩:=by unfold Addr.add; split <;> simp_all
 rw [hadd,cell_of_row _ _ j _ _ _ (heap_alloc_last w _)]
 simpa using hu
theorem row4 {w:World} {b:Nat} {t:TypeId} {c0 c1 c2 c3:Value} (h:w.heap[b]?=some (.cells #[c0,c1,c2,c3] t (0,0))):w.cell? ⟨b,0,none⟩=some c0∧w.cell? ⟨b,1,none⟩=some c1∧w.cell? ⟨b,2,none⟩=some c2∧w.cell? ⟨b,3,none⟩=some c3:=⟨(cell_of_row _ _ 0 _ _ _ h).trans rfl,(cell_of_row _ _ 1 _ _ _ h).trans rfl,(cell_of_row _ _ 2 _ _ _ h).trans rfl,(cell_of_row _ _ 3 _ _ _ h).trans rfl⟩
end Go.Proofs.YtjifkmldigemkaaGreatDoor
namespace Go.Proofs.YtjifkmldigemkaaGreatDoor
open Go.RowKit Go.Shelf Go.Joins
def zc (c:Nat→Int) (j:Nat):Int:=90528+((c j).tmod 339988+339988).tmod 339988
end Go.Proofs.YtjifkmldigemkaaGreatDoor

import Derived.DeepKeys
import Derived.Test.YthnofhjgfhapiaaGreatDoorWbg
import Derived.Test.YthnofhjgfhapiaaGreatDoorWaw
import Derived.Test.YthnofhjgfhapiaaGreatDoorWai
import Derived.Test.YthnofhjgfhapiaaGreatDoorWad
import Derived.Test.YthnofhjgfhapiaaGreatDoorWbf
import Derived.Test.YthnofhjgfhapiaaGreatDoorWaj
import Derived.Test.YthnofhjgfhapiaaGreatDoorWae
import Derived.Test.YthnofhjgfhapiaaGreatDoorWbd
import Derived.Test.YthnofhjgfhapiaaGreatDoorWaa
import Derived.Test.YthnofhjgfhapiaaGreatDoorWam
import Derived.Test.YthnofhjgfhapiaaGreatDoorWag
import Derived.Test.YthnofhjgfhapiaaGreatDoorWbe
import Derived.Test.YthnofhjgfhapiaaGreatDoorWar
import Derived.Test.YthnofhjgfhapiaaGreatDoorWat
import Derived.BigQuiet
import Derived.Test.YthnofhjgfhapiaaGreatDoorWab
import Derived.Test.YthnofhjgfhapiaaGreatDoorWac
import Derived.Test.YthnofhjgfhapiaaGreatDoorWaf
import Derived.Test.YthnofhjgfhapiaaGreatDoorWak
import Derived.Test.YthnofhjgfhapiaaGreatDoorWax
import Derived.OwnWalkIn
import Derived.Deep.DeepCutAuto
set_option maxHeartbeats 8000000
set_option maxRecDepth 20000
namespace Go.Proofs.YthnofhjgfhapiaaGreatDoor
open Go.RowKit Go.Shelf Go.Joins
abbrev TDR (w:World) (b:Nat) (t:Td):Prop:=w.heap[b]?=some (.cells #[.int .i64 t.m,.bool t.vd,.bool t.ac,.bool t.rf,.bool t.hl,.bool t.gr,.int .i64 t.al,.int .i64 t.sp,.int .i64 t.bi] 39 (0,0))
theorem tdr_put {w:World} {b:Nat} {t t':Td} (h:TDR w b t):TDR (((((((((w.setCell ⟨b,0,none⟩ (.int .i64 t'.m)).setCell ⟨b,1,none⟩ (.bool t'.vd)).setCell ⟨b,2,none⟩ (.bool t'.ac)).setCell ⟨b,3,none⟩ (.bool t'.rf)).setCell ⟨b,4,none⟩ (.bool t'.hl)).setCell ⟨b,5,none⟩ (.bool t'.gr)).setCell ⟨b,6,none⟩ (.int .i64 t'.al)).setCell ⟨b,7,none⟩ (.int .i64 t'.sp)).setCell ⟨b,8,none⟩ (.int .i64 t'.bi)) b t':=by
 replace h:(w.setCell ⟨b,0,none⟩ (.int .i64 t'.m)).heap[b]?=some (.cells #[.int .i64 t'.m,.bool t.vd,.bool t.ac,.bool t.rf,.bool t.hl,.bool t.gr,.int .i64 t.al,.int .i64 t.sp,.int .i64 t.bi] 39 (0,0)):=(heap_setCell_same _ b 0 _ _ _ h).trans rfl
 replace h:((w.setCell ⟨b,0,none⟩ (.int .i64 t'.m)).setCell ⟨b,1,none⟩ (.bool t'.vd)).heap[b]?=some (.cells #[.int .i64 t'.m,.bool t'.vd,.bool t.ac,.bool t.rf,.bool t.hl,.bool t.gr,.int .i64 t.al,.int .i64 t.sp,.int .i64 t.bi] 39 (0,0)):=(heap_setCell_same _ b 1 _ _ _ h).trans rfl
 replace h:(((w.setCell ⟨b,0,none⟩ (.int .i64 t'.m)).setCell ⟨b,1,none⟩ (.bool t'.vd)).setCell ⟨b,2,none⟩ (.bool t'.ac)).heap[b]?=some (.cells #[.int .i64 t'.m,.bool t'.vd,.bool t'.ac,.bool t.rf,.bool t.hl,.bool t.gr,.int .i64 t.al,.int .i64 t.sp,.int .i64 t.bi] 39 (0,0)):=(heap_setCell_same _ b 2 _ _ _ h).trans rfl
 replace h:((((w.setCell ⟨b,0,none⟩ (.int .i64 t'.m)).setCell ⟨b,1,none⟩ (.bool t'.vd)).setCell ⟨b,2,none⟩ (.bool t'.ac)).setCell ⟨b,3,none⟩ (.bool t'.rf)).heap[b]?=some (.cells #[.int .i64 t'.m,.bool t'.vd,.bool t'.ac,.bool t'.rf,.bool t.hl,.bool t.gr,.int .i64 t.al,.int .i64 t.sp,.int .i64 t.bi] 39 (0,0)):=(heap_setCell_same _ b 3 _ _ _ h).trans rfl
 replace h:(((((w.setCell ⟨b,0,none⟩ (.int .i64 t'.m)).setCell ⟨b,1,none⟩ (.bool t'.vd)).setCell ⟨b,2,none⟩ (.bool t'.ac)).setCell ⟨b,3,none⟩ (.bool t'.rf)).setCell ⟨b,4,none⟩ (.bool t'.hl)).heap[b]?=some (.cells #[.int .i64 t'.m,.bool t'.vd,.bool t'.ac,.bool t'.rf,.bool t'.hl,.bool t.gr,.int .i64 t.al,.int .i64 t.sp,.int .i64 t.bi] 39 (0,0)):=(heap_setCell_same _ b 4 _ _ _ h).trans rfl
 replace h:((((((w.setCell ⟨b,0,none⟩ (.int .i64 t'.m)).setCell ⟨b,1,none⟩ (.bool t'.vd)).setCell ⟨b,2,none⟩ (.bool t'.ac)).setCell ⟨b,3,none⟩ (.bool t'.rf)).setCell ⟨b,4,none⟩ (.bool t'.hl)).setCell ⟨b,5,none⟩ (.bool t'.gr)).heap[b]?=some (.cells #[.int .i64 t'.m,.bool t'.vd,.bool t'.ac,.bool t'.rf,.bool t'.hl,.bool t'.gr,.int .i64 t.al,.int .i64 t.sp,.int .i64 t.bi] 39 (0,0)):=(heap_setCell_same _ b 5 _ _ _ h).trans rfl
 replace h:(((((((w.setCell ⟨b,0,none⟩ (.int .i64 t'.m)).setCell ⟨b,1,none⟩ (.bool t'.vd)).setCell ⟨b,2,none⟩ (.bool t'.ac)).setCell ⟨b,3,none⟩ (.bool t'.rf)).setCell ⟨b,4,none⟩ (.bool t'.hl)).setCell ⟨b,5,none⟩ (.bool t'.gr)).setCell ⟨b,6,none⟩ (.int .i64 t'.al)).heap[b]?=some (.cells #[.int .i64 t'.m,.bool t'.vd,.bool t'.ac,.bool t'.rf,.bool t'.hl,.bool t'.gr,.int .i64 t'.al,.int .i64 t.sp,.int .i64 t.bi] 39 (0,0)):=(heap_setCell_same _ b 6 _ _ _ h).trans rfl
 replace h:((((((((w.setCell ⟨b,0,none⟩ (.int .i64 t'.m)).setCell ⟨b,1,none⟩ (.bool t'.vd)).setCell ⟨b,2,none⟩ (.bool t'.ac)).setCell ⟨b,3,none⟩ (.bool t'.rf)).setCell ⟨b,4,none⟩ (.bool t'.hl)).setCell ⟨b,5,none⟩ (.bool t'.gr)).setCell ⟨b,6,none⟩ (.int .i64 t'.al)).setCell ⟨b,7,none⟩ (.int .i64 t'.sp)).heap[b]?=some (.cells #[.int .i64 t'.m,.bool t'.vd,.bool t'.ac,.bool t'.rf,.bool t'.hl,.bool t'.gr,.int .i64 t'.al,.int .i64 t'.sp,.int .i64 t.bi] 39 (0,0)):=(heap_setCell_same _ b 7 _ _ _ h).trans rfl
 replace h:(((((((((w.setCell ⟨b,0,none⟩ (.int .i64 t'.m)).setCell ⟨b,1,none⟩ (.bool t'.vd)).setCell ⟨b,2,none⟩ (.bool t'.ac)).setCell ⟨b,3,none⟩ (.bool t'.rf)).setCell ⟨b,4,none⟩ (.bool t'.hl)).setCell ⟨b,5,none⟩ (.bool t'.gr)).setCell ⟨b,6,none⟩ (.int .i64 t'.al)).setCell ⟨b,7,none⟩ (.int .i64 t'.sp)).setCell ⟨b,8,none⟩ (.int .i64 t'.bi)).heap[b]?=some (.cells #[.int .i64 t'.m,.bool t'.vd,.bool t'.ac,.bool t'.rf,.bool t'.hl,.bool t'.gr,.int .i64 t'.al,.int .i64 t'.sp,.int .i64 t'.bi] 39 (0,0)):=(heap_setCell_same _ b 8 _ _ _ h).trans rfl
 exact h
theorem but_td {w:World} {g:Nat} {t:Td}:But g w (((((((((w.setCell ⟨g,0,none⟩ (.int .i64 t.m)).setCell ⟨g,1,none⟩ (.bool t.vd)).setCell ⟨g,2,none⟩ (.bool t.ac)).setCell ⟨g,3,none⟩ (.bool t.rf)).setCell ⟨g,4,none⟩ (.bool t.hl)).setCell ⟨g,5,none⟩ (.bool t.gr)).setCell ⟨g,6,none⟩ (.int .i64 t.al)).setCell ⟨g,7,none⟩ (.int .i64 t.sp)).setCell ⟨g,8,none⟩ (.int .i64 t.bi)):=but_g0
noncomputable def fix (k:Nat):Cn:=itr dflt (fun _=>2048) (fun _=>405300) (fun _=>true) (fun _=>false) k
theorem fix_sk:∀ k,k≤15→Sk (fix k) k (fun _=>405300)
 | 0,_=>sk_0 _
 | k+1,h=>(sk_gather (fix_sk k (by omega)) (by omega) false (show the dflt 2048=0 by decide +kernel) (show gd 405300=true by decide)).1
def fte:Td:=⟨1,true,true,false,false,false,0,0,0⟩
theorem fix_end:(stp dflt (fix 15) 2048 true 405300 false).2=fte:=by
 have h:=(sk_enter (fix_sk 15 (Nat.le_refl _)) (x:=dflt) (a:=2048) false (by decide +kernel) (by decide)).2
 have e:mv (fun _=>405300) 16=405300:=mv_const (by decide) (by decide) (fun _ _=>rfl)
 rw [e] at h
 have z:evn (az 405300) 16777216=0:=by decide +kernel
 rw [z] at h
 exact h
theorem fixed_cha (w:World) (T:Tb3 w):Calls Tryz.prog 4 #[] w (RetV (.bool true) w):=by
 go_enter Tryz.func4,Tryz.ntmps4
 go_wp2_with fail
 refine (default_any _).mono ?_
 rintro e_ y1 ⟨rfl,hb1⟩
 have E:=hb1
 replace T:=t3_keep hb1 T
 clear hb1
 go_wp2_with fail
 refine (chnew_ok dflt dflt64 default_kept _ T).mono ?_
 rintro e_ y2 ⟨b,fb,gb,rfl,c0,h0,h1,h2,hb2⟩
 have S:=lc_new E T c0 h0 h1 h2 hb2
 clear E T c0 h0 h1 h2 hb2
 have lo:∀ q,Ow b fb gb (.slice none 0 0) q→q<y2.heap.size:=fun q hq=>ch_own S.c q hq
 have b3:Below y2.heap.size y2 (y2.alloc (Obj.cells #[.int .i64 0,.bool false,.bool false,.bool false,.bool false,.bool false,.int .i64 0,.int .i64 0,.int .i64 0] 39)):=b_alloc (Below.refl _ _)
 have d0:TDR (y2.alloc (Obj.cells #[.int .i64 0,.bool false,.bool false,.bool false,.bool false,.bool false,.int .i64 0,.int .i64 0,.int .i64 0] 39)) y2.heap.size td0:=heap_alloc_last _ _
 replace S:=lc_keep S b3
 have dW:w.heap.size≤y2.heap.size:=by have:=lo b (Or.inl rfl); have:=S.o b (Or.inl rfl); omega
 have n0:b≠y2.heap.size:=Nat.ne_of_lt (lo _ (Or.inl rfl))
 have n1:fb≠y2.heap.size:=Nat.ne_of_lt (lo _ (Or.inr (Or.inl rfl)))
 have n2:gb≠y2.heap.size:=Nat.ne_of_lt (lo _ (Or.inr (Or.inr (Or.inl rfl))))
 have uD:Up y2.heap.size:=up_le (S.c.up b (Or.inl rfl)) (Nat.le_of_lt (lo b (Or.inl rfl)))
 clear lo b3
 replace S:=Lib.hid S
 go_wp2
 generalize y2.heap.size=D at *
 go_loopw [15] (fun iv wr=>∃ (k:Nat) (h1:Value) (q:Td),k≤16∧iv=.int .i64 k∧Hid (LC w b fb gb h1 dflt (fix k) wr)∧TDR wr D q∧Hid (k=16→q=fte)∧Hid (∀ i,h1.ownBlock=some i→i≠D)) (fun iv _=>16 - (intOf iv).toNat)
 case atStart=>exact ⟨0,_,td0,by decide,rfl,S,d0,Lib.hid (fun h=>by cases h),Lib.hid (fun i hi=>by cases hi)⟩
 case round =>
  clear S d0
  obtain ⟨k,h1,q,hk,rfl,S,dq,hq,nd⟩:=hrel
  by_cases hlt:k<16
  ·have hlk:(k:Int)<16:=by omega
   have hk0:(0:Int)≤k:=by omega
   have ws:IntKind.i64.wrap ((k:Int)+1)=(k:Int)+1:=by rw [IntKind.wrap_i64]; omega
   have ro:=itr_r dflt (fun _=>2048) (fun _=>405300) (fun _=>true) (fun _=>false) k
   have ok:=ok_itr dflt64 default_kept (fun _=>2048) (fun _=>405300) (fun _=>true) (fun _=>false) k
   have cs:=step_any (b:=b) (fb:=fb) (gb:=gb) (hl:=h1) dflt64 default_kept (C:=fix k) ok (by have:(fix k).r≤k:=ro; omega) 2048 true 405300 false wr S.out.c S.out.t
   replace hlt:=Lib.hid hlt
   clear ro ok
   go_wp2_with fail
   refine cs.mono ?_
   rintro e_ y3 ⟨rfl,h2,c2,q2,k2⟩
   clear cs
   have S2:=Lib.hid (lc_step S.out c2 q2 k2)
   have lD:=(Array.getElem?_eq_some_iff.1 dq).1
   have nD1:¬ Ow b fb gb h1 D:=fun c=>by
     rcases c with c | c | c | c
     ·exact n0 c.symm
     ·exact n1 c.symm
     ·exact n2 c.symm
     ·exact nd.out D c rfl
   have nd2:=Lib.hid (fun i (hi:h2.ownBlock=some i)=>(q2 i hi).elim (nd.out i) (fun e=>(by omega:i≠D)))
   replace dq:=chs_row k2 nD1 dq
   clear c2 q2 k2 S nD1 nd lD
   obtain ⟨R,hR⟩:∃ R,stp dflt (fix k) 2048 true 405300 false=R:=⟨_,rfl⟩
   have eq:Hid (k+1=16→R.2=fte):=Lib.hid (fun e=>by rw [← hR,show k=15 by omega]; exact fix_end)
   have eR:Hid (fix (k+1)=R.1):=Lib.hid (by rw [← hR]; rfl)
   rw [hR] at S2 ⊢
   clear hR
   obtain ⟨R1,R2⟩:=R
   dsimp only at S2 eq eR ⊢
   have nD2:¬ Ow b fb gb h2 D:=fun c=>by
     rcases c with c | c | c | c
     ·exact n0 c.symm
     ·exact n1 c.symm
     ·exact n2 c.symm
     ·exact nd2.out D c rfl
   have SF:=Lib.hid (lc_but S2.out (but_td (w:=y3) (g:=D) (t:=R2)) dW uD nD2)
   have dF:=Lib.hid (tdr_put (t':=R2) dq)
   have r9:=row9 dq
   have f9:=fz9 dq
   clear S2 dq nD2
   go_wp2
   refine ⟨⟨k+1,h2,R2,by omega,by go_num,by rw [eR.out]; exact SF,dF.out,eq,nd2⟩,?_⟩
   simp only [intOf]
   have:=hlt.out
   omega
  ·obtain rfl:k=16:=by omega
   obtain rfl:=hq.out rfl
   have r9:=row9 dq
   have te:=td_eq_self (m:=1) (vd:=true) (ac:=true) (rf:=false) (ho:=false) (gr:=false) (al:=0) (sp:=0) (bi:=0) (by decide) (by decide) (by decide) (by decide)
   unfold fte at r9
   clear dq hq nd hlt
   go_wp2
   go_ret
   exact ⟨rfl,S.out.b⟩
end Go.Proofs.YthnofhjgfhapiaaGreatDoor
namespace Go.Proofs.YthnofhjgfhapiaaGreatDoor
open Go.RowKit Go.Shelf Go.Joins
structure Vt (x:Nat→Int) (C:Cn):Prop where
 t:TM x C.u
 v:cl3 x C.v 0=C.v 0∧cl3 x C.v 1=C.v 1∧cl3 x C.v 2=C.v 2
 s:C.s≤x 29
theorem cl3_again {x:Nat→Int} (c:CN x) (v:Nat→Int):cl3 x (cl3 x v) 0=cl3 x v 0∧cl3 x (cl3 x v) 1=cl3 x v 1∧cl3 x (cl3 x v) 2=cl3 x v 2:=by
 obtain ⟨h0,h1,h2⟩:=cl3_bd c v
 exact ⟨clz_id h0.1 h0.2,clz_id h1.1 h1.2,clz_id h2.1 h2.2⟩
theorem mvd_in {x v:Nat→Int} (c:CN x) (h:cl3 x v 0=v 0∧cl3 x v 1=v 1∧cl3 x v 2=v 2) (t:Int):cl3 x (mvd x v t) 0=mvd x v t 0∧cl3 x (mvd x v t) 1=mvd x v t 1∧cl3 x (mvd x v t) 2=mvd x v t 2:=by
 unfold mvd
 split
 ·exact cl3_again c _
 ·exact h
theorem spd_tm {x u:Nat→Int} (c:CN x) (h:TM x u) (q:Bool):TM x (spd x u q):=by
 unfold spd
 split
 ·exact tmd_tm c _
 ·exact h
theorem start_tm {x:Nat→Int} (c:CN x):TM x (dgm (x 8) (x 9) (x 10)):=by
 obtain ⟨a0,a1⟩:=c.s0
 obtain ⟨b0,b1⟩:=c.s1
 obtain ⟨c0,c1⟩:=c.s2
 have f0:=c.f0
 have f1:=c.f1
 have f2:=c.f2
 have z:∀ u v:Int,0≤u→0≤v→(0:Int)*0≤u*v:=fun u v hu hv=>by rw [Int.zero_mul]; exact Int.mul_nonneg hu hv
 exact ⟨⟨a1,b1,c1⟩,six (P:=fun i=>FitP (dgm (x 8) (x 9) (x 10) i)) (show FitP (x 8) from ⟨by omega,by omega⟩) (show FitP 0 by decide) (show FitP 0 by decide) (show FitP (x 9) from ⟨by omega,by omega⟩) (show FitP 0 by decide) (show FitP (x 10) from ⟨by omega,by omega⟩),
  a0,b0,c0,z _ _ (show 0≤x 9 - x 12 by omega) (show 0≤x 8 - x 11 by omega),z _ _ (show 0≤x 10 - x 13 by omega) (show 0≤x 8 - x 11 by omega),z _ _ (show 0≤x 10 - x 13 by omega) (show 0≤x 9 - x 12 by omega)⟩
theorem az_bd (p:Int):-562949953421312≤az p∧az p<12385899975268864:=by
 unfold az
 split
 ·rename_i g
  exact al_range g
 ·exact ⟨by decide,by decide⟩
theorem enter_in {x:Nat→Int} (c:CN x) (p:Int):cl3 x (tri (az p) 0 0) 0=tri (az p) 0 0 0∧cl3 x (tri (az p) 0 0) 1=tri (az p) 0 0 1∧cl3 x (tri (az p) 0 0) 2=tri (az p) 0 0 2:=by
 have h:=az_bd p
 have b0:=c.b0
 have b1:=c.b1
 have b2:=c.b2
 exact ⟨clz_id (show -x 17≤az p by omega) (show az p≤x 17 by omega),clz_id (show -x 18≤0 by omega) b1.1,clz_id (show -x 19≤0 by omega) b2.1⟩
theorem vld_of {m:Int} (h:0≤m∧m≤3) (s:¬ sks m=true):vld m=true:=by
 unfold sks at s
 unfold vld
 simp at s ⊢
 omega
theorem vld_no {m:Int} (s:sks m=true):vld m=false:=by
 unfold sks at s
 unfold vld
 simp at s ⊢
 omega
theorem sks_no {m:Int} (s:vld m=true):sks m=false:=by
 unfold vld at s
 unfold sks
 simp at s ⊢
 omega
theorem nxt_lost {m s co ou:Int} (h:0≤m∧m≤3):nxt (m,s) 3 co ou=(3,0):=by
 unfold nxt
 by_cases k:sks m=true
 ·simp [k,vld_no k]
 ·simp [vld_of h k]
theorem nxt_take {m s co ou:Int} (h:vld m=true):nxt (m,s) 1 co ou=(1,0):=by
 unfold nxt
 simp [h]
theorem nxt_miss {m s co ou:Int} (h:vld m=true):nxt (m,s) 2 co ou=msd s co ou:=by
 unfold nxt
 simp [h]
theorem msd_in {s co ou:Int} (_:vld (msd s co ou).1=true):(msd s co ou).2≤ou:=by
 unfold msd at *
 split
 ·rename_i h1 h2
  rw [if_pos h2] at h1
  exact absurd h1 (by decide)
 ·split
  ·show s+1≤ou
   omega
  ·show s+1≤ou
   omega
theorem vt_stp {x:Nat→Int} (c:CN x) {C:Cn} (hm:0≤C.m∧C.m≤3) (h:vld C.m=true→Vt x C) (a:Int) (hh:Bool) (p:Int) (s:Bool):vld (stp x C a hh p s).1.m=true→Vt x (stp x C a hh p s).1:=by
 unfold stp
 generalize ah x a=ho
 generalize aq x C.r a=lo
 generalize br hh p=b
 obtain ⟨F,hF⟩:∃ F,fed x C a=F:=⟨_,rfl⟩
 have fm:F.m=C.m:=by rw [← hF]; rfl
 have fs:F.s=C.s:=by rw [← hF]; rfl
 have ft:vld F.m=true→Vt x F:=fun q=>by
  rw [fm] at q
  have k:=h q
  rw [← hF]
  exact ⟨k.t,k.v,k.s⟩
 rw [hF]
 rw [← fm] at hm
 generalize ap x C.l a=l1
 clear hF h fm fs
 intro q
 unfold fin at q ⊢
 unfold mid at q ⊢
 have co:=c.co
 cases lo
 ·rw [if_neg (by decide)] at q ⊢
  by_cases sk:sks F.m=true
  ·rw [if_pos sk] at q ⊢
   cases b
   ·rw [if_neg (by decide)] at q ⊢
    have e:nxt (F.m,F.s) 2 (x 28) (x 29)=(F.m,F.s):=nxt_seek sk rfl
    replace q:vld (nxt (F.m,F.s) 2 (x 28) (x 29)).1=true:=q
    rw [e] at q
    rw [vld_no sk] at q
    cases q
   ·rw [if_pos rfl] at q ⊢
    unfold gat at q ⊢
    by_cases n:F.n+1<16
    ·rw [if_pos n] at q ⊢
     replace q:vld (nxt (F.m,F.s) 2 (x 28) (x 29)).1=true:=q
     rw [nxt_seek sk rfl,vld_no sk] at q
     cases q
    ·rw [if_neg n] at q ⊢
     refine ⟨start_tm c,enter_in c _,?_⟩
     show (nxt (F.m,F.s) 0 (x 28) (x 29)).2≤x 29
     rw [nxt_in sk]
     show 0≤x 29
     omega
  ·rw [if_neg sk] at q ⊢
   have vl:=vld_of hm sk
   obtain ⟨t0,v0,s0⟩:=ft vl
   have M:∀ D:Cn,D.m=F.m→D.s=F.s→TM x D.u→(cl3 x D.v 0=D.v 0∧cl3 x D.v 1=D.v 1∧cl3 x D.v 2=D.v 2)→vld (trn x D 2).m=true→Vt x (trn x D 2):=fun D e0 e1 e2 e3 e4=>by
    refine ⟨e2,e3,?_⟩
    replace e4:vld (nxt (D.m,D.s) 2 (x 28) (x 29)).1=true:=e4
    show (nxt (D.m,D.s) 2 (x 28) (x 29)).2≤x 29
    rw [e0,e1,nxt_miss vl] at e4 ⊢
    exact msd_in e4
   have tm:=spd_tm c t0 ho
   have vm:=mvd_in c v0 l1
   cases b
   ·rw [if_neg (by decide)] at q ⊢
    exact M (mov x F l1 ho) rfl rfl tm vm q
   ·rw [if_pos rfl] at q ⊢
    unfold tke at q ⊢
    by_cases tk:tak x (mov x F l1 ho) p s
    ·rw [if_pos tk] at q ⊢
     refine ⟨tmd_tm c _,cl3_again c _,?_⟩
     show (nxt (F.m,F.s) 1 (x 28) (x 29)).2≤x 29
     rw [nxt_take vl]
     show 0≤x 29
     omega
    ·rw [if_neg tk] at q ⊢
     exact M (mov x F l1 ho) rfl rfl tm vm q
 ·rw [if_pos rfl] at q ⊢
  replace q:vld (nxt (F.m,F.s) 3 (x 28) (x 29)).1=true:=q
  rw [nxt_lost hm] at q
  exact absurd q (by decide)
theorem vt_itr {x:Nat→Int} (c:CN x) (a p:Nat→Int) (h s:Nat→Bool):∀ k,vld (itr x a p h s k).m=true→Vt x (itr x a p h s k)
 | 0=>fun q=>absurd (show vld 0=true from q) (by decide)
 | k+1=>vt_stp c (itr_m x a p h s k) (vt_itr c a p h s k) _ _ _ _
end Go.Proofs.YthnofhjgfhapiaaGreatDoor
namespace Go.Proofs.YthnofhjgfhapiaaGreatDoor
open Go.RowKit Go.Shelf Go.Joins
abbrev tkl (a:Int) (h:Bool) (p:Int) (s:Bool):List Value:=[.int .i64 a,.bool h,.int .i64 p,.bool s]
theorem tk_new (w:World) (a:Int) (h:Bool) (p:Int) (s:Bool) (t:TypeId):∀ j u,(tkl a h p s)[j]?=some u→(w.alloc (Obj.cells #[.int .i64 a,.bool h,.int .i64 p,.bool s] t)).cell? ((⟨w.heap.size,0,none⟩:Addr).add j)=some u:=fun j u hu=>by
 have hadd:(⟨w.heap.size,0,none⟩:Addr).add j=⟨w.heap.size,j,none⟩:=by unfold Addr.add; split <;> simp_all
 rw [hadd,cell_of_row _ _ j _ _ _ (heap_alloc_last w _)]
 simpa using hu
theorem row4 {w:World} {b:Nat} {t:TypeId} {c0 c1 c2 c3:Value} (h:w.heap[b]?=some (.cells #[c0,c1,c2,c3] t (0,0))):w.cell? ⟨b,0,none⟩=some c0∧w.cell? ⟨b,1,none⟩=some c1∧w.cell? ⟨b,2,none⟩=some c2∧w.cell? ⟨b,3,none⟩=some c3:=⟨(cell_of_row _ _ 0 _ _ _ h).trans rfl,(cell_of_row _ _ 1 _ _ _ h).trans rfl,(cell_of_row _ _ 2 _ _ _ h).trans rfl,(cell_of_row _ _ 3 _ _ _ h).trans rfl⟩
end Go.Proofs.YthnofhjgfhapiaaGreatDoor
namespace Go.Proofs.YthnofhjgfhapiaaGreatDoor
open Go.RowKit Go.Shelf Go.Joins
structure Ls2 (x:Nat→Int) (C:Cn) (a:Int) (R:Cn × Td):Prop where
 q:aq x C.r a=true→R.2.m=3∧R.2.vd=false∧R.2.ac=false
 y:R.2.ac=true→R.2.rf=false∧R.2.m=1∧R.1.s=0
 n:R.2.ac=false→R.2.vd=true→vld C.m=true∧R.1.s=C.s+1
theorem msd_s {s co ou:Int} (h:vld (msd s co ou).1=true):(msd s co ou).2=s+1:=by
 unfold msd at *
 split
 ·rename_i h2
  rw [if_pos h2] at h
  exact absurd h (by decide)
 ·split <;> rfl
theorem ls2_stp {x:Nat→Int} {C:Cn} (hm:0≤C.m∧C.m≤3) (a:Int) (hh:Bool) (p:Int) (s:Bool):Ls2 x C a (stp x C a hh p s):=by
 unfold stp
 generalize ah x a=ho
 obtain ⟨lo,hlo⟩:∃ q,aq x C.r a=q:=⟨_,rfl⟩
 rw [hlo]
 generalize br hh p=b
 obtain ⟨F,hF⟩:∃ F,fed x C a=F:=⟨_,rfl⟩
 have fm:F.m=C.m:=by rw [← hF]; rfl
 have fs:F.s=C.s:=by rw [← hF]; rfl
 rw [hF]
 generalize ap x C.l a=l1
 clear hF
 rw [← fm] at hm
 unfold fin mid
 have NO:∀ (D:Cn) (k g hl2:Bool),D.m=F.m→D.s=F.s→(sks F.m=true∨vld F.m=true)→lo=false→Ls2 x C a (trn x D 2,tel (trn x D 2) (decide ((2:Int)=0∨(2:Int)=1)) (k && decide ((2:Int)=2)) hl2 g):=fun D k g hl2 e0 e1 e2 e3=>by
  refine ⟨fun q=>(by rw [hlo,e3] at q; cases q),fun q=>absurd (show decide ((2:Int)=0∨(2:Int)=1)=true from q) (by decide),fun _ q=>?_⟩
  replace q:vld (nxt (D.m,D.s) 2 (x 28) (x 29)).1=true:=q
  show vld C.m=true∧(nxt (D.m,D.s) 2 (x 28) (x 29)).2=C.s+1
  rw [e0,e1] at q ⊢
  rcases e2 with e2 | e2
  ·rw [nxt_seek e2 rfl,vld_no e2] at q
   cases q
  ·rw [nxt_miss e2] at q ⊢
   exact ⟨by rw [← fm]; exact e2,by rw [msd_s q,fs]⟩
 cases lo
 ·rw [if_neg (by decide)]
  by_cases sk:sks F.m=true
  ·rw [if_pos sk]
   cases b
   ·rw [if_neg (by decide)]
    exact NO F false false ho rfl rfl (Or.inl sk) rfl
   ·rw [if_pos rfl]
    unfold gat
    by_cases n:F.n+1<16
    ·rw [if_pos n]
     exact NO { F with n:=F.n+1,z:=more F.z F.n p } false false ho rfl rfl (Or.inl sk) rfl
    ·rw [if_neg n]
     have e:nxt ((ent x F p).m,(ent x F p).s) 0 (x 28) (x 29)=(1,0):=nxt_in sk
     refine ⟨fun q=>(by rw [hlo] at q; cases q),fun _=>⟨rfl,?_,?_⟩,fun q=>absurd (show decide ((0:Int)=0∨(0:Int)=1)=false from q) (by decide)⟩
     ·show (nxt ((ent x F p).m,(ent x F p).s) 0 (x 28) (x 29)).1=1
      rw [e]
     ·show (nxt ((ent x F p).m,(ent x F p).s) 0 (x 28) (x 29)).2=0
      rw [e]
  ·rw [if_neg sk]
   have vl:=vld_of hm sk
   cases b
   ·rw [if_neg (by decide)]
    exact NO (mov x F l1 ho) false false ho rfl rfl (Or.inr vl) rfl
   ·rw [if_pos rfl]
    unfold tke
    by_cases tk:tak x (mov x F l1 ho) p s
    ·rw [if_pos tk]
     have e:nxt ((tkn x (mov x F l1 ho) p s).m,(tkn x (mov x F l1 ho) p s).s) 1 (x 28) (x 29)=(1,0):=nxt_take vl
     refine ⟨fun q=>(by rw [hlo] at q; cases q),fun _=>⟨rfl,?_,?_⟩,fun q=>absurd (show decide ((1:Int)=0∨(1:Int)=1)=false from q) (by decide)⟩
     ·show (nxt ((tkn x (mov x F l1 ho) p s).m,(tkn x (mov x F l1 ho) p s).s) 1 (x 28) (x 29)).1=1
      rw [e]
     ·show (nxt ((tkn x (mov x F l1 ho) p s).m,(tkn x (mov x F l1 ho) p s).s) 1 (x 28) (x 29)).2=0
      rw [e]
    ·rw [if_neg tk]
     exact NO (mov x F l1 ho) true (tG x F p) ho rfl rfl (Or.inr vl) rfl
 ·rw [if_pos rfl]
  have e:nxt (F.m,F.s) 3 (x 28) (x 29)=(3,0):=nxt_lost hm
  have e1:(trn x F 3).m=3:=by
   show (nxt (F.m,F.s) 3 (x 28) (x 29)).1=3
   rw [e]
  refine ⟨fun _=>⟨e1,?_,rfl⟩,fun q=>absurd (show decide ((3:Int)=0∨(3:Int)=1)=true from q) (by decide),fun _ q=>?_⟩
  ·show vld (trn x F 3).m=false
   rw [e1]
   rfl
  ·replace q:vld (trn x F 3).m=true:=q
   rw [e1] at q
   exact absurd q (by decide)
noncomputable def las (x a p:Nat→Int) (h s:Nat→Bool):Nat→Int
 | 0=>-1
 | k+1=>if (otr x a p h s k).ac then (k:Int) else las x a p h s k
theorem las_bd (x a p:Nat→Int) (h s:Nat→Bool):∀ k:Nat,-1≤las x a p h s k∧las x a p h s k<k
 | 0=>⟨(show (-1:Int)≤-1 by decide),(show (-1:Int)<0 by decide)⟩
 | k+1=>by
  have i:=las_bd x a p h s k
  show -1≤(if (otr x a p h s k).ac then (k:Int) else las x a p h s k)∧(if (otr x a p h s k).ac then (k:Int) else las x a p h s k)<((k+1:Nat):Int)
  split <;> exact ⟨by omega,by omega⟩
theorem las_s (x a p:Nat→Int) (h s:Nat→Bool):∀ k:Nat,vld (itr x a p h s k).m=true→0≤las x a p h s k∧(itr x a p h s k).s=k - 1 - las x a p h s k
 | 0=>fun q=>absurd (show vld 0=true from q) (by decide)
 | k+1=>fun q=>by
  have L:=ls2_stp (x:=x) (itr_m x a p h s k) (a k) (h k) (p k) (s k)
  have i:=las_s x a p h s k
  have b:=las_bd x a p h s k
  show 0≤(if (otr x a p h s k).ac then (k:Int) else las x a p h s k)∧(stp x (itr x a p h s k) (a k) (h k) (p k) (s k)).1.s=((k+1:Nat):Int) - 1 - (if (otr x a p h s k).ac then (k:Int) else las x a p h s k)
  by_cases c:(otr x a p h s k).ac=true
  ·rw [if_pos c,(L.y c).2.2]
   exact ⟨by omega,by omega⟩
  ·rw [if_neg c]
   replace c:(otr x a p h s k).ac=false:=by simpa using c
   obtain ⟨c1,c2⟩:=L.n c q
   obtain ⟨i0,i1⟩:=i c1
   exact ⟨i0,by rw [c2,i1]; omega⟩
end Go.Proofs.YthnofhjgfhapiaaGreatDoor

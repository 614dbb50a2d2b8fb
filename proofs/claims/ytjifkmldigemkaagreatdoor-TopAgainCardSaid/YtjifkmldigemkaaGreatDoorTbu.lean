import Derived.Test.YtjifkmldigemkaaGreatDoorTbt
import Derived.Test.YtjifkmldigemkaaGreatDoorTbs
import Derived.Test.YtjifkmldigemkaaGreatDoorTbp
import Derived.Test.YtjifkmldigemkaaGreatDoorTab
import Derived.Test.YtjifkmldigemkaaGreatDoorTbq
import Derived.Test.YtjifkmldigemkaaGreatDoorTag
import Derived.Test.YtjifkmldigemkaaGreatDoorTaa
import Derived.Test.YtjifkmldigemkaaGreatDoorTaf
import Derived.Test.YtjifkmldigemkaaGreatDoorTae
set_option maxHeartbeats 8000000
set_option maxRecDepth 10000
namespace Go.Proofs.YtjifkmldigemkaaGreatDoor
open Go.RowKit Go.Shelf Go.Joins
def Tiny (z:Int):Prop:=-2037035976334486086268445688409378161051468393665936250636140449354381299763336706183397376≤z∧z≤2037035976334486086268445688409378161051468393665936250636140449354381299763336706183397376
theorem tiny_small {z:Int} (h:Tiny z):Small z:=by obtain ⟨a,b⟩:=h; exact small_of (by omega) (by omega)
structure DR (w:World) (n1:Bool) (aa:Option Addr) (a:List Int) (ca:Nat) (y:Int) (B:Nat) (q r:Int) (wr:World):Prop where
 hA:wr.heap[B]?=some (.cells #[.bool n1,.slice aa a.length ca] 116 (0,0))
 hD:DG wr (.slice aa a.length ca) a
 hY:VB wr (B+1) y
 hR:BV wr (B+1+1)
 hQ:VB wr (B+1+1+1) q
 hL:VB wr (B+1+1+1+1) r
 hB:Below w.heap.size w wr
theorem dr_keep {w wr w':World} {n1:Bool} {aa:Option Addr} {a:List Int} {ca:Nat} {y:Int} {B:Nat} {q r:Int} (h:DR w n1 aa a ca y B q r wr) (hb:Below wr.heap.size wr w'):DR w n1 aa a ca y B q r w' :=
 ⟨by rw [hb.block B (Array.getElem?_eq_some_iff.1 h.hA).1]; exact h.hA,dg_keep h.hD hb,vb_keep h.hY hb,bv_keep hb h.hR,vb_keep h.hQ hb,vb_keep h.hL hb,b_trans h.hB hb⟩
theorem dr_left {w wr:World} {n1:Bool} {aa:Option Addr} {a:List Int} {ca:Nat} {y:Int} {B:Nat} {q r r':Int} {n:Bool} {x:Option Addr} {k c:Nat} (h:DR w n1 aa a ca y B q r wr) (hv:BG wr (.agg #[.bool n,.slice x k c]) r') (hw:w.heap.size≤B) :
  DR w n1 aa a ca y B q r' ((wr.setCell ⟨B+1+1+1+1,0,none⟩ (.bool n)).setCell ⟨B+1+1+1+1,1,none⟩ (.slice x k c)):=by
 have b:=vb_bv h.hL
 exact ⟨by rw [heap_two (by omega)]; exact h.hA,dg_store b h.hD,vb_other b h.hY (by omega),bv_other h.hR (by omega),vb_other b h.hQ (by omega),vb_store b hv,b_set (b_set h.hB (by show _≤B+1+1+1+1; omega)) (by show _≤B+1+1+1+1; omega)⟩
theorem dr_quot {w wr:World} {n1:Bool} {aa:Option Addr} {a:List Int} {ca:Nat} {y:Int} {B:Nat} {q r q':Int} {n:Bool} {x:Option Addr} {k c:Nat} (h:DR w n1 aa a ca y B q r wr) (hv:BG wr (.agg #[.bool n,.slice x k c]) q') (hw:w.heap.size≤B) :
  DR w n1 aa a ca y B q' r ((wr.setCell ⟨B+1+1+1,0,none⟩ (.bool n)).setCell ⟨B+1+1+1,1,none⟩ (.slice x k c)):=by
 have b:=vb_bv h.hQ
 exact ⟨by rw [heap_two (by omega)]; exact h.hA,dg_store b h.hD,vb_other b h.hY (by omega),bv_other h.hR (by omega),vb_store b hv,vb_other b h.hL (by omega),b_set (b_set h.hB (by show _≤B+1+1+1; omega)) (by show _≤B+1+1+1; omega)⟩
theorem cmp3_ge (a b:Int):(b≤a→0≤cmp3 a b)∧(a<b→¬ 0≤cmp3 a b):=by
 unfold cmp3
 constructor
 ·intro h; split
  ·decide
  ·split <;> omega
 ·intro h
  rw [if_neg (by omega),if_pos h]
  decide
theorem dw_end {A y q r:Int} (h:DW A y q r 0) (y1:1≤y):A / y=q∧(r=0→-A / y=-q)∧(r≠0→-A / y=-(q+1)):=by
 obtain ⟨r0,r1,q0,e⟩:=h
 simp at e
 refine ⟨?_,?_,?_⟩
 ·rw [e,Int.add_comm,Int.add_mul_ediv_right _ _ (by omega),Int.ediv_eq_zero_of_lt r0 r1]; omega
 ·intro h
  subst h
  rw [e,Int.add_zero,← Int.neg_mul,Int.mul_ediv_cancel _ (by omega)]
 ·intro h
  have:-A=(y - r)+(-(q+1))*y:=by rw [e,Int.neg_mul,Int.add_mul]; omega
  rw [this,Int.add_mul_ediv_right _ _ (by omega),Int.ediv_eq_zero_of_lt (by omega) (by omega)]; omega
theorem bg_digits {w:World} {n:Bool} {a:Option Addr} {k c:Nat} {z:Int} (h:BG w (.agg #[.bool n,.slice a k c]) z) (z0:0≤z):∃ l:List Int,k=l.length∧DG w (.slice a k c) l∧Dig l∧val l=z∧(l=[]↔z=0):=by
 obtain ⟨m,dv,l,e,h2,h3,h4,h5,h6⟩:=h
 simp at e
 obtain ⟨rfl,rfl⟩:=e
 obtain ⟨k1,k2,k3⟩:=sgn_neg h3 h4 h5
 obtain ⟨a',c',e',_⟩:=dg_len h2
 simp at e'
 obtain ⟨rfl,rfl,rfl⟩:=e'
 exact ⟨l,rfl,h2,h3,by rw [← h6] at k3; omega,by rw [← h6] at k2; exact k2.symm⟩
theorem half_pow (d:Int) (s:Nat):d / 2 ^ s / 2=d / 2 ^ (s+1):=by
 rw [Int.pow_succ,Int.ediv_ediv_of_nonneg (Int.le_of_lt (Int.pow_pos (by decide)))]
theorem shr_bd {d:Int} (h0:0≤d) (h1:d≤65535) (s:Nat):0≤d / 2 ^ s∧d / 2 ^ s≤65535:=by
 have pz:(0:Int)<2 ^ s:=Int.pow_pos (by decide)
 exact ⟨Int.ediv_nonneg h0 (by omega),Int.le_trans (Int.ediv_le_self _ h0) h1⟩
theorem down_go (n1:Bool) (aa:Option Addr) (ca:Nat) (a:List Int) (vb:Value) (y:Int) (w:World) (hA:DG w (.slice aa a.length ca) a) (da:Dig a) (ma:a.length≤1000) (hy:BG w vb y) (y1:1≤y) (ty:Tiny y) (tA:Tiny (val a)) :
  Calls Tryz.prog 114 #[.agg #[.bool n1,.slice aa a.length ca],vb] w (RetB (sgn n1 (val a) / y) w):=by
 obtain ⟨nb,ab,kb,cb,rfl⟩:=bg_form hy
 have A0:=val_nonneg da
 have dw0:DW (val a) y 0 0 (16*a.length):=⟨Int.le_refl _,by omega,Int.le_refl _,by rw [top_zero A0 (val_lt da)]; simp⟩
 go_enter Tryz.func114,Tryz.ntmps114
 go_wp2
 have B5:Below w.heap.size w (((((w.alloc (Obj.cells #[.bool n1,.slice aa a.length ca] 116)).alloc (Obj.cells #[.bool nb,.slice ab kb cb] 116)).alloc (Obj.cells #[.bool false,.slice none 0 0] 116)).alloc (Obj.cells #[.bool false,.slice none 0 0] 116)).alloc (Obj.cells #[.bool false,.slice none 0 0] 116)):=b_alloc (b_alloc (b_alloc (b_alloc (b_alloc (Below.refl _ _)))))
 have D0:DR w n1 aa a ca y w.heap.size 0 0 (((((w.alloc (Obj.cells #[.bool n1,.slice aa a.length ca] 116)).alloc (Obj.cells #[.bool nb,.slice ab kb cb] 116)).alloc (Obj.cells #[.bool false,.slice none 0 0] 116)).alloc (Obj.cells #[.bool false,.slice none 0 0] 116)).alloc (Obj.cells #[.bool false,.slice none 0 0] 116)):=by
  refine ⟨?_,dg_keep hA B5,?_,?_,?_,?_,B5⟩
  ·rw [Below.heap_alloc _ _ _ (by simp; omega),Below.heap_alloc _ _ _ (by simp; omega),Below.heap_alloc _ _ _ (by simp; omega),Below.heap_alloc _ _ _ (by simp)]
   exact (MapKept.heap_alloc w _).1
  ·exact vb_keep (vb_new (by simp) (bg_keep hy (b_alloc (Below.refl _ _)))) (b_alloc (b_alloc (b_alloc (Below.refl _ _))))
  ·exact bv_keep (b_alloc (b_alloc (Below.refl _ _))) (bv_new _ _ _ _ (by simp))
  ·exact vb_keep (vb_new (by simp) (bg_zero _)) (b_alloc (Below.refl _ _))
  ·exact vb_new (by simp) (bg_zero _)
 have sl:∀ x:Int,x=(a.length:Int)→0≤x∧x≤1000:=fun x h=>by omega
 clear hA hy B5
 generalize (((((w.alloc (Obj.cells #[.bool n1,.slice aa a.length ca] 116)).alloc (Obj.cells #[.bool nb,.slice ab kb cb] 116)).alloc (Obj.cells #[.bool false,.slice none 0 0] 116)).alloc (Obj.cells #[.bool false,.slice none 0 0] 116)).alloc (Obj.cells #[.bool false,.slice none 0 0] 116))=W0 at *
 have k1:BC W0 w.heap.size n1 (.slice aa a.length ca):=⟨by rw [cell_of_block D0.hA]; rfl,by rw [cell_of_block D0.hA]; rfl⟩
 have tt:16*(a.length:Int)≤16000:=by omega
 go_wp2
 clear k1
 go_loopw [7] (fun iv wr=>∃ (k:Nat) (q r:Int),k≤16*a.length∧iv=.int .i64 ((k:Int) - 1)∧DW (val a) y q r k∧DR w n1 aa a ca y w.heap.size q r wr) (fun iv _=>(intOf iv+1).toNat)
 case atStart=>exact ⟨16*a.length,0,0,Nat.le_refl _,by simp,dw0,D0⟩
 case round =>
  obtain ⟨k,q,r,hk,rfl,dw,D⟩:=hrel
  clear dw0 D0 sl
  have qA:=dw_q dw A0 y1
  by_cases c:k=0
  ·subst c
   have DE:=dw_end dw y1
   have q0:=dw.q0; have r0:=dw.r0
   cases n1
   ·have CC:Hid (sgn false q=sgn false (val a) / y):=Lib.hid (by unfold sgn; simp; rw [DE.1])
    clear DE dw
    have k1:BC wr w.heap.size false (.slice aa a.length ca):=⟨by rw [cell_of_block D.hA]; rfl,by rw [cell_of_block D.hA]; rfl⟩
    obtain ⟨nq,aq,kq,cq,qq,fq,gq⟩:=vb_use D.hQ
    obtain ⟨l,rfl,gl,dl,vl,_⟩:=bg_digits gq (by omega)
    have ka:BC _ w.heap.size false (.slice aa a.length ca):=⟨by rw [cell_of_block D.hA]; rfl,by rw [cell_of_block D.hA]; rfl⟩
    have cC:=cut_any false _ l _ dl gl
    rw [vl,show sgn false (q)=sgn false (val a) / y from CC.out] at cC
    clear gq gl vl dl
    generalize l.length=ll at *
    go_wp2_with fail
    refine cC.mono ?_
    rintro e w9 ⟨v9,rfl,h9,hb9⟩
    obtain ⟨n9',a9',k9',c9',rfl⟩:=bg_form h9
    have r9:=bv_keep hb9 D.hR
    have B9:=b_trans D.hB hb9
    obtain ⟨n8',a8',k8',c8',r8,f8⟩:=bv_use r9
    have HB:=Lib.hid (And.intro r9 h9)
    clear h9 hb9 r9 cC qq fq ka
    go_wp2
    exact bodyPost_ret (v:=.agg #[.bool n9',.slice a9' k9' c9']) (by simp [results,Tryz.results114,go_sem,r8]) rfl ⟨_,rfl,bg_store HB.out.1 HB.out.2,b_set (b_set B9 (by simp; omega)) (by simp; omega)⟩
   ·obtain ⟨nL,aL,kL,cL,qL,fL,gL⟩:=vb_use D.hL
    obtain ⟨l2,rfl,_,_,_,hz⟩:=bg_digits gL r0
    have k1:BC wr w.heap.size true (.slice aa a.length ca):=⟨by rw [cell_of_block D.hA]; rfl,by rw [cell_of_block D.hA]; rfl⟩
    have qE:=dw_q dw A0 y1
    by_cases rz:r=0
    ·have len0:¬ (0:Int)<(l2.length:Int):=by rw [hz.2 rz]; simp
     have CC:Hid (sgn true q=sgn true (val a) / y):=Lib.hid (by unfold sgn; simp; rw [DE.2.1 rz])
     clear DE dw gL hz
     generalize l2.length=ll2 at *
     obtain ⟨nq,aq,kq,cq,qq,fq,gq⟩:=vb_use D.hQ
     obtain ⟨l,rfl,gl,dl,vl,_⟩:=bg_digits gq (by omega)
     have ka:BC _ w.heap.size true (.slice aa a.length ca):=⟨by rw [cell_of_block D.hA]; rfl,by rw [cell_of_block D.hA]; rfl⟩
     have cC:=cut_any true _ l _ dl gl
     rw [vl,show sgn true (q)=sgn true (val a) / y from CC.out] at cC
     clear gq gl vl dl
     generalize l.length=ll at *
     go_wp2_with fail
     refine cC.mono ?_
     rintro e w9 ⟨v9,rfl,h9,hb9⟩
     obtain ⟨n9',a9',k9',c9',rfl⟩:=bg_form h9
     have r9:=bv_keep hb9 D.hR
     have B9:=b_trans D.hB hb9
     obtain ⟨n8',a8',k8',c8',r8,f8⟩:=bv_use r9
     have HB:=Lib.hid (And.intro r9 h9)
     clear h9 hb9 r9 cC qq fq ka
     go_wp2
     exact bodyPost_ret (v:=.agg #[.bool n9',.slice a9' k9' c9']) (by simp [results,Tryz.results114,go_sem,r8]) rfl ⟨_,rfl,bg_store HB.out.1 HB.out.2,b_set (b_set B9 (by simp; omega)) (by simp; omega)⟩
    ·have len0:(0:Int)<(l2.length:Int):=by
      have:l2≠[]:=fun h=>rz (hz.1 h)
      have:=List.length_pos_iff.2 this
      omega
     have CC:Hid (sgn true (q+1)=sgn true (val a) / y):=Lib.hid (by unfold sgn; simp; rw [DE.2.2 rz])
     clear DE dw gL hz
     generalize l2.length=ll2 at *
     go_wp2
     obtain ⟨n5,a5,k5,c5,q1,f5,q2⟩:=vb_use D.hQ
     have sq:Small q:=small_of (by have:=tA.2; omega) (by have:=tA.2; omega)
     refine region_each [63,64,65] (fun i X_ U_=>match i with | 0=>X_=.agg #[.bool n5,.slice a5 k5 c5] | 1=>BG U_ X_ 1 | 2=>BG U_ X_ (q+1) | _=>True) (fun i=>false) (by kernel_rfl) (by kernel_rfl) (by kernel_rfl) (by kernel_rfl) (by kernel_rfl) ?_ ?_ ?_ ?_
     ·refine swp (upS (upS (upS up0 ?_) ?_) ?_)
      ·exact fun _ _ _ h _=>h
      ·intro x w w' h hb; exact bg_keep h hb
      ·intro x w w' h hb; exact bg_keep h hb
     ·intro i x w hi ha h
      cases ha
     ·refine upS (upS (upS up0 ?_) ?_) ?_
      all_goals intro v f w' hb hv hB hd
      ·have b5:f.tmps[5]?=some (.pointer (some ⟨w.heap.size+1+1+1,0,none⟩)):=(hb 5 (by decide)).trans rfl
       clear hb hv hd
       have c:=bc_keep hB q1
       refine wpOp_step rfl (fun K hK=>?_)
       go_simp
       exact hK _ _ ⟨_,rfl,Below.refl _ _,rfl,fun h=>absurd h (by decide)⟩
      ·clear hb hv hd
       refine wpOp_call rfl (fun _ _=>by go_simp) (by simp [Act.eval]) (of_big 1 (by decide) (by decide) _) ?_
       rintro e w5 ⟨v5,rfl,h5,hb5⟩
       exact ⟨_,rfl,_,rfl,hb5,h5,fun h=>absurd h (by decide)⟩
      ·have h0:(v 0)=.agg #[.bool n5,.slice a5 k5 c5]:=hd 0 (by kernel_rfl)
       have d0:f.tmps[63]?=some (.agg #[.bool n5,.slice a5 k5 c5]):=(hv 0 63 rfl).trans (congrArg some h0)
       clear h0
       have h1:BG w' (v 1) 1:=hd 1 (by kernel_rfl)
       have d1:f.tmps[64]?=some (v 1):=hv 1 64 rfl
       clear hb hv hd
       refine wpOp_call rfl (fun _ _=>by go_simp) (by simp [Act.eval,d0,d1]) (add_big _ _ (q) 1 _ (bg_keep q2 hB) h1 sq small_one) ?_
       rintro e w5 ⟨v5,rfl,h5,hb5⟩
       exact ⟨_,rfl,_,rfl,hb5,h5,fun h=>absurd h (by decide)⟩
     ·intro v w' hB hF hD
      have F0:(v 0)=.agg #[.bool n5,.slice a5 k5 c5]:=hF 0 (by simp)
      have F1:BG w' (v 1) 1:=hF 1 (by simp)
      have F2:BG w' (v 2) (q+1):=hF 2 (by simp)
      clear hF
      obtain ⟨n9,a9,k9,c9,e1⟩:=bg_form F1
      obtain ⟨n8,a8,k8,c8,e2⟩:=bg_form F2
      rw [e2] at F2
      simp only [frOf,frGo,Nat.zero_add,Nat.reduceAdd,F0,e1,e2]
      clear F1 e1 e2 F0
      have D10:=dr_keep D hB
      obtain ⟨nq,aq,kq,cq,qq,fq,_⟩:=vb_use D10.hQ
      have D11:=dr_quot D10 F2 (Nat.le_refl _)
      clear D10 F2 hB hD q1 q2 f5 qL fL k1 D
      obtain ⟨nq,aq,kq,cq,qq,fq,gq⟩:=vb_use D11.hQ
      obtain ⟨l,rfl,gl,dl,vl,_⟩:=bg_digits gq (by omega)
      have ka:BC _ w.heap.size true (.slice aa a.length ca):=⟨by rw [cell_of_block D11.hA]; rfl,by rw [cell_of_block D11.hA]; rfl⟩
      have cC:=cut_any true _ l _ dl gl
      rw [vl,show sgn true (q+1)=sgn true (val a) / y from CC.out] at cC
      clear gq gl vl dl
      generalize l.length=ll at *
      go_wp2_with fail
      refine cC.mono ?_
      rintro e w9 ⟨v9,rfl,h9,hb9⟩
      obtain ⟨n9',a9',k9',c9',rfl⟩:=bg_form h9
      have r9:=bv_keep hb9 D11.hR
      have B9:=b_trans D11.hB hb9
      obtain ⟨n8',a8',k8',c8',r8,f8⟩:=bv_use r9
      have HB:=Lib.hid (And.intro r9 h9)
      clear h9 hb9 r9 cC qq fq ka
      go_wp2
      exact bodyPost_ret (v:=.agg #[.bool n9',.slice a9' k9' c9']) (by simp [results,Tryz.results114,go_sem,r8]) rfl ⟨_,rfl,bg_store HB.out.1 HB.out.2,b_set (b_set B9 (by simp; omega)) (by simp; omega)⟩
  ·obtain ⟨i,rfl⟩:∃ i,k=i+1:=⟨k - 1,by omega⟩
   have st:=fun t h=>dw_step dw t h
   have hbit:=bit_of da i
   have hi16:i / 16<a.length:=by omega
   obtain ⟨ga,ca',e1,_,_,hca⟩:=dg_cell D.hD (i / 16) hi16
   simp at e1
   obtain ⟨rfl,rfl⟩:=e1
   have k1:BC wr w.heap.size n1 (.slice (some ⟨ga,0,none⟩) a.length ca):=⟨by rw [cell_of_block D.hA]; rfl,by rw [cell_of_block D.hA]; rfl⟩
   have dd:=dig_getD da (i / 16)
   have ST:=Lib.hid (st _ hbit.symm)
   have r0:=dw.r0; have r1:=dw.r1; have q0:=dw.q0
   clear st hbit dw
   generalize a.getD (i / 16) 0=d at *
   rw [show (((i+1:Nat):Int) - 1)=(i:Int) by omega]
   have hm:ca≤9223372036854775807:=by have:=dg_len D.hD; obtain ⟨_,_,e,_,h⟩:=this; simp at e; unfold maxLen at h; omega
   go_wp2
   go_loop [8,9] (fun xv sv=>∃ s:Nat,s≤i % 16∧sv=.int .i64 s∧xv=.int .u64 (d / 2 ^ s)) (fun _ sv=>i - (intOf sv).toNat)
   case atStart=>exact ⟨0,Nat.zero_le _,rfl,by simp⟩
   case round =>
    obtain ⟨s,hs,rfl,rfl⟩:=hrel
    have sb:=shr_bd dd.1 dd.2 s
    by_cases cs:s<i % 16
    ·have HP:=Lib.hid (half_pow d s)
     generalize hx:d / 2 ^ s=x at *
     go_wp2
     go_round
     case rel=>exact ⟨s+1,by omega,by simp,by rw [← HP.out]⟩
     case measure=>simp [intOf]; omega
    ·obtain rfl:s=i % 16:=by omega
     generalize d / 2 ^ (i % 16)=x at *
     obtain ⟨nl,al,kl,cl,q1,f1,g1⟩:=vb_use D.hL
     have sr:Small r:=small_of (by have:=ty.1; have:=ty.2; omega) (by have:=ty.1; have:=ty.2; omega)
     have t0:0≤x % 2∧x % 2≤1:=by omega
     go_wp2_with fail
     refine (add_big _ _ r r _ g1 g1 sr sr).mono ?_
     rintro e w1 ⟨v1,rfl,h1,hb1⟩
     obtain ⟨n1',a1',k1',c1',rfl⟩:=bg_form h1
     have D1:=dr_keep D hb1
     clear q1 f1 g1 D hb1
     go_wp2_with fail
     refine (natural_any _ (by omega) (by omega) _).mono ?_
     rintro e w2 ⟨v2,rfl,h2,hb2⟩
     obtain ⟨n2',a2',k2',c2',rfl⟩:=bg_form h2
     have D2:=dr_keep D1 hb2
     have h1:=bg_keep h1 hb2
     clear D1 hb2
     go_wp2_with fail
     refine (add_big _ _ (r+r) (x % 2) _ h1 h2 (small_of (by have:=ty.1; have:=ty.2; have:=tA.2; omega) (by have:=ty.1; have:=ty.2; have:=tA.2; omega)) (small_of (by have:=ty.1; have:=ty.2; have:=tA.2; omega) (by have:=ty.1; have:=ty.2; have:=tA.2; omega))).mono ?_
     rintro e w3 ⟨v3,rfl,h3,hb3⟩
     obtain ⟨n3',a3',k3',c3',rfl⟩:=bg_form h3
     have D3:=dr_keep D2 hb3
     obtain ⟨na,xa,ka,cca,ql,fl,_⟩:=vb_use D3.hL
     obtain ⟨nq,aq,kq,cq,qq,fq,gq⟩:=vb_use D3.hQ
     have D4:=dr_left D3 h3 (Nat.le_refl _)
     have gq4:=bg_store (u:=.bool n3') (u':=.slice a3' k3' c3') (vb_bv D3.hL) gq
     clear h1 h2 h3 hb3 D2 D3 gq
     go_wp2_with fail
     refine (add_big _ _ q q _ gq4 gq4 (small_of (by have:=ty.1; have:=ty.2; have:=tA.2; omega) (by have:=ty.1; have:=ty.2; have:=tA.2; omega)) (small_of (by have:=ty.1; have:=ty.2; have:=tA.2; omega) (by have:=ty.1; have:=ty.2; have:=tA.2; omega))).mono ?_
     rintro e w4 ⟨v4,rfl,h4,hb4⟩
     obtain ⟨n4',a4',k4',c4',rfl⟩:=bg_form h4
     have D5:=dr_keep D4 hb4
     clear ql fl qq fq gq4 D4 hb4
     obtain ⟨nq,aq,kq,cq,qq,fq,_⟩:=vb_use D5.hQ
     obtain ⟨nL,aL,kL,cL,qL,fL,gL⟩:=vb_use D5.hL
     obtain ⟨nY,aY,kY,cY,qY,fY,gY⟩:=vb_use D5.hY
     have D6:=dr_quot D5 h4 (Nat.le_refl _)
     have gL6:=bg_store (u:=.bool n4') (u':=.slice a4' k4' c4') (vb_bv D5.hQ) gL
     have gY6:=bg_store (u:=.bool n4') (u':=.slice a4' k4' c4') (vb_bv D5.hQ) gY
     clear h4 D5 gL gY
     go_wp2_with fail
     refine (cmp_big _ _ (r+r+x % 2) y _ gL6 gY6 (small_of (by have:=ty.1; have:=ty.2; have:=tA.2; omega) (by have:=ty.1; have:=ty.2; have:=tA.2; omega)) (small_of (by have:=ty.1; have:=ty.2; have:=tA.2; omega) (by have:=ty.1; have:=ty.2; have:=tA.2; omega))).mono ?_
     rintro e w5 ⟨rfl,hb5⟩
     have D7:=dr_keep D6 hb5
     clear qq fq qL fL qY fY gL6 gY6 D6 hb5
     have CS:=Lib.hid (cmp3_ge (r+r+x % 2) y)
     by_cases le:y≤r+r+x % 2
     ·have cv:0≤cmp3 (r+r+x % 2) y:=CS.out.1 le
      generalize cmp3 (r+r+x % 2) y=cc at cv
      obtain ⟨nL,aL,kL,cL,qL,fL,gL⟩:=vb_use D7.hL
      obtain ⟨nY,aY,kY,cY,qY,fY,gY⟩:=vb_use D7.hY
      go_wp2_with fail
      refine (sub_big _ _ (r+r+x % 2) y _ gL gY (small_of (by have:=ty.1; have:=ty.2; have:=tA.2; omega) (by have:=ty.1; have:=ty.2; have:=tA.2; omega)) (small_of (by have:=ty.1; have:=ty.2; have:=tA.2; omega) (by have:=ty.1; have:=ty.2; have:=tA.2; omega))).mono ?_
      rintro e w6 ⟨v6,rfl,h6,hb6⟩
      obtain ⟨n6',a6',k6',c6',rfl⟩:=bg_form h6
      have D8:=dr_keep D7 hb6
      clear qL fL gL qY fY gY D7 hb6
      obtain ⟨nL,aL,kL,cL,qL,fL,_⟩:=vb_use D8.hL
      have D9:=dr_left D8 h6 (Nat.le_refl _)
      clear D8 h6
      go_wp2
      generalize (w6.setCell ⟨w.heap.size+1+1+1+1,0,none⟩ (.bool n6')).setCell ⟨w.heap.size+1+1+1+1,1,none⟩ (.slice a6' k6' c6')=W7 at *
      clear qL fL
      obtain ⟨n5,a5,k5,c5,q1,f5,q2⟩:=vb_use D9.hQ
      have sq:Small (q+q):=small_of (by have:=ty.1; have:=ty.2; have:=tA.2; omega) (by have:=ty.1; have:=ty.2; have:=tA.2; omega)
      refine region_each [52,53,54] (fun i X_ U_=>match i with | 0=>X_=.agg #[.bool n5,.slice a5 k5 c5] | 1=>BG U_ X_ 1 | 2=>BG U_ X_ ((q+q)+1) | _=>True) (fun i=>false) (by kernel_rfl) (by kernel_rfl) (by kernel_rfl) (by kernel_rfl) (by kernel_rfl) ?_ ?_ ?_ ?_
      ·refine swp (upS (upS (upS up0 ?_) ?_) ?_)
       ·exact fun _ _ _ h _=>h
       ·intro x w w' h hb; exact bg_keep h hb
       ·intro x w w' h hb; exact bg_keep h hb
      ·intro i x w hi ha h
       cases ha
      ·refine upS (upS (upS up0 ?_) ?_) ?_
       all_goals intro v f w' hb hv hB hd
       ·have b5:f.tmps[5]?=some (.pointer (some ⟨w.heap.size+1+1+1,0,none⟩)):=(hb 5 (by decide)).trans rfl
        clear hb hv hd
        have c:=bc_keep hB q1
        refine wpOp_step rfl (fun K hK=>?_)
        go_simp
        exact hK _ _ ⟨_,rfl,Below.refl _ _,rfl,fun h=>absurd h (by decide)⟩
       ·clear hb hv hd
        refine wpOp_call rfl (fun _ _=>by go_simp) (by simp [Act.eval]) (of_big 1 (by decide) (by decide) _) ?_
        rintro e w5 ⟨v5,rfl,h5,hb5⟩
        exact ⟨_,rfl,_,rfl,hb5,h5,fun h=>absurd h (by decide)⟩
       ·have h0:(v 0)=.agg #[.bool n5,.slice a5 k5 c5]:=hd 0 (by kernel_rfl)
        have d0:f.tmps[52]?=some (.agg #[.bool n5,.slice a5 k5 c5]):=(hv 0 52 rfl).trans (congrArg some h0)
        clear h0
        have h1:BG w' (v 1) 1:=hd 1 (by kernel_rfl)
        have d1:f.tmps[53]?=some (v 1):=hv 1 53 rfl
        clear hb hv hd
        refine wpOp_call rfl (fun _ _=>by go_simp) (by simp [Act.eval,d0,d1]) (add_big _ _ ((q+q)) 1 _ (bg_keep q2 hB) h1 sq small_one) ?_
        rintro e w5 ⟨v5,rfl,h5,hb5⟩
        exact ⟨_,rfl,_,rfl,hb5,h5,fun h=>absurd h (by decide)⟩
      ·intro v w' hB hF hD
       have F0:(v 0)=.agg #[.bool n5,.slice a5 k5 c5]:=hF 0 (by simp)
       have F1:BG w' (v 1) 1:=hF 1 (by simp)
       have F2:BG w' (v 2) ((q+q)+1):=hF 2 (by simp)
       clear hF
       obtain ⟨n9,a9,k9,c9,e1⟩:=bg_form F1
       obtain ⟨n8,a8,k8,c8,e2⟩:=bg_form F2
       rw [e2] at F2
       simp only [frOf,frGo,Nat.zero_add,Nat.reduceAdd,F0,e1,e2]
       clear F1 e1 e2 F0
       have D10:=dr_keep D9 hB
       obtain ⟨nq,aq,kq,cq,qq,fq,_⟩:=vb_use D10.hQ
       have D11:=dr_quot D10 F2 (Nat.le_refl _)
       clear D10 D9 F2 hB hD q1 q2 f5
       go_wp2
       go_roundw
       case rel=>exact ⟨i,q+q+1,r+r+x % 2 - y,by omega,rfl,ST.out.1 le,D11⟩
       case measure=>simp [intOf]
     ·have cv:¬ 0≤cmp3 (r+r+x % 2) y:=CS.out.2 (by omega)
      generalize cmp3 (r+r+x % 2) y=cc at cv
      go_wp2
      go_roundw
      case rel=>exact ⟨i,q+q,r+r+x % 2,by omega,rfl,ST.out.2 (by omega),D7⟩
      case measure=>simp [intOf]
end Go.Proofs.YtjifkmldigemkaaGreatDoor
namespace Go.Proofs.YtjifkmldigemkaaGreatDoor
open Go.RowKit Go.Shelf Go.Joins
theorem tiny_neg {z:Int} (h:Tiny z):Tiny (-z):=by obtain ⟨a,b⟩:=h; exact ⟨by omega,by omega⟩
theorem down_big (va vb:Value) (x y:Int) (w:World) (hx:BG w va x) (hy:BG w vb y) (y1:1≤y) (tx:Tiny x) (ty:Tiny y) :
  Calls Tryz.prog 114 #[va,vb] w (RetB (x / y) w):=by
 obtain ⟨n1,aa,a,ca,rfl,hA,da,na,la,rfl,ca1,ca2⟩:=bg_open hx
 have k:=(sgn_neg da na la).2.2
 exact down_go n1 aa ca a vb y w hA da (small_len da na la (tiny_small tx)) hy y1 ty (by obtain ⟨a,b⟩:=tx; exact ⟨by omega,by omega⟩)
def qd (x y:Int):Int:=if y<0 then -x / -y else x / y
theorem div_big (va vb:Value) (x y:Int) (w:World) (hx:BG w va x) (hy:BG w vb y) (y0:y≠0) (tx:Tiny x) (ty:Tiny y) :
  Calls Tryz.prog 47 #[va,vb] w (RetB (qd x y) w):=by
 obtain ⟨n1,aa,ka,ca,rfl⟩:=bg_form hx
 obtain ⟨n2,ab,b,cb,e,_,db,nb,lb,hz,_,_⟩:=bg_open hy
 subst e
 have ng:=(sgn_neg db nb lb).1
 rw [← hz] at ng
 clear db nb lb hz
 generalize b.length=kb at *
 cases n2
 ·have yp:¬ y<0:=fun h=>by have:=ng.1 h; cases this
  unfold qd
  rw [if_neg yp]
  go_enter Tryz.func47,Tryz.ntmps47
  go_wp2_with fail
  have B1:Below w.heap.size w (((w.alloc (Obj.cells #[.bool n1,.slice aa ka ca] 116)).alloc (Obj.cells #[.bool false,.slice ab kb cb] 116)).alloc (Obj.cells #[.bool false,.slice none 0 0] 116)):=b_alloc (b_alloc (b_alloc (Below.refl _ _)))
  have k1:BC (((w.alloc (Obj.cells #[.bool n1,.slice aa ka ca] 116)).alloc (Obj.cells #[.bool false,.slice ab kb cb] 116)).alloc (Obj.cells #[.bool false,.slice none 0 0] 116)) w.heap.size n1 (.slice aa ka ca):=by simp [BC,go_sem,World.cell?_alloc_past]
  have k2:BC (((w.alloc (Obj.cells #[.bool n1,.slice aa ka ca] 116)).alloc (Obj.cells #[.bool false,.slice ab kb cb] 116)).alloc (Obj.cells #[.bool false,.slice none 0 0] 116)) (w.heap.size+1) false (.slice ab kb cb):=by simp [BC,go_sem,World.cell?_alloc_past]
  have r1:BV (((w.alloc (Obj.cells #[.bool n1,.slice aa ka ca] 116)).alloc (Obj.cells #[.bool false,.slice ab kb cb] 116)).alloc (Obj.cells #[.bool false,.slice none 0 0] 116)) (w.heap.size+1+1):=bv_new _ _ _ _ (by simp)
  have g1:=bg_keep hx B1
  have g2:=bg_keep hy B1
  clear hx hy
  refine (down_big _ _ x y _ g1 g2 (by omega) tx ty).mono ?_
  rintro e w2 ⟨bv,rfl,hR,hb2⟩
  obtain ⟨n9,a9,k9,c9,rfl⟩:=bg_form hR
  have r2:=bv_keep hb2 r1
  obtain ⟨n',a',k',c'',r3,f3⟩:=bv_use r2
  have B3:Below w.heap.size w w2:=b_trans B1 hb2
  have HB:=Lib.hid (And.intro r2 hR)
  clear hb2 hR r2
  go_wp2
  exact bodyPost_ret (v:=.agg #[.bool n9,.slice a9 k9 c9]) (by simp [results,Tryz.results47,go_sem,r3]) rfl ⟨_,rfl,bg_store HB.out.1 HB.out.2,b_set (b_set B3 (by simp; omega)) (by simp; omega)⟩
 ·have yn:y<0:=ng.2 rfl
  unfold qd
  rw [if_pos yn]
  go_enter Tryz.func47,Tryz.ntmps47
  go_wp2_with fail
  have B1:Below w.heap.size w (((w.alloc (Obj.cells #[.bool n1,.slice aa ka ca] 116)).alloc (Obj.cells #[.bool true,.slice ab kb cb] 116)).alloc (Obj.cells #[.bool false,.slice none 0 0] 116)):=b_alloc (b_alloc (b_alloc (Below.refl _ _)))
  have k1:BC (((w.alloc (Obj.cells #[.bool n1,.slice aa ka ca] 116)).alloc (Obj.cells #[.bool true,.slice ab kb cb] 116)).alloc (Obj.cells #[.bool false,.slice none 0 0] 116)) w.heap.size n1 (.slice aa ka ca):=by simp [BC,go_sem,World.cell?_alloc_past]
  have k2:BC (((w.alloc (Obj.cells #[.bool n1,.slice aa ka ca] 116)).alloc (Obj.cells #[.bool true,.slice ab kb cb] 116)).alloc (Obj.cells #[.bool false,.slice none 0 0] 116)) (w.heap.size+1) true (.slice ab kb cb):=by simp [BC,go_sem,World.cell?_alloc_past]
  have r1:BV (((w.alloc (Obj.cells #[.bool n1,.slice aa ka ca] 116)).alloc (Obj.cells #[.bool true,.slice ab kb cb] 116)).alloc (Obj.cells #[.bool false,.slice none 0 0] 116)) (w.heap.size+1+1):=bv_new _ _ _ _ (by simp)
  have g1:=bg_keep hx B1
  have g2:=bg_keep hy B1
  clear hx hy
  generalize (((w.alloc (Obj.cells #[.bool n1,.slice aa ka ca] 116)).alloc (Obj.cells #[.bool true,.slice ab kb cb] 116)).alloc (Obj.cells #[.bool false,.slice none 0 0] 116))=W0 at *
  refine region_each [7,8,9,10,11] (fun i X_ U_=>match i with | 0=>X_=.agg #[.bool n1,.slice aa ka ca] | 1=>BG U_ X_ (-x) | 2=>X_=.agg #[.bool true,.slice ab kb cb] | 3=>BG U_ X_ (-y) | 4=>BG U_ X_ (-x / -y) | _=>True) (fun i=>false) (by kernel_rfl) (by kernel_rfl) (by kernel_rfl) (by kernel_rfl) (by kernel_rfl) ?_ ?_ ?_ ?_
  ·intro i x w w' hi h hb
   match i,hi with
   | 0,_=>exact h
   | 1,_=>exact bg_keep h hb
   | 2,_=>exact h
   | 3,_=>exact bg_keep h hb
   | 4,_=>exact bg_keep h hb
   | k+5,hk=>exact absurd hk (by simp)
  ·intro i x w hi ha h
   cases ha
  ·intro i hi v f w' hb hv hB hd
   match i,hi with
   | 0,_ =>
    have b2:f.tmps[2]?=some (.pointer (some ⟨w.heap.size,0,none⟩)):=(hb 2 (by decide)).trans rfl
    clear hb hv hd
    have c:=bc_keep hB k1
    refine wpOp_step rfl (fun K hK=>?_)
    go_simp
    exact hK _ _ ⟨_,rfl,Below.refl _ _,rfl,fun h=>absurd h (by decide)⟩
   | 1,_ =>
    have h0:(v 0)=.agg #[.bool n1,.slice aa ka ca]:=hd 0 (by kernel_rfl)
    have d0:f.tmps[7]?=some (.agg #[.bool n1,.slice aa ka ca]):=(hv 0 7 rfl).trans (congrArg some h0)
    clear h0
    clear hb hv hd
    refine wpOp_step rfl (fun K hK=>?_)
    go_simp
    refine (turn_any _ x _ (bg_keep g1 hB)).mono ?_
    rintro e w5 ⟨v5,rfl,h5,hb5⟩
    exact hK _ _ ⟨_,rfl,hb5,h5,fun h=>absurd h (by decide)⟩
   | 2,_ =>
    have b3:f.tmps[3]?=some (.pointer (some ⟨w.heap.size+1,0,none⟩)):=(hb 3 (by decide)).trans rfl
    clear hb hv hd
    have c:=bc_keep hB k2
    refine wpOp_step rfl (fun K hK=>?_)
    go_simp
    exact hK _ _ ⟨_,rfl,Below.refl _ _,rfl,fun h=>absurd h (by decide)⟩
   | 3,_ =>
    have h2:(v 2)=.agg #[.bool true,.slice ab kb cb]:=hd 2 (by kernel_rfl)
    have d2:f.tmps[9]?=some (.agg #[.bool true,.slice ab kb cb]):=(hv 2 9 rfl).trans (congrArg some h2)
    clear h2
    clear hb hv hd
    refine wpOp_step rfl (fun K hK=>?_)
    go_simp
    refine (turn_any _ y _ (bg_keep g2 hB)).mono ?_
    rintro e w5 ⟨v5,rfl,h5,hb5⟩
    exact hK _ _ ⟨_,rfl,hb5,h5,fun h=>absurd h (by decide)⟩
   | 4,_ =>
    have h1:BG w' (v 1) (-x):=hd 1 (by kernel_rfl)
    have d1:f.tmps[8]?=some (v 1):=hv 1 8 rfl
    have h3:BG w' (v 3) (-y):=hd 3 (by kernel_rfl)
    have d3:f.tmps[10]?=some (v 3):=hv 3 10 rfl
    clear hb hv hd
    refine wpOp_step rfl (fun K hK=>?_)
    go_simp
    refine (down_big _ _ (-x) (-y) _ h1 h3 (by omega) (tiny_neg tx) (tiny_neg ty)).mono ?_
    rintro e w5 ⟨v5,rfl,h5,hb5⟩
    exact hK _ _ ⟨_,rfl,hb5,h5,fun h=>absurd h (by decide)⟩
   | k+5,hk=>exact absurd hk (by simp)
  ·intro v w' hB hF hD
   have F0:(v 0)=.agg #[.bool n1,.slice aa ka ca]:=hF 0 (by simp)
   have F1:BG w' (v 1) (-x):=hF 1 (by simp)
   have F2:(v 2)=.agg #[.bool true,.slice ab kb cb]:=hF 2 (by simp)
   have F3:BG w' (v 3) (-y):=hF 3 (by simp)
   have F4:BG w' (v 4) (-x / -y):=hF 4 (by simp)
   clear hF
   obtain ⟨n1_,a1_,k1_,c1_,e1⟩:=bg_form F1
   obtain ⟨n3_,a3_,k3_,c3_,e3⟩:=bg_form F3
   obtain ⟨n4_,a4_,k4_,c4_,e4⟩:=bg_form F4
   rw [e4] at F4
   simp only [frOf,frGo,Nat.zero_add,Nat.reduceAdd,F0,e1,F2,e3,e4]
   have r9:=bv_keep hB r1
   have B9:=b_trans B1 hB
   obtain ⟨n'',a'',k'',c'',r8,f8⟩:=bv_use r9
   have HB:=Lib.hid (And.intro r9 F4)
   clear hB hD r9 F0 F1 F2 F3 F4
   go_wp2
   exact bodyPost_ret (v:=.agg #[.bool n4_,.slice a4_ k4_ c4_]) (by simp [results,Tryz.results47,go_sem,r8]) rfl ⟨_,rfl,bg_store HB.out.1 HB.out.2,b_set (b_set B9 (by simp; omega)) (by simp; omega)⟩
theorem low_step {l:List Int} {v:Int} {i:Nat} (_h:Dig l) (hi:i<4) (e:v=val ((l.take 4).drop (i+1))):65536*v+l.getD i 0=val ((l.take 4).drop i):=by
 by_cases c:i<(l.take 4).length
 ·rw [List.drop_eq_getElem_cons c]
  simp only [val]
  rw [e,List.getD_eq_getElem?_getD,List.getElem?_eq_getElem (by simp at c; omega),List.getElem_take]
  simp; omega
 ·rw [List.drop_of_length_le (by omega)] at e
  rw [List.drop_of_length_le (by omega),List.getD_eq_getElem?_getD,List.getElem?_eq_none (by simp at c; omega),e]
  simp [val]
theorem low_bd {l:List Int} (h:Dig l) (i:Nat) (hi:i≤4):0≤val ((l.take 4).drop i)∧val ((l.take 4).drop i)<65536 ^ (4 - i):=by
 have d:Dig ((l.take 4).drop i):=fun x hx=>h x (List.mem_of_mem_take (List.mem_of_mem_drop hx))
 have h1:=val_lt d
 have h2:=pow_mono65 (show ((l.take 4).drop i).length≤4 - i by simp; omega)
 exact ⟨val_nonneg d,by omega⟩
theorem low_any (v:Value) (l:List Int) (w:World) (h:DG w v l) (hd:Dig l):Calls Tryz.prog 112 #[v] w fun e w'=>e=.returned (.int .u64 (val (l.take 4)))∧w=w':=by
 go_enter Tryz.func112,Tryz.ntmps112
 go_wp2
 go_loop [3,4] (fun nv iv=>∃ k:Nat,k≤4∧iv=.int .i64 ((k:Int) - 1)∧nv=.int .u64 (val ((l.take 4).drop k))) (fun _ iv=>(intOf iv+1).toNat)
 case atStart=>exact ⟨4,Nat.le_refl _,rfl,by rw [List.drop_of_length_le (by simp; omega)]; rfl⟩
 case round =>
  obtain ⟨k,hk,rfl,rfl⟩:=hrel
  by_cases c:k=0
  ·subst c
   have E:=Lib.hid (show val ((l.take 4).drop 0)=val (l.take 4) by simp)
   generalize val ((l.take 4).drop 0)=q at *
   go_wp2
   go_ret
   exact ⟨by rw [← E.out]; rfl,rfl⟩
  ·obtain ⟨i,rfl⟩:∃ i,k=i+1:=⟨k - 1,by omega⟩
   have st:=low_step hd (i:=i) (by omega) rfl
   have bd:=low_bd hd (i+1) (by omega)
   have b2:=low_bd hd i (by omega)
   have p1:=pow_mono65 (show 4 - (i+1)≤3 by omega)
   have p2:=pow_mono65 (show 4 - i≤4 by omega)
   have e3:(65536:Int) ^ 3=281474976710656:=by decide
   have e4:(65536:Int) ^ 4=18446744073709551616:=by decide
   have dg:=dig_getD hd i
   have cA:=digit_any v l i w h (by omega) (by omega)
   rw [Int.toNat_natCast] at cA
   have lt1:val ((l.take 4).drop (i+1))≤281474976710655:=by omega
   have nn:=bd.1
   rw [show (((i+1:Nat):Int) - 1)=(i:Int) by omega]
   have ST:=Lib.hid st
   clear st bd b2 p1 p2 e3 e4
   generalize val ((l.take 4).drop (i+1))=q at *
   generalize l.getD i 0=d at *
   go_wp2_with (go_at_call 106; refine cA.mono ?_; rintro e w' ⟨rfl,rfl⟩)
   go_round
   case rel=>exact ⟨i,by omega,rfl,by rw [ST.out]⟩
   case measure=>simp [intOf]
end Go.Proofs.YtjifkmldigemkaaGreatDoor

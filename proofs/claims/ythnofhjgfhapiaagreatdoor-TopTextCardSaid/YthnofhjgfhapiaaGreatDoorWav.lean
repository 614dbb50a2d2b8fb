import Derived.RangeFuncNested
import Derived.RangeFuncLeaves
import Derived.RangeFuncCalls
import Derived.Shelf.Abstract
import Derived.WalkKit
import Derived.OwnWalkIn
import Derived.TacticsInMore
import Derived.LoopNIn
import Derived.LoopIn
import Derived.Test.YthnofhjgfhapiaaGreatDoorWan
import Derived.Test.YthnofhjgfhapiaaGreatDoorWag
import Derived.Test.YthnofhjgfhapiaaGreatDoorWae
import Derived.Test.YthnofhjgfhapiaaGreatDoorWaa
import Derived.Test.YthnofhjgfhapiaaGreatDoorWab
import Derived.Test.YthnofhjgfhapiaaGreatDoorWac
import Derived.Test.YthnofhjgfhapiaaGreatDoorWaf
import Derived.Test.YthnofhjgfhapiaaGreatDoorWad
set_option maxHeartbeats 8000000
set_option maxRecDepth 100000
namespace Go.Proofs.YthnofhjgfhapiaaGreatDoor
open Go.RowKit Go.Shelf
attribute [local go_sem] Oper.semAt_some
theorem iter_stops (n:Nat) (hn:1≤n) (n₀ P I J:Nat) (m:Nat→Int) (i j:Nat) (hm:F6 m) (hi:i<3) (hj:j<3) (w:World) (hn₀:n₀≤w.heap.size) (hT:TI n₀ w P I J m i j) :
  SeqStopsK Fence.wide n Tryz.prog 170 #[.pointer (some ⟨I,0,none⟩),.pointer (some ⟨J,0,none⟩),.pointer (some ⟨P,0,none⟩)] (fun x:Nat=>#[wof (tmn m i j x)]) (Below n₀) (fun ys=>ys=List.range 9) (fun pre=>∃ k,k≤9∧pre=List.range k) 9 w:=fun l J1 Jx W hW hA _ hY h0 =>
 iter_in n hn l n₀ P I J m i j hm hi hj J1 Jx W hA (Nat.le_trans hn₀ hW.size) hY (ti_below hT (hW.mono hn₀)) h0
theorem terms_any (m:Nat→Int) (i j:Int) (w:World) :
  Calls Tryz.prog 135 #[sv m,.int .i64 i,.int .i64 j] w fun e w'=>e=.returned (.func (.func 170) #[] #[.pointer (some ⟨w.heap.size+1,0,none⟩),.pointer (some ⟨w.heap.size+1+1,0,none⟩),.pointer (some ⟨w.heap.size,0,none⟩)]) ∧
   w'=((w.alloc (Obj.cells #[.int .i64 (m 0),.int .i64 (m 1),.int .i64 (m 2),.int .i64 (m 3),.int .i64 (m 4),.int .i64 (m 5)] 42)).alloc (Obj.cells #[.int .i64 i] 3)).alloc (Obj.cells #[.int .i64 j] 3):=by
 go_enter Tryz.func135,Tryz.ntmps135
 go_wp2
 go_ret
 exact ⟨rfl,rfl⟩
abbrev SK (W:World) (R Q:Nat) (z:Int):Prop:=(WC W Q (z / 18446744073709551616) (z % 18446744073709551616)∧WF W Q)∧(WC W R 0 0∧WF W R)
theorem sk_own (R Q:Nat) (f:List Nat→Int):Own (fun (pre:List Nat) W=>SK W R Q (f pre)):=by
 rintro s A B row ⟨⟨⟨q0,q1⟩,g0,g1⟩,⟨r0,r1⟩,f0,f1⟩ hg hr
 exact ⟨⟨⟨cell_kept q0 hg hr,cell_kept q1 hg hr⟩,(frozen_kept q0 hg hr).trans g0,(frozen_kept q1 hg hr).trans g1⟩,⟨cell_kept r0 hg hr,cell_kept r1 hg hr⟩,(frozen_kept r0 hg hr).trans f0,(frozen_kept r1 hg hr).trans f1⟩
theorem sk_keep {W W':World} {R Q:Nat} {z:Int} (hb:Below W.heap.size W W') (h:SK W R Q z):SK W' R Q z :=
 ⟨⟨wc_keep hb h.1.1,wf_keep hb h.1.1 h.1.2⟩,wc_keep hb h.2.1,wf_keep hb h.2.1 h.2.2⟩
theorem wc_own (B:Nat) (h l:Int):Own (fun (_:Unit) W=>WC W B h l):=by
 rintro s A C row ⟨q0,q1⟩ hg hr
 exact ⟨cell_kept q0 hg hr,cell_kept q1 hg hr⟩
theorem sum_spr (m:Nat→Int) (i j:Nat) (hm:F6 m) (hi:i<3) (hj:j<3) (P I J:Nat) (w:World) (hT:TI w.heap.size w P I J m i j) :
  Calls Tryz.prog 134 #[.func (.func 170) #[] #[.pointer (some ⟨I,0,none⟩),.pointer (some ⟨J,0,none⟩),.pointer (some ⟨P,0,none⟩)]] w (RetV (wof (rwn m i j)) w):=by
 refine (callsIn_wide (n:=5)).1 ?_
 refine callsIn_of_wp_marks Tryz.func134 rfl trivial ?_ rfl
 simp only [Tryz.ntmps134,List.size_toArray,List.length_cons,List.length_nil,Nat.reduceAdd,Nat.reduceSub,Array.replicate_succ,Array.replicate_zero,List.push_toArray,List.append_toArray,List.nil_append,List.cons_append]
 gi_wp2_with fail
 refine ⟨trivial,(callsIn_wide.2 ((of_any 0 (by decide) (by decide) _).mono fun _ _=>retW_det isW_zero)).mono ?_⟩
 rintro e w1 ⟨rfl,hb9⟩
 have kR:WC (w.alloc (Obj.cells #[.int .i64 0,.int .u64 0] 96)) w.heap.size 0 0:=by simp [WC,go_sem]
 have fR:WF (w.alloc (Obj.cells #[.int .i64 0,.int .u64 0] 96)) w.heap.size:=by simp [WF,go_sem]
 have B0:Below w.heap.size w (w.alloc (Obj.cells #[.int .i64 0,.int .u64 0] 96)):=b_alloc (Below.refl _ _)
 replace fR:=wf_keep hb9 kR fR
 replace kR:=wc_keep hb9 kR
 replace B0:=b_trans B0 hb9
 have zR:=wc_lt kR
 clear hb9
 have hb8:Below w1.heap.size w1 (w1.alloc (Obj.cells #[.int .i64 0,.int .u64 0] 96)):=b_alloc (Below.refl _ _)
 have kQ:WC (w1.alloc (Obj.cells #[.int .i64 0,.int .u64 0] 96)) w1.heap.size 0 0:=by simp [WC,go_sem]
 have fQ:WF (w1.alloc (Obj.cells #[.int .i64 0,.int .u64 0] 96)) w1.heap.size:=by simp [WF,go_sem]
 replace fR:=wf_keep hb8 kR fR
 replace kR:=wc_keep hb8 kR
 replace B0:=b_trans B0 hb8
 clear hb8
 gi_wp2
 obtain ⟨Q,hQ⟩:∃ Q,w1.heap.size=Q:=⟨_,rfl⟩
 have zW:(w1.alloc (Obj.cells #[.int .i64 0,.int .u64 0] 96)).heap.size=Q+1:=by simp [hQ]
 rw [hQ] at kQ fQ zR ⊢
 clear hQ
 generalize w1.alloc (Obj.cells #[.int .i64 0,.int .u64 0] 96)=W0 at *
 have zB:=B0.size
 have T0:=ti_below hT B0
 refine wpIn_rangeFunc_ownH (F:=Fence.wide) rfl (by decide) (gf:=170) (lb:=#[.pointer (some ⟨I,0,none⟩),.pointer (some ⟨J,0,none⟩),.pointer (some ⟨P,0,none⟩)]) rfl trivial (enters_of Tryz.func170 (by kernel_rfl) rfl)
  (iter_stops 4 (by decide) w.heap.size P I J m i j hm hi hj W0 (by omega) T0) belowK_t (belowK_b (by omega)) (Below.refl _ _) (fun _=>rfl)
  (fun pre W=>SK W w.heap.size Q (smT (tmn m i j) pre)∧Below w.heap.size w W)
  (fun _ _ _=>False)
  (OwnFrom.and (Own.from (sk_own _ _ _) _) (ownFrom_below (Nat.le_refl _) (by omega)))
  (fun _ _ _ _ _ hs _ _=>hs)
  ⟨⟨⟨kQ,fQ⟩,kR,fR⟩,B0⟩
  (fun x a' W=>∃ Bx,Q<Bx∧WC W Bx (tmn m i j x / 18446744073709551616) (tmn m i j x % 18446744073709551616)∧a' = { tmps:=#[.func (.func 170) #[] #[.pointer (some ⟨I,0,none⟩),.pointer (some ⟨J,0,none⟩),.pointer (some ⟨P,0,none⟩)],undef,.pointer (some ⟨w.heap.size,0,none⟩),.pointer (some ⟨Q,0,none⟩),.pointer (some ⟨Bx,0,none⟩),wv 0 0,.func (.func 170) #[] #[.pointer (some ⟨I,0,none⟩),.pointer (some ⟨J,0,none⟩),.pointer (some ⟨P,0,none⟩)],wof (tmn m i j x),undef,undef,undef,undef,undef,undef,undef],defers:=[] })
  (fun x a' s X Y row hs hg hr=>by obtain ⟨Bx,h1,h2,h3⟩:=hs; exact ⟨Bx,h1,wc_own Bx _ _ () X Y row h2 hg (fun r e=>(hr r e).2),h3⟩)
  ?assign ?body ?done ?stop
 case assign =>
  rintro l pre x W K ⟨hS,hB⟩ hK
  have zQ:=wc_lt hS.1.1
  gi_wp2
  exact hK _ _ ((KeepsOthers.alloc _ _).from _) ((Below.refl _ W).alloc hB.size _) ⟨sk_keep (b_alloc (Below.refl _ _)) hS,hB.alloc hB.size _⟩ ⟨W.heap.size,zQ,by simp [WC,go_sem],rfl⟩
 case body =>
  rintro l pre x a' W hl ⟨r,hr⟩ ⟨hS,hB⟩ ⟨Bx,hBx,kX,rfl⟩ hlt
  have f1:Fits (smT (tmn m i j) pre):=smT_fits (tmn_bd hm i j) (by omega)
  have f2:=term_fits (tmn_bd hm i j) x
  have f3:Fits (smT (tmn m i j) (pre ++ [x])):=smT_fits (tmn_bd hm i j) (by simp; omega)
  have cA:∀ w,Calls Tryz.prog 131 #[wof (smT (tmn m i j) pre),wof (tmn m i j x)] w (RetV (.tuple #[wof (smT (tmn m i j) (pre ++ [x])),.int .i64 0]) w):=fun w=>by
   have h:=add_any _ _ _ _ _ _ (IsW.mk' f1) (IsW.mk' f2) w
   rw [← smT_snoc,fz_of f3,fe_of f3] at h
   exact h.mono fun _ _=>retWE_det (IsW.mk' f3)
  clear f1 f2 f3
  have kQ1:=hS.1.1
  gi_wp2_with fail
  refine ⟨trivial,(CallsIn.inRound l (callsIn_wide.2 (cA _))).mono ?_⟩
  rintro e w2 ⟨rfl,hb8⟩
  have hS2:=sk_keep hb8 hS
  have kQ2:=hS2.1.1
  have fQ2:=hS2.1.2
  have nQ:Q≠w.heap.size:=by omega
  have lQ:w.heap.size≤Q:=by omega
  have hSN:=Lib.hid hS2
  clear kQ1 hS2 hS kX cA
  gi_wp2
  exact ⟨((KeepsOthers.of_grownBy (grown_of hb8) (fun j o e=>by cases e)).trans ((KeepsOthers.setCell _ _ _).trans (KeepsOthers.setCell _ _ _))).from _,
   ((hb8.mono hB.size).setCell (p:=⟨Q,0,none⟩) lQ _).setCell (p:=⟨Q,1,none⟩) lQ _,
   ⟨⟨wc_mine hSN.out.1.1,wf_set (wf_set hSN.out.1.2)⟩,wc_set (wc_set hSN.out.2.1 nQ) nQ,wf_set (wf_set hSN.out.2.2)⟩,b_set (b_set (b_trans hB hb8) lQ) lQ⟩
 case done =>
  rintro D ys W hD rfl ⟨hS,hB⟩ hK
  have kQ1:=hS.1.1
  have kR1:=hS.2.1
  have fR1:=hS.2.2
  have hK':=((KeepsOthers.setCell W ⟨w.heap.size,0,none⟩ (.int .i64 (rwn m i j / 18446744073709551616))).trans (KeepsOthers.setCell _ ⟨w.heap.size,1,none⟩ (.int .u64 (rwn m i j % 18446744073709551616)))).same D _ hK rfl
  have kE:=Lib.hid (wc_mine (h':=rwn m i j / 18446744073709551616) (l':=rwn m i j % 18446744073709551616) kR1)
  have HH:=Lib.hid hK'
  have hE:smT (tmn m i j) (List.range 9)=rwn m i j:=rfl
  rw [hE] at kQ1
  clear hE hK' hS kR
  gi_wp2
  refine ⟨by simp,.inl ⟨_,_,rfl,run_takeDeferred HH.out,?_⟩⟩
  have c0:=cell_kept kE.out.1 (grownBy_putObj' _ D (.deferred none)) (fun r e=>by cases e; exact ⟨_,HH.out,rfl⟩)
  have c1:=cell_kept kE.out.2 (grownBy_putObj' _ D (.deferred none)) (fun r e=>by cases e; exact ⟨_,HH.out,rfl⟩)
  refine ⟨wof (rwn m i j),?_,rfl,(b_set (b_set hB (Nat.le_refl _)) (Nat.le_refl _)).trans (belowK_b (w:=w) (Nat.le_refl _) _ D _ _ (by omega) HH.out rfl rfl)⟩
  simp [results,Tryz.results134,go_sem,c0,c1]
 case stop =>
  rintro D c pre W _ _ h _
  exact h.elim
end Go.Proofs.YthnofhjgfhapiaaGreatDoor
namespace Go.Proofs.YthnofhjgfhapiaaGreatDoor
open Go.RowKit Go.Shelf
theorem fits_spr (m:Nat→Int) (hm:I6 m) (w:World) :
  Calls Tryz.prog 133 #[sv m] w (RetV (.bool (f6b m)) w):=by
 have B:=b_alloc (o:=Obj.cells #[.int .i64 (m 0),.int .i64 (m 1),.int .i64 (m 2),.int .i64 (m 3),.int .i64 (m 4),.int .i64 (m 5)] 42) (Below.refl w.heap.size w)
 obtain ⟨x0,x1,x2,x3,x4,x5⟩:=ix_sym m
 go_enter Tryz.func133,Tryz.ntmps133
 go_wp2
 go_loop [6] (fun iv=>∃ k:Nat,k≤6∧iv=.int .i64 k∧Hid (∀ i,i<k→FitP (m i))) (fun iv=>6 - (intOf iv).toNat)
 case atStart=>exact ⟨0,by decide,rfl,Lib.hid (fun i hi=>absurd hi (by omega))⟩
 case round =>
  obtain ⟨k,hk,rfl,hf⟩:=hrel
  by_cases c:k<6∧¬ FitP (m k)
  ·have E:=Lib.hid (f6b_no (fun h=>c.2 (h k c.1)))
   have ex:=Lib.hid (fitb_no c.2)
   have hx:=Lib.hid (hm k c.1)
   obtain ⟨c,_⟩:=c
   rcases seven hk with rfl | rfl | rfl | rfl | rfl | rfl | rfl
   ·exact absurd c (by decide)
   all_goals
    go_wp2_with fail
    refine (fits_any _ hx.out.1 hx.out.2 _).mono ?_
    rintro e w9 ⟨rfl,rfl⟩
    rw [ex.out]
    go_wp2
    go_ret
    exact ⟨by rw [E.out]; rfl,B⟩
  ·by_cases d:k=6
   ·subst d
    have E:=Lib.hid (f6b_yes hf.out)
    go_wp2
    go_ret
    exact ⟨by rw [E.out]; rfl,B⟩
   ·have fk:FitP (m k):=Classical.byContradiction (fun h=>c ⟨by omega,h⟩)
    have hf':=Lib.hid (less_succ hf.out fk)
    have hx:=Lib.hid (hm k (by omega))
    have ex:=Lib.hid (fitb_yes fk)
    clear c fk
    rcases seven hk with rfl | rfl | rfl | rfl | rfl | rfl | rfl
    ·exact absurd rfl d
    all_goals
     go_wp2_with fail
     refine (fits_any _ hx.out.1 hx.out.2 _).mono ?_
     rintro e w9 ⟨rfl,rfl⟩
     rw [ex.out]
     go_wp2
     go_round
     case rel=>exact ⟨_,by decide,rfl,hf'⟩
     case measure=>simp [intOf]
abbrev srv (f g:Nat→Int):Value:=.agg #[.int .i64 (f 0),.int .u64 (g 0),.int .i64 (f 1),.int .u64 (g 1),.int .i64 (f 2),.int .u64 (g 2),.int .i64 (f 3),.int .u64 (g 3),.int .i64 (f 4),.int .u64 (g 4),.int .i64 (f 5),.int .u64 (g 5)]
abbrev YC (w:World) (b:Nat) (f g:Nat→Int):Prop:=∀ k,k<6→w.cell? ⟨b,2*k,none⟩=some (.int .i64 (f k))∧w.cell? ⟨b,2*k+1,none⟩=some (.int .u64 (g k))
abbrev YF (w:World) (b:Nat):Prop:=∀ k,k<12→w.frozen? ⟨b,k,none⟩=false
theorem yc_keep {w w':World} (hb:Below w.heap.size w w') {b:Nat} {f g:Nat→Int} (c:YC w b f g):YC w' b f g:=fun k hk=>⟨cell_keep hb (c k hk).1,cell_keep hb (c k hk).2⟩
theorem yc_lt {w:World} {b:Nat} {f g:Nat→Int} (c:YC w b f g):b<w.heap.size:=World.block_lt_of_cell? w _ (c 0 (by decide)).1
theorem yf_keep {w w':World} (hb:Below w.heap.size w w') {b:Nat} {f g:Nat→Int} (c:YC w b f g) (h:YF w b):YF w' b:=fun k hk=>by rw [hb.frozen (p:=⟨b,k,none⟩) (yc_lt c)]; exact h k hk
theorem yc_set {w:World} {b b1 o:Nat} {f g:Nat→Int} {v:Value} (c:YC w b f g) (hb:b1≠b):YC (w.setCell ⟨b1,o,none⟩ v) b f g:=fun k hk=>⟨by rw [World.cell?_setCell_far _ _ _ _ hb]; exact (c k hk).1,by rw [World.cell?_setCell_far _ _ _ _ hb]; exact (c k hk).2⟩
theorem yf_set {w:World} {b b1 o:Nat} {v:Value} (c:YF w b):YF (w.setCell ⟨b1,o,none⟩ v) b:=fun k hk=>by rw [World.frozen?_setCell]; exact c k hk
abbrev YC12 (w:World) (b:Nat) (f g:Nat→Int):Prop:=w.cell? ⟨b,0,none⟩=some (.int .i64 (f 0))∧w.cell? ⟨b,1,none⟩=some (.int .u64 (g 0))∧w.cell? ⟨b,2,none⟩=some (.int .i64 (f 1))∧w.cell? ⟨b,3,none⟩=some (.int .u64 (g 1))∧w.cell? ⟨b,4,none⟩=some (.int .i64 (f 2))∧w.cell? ⟨b,5,none⟩=some (.int .u64 (g 2))∧w.cell? ⟨b,6,none⟩=some (.int .i64 (f 3))∧w.cell? ⟨b,7,none⟩=some (.int .u64 (g 3))∧w.cell? ⟨b,8,none⟩=some (.int .i64 (f 4))∧w.cell? ⟨b,9,none⟩=some (.int .u64 (g 4))∧w.cell? ⟨b,10,none⟩=some (.int .i64 (f 5))∧w.cell? ⟨b,11,none⟩=some (.int .u64 (g 5))
abbrev YF12 (w:World) (b:Nat):Prop:=w.frozen? ⟨b,0,none⟩=false∧w.frozen? ⟨b,1,none⟩=false∧w.frozen? ⟨b,2,none⟩=false∧w.frozen? ⟨b,3,none⟩=false∧w.frozen? ⟨b,4,none⟩=false∧w.frozen? ⟨b,5,none⟩=false∧w.frozen? ⟨b,6,none⟩=false∧w.frozen? ⟨b,7,none⟩=false∧w.frozen? ⟨b,8,none⟩=false∧w.frozen? ⟨b,9,none⟩=false∧w.frozen? ⟨b,10,none⟩=false∧w.frozen? ⟨b,11,none⟩=false
theorem yc_12 {w:World} {b:Nat} {f g:Nat→Int} (c:YC w b f g):YC12 w b f g:=⟨(c 0 (by decide)).1,(c 0 (by decide)).2,(c 1 (by decide)).1,(c 1 (by decide)).2,(c 2 (by decide)).1,(c 2 (by decide)).2,(c 3 (by decide)).1,(c 3 (by decide)).2,(c 4 (by decide)).1,(c 4 (by decide)).2,(c 5 (by decide)).1,(c 5 (by decide)).2⟩
theorem yf_12 {w:World} {b:Nat} (c:YF w b):YF12 w b:=⟨c 0 (by decide),c 1 (by decide),c 2 (by decide),c 3 (by decide),c 4 (by decide),c 5 (by decide),c 6 (by decide),c 7 (by decide),c 8 (by decide),c 9 (by decide),c 10 (by decide),c 11 (by decide)⟩
theorem yc_of {w:World} {b:Nat} {f g:Nat→Int} (c:YC12 w b f g):YC w b f g:=fun k hk=>by
 obtain ⟨c0,c1,c2,c3,c4,c5,c6,c7,c8,c9,c10,c11⟩:=c
 match k,hk with
 | 0,_=>exact ⟨c0,c1⟩
 | 1,_=>exact ⟨c2,c3⟩
 | 2,_=>exact ⟨c4,c5⟩
 | 3,_=>exact ⟨c6,c7⟩
 | 4,_=>exact ⟨c8,c9⟩
 | 5,_=>exact ⟨c10,c11⟩
theorem yf_of {w:World} {b:Nat} (c:YF12 w b):YF w b:=fun k hk=>by
 obtain ⟨c0,c1,c2,c3,c4,c5,c6,c7,c8,c9,c10,c11⟩:=c
 match k,hk with
 | 0,_=>exact c0
 | 1,_=>exact c1
 | 2,_=>exact c2
 | 3,_=>exact c3
 | 4,_=>exact c4
 | 5,_=>exact c5
 | 6,_=>exact c6
 | 7,_=>exact c7
 | 8,_=>exact c8
 | 9,_=>exact c9
 | 10,_=>exact c10
 | 11,_=>exact c11
theorem yc_new {w:World} {b:Nat} (hn:b=w.heap.size):YC (w.alloc (Obj.cells #[.int .i64 0,.int .u64 0,.int .i64 0,.int .u64 0,.int .i64 0,.int .u64 0,.int .i64 0,.int .u64 0,.int .i64 0,.int .u64 0,.int .i64 0,.int .u64 0] 156)) b (fun _=>0) (fun _=>0):=by subst hn; exact yc_of (by simp [YC12,go_sem])
theorem yf_new {w:World} {b:Nat} (hn:b=w.heap.size):YF (w.alloc (Obj.cells #[.int .i64 0,.int .u64 0,.int .i64 0,.int .u64 0,.int .i64 0,.int .u64 0,.int .i64 0,.int .u64 0,.int .i64 0,.int .u64 0,.int .i64 0,.int .u64 0] 156)) b:=by subst hn; exact yf_of (by simp [YF12,go_sem])
abbrev upto (p:Nat) (f:Nat→Int):Nat→Int:=fun k=>if k<p then f k else 0
theorem yc_put {w:World} {b p:Nat} {f g:Nat→Int} (c:YC w b (upto p f) (upto p g)) (hp:p<6):YC ((w.setCell ⟨b,2*p,none⟩ (.int .i64 (f p))).setCell ⟨b,2*p+1,none⟩ (.int .u64 (g p))) b (upto (p+1) f) (upto (p+1) g):=by
 intro k hk
 by_cases e:k=p
 ·subst e
  refine ⟨?_,?_⟩
  ·rw [World.cell?_setCell_other _ _ _ _ (by intro c; simp at c),World.cell?_setCell_same' _ _ _ (by rw [(c k hk).1]; rfl)]
   simp [upto]
  ·rw [World.cell?_setCell_same' _ _ _ (by rw [World.cell?_setCell_other _ _ _ _ (by intro c; simp at c),(c k hk).2]; rfl)]
   simp [upto]
 ·have h1:(if k<p+1 then f k else 0)=if k<p then f k else 0:=by
   by_cases d:k<p
   ·rw [if_pos d,if_pos (by omega)]
   ·rw [if_neg d,if_neg (by omega)]
  have h2:(if k<p+1 then g k else 0)=if k<p then g k else 0:=by
   by_cases d:k<p
   ·rw [if_pos d,if_pos (by omega)]
   ·rw [if_neg d,if_neg (by omega)]
  refine ⟨?_,?_⟩
  ·rw [World.cell?_setCell_other _ _ _ _ (by intro c; simp at c <;> omega),World.cell?_setCell_other _ _ _ _ (by intro c; simp at c <;> omega),(c k hk).1]
   simp only [upto,h1]
  ·rw [World.cell?_setCell_other _ _ _ _ (by intro c; simp at c <;> omega),World.cell?_setCell_other _ _ _ _ (by intro c; simp at c <;> omega),(c k hk).2]
   simp only [upto,h2]
theorem yc_mine {w:World} {b:Nat} {f g f' g':Nat→Int} (c:YC w b f g):YC ((((((((((((w.setCell ⟨b,0,none⟩ (.int .i64 (f' 0))).setCell ⟨b,1,none⟩ (.int .u64 (g' 0))).setCell ⟨b,2,none⟩ (.int .i64 (f' 1))).setCell ⟨b,3,none⟩ (.int .u64 (g' 1))).setCell ⟨b,4,none⟩ (.int .i64 (f' 2))).setCell ⟨b,5,none⟩ (.int .u64 (g' 2))).setCell ⟨b,6,none⟩ (.int .i64 (f' 3))).setCell ⟨b,7,none⟩ (.int .u64 (g' 3))).setCell ⟨b,8,none⟩ (.int .i64 (f' 4))).setCell ⟨b,9,none⟩ (.int .u64 (g' 4))).setCell ⟨b,10,none⟩ (.int .i64 (f' 5))).setCell ⟨b,11,none⟩ (.int .u64 (g' 5))) b f' g':=by
 obtain ⟨c0,c1,c2,c3,c4,c5,c6,c7,c8,c9,c10,c11⟩:=yc_12 c
 exact yc_of (by simp [YC12,go_sem,c0,c1,c2,c3,c4,c5,c6,c7,c8,c9,c10,c11])
theorem yc_all {w:World} {b:Nat} {f g:Nat→Int} (c:YC w b (upto 6 f) (upto 6 g)):YC w b f g:=fun k hk=>by
 have h:=c k hk
 simp only [upto,if_pos hk] at h
 exact h
theorem yc_none {w:World} {b:Nat} {f g:Nat→Int} (c:YC w b (fun _=>0) (fun _=>0)):YC w b (upto 0 f) (upto 0 g):=fun k hk=>by
 simp only [upto,if_neg (Nat.not_lt_zero k)]
 exact c k hk
theorem yc_back {w:World} {b:Nat} {f g:Nat→Int} (c:YC w b (upto 0 f) (upto 0 g)):YC w b (fun _=>0) (fun _=>0):=fun k hk=>by
 have h:=c k hk
 simp only [upto,if_neg (Nat.not_lt_zero k)] at h
 exact h
def rawn (m:Nat→Int) (k:Nat):Int:=match k with | 0=>rwn m 0 0 | 1=>rwn m 0 1 | 2=>rwn m 0 2 | 3=>rwn m 1 1 | 4=>rwn m 1 2 | _=>rwn m 2 2
abbrev hin (r:Nat→Int) (k:Nat):Int:=r k / 18446744073709551616
abbrev lon (r:Nat→Int) (k:Nat):Int:=r k % 18446744073709551616
theorem terms_ti (m:Nat→Int) (i j:Nat) (w:World) (hl:ML w) (hp:PL w) :
  Calls Tryz.prog 135 #[sv m,.int .i64 i,.int .i64 j] w fun e w'=>∃ P I J,e=.returned (.func (.func 170) #[] #[.pointer (some ⟨I,0,none⟩),.pointer (some ⟨J,0,none⟩),.pointer (some ⟨P,0,none⟩)])∧TI w'.heap.size w' P I J m i j∧Below w.heap.size w w':=by
 refine (terms_any m i j w).mono ?_
 rintro e w' ⟨rfl,rfl⟩
 have B:Below w.heap.size w (((w.alloc (Obj.cells #[.int .i64 (m 0),.int .i64 (m 1),.int .i64 (m 2),.int .i64 (m 3),.int .i64 (m 4),.int .i64 (m 5)] 42)).alloc (Obj.cells #[.int .i64 (i:Int)] 3)).alloc (Obj.cells #[.int .i64 (j:Int)] 3)):=b_alloc (b_alloc (b_alloc (Below.refl _ _)))
 have z:=ml_lt hl
 have z0:=pl_lt hp
 exact ⟨_,_,_,rfl,⟨by simp <;> omega,by simp,by simp,by simp <;> omega,by simp <;> omega,sc_alloc (sc_alloc (sc_new rfl)),by simp [go_sem],by simp [go_sem],ml_keep B hl,pl_keep B hp⟩,B⟩
structure RK (W:World) (A R X:Nat) (m:Nat→Int) (p:Nat) (U:World):Prop where
 b:Below W.heap.size W U
 a:SC U A m
 r:YC U R (fun _=>0) (fun _=>0)
 rf:YF U R
 x:YC U X (upto p (hin (rawn m))) (upto p (lon (rawn m)))
 xf:YF U X
 ml:ML U
 pl:PL U
theorem rk_keep {W U U':World} {A R X:Nat} {m:Nat→Int} {p:Nat} (h:RK W A R X m p U) (hb:Below U.heap.size U U'):RK W A R X m p U' :=
 ⟨b_trans h.b hb,sc_keep hb h.a,yc_keep hb h.r,yf_keep hb h.r h.rf,yc_keep hb h.x,yf_keep hb h.x h.xf,ml_keep hb h.ml,pl_keep hb h.pl⟩
theorem ml_set {w:World} {b o:Nat} {v:Value} (h:ML w) (hb:3<b):ML (w.setCell ⟨b,o,none⟩ v):=fun i hi a ha=>by rw [World.cell?_setCell_far _ _ _ _ (show b≠3 by omega)]; exact h i hi a ha
theorem rk_put {W U:World} {A R X:Nat} {m:Nat→Int} {p:Nat} (h:RK W A R X m p U) (hp:p<6) (q:W.heap.size≤X) (q1:3<X∧0<X) (qa:X≠A) (qr:X≠R) :
  RK W A R X m (p+1) ((U.setCell ⟨X,2*p,none⟩ (.int .i64 (hin (rawn m) p))).setCell ⟨X,2*p+1,none⟩ (.int .u64 (lon (rawn m) p))) :=
 ⟨b_set (b_set h.b q) q,sc_set (sc_set h.a qa) qa,yc_set (yc_set h.r qr) qr,yf_set (yf_set h.rf),yc_put h.x hp,yf_set (yf_set h.xf),ml_set (ml_set h.ml q1.1) q1.1,pl_put (pl_put h.pl (by omega)) (by omega)⟩
theorem raw_ok (m:Nat→Int) (hm:I6 m) (ca:F6 m) (w:World) (hl:ML w) (hp:PL w) :
  Calls Tryz.prog 97 #[sv m] w (RetV (.tuple #[srv (hin (rawn m)) (lon (rawn m)),.int .i64 0]) w):=by
 have ea:=Lib.hid (f6b_yes ca)
 have CA:=Lib.hid ca
 clear ca
 have z1:=ml_lt hl
 have zp:=pl_lt hp
 have kA:SC ((w.alloc (Obj.cells #[.int .i64 (m 0),.int .i64 (m 1),.int .i64 (m 2),.int .i64 (m 3),.int .i64 (m 4),.int .i64 (m 5)] 42)).alloc (Obj.cells #[.int .i64 0,.int .u64 0,.int .i64 0,.int .u64 0,.int .i64 0,.int .u64 0,.int .i64 0,.int .u64 0,.int .i64 0,.int .u64 0,.int .i64 0,.int .u64 0] 156)) w.heap.size m:=sc_alloc (sc_new (w:=w) (m:=m) (t:=42) rfl)
 have kR:YC ((w.alloc (Obj.cells #[.int .i64 (m 0),.int .i64 (m 1),.int .i64 (m 2),.int .i64 (m 3),.int .i64 (m 4),.int .i64 (m 5)] 42)).alloc (Obj.cells #[.int .i64 0,.int .u64 0,.int .i64 0,.int .u64 0,.int .i64 0,.int .u64 0,.int .i64 0,.int .u64 0,.int .i64 0,.int .u64 0,.int .i64 0,.int .u64 0] 156)) (w.heap.size+1) (fun _=>0) (fun _=>0):=yc_new (by simp)
 have fR:YF ((w.alloc (Obj.cells #[.int .i64 (m 0),.int .i64 (m 1),.int .i64 (m 2),.int .i64 (m 3),.int .i64 (m 4),.int .i64 (m 5)] 42)).alloc (Obj.cells #[.int .i64 0,.int .u64 0,.int .i64 0,.int .u64 0,.int .i64 0,.int .u64 0,.int .i64 0,.int .u64 0,.int .i64 0,.int .u64 0,.int .i64 0,.int .u64 0] 156)) (w.heap.size+1):=yf_new (by simp)
 have B0:Below w.heap.size w ((w.alloc (Obj.cells #[.int .i64 (m 0),.int .i64 (m 1),.int .i64 (m 2),.int .i64 (m 3),.int .i64 (m 4),.int .i64 (m 5)] 42)).alloc (Obj.cells #[.int .i64 0,.int .u64 0,.int .i64 0,.int .u64 0,.int .i64 0,.int .u64 0,.int .i64 0,.int .u64 0,.int .i64 0,.int .u64 0,.int .i64 0,.int .u64 0] 156)):=b_alloc (b_alloc (Below.refl _ _))
 replace hl:=ml_keep B0 hl
 replace hp:=pl_keep B0 hp
 have hb9:Below (((w.alloc (Obj.cells #[.int .i64 (m 0),.int .i64 (m 1),.int .i64 (m 2),.int .i64 (m 3),.int .i64 (m 4),.int .i64 (m 5)] 42)).alloc (Obj.cells #[.int .i64 0,.int .u64 0,.int .i64 0,.int .u64 0,.int .i64 0,.int .u64 0,.int .i64 0,.int .u64 0,.int .i64 0,.int .u64 0,.int .i64 0,.int .u64 0] 156))).heap.size ((w.alloc (Obj.cells #[.int .i64 (m 0),.int .i64 (m 1),.int .i64 (m 2),.int .i64 (m 3),.int .i64 (m 4),.int .i64 (m 5)] 42)).alloc (Obj.cells #[.int .i64 0,.int .u64 0,.int .i64 0,.int .u64 0,.int .i64 0,.int .u64 0,.int .i64 0,.int .u64 0,.int .i64 0,.int .u64 0,.int .i64 0,.int .u64 0] 156)) (((w.alloc (Obj.cells #[.int .i64 (m 0),.int .i64 (m 1),.int .i64 (m 2),.int .i64 (m 3),.int .i64 (m 4),.int .i64 (m 5)] 42)).alloc (Obj.cells #[.int .i64 0,.int .u64 0,.int .i64 0,.int .u64 0,.int .i64 0,.int .u64 0,.int .i64 0,.int .u64 0,.int .i64 0,.int .u64 0,.int .i64 0,.int .u64 0] 156)).alloc (Obj.cells #[.int .i64 0,.int .u64 0,.int .i64 0,.int .u64 0,.int .i64 0,.int .u64 0,.int .i64 0,.int .u64 0,.int .i64 0,.int .u64 0,.int .i64 0,.int .u64 0] 156)):=b_alloc (Below.refl _ _)
 have s0:RK w w.heap.size (w.heap.size+1) (w.heap.size+1+1) m 0 (((w.alloc (Obj.cells #[.int .i64 (m 0),.int .i64 (m 1),.int .i64 (m 2),.int .i64 (m 3),.int .i64 (m 4),.int .i64 (m 5)] 42)).alloc (Obj.cells #[.int .i64 0,.int .u64 0,.int .i64 0,.int .u64 0,.int .i64 0,.int .u64 0,.int .i64 0,.int .u64 0,.int .i64 0,.int .u64 0,.int .i64 0,.int .u64 0] 156)).alloc (Obj.cells #[.int .i64 0,.int .u64 0,.int .i64 0,.int .u64 0,.int .i64 0,.int .u64 0,.int .i64 0,.int .u64 0,.int .i64 0,.int .u64 0,.int .i64 0,.int .u64 0] 156)):=⟨b_trans B0 hb9,sc_keep hb9 kA,yc_keep hb9 kR,yf_keep hb9 kR fR,yc_none (yc_new (by simp)),yf_new (by simp),ml_keep hb9 hl,pl_keep hb9 hp⟩
 clear kA kR fR B0 hl hp hb9
 have l6:=sc_six s0.a
 go_enter Tryz.func97,Tryz.ntmps97
 go_wp2_with fail
 refine (fits_spr m hm _).mono ?_
 rintro e0 w0 ⟨rfl,hb9⟩
 rw [ea.out]
 replace s0:=rk_keep s0 hb9
 clear hb9 l6
 have q:w.heap.size≤w.heap.size+1+1:=by omega
 have q1:3<w.heap.size+1+1∧0<w.heap.size+1+1:=by omega
 have qa:w.heap.size+1+1≠w.heap.size:=by omega
 have qr:w.heap.size+1+1≠w.heap.size+1:=by omega
 go_wp2
 refine wp_loop_rounds 4 ?_
 rw [rounds_succ]
 go_wp2
 refine wp_loop_rounds 4 ?_
 rw [rounds_succ]
 have l6:=sc_six s0.a
 have x12:=yc_12 s0.x
 have g12:=yf_12 s0.xf
 go_wp2_with fail
 refine (terms_ti m 0 0 _ s0.ml s0.pl).mono ?_
 rintro e_ v0 ⟨P0,I0,J0,rfl,hT,hb9⟩
 replace s0:=rk_keep s0 hb9
 clear hb9 l6 x12 g12
 have x12:=yc_12 s0.x
 have g12:=yf_12 s0.xf
 go_wp2_with fail
 refine (sum_spr m 0 0 CA.out (by decide) (by decide) P0 I0 J0 _ hT).mono ?_
 rintro e_ u0 ⟨rfl,hb9⟩
 replace s0:=rk_keep s0 hb9
 clear hb9 x12 g12 hT
 have x12:=yc_12 s0.x
 have g12:=yf_12 s0.xf
 have K:Hid (RK w w.heap.size (w.heap.size+1) (w.heap.size+1+1) m 1 ((u0.setCell ⟨w.heap.size+1+1,0,none⟩ (.int .i64 (rwn m 0 0 / 18446744073709551616))).setCell ⟨w.heap.size+1+1,1,none⟩ (.int .u64 (rwn m 0 0 % 18446744073709551616)))):=rk_put s0 (by decide) q q1 qa qr
 clear s0
 go_wp2
 generalize (u0.setCell ⟨w.heap.size+1+1,0,none⟩ (.int .i64 (rwn m 0 0 / 18446744073709551616))).setCell ⟨w.heap.size+1+1,1,none⟩ (.int .u64 (rwn m 0 0 % 18446744073709551616))=y0 at *
 have s0:=K.out
 clear K x12 g12
 rw [rounds_succ]
 have l6:=sc_six s0.a
 have x12:=yc_12 s0.x
 have g12:=yf_12 s0.xf
 go_wp2_with fail
 refine (terms_ti m 0 1 _ s0.ml s0.pl).mono ?_
 rintro e_ v1 ⟨P1,I1,J1,rfl,hT,hb9⟩
 replace s0:=rk_keep s0 hb9
 clear hb9 l6 x12 g12
 have x12:=yc_12 s0.x
 have g12:=yf_12 s0.xf
 go_wp2_with fail
 refine (sum_spr m 0 1 CA.out (by decide) (by decide) P1 I1 J1 _ hT).mono ?_
 rintro e_ u1 ⟨rfl,hb9⟩
 replace s0:=rk_keep s0 hb9
 clear hb9 x12 g12 hT
 have x12:=yc_12 s0.x
 have g12:=yf_12 s0.xf
 have K:Hid (RK w w.heap.size (w.heap.size+1) (w.heap.size+1+1) m 2 ((u1.setCell ⟨w.heap.size+1+1,2,none⟩ (.int .i64 (rwn m 0 1 / 18446744073709551616))).setCell ⟨w.heap.size+1+1,3,none⟩ (.int .u64 (rwn m 0 1 % 18446744073709551616)))):=rk_put s0 (by decide) q q1 qa qr
 clear s0
 go_wp2
 generalize (u1.setCell ⟨w.heap.size+1+1,2,none⟩ (.int .i64 (rwn m 0 1 / 18446744073709551616))).setCell ⟨w.heap.size+1+1,3,none⟩ (.int .u64 (rwn m 0 1 % 18446744073709551616))=y1 at *
 have s0:=K.out
 clear K x12 g12
 rw [rounds_succ]
 have l6:=sc_six s0.a
 have x12:=yc_12 s0.x
 have g12:=yf_12 s0.xf
 go_wp2_with fail
 refine (terms_ti m 0 2 _ s0.ml s0.pl).mono ?_
 rintro e_ v2 ⟨P2,I2,J2,rfl,hT,hb9⟩
 replace s0:=rk_keep s0 hb9
 clear hb9 l6 x12 g12
 have x12:=yc_12 s0.x
 have g12:=yf_12 s0.xf
 go_wp2_with fail
 refine (sum_spr m 0 2 CA.out (by decide) (by decide) P2 I2 J2 _ hT).mono ?_
 rintro e_ u2 ⟨rfl,hb9⟩
 replace s0:=rk_keep s0 hb9
 clear hb9 x12 g12 hT
 have x12:=yc_12 s0.x
 have g12:=yf_12 s0.xf
 have K:Hid (RK w w.heap.size (w.heap.size+1) (w.heap.size+1+1) m 3 ((u2.setCell ⟨w.heap.size+1+1,4,none⟩ (.int .i64 (rwn m 0 2 / 18446744073709551616))).setCell ⟨w.heap.size+1+1,5,none⟩ (.int .u64 (rwn m 0 2 % 18446744073709551616)))):=rk_put s0 (by decide) q q1 qa qr
 clear s0
 go_wp2
 generalize (u2.setCell ⟨w.heap.size+1+1,4,none⟩ (.int .i64 (rwn m 0 2 / 18446744073709551616))).setCell ⟨w.heap.size+1+1,5,none⟩ (.int .u64 (rwn m 0 2 % 18446744073709551616))=y2 at *
 have s0:=K.out
 clear K x12 g12
 rw [rounds_succ]
 go_wp2
 rw [rounds_succ]
 go_wp2
 refine wp_loop_rounds 4 ?_
 rw [rounds_succ]
 have l6:=sc_six s0.a
 have x12:=yc_12 s0.x
 have g12:=yf_12 s0.xf
 go_wp2_with fail
 refine (terms_ti m 1 1 _ s0.ml s0.pl).mono ?_
 rintro e_ v3 ⟨P3,I3,J3,rfl,hT,hb9⟩
 replace s0:=rk_keep s0 hb9
 clear hb9 l6 x12 g12
 have x12:=yc_12 s0.x
 have g12:=yf_12 s0.xf
 go_wp2_with fail
 refine (sum_spr m 1 1 CA.out (by decide) (by decide) P3 I3 J3 _ hT).mono ?_
 rintro e_ u3 ⟨rfl,hb9⟩
 replace s0:=rk_keep s0 hb9
 clear hb9 x12 g12 hT
 have x12:=yc_12 s0.x
 have g12:=yf_12 s0.xf
 have K:Hid (RK w w.heap.size (w.heap.size+1) (w.heap.size+1+1) m 4 ((u3.setCell ⟨w.heap.size+1+1,6,none⟩ (.int .i64 (rwn m 1 1 / 18446744073709551616))).setCell ⟨w.heap.size+1+1,7,none⟩ (.int .u64 (rwn m 1 1 % 18446744073709551616)))):=rk_put s0 (by decide) q q1 qa qr
 clear s0
 go_wp2
 generalize (u3.setCell ⟨w.heap.size+1+1,6,none⟩ (.int .i64 (rwn m 1 1 / 18446744073709551616))).setCell ⟨w.heap.size+1+1,7,none⟩ (.int .u64 (rwn m 1 1 % 18446744073709551616))=y3 at *
 have s0:=K.out
 clear K x12 g12
 rw [rounds_succ]
 have l6:=sc_six s0.a
 have x12:=yc_12 s0.x
 have g12:=yf_12 s0.xf
 go_wp2_with fail
 refine (terms_ti m 1 2 _ s0.ml s0.pl).mono ?_
 rintro e_ v4 ⟨P4,I4,J4,rfl,hT,hb9⟩
 replace s0:=rk_keep s0 hb9
 clear hb9 l6 x12 g12
 have x12:=yc_12 s0.x
 have g12:=yf_12 s0.xf
 go_wp2_with fail
 refine (sum_spr m 1 2 CA.out (by decide) (by decide) P4 I4 J4 _ hT).mono ?_
 rintro e_ u4 ⟨rfl,hb9⟩
 replace s0:=rk_keep s0 hb9
 clear hb9 x12 g12 hT
 have x12:=yc_12 s0.x
 have g12:=yf_12 s0.xf
 have K:Hid (RK w w.heap.size (w.heap.size+1) (w.heap.size+1+1) m 5 ((u4.setCell ⟨w.heap.size+1+1,8,none⟩ (.int .i64 (rwn m 1 2 / 18446744073709551616))).setCell ⟨w.heap.size+1+1,9,none⟩ (.int .u64 (rwn m 1 2 % 18446744073709551616)))):=rk_put s0 (by decide) q q1 qa qr
 clear s0
 go_wp2
 generalize (u4.setCell ⟨w.heap.size+1+1,8,none⟩ (.int .i64 (rwn m 1 2 / 18446744073709551616))).setCell ⟨w.heap.size+1+1,9,none⟩ (.int .u64 (rwn m 1 2 % 18446744073709551616))=y4 at *
 have s0:=K.out
 clear K x12 g12
 rw [rounds_succ]
 go_wp2
 rw [rounds_succ]
 go_wp2
 refine wp_loop_rounds 4 ?_
 rw [rounds_succ]
 have l6:=sc_six s0.a
 have x12:=yc_12 s0.x
 have g12:=yf_12 s0.xf
 go_wp2_with fail
 refine (terms_ti m 2 2 _ s0.ml s0.pl).mono ?_
 rintro e_ v5 ⟨P5,I5,J5,rfl,hT,hb9⟩
 replace s0:=rk_keep s0 hb9
 clear hb9 l6 x12 g12
 have x12:=yc_12 s0.x
 have g12:=yf_12 s0.xf
 go_wp2_with fail
 refine (sum_spr m 2 2 CA.out (by decide) (by decide) P5 I5 J5 _ hT).mono ?_
 rintro e_ u5 ⟨rfl,hb9⟩
 replace s0:=rk_keep s0 hb9
 clear hb9 x12 g12 hT
 have x12:=yc_12 s0.x
 have g12:=yf_12 s0.xf
 have K:Hid (RK w w.heap.size (w.heap.size+1) (w.heap.size+1+1) m 6 ((u5.setCell ⟨w.heap.size+1+1,10,none⟩ (.int .i64 (rwn m 2 2 / 18446744073709551616))).setCell ⟨w.heap.size+1+1,11,none⟩ (.int .u64 (rwn m 2 2 % 18446744073709551616)))):=rk_put s0 (by decide) q q1 qa qr
 clear s0
 go_wp2
 generalize (u5.setCell ⟨w.heap.size+1+1,10,none⟩ (.int .i64 (rwn m 2 2 / 18446744073709551616))).setCell ⟨w.heap.size+1+1,11,none⟩ (.int .u64 (rwn m 2 2 % 18446744073709551616))=y5 at *
 have s0:=K.out
 clear K x12 g12
 rw [rounds_succ]
 go_wp2
 rw [rounds_succ]
 have x12:=yc_12 (yc_all s0.x)
 have r12:=yc_12 s0.r
 have f12:=yf_12 s0.rf
 have B9:=s0.b
 have c12:=yc_12 (yc_mine (f':=hin (rawn m)) (g':=lon (rawn m)) s0.r)
 have HC:=Lib.hid c12
 clear c12
 go_wp2
 obtain ⟨c0,c1,c2,c3,c4,c5,c6,c7,c8,c9,c10,c11⟩:=HC.out
 clear HC
 refine bodyPost_ret (v:=.tuple #[srv (hin (rawn m)) (lon (rawn m)),.int .i64 0]) (by simp [results,Tryz.results97,go_sem,c0,c1,c2,c3,c4,c5,c6,c7,c8,c9,c10,c11]) rfl ⟨rfl,?_⟩
 repeat (refine b_set ?_ (Nat.le_succ _))
 exact B9
theorem raw_bad (m:Nat→Int) (hm:I6 m) (ca:¬ F6 m) (w:World) (hl:ML w) (hp:PL w) :
  Calls Tryz.prog 97 #[sv m] w (RetV (.tuple #[srv (fun _=>0) (fun _=>0),.int .i64 1]) w):=by
 have ea:=Lib.hid (f6b_no ca)
 clear ca
 have z1:=ml_lt hl
 have zp:=pl_lt hp
 have kA:SC ((w.alloc (Obj.cells #[.int .i64 (m 0),.int .i64 (m 1),.int .i64 (m 2),.int .i64 (m 3),.int .i64 (m 4),.int .i64 (m 5)] 42)).alloc (Obj.cells #[.int .i64 0,.int .u64 0,.int .i64 0,.int .u64 0,.int .i64 0,.int .u64 0,.int .i64 0,.int .u64 0,.int .i64 0,.int .u64 0,.int .i64 0,.int .u64 0] 156)) w.heap.size m:=sc_alloc (sc_new (w:=w) (m:=m) (t:=42) rfl)
 have kR:YC ((w.alloc (Obj.cells #[.int .i64 (m 0),.int .i64 (m 1),.int .i64 (m 2),.int .i64 (m 3),.int .i64 (m 4),.int .i64 (m 5)] 42)).alloc (Obj.cells #[.int .i64 0,.int .u64 0,.int .i64 0,.int .u64 0,.int .i64 0,.int .u64 0,.int .i64 0,.int .u64 0,.int .i64 0,.int .u64 0,.int .i64 0,.int .u64 0] 156)) (w.heap.size+1) (fun _=>0) (fun _=>0):=yc_new (by simp)
 have fR:YF ((w.alloc (Obj.cells #[.int .i64 (m 0),.int .i64 (m 1),.int .i64 (m 2),.int .i64 (m 3),.int .i64 (m 4),.int .i64 (m 5)] 42)).alloc (Obj.cells #[.int .i64 0,.int .u64 0,.int .i64 0,.int .u64 0,.int .i64 0,.int .u64 0,.int .i64 0,.int .u64 0,.int .i64 0,.int .u64 0,.int .i64 0,.int .u64 0] 156)) (w.heap.size+1):=yf_new (by simp)
 have B0:Below w.heap.size w ((w.alloc (Obj.cells #[.int .i64 (m 0),.int .i64 (m 1),.int .i64 (m 2),.int .i64 (m 3),.int .i64 (m 4),.int .i64 (m 5)] 42)).alloc (Obj.cells #[.int .i64 0,.int .u64 0,.int .i64 0,.int .u64 0,.int .i64 0,.int .u64 0,.int .i64 0,.int .u64 0,.int .i64 0,.int .u64 0,.int .i64 0,.int .u64 0] 156)):=b_alloc (b_alloc (Below.refl _ _))
 replace hl:=ml_keep B0 hl
 replace hp:=pl_keep B0 hp
 have hb9:Below (((w.alloc (Obj.cells #[.int .i64 (m 0),.int .i64 (m 1),.int .i64 (m 2),.int .i64 (m 3),.int .i64 (m 4),.int .i64 (m 5)] 42)).alloc (Obj.cells #[.int .i64 0,.int .u64 0,.int .i64 0,.int .u64 0,.int .i64 0,.int .u64 0,.int .i64 0,.int .u64 0,.int .i64 0,.int .u64 0,.int .i64 0,.int .u64 0] 156))).heap.size ((w.alloc (Obj.cells #[.int .i64 (m 0),.int .i64 (m 1),.int .i64 (m 2),.int .i64 (m 3),.int .i64 (m 4),.int .i64 (m 5)] 42)).alloc (Obj.cells #[.int .i64 0,.int .u64 0,.int .i64 0,.int .u64 0,.int .i64 0,.int .u64 0,.int .i64 0,.int .u64 0,.int .i64 0,.int .u64 0,.int .i64 0,.int .u64 0] 156)) (((w.alloc (Obj.cells #[.int .i64 (m 0),.int .i64 (m 1),.int .i64 (m 2),.int .i64 (m 3),.int .i64 (m 4),.int .i64 (m 5)] 42)).alloc (Obj.cells #[.int .i64 0,.int .u64 0,.int .i64 0,.int .u64 0,.int .i64 0,.int .u64 0,.int .i64 0,.int .u64 0,.int .i64 0,.int .u64 0,.int .i64 0,.int .u64 0] 156)).alloc (Obj.cells #[.int .i64 0,.int .u64 0,.int .i64 0,.int .u64 0,.int .i64 0,.int .u64 0,.int .i64 0,.int .u64 0,.int .i64 0,.int .u64 0,.int .i64 0,.int .u64 0] 156)):=b_alloc (Below.refl _ _)
 have s0:RK w w.heap.size (w.heap.size+1) (w.heap.size+1+1) m 0 (((w.alloc (Obj.cells #[.int .i64 (m 0),.int .i64 (m 1),.int .i64 (m 2),.int .i64 (m 3),.int .i64 (m 4),.int .i64 (m 5)] 42)).alloc (Obj.cells #[.int .i64 0,.int .u64 0,.int .i64 0,.int .u64 0,.int .i64 0,.int .u64 0,.int .i64 0,.int .u64 0,.int .i64 0,.int .u64 0,.int .i64 0,.int .u64 0] 156)).alloc (Obj.cells #[.int .i64 0,.int .u64 0,.int .i64 0,.int .u64 0,.int .i64 0,.int .u64 0,.int .i64 0,.int .u64 0,.int .i64 0,.int .u64 0,.int .i64 0,.int .u64 0] 156)):=⟨b_trans B0 hb9,sc_keep hb9 kA,yc_keep hb9 kR,yf_keep hb9 kR fR,yc_none (yc_new (by simp)),yf_new (by simp),ml_keep hb9 hl,pl_keep hb9 hp⟩
 clear kA kR fR B0 hl hp hb9
 have l6:=sc_six s0.a
 go_enter Tryz.func97,Tryz.ntmps97
 go_wp2_with fail
 refine (fits_spr m hm _).mono ?_
 rintro e0 w0 ⟨rfl,hb9⟩
 rw [ea.out]
 replace s0:=rk_keep s0 hb9
 clear hb9 l6
 have x12:=yc_12 (yc_back s0.x)
 have r12:=yc_12 s0.r
 have f12:=yf_12 s0.rf
 have B9:=s0.b
 have c12:=yc_12 (yc_mine (f':=fun _=>0) (g':=fun _=>0) s0.r)
 have HC:=Lib.hid c12
 clear c12
 go_wp2
 obtain ⟨c0,c1,c2,c3,c4,c5,c6,c7,c8,c9,c10,c11⟩:=HC.out
 clear HC
 refine bodyPost_ret (v:=.tuple #[srv (fun _=>0) (fun _=>0),.int .i64 1]) (by simp [results,Tryz.results97,go_sem,c0,c1,c2,c3,c4,c5,c6,c7,c8,c9,c10,c11]) rfl ⟨rfl,?_⟩
 repeat (refine b_set ?_ (Nat.le_succ _))
 exact B9
end Go.Proofs.YthnofhjgfhapiaaGreatDoor

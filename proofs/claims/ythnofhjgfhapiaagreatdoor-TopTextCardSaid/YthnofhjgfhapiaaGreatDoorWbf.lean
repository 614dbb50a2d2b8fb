import Derived.Deep.RegionWith
import Derived.Deep.DeepCutAuto
import Derived.Deep.CutBlock
import Derived.Test.YthnofhjgfhapiaaGreatDoorWbe
import Derived.Test.YthnofhjgfhapiaaGreatDoorWak
import Derived.Test.YthnofhjgfhapiaaGreatDoorWai
import Derived.Test.YthnofhjgfhapiaaGreatDoorWag
import Derived.Test.YthnofhjgfhapiaaGreatDoorWam
import Derived.Test.YthnofhjgfhapiaaGreatDoorWaw
import Derived.Test.YthnofhjgfhapiaaGreatDoorWbd
import Derived.Test.YthnofhjgfhapiaaGreatDoorWad
import Derived.Test.YthnofhjgfhapiaaGreatDoorWaa
import Derived.Test.YthnofhjgfhapiaaGreatDoorWae
import Derived.Test.YthnofhjgfhapiaaGreatDoorWaj
import Derived.Test.YthnofhjgfhapiaaGreatDoorWan
import Derived.Test.YthnofhjgfhapiaaGreatDoorWaf
import Derived.Test.YthnofhjgfhapiaaGreatDoorWau
import Derived.Test.YthnofhjgfhapiaaGreatDoorWax
import Derived.Test.YthnofhjgfhapiaaGreatDoorWar
set_option maxHeartbeats 8000000
set_option maxRecDepth 10000
namespace Go.Proofs.YthnofhjgfhapiaaGreatDoor
open Go.RowKit Go.Shelf Go.Joins
theorem fr_drew {w:World} {fb:Nat} {x:Nat→Int} {l r:Int} (h:FR w fb x l r):FR w.drew fb x l r:=h
theorem but_drew {w w':World} {b:Nat} (h:But b w.drew w'):But b w w':=⟨h.os,h.tape,h.output,h.size,h.block⟩
theorem in_x {x:Nat→Int} (hx:C64 x) (c:cks x=0) {b:Nat} {l r n:Int} (r0:0≤r) (r1:r≤1000000) (w:World) (h:FR w b x l r) :
  Calls Tryz.prog 21 #[.pointer (some ⟨b,0,none⟩),.int .i64 n] w fun e w'=>e=.returned (.tuple #[.int .i64 (ap x l n),.bool (ah x n),.bool (aq x r n)])∧FR w' b x (ap x l n) (ar x r n)∧But b w w':=by
 rcases the_or c n with t | t
 ·obtain ⟨e0,e1,e2,e3⟩:=a_ok t l r
  rw [e0,e1,e2,e3]
  exact in_ok b x hx l r n c t w h
 ·obtain ⟨e0,e1,e2,e3⟩:=a_no (x:=x) (n:=n) (by rw [t]; decide) l r
  rw [e0,e1,e2,e3]
  exact in_held b x hx l r n c t r0 r1 w h
structure SW (W:World) (b fb gb:Nat) (hl h1:Value) (x:Nat→Int) (C:Cn) (n0 p:Int) (br0 sh:Bool) (D:Nat) (ac rf ho gr:Bool) (U:World):Prop where
 c:CH U b fb gb h1 x C
 t:Tb3 U
 k:U.heap[W.heap.size]?=some (.cells #[.int .i64 n0,.bool br0,.int .i64 p,.bool sh] 37 (0,0))
 r:U.heap[W.heap.size+1]?=some (.cells #[.int .i64 0,.bool false,.bool false,.bool false,.bool false,.bool false,.int .i64 0,.int .i64 0,.int .i64 0] 39 (0,0))
 d:U.heap[D]?=some (.cells #[.int .i64 0,.bool false,.bool ac,.bool rf,.bool ho,.bool gr,.int .i64 0,.int .i64 0,.int .i64 0] 39 (0,0))
 q:∀ k,h1.ownBlock=some k→hl.ownBlock=some k∨W.heap.size≤k
 n:∀ k,h1.ownBlock=some k→k≠D∧k≠W.heap.size+1∧k≠W.heap.size
 o:∀ k,W.heap.size≤k→k≠b∧k≠fb∧k≠gb
 e:W.heap.size+1<D
 B:Chs (Ow b fb gb hl) W U
section
variable {W U U':World} {b fb gb:Nat} {hl h1 h2:Value} {x:Nat→Int} {C C':Cn} {n0 p:Int} {br0 sh:Bool} {D:Nat} {ac rf ho gr:Bool}
theorem sw_no (S:SW W b fb gb hl h1 x C n0 p br0 sh D ac rf ho gr U) {j:Nat} (hj:W.heap.size≤j) (hi:∀ i,h1.ownBlock=some i→i≠j):¬ Ow b fb gb h1 j:=fun c=>by
 obtain ⟨n1,n2,n3⟩:=S.o j hj
 rcases c with c | c | c | c
 ·exact n1 c
 ·exact n2 c
 ·exact n3 c
 ·exact hi j c rfl
theorem sw_step (S:SW W b fb gb hl h1 x C n0 p br0 sh D ac rf ho gr U) (hc:CH U' b fb gb h2 x C') (q2:∀ k,h2.ownBlock=some k→h1.ownBlock=some k∨U.heap.size≤k)
  (k:Chs (Ow b fb gb h1) U U'):SW W b fb gb hl h2 x C' n0 p br0 sh D ac rf ho gr U':=by
 have lW:W.heap.size≤U.heap.size:=S.B.size
 have lD:=(Array.getElem?_eq_some_iff.1 S.d).1
 have lR:=(Array.getElem?_eq_some_iff.1 S.r).1
 have eD:=S.e
 refine ⟨hc,t3_chs k (fun q hq=>S.c.up q hq) S.t,chs_row k (sw_no S (Nat.le_refl _) (fun i hi=>(S.n i hi).2.2)) S.k,chs_row k (sw_no S (Nat.le_succ _) (fun i hi=>(S.n i hi).2.1)) S.r,chs_row k (sw_no S (by omega) (fun i hi=>(S.n i hi).1)) S.d,fun j hj=>?_,fun j hj=>?_,S.o,S.e,
  ⟨k.os.trans S.B.os,k.tape.trans S.B.tape,k.output.trans S.B.output,Nat.le_trans S.B.size k.size,fun j hj hn=>(k.block j (by omega) (fun c=>hn ?_)).trans (S.B.block j hj hn)⟩⟩
 ·rcases q2 j hj with h | h
  ·exact S.q j h
  ·exact Or.inr (Nat.le_trans lW h)
 ·rcases q2 j hj with h | h
  ·exact S.n j h
  ·exact ⟨by omega,by omega,by omega⟩
 ·rcases c with c | c | c | c
  ·exact Or.inl c
  ·exact Or.inr (Or.inl c)
  ·exact Or.inr (Or.inr (Or.inl c))
  ·rcases S.q j c with h | h
   ·exact Or.inr (Or.inr (Or.inr h))
   ·omega
theorem sw_keep (S:SW W b fb gb hl h1 x C n0 p br0 sh D ac rf ho gr U) (k:Below U.heap.size U U'):SW W b fb gb hl h1 x C n0 p br0 sh D ac rf ho gr U' :=
 sw_step S (ch_keep S.c k) (fun _ h=>Or.inl h) (chs_below k)
theorem sw_but (S:SW W b fb gb hl h1 x C n0 p br0 sh D ac rf ho gr U) (k:But b U U') (hc:CH U' b fb gb h2 x C') (q2:∀ k,h2.ownBlock=some k→h1.ownBlock=some k):SW W b fb gb hl h2 x C' n0 p br0 sh D ac rf ho gr U' :=
 sw_step S hc (fun j h=>Or.inl (q2 j h)) (chs_of_but k (Or.inl rfl))
theorem sw_put {o:Nat} {v:Value} {ac' rf' ho' gr':Bool} (S:SW W b fb gb hl h1 x C n0 p br0 sh D ac rf ho gr U) (hd:(U.setCell ⟨D,o,none⟩ v).heap[D]?=some (.cells #[.int .i64 0,.bool false,.bool ac',.bool rf',.bool ho',.bool gr',.int .i64 0,.int .i64 0,.int .i64 0] 39 (0,0))):SW W b fb gb hl h1 x C n0 p br0 sh D ac' rf' ho' gr' (U.setCell ⟨D,o,none⟩ v):=by
 have eD:=S.e
 have k:Chs (fun j=>j=D) U (U.setCell ⟨D,o,none⟩ v):=chs_of_but but_set rfl
 have nd:=sw_no S (j:=D) (by omega) (fun i hi=>(S.n i hi).1)
 have uD:Up D:=up_le (S.c.up b (Or.inl rfl)) (by have:=(S.o b); have:=S.o W.heap.size (Nat.le_refl _); by_cases hh:b≤D; exact hh; exact absurd rfl (S.o b (by omega)).1)
 exact ⟨ch_chs S.c k (fun q hq e=>nd (e ▸ hq)),t3_chs k (fun q hq=>hq ▸ uD) S.t,chs_row k (by omega) S.k,chs_row k (by omega) S.r,hd,S.q,S.n,S.o,S.e,⟨k.os.trans S.B.os,k.tape.trans S.B.tape,k.output.trans S.B.output,Nat.le_trans S.B.size k.size,fun j hj hn=>(k.block j (Nat.lt_of_lt_of_le hj S.B.size) (by omega)).trans (S.B.block j hj hn)⟩⟩
end
theorem but_g0 {w:World} {b:Nat} {v0 v1 v2 v3 v4 v5 v6 v7 v8:Value}:But b w (((((((((w.setCell ⟨b,0,none⟩ v0).setCell ⟨b,1,none⟩ v1).setCell ⟨b,2,none⟩ v2).setCell ⟨b,3,none⟩ v3).setCell ⟨b,4,none⟩ v4).setCell ⟨b,5,none⟩ v5).setCell ⟨b,6,none⟩ v6).setCell ⟨b,7,none⟩ v7).setCell ⟨b,8,none⟩ v8):=but_trans (but_trans (but_trans (but_trans (but_trans (but_trans (but_trans (but_trans but_set but_set) but_set) but_set) but_set) but_set) but_set) but_set) but_set
theorem az_i64 (p:Int):I64 (az p):=by
 unfold az
 split
 ·rename_i h
  have:=al_range h
  exact ⟨by omega,by omega⟩
 ·exact (show I64 0 by decide)
theorem ok_fed {x:Nat→Int} (_hx:C64 x) (ck:cks x=0) {C:Cn} (k:Okc C) (n:Int):Okc (fed x C n):=by
 refine ⟨k.v,k.u,?_,?_,k.g,k.n,k.z,k.s⟩
 ·show I64 (ap x C.l n)
  unfold ap
  split
  ·rename_i h
   unfold thv
   rw [if_pos ck]
   split
   ·rename_i i
    obtain ⟨i1,i2⟩:=inb_iff.1 i
    obtain ⟨a,b⟩:=thrust_small (kept_of ck) i1 i2
    exact ⟨by omega,by omega⟩
   ·exact (show I64 0 by decide)
  ·exact k.l
 ·show 0≤ar x C.r n
  unfold ar
  split
  ·decide
  ·have:=k.r; omega
structure Okm (C:Cn) (e:Int):Prop where
 v:∀ i,i<3→I64 (C.v i)
 u:I6 C.u
 l:I64 C.l
 r:0≤C.r
 g:GK C.g
 n:e=0∨C.n≤15
 z:∀ k,k<C.n→gd (C.z k)=true
 s:0≤C.s
theorem okm_of {C:Cn} (k:Okc C) (e:Int):Okm C e:=⟨k.v,k.u,k.l,k.r,k.g,Or.inr k.n,k.z,k.s⟩
theorem ok_mov {x:Nat→Int} (c:CN x) {C:Cn} (k:Okc C) (t:Int) (h:Bool):Okc (mov x C t h):=⟨mvd_i64 c k.v t,spd_i6 c k.u h,k.l,k.r,k.g,k.n,k.z,k.s⟩
theorem more_gd {C:Cn} (k:Okc C) {p:Int} (g:gd p=true):∀ j,j<C.n+1→gd (more C.z C.n p j)=true:=fun j hj=>by
 unfold more
 split
 ·rename_i h
  exact k.z j h
 ·exact g
theorem dgm_i64 {x:Nat→Int} (hx:C64 x):I6 (dgm (x 8) (x 9) (x 10)):=dgm_i6 (hx 8 (by decide)) (hx 9 (by decide)) (hx 10 (by decide))
theorem okm_mid {x:Nat→Int} (hx:C64 x) (c:CN x) {C:Cn} (k:Okc C) (t:Int) (hl lo b:Bool) (p:Int) (sh:Bool) (g:b=true→gd p=true):Okm (mid x C t hl lo b p sh).1 (mid x C t hl lo b p sh).2.1:=by
 unfold mid
 split
 ·exact okm_of k _
 ·split
  ·split
   ·rename_i hb
    unfold gat
    split
    ·rename_i h
     exact ⟨k.v,k.u,k.l,k.r,k.g,Or.inr (by show C.n+1≤15; omega),more_gd k (g hb),k.s⟩
    ·exact ⟨three_i (az_i64 _) (show I64 0 by decide) (show I64 0 by decide),dgm_i64 hx,k.l,k.r,gk_set k.g _,Or.inl rfl,more_gd k (g hb),k.s⟩
   ·exact okm_of k _
  ·split
   ·unfold tke
    split
    ·have q:=ok_mov c k t hl
     exact okm_of (C:=tkn x (mov x C t hl) p sh) ⟨cl3_i64 c _,tmd_i6 c _,q.l,q.r,q.g,q.n,q.z,q.s⟩ _
    ·exact okm_of (ok_mov c k t hl) _
   ·exact okm_of (ok_mov c k t hl) _
theorem ok_trn {x:Nat→Int} {C:Cn} {e:Int} (k:Okm C e):Okc (trn x C e):=by
 refine ⟨k.v,k.u,k.l,k.r,k.g,?_,?_,nxt_s k.s⟩
 ·show (if e=0∨e=3∨(sks (clk2 x C e).1=true∧sks C.m=false) then 0 else C.n)≤15
  split
  ·exact Nat.zero_le _
  ·rename_i h
   rcases k.n with n | n
   ·exact absurd (Or.inl n) h
   ·exact n
 ·show ∀ j,j<(if e=0∨e=3∨(sks (clk2 x C e).1=true∧sks C.m=false) then 0 else C.n)→gd (C.z j)=true
  split
  ·exact fun j hj=>absurd hj (Nat.not_lt_zero _)
  ·exact k.z
theorem br_gd {h:Bool} {p:Int} (q:br h p=true):gd p=true∧bv h p=p:=by
 rcases three h p with e | e | e
 ·exact ⟨e.2.1,e.2.2.2.2⟩
 ·rw [e.2.2.2.1] at q; cases q
 ·rw [e.2.2.1] at q; cases q
theorem ok_stp {x:Nat→Int} (hx:C64 x) (ck:cks x=0) {C:Cn} (k:Okc C) (a:Int) (h:Bool) (p:Int) (sh:Bool):Okc (stp x C a h p sh).1 :=
 ok_trn (okm_mid hx (cn_of ck) (ok_fed hx ck k a) _ _ _ _ _ _ (fun q=>(br_gd q).1))
theorem step_any {b fb gb:Nat} {hl:Value} {x:Nat→Int} (hx:C64 x) (ck:cks x=0) {C:Cn} (k:Okc C) (r1:C.r≤1000000) (n0:Int) (br0:Bool) (p:Int) (sh:Bool) (w:World) (H:CH w b fb gb hl x C) (T:Tb3 w) :
  Calls Tryz.prog 9 #[.pointer (some ⟨b,0,none⟩),tk n0 br0 p sh] w fun e w'=>e=.returned (tdw (stp x C n0 br0 p sh).2)∧∃ h1,CH w' b fb gb h1 x (stp x C n0 br0 p sh).1∧(∀ k,h1.ownBlock=some k→hl.ownBlock=some k∨w.heap.size≤k)∧Chs (Ow b fb gb hl) w w':=by
 have ck0:=cn_of ck
 have kF:=ok_fed hx ck k n0
 have HI:=in_x hx ck (b:=fb) (l:=C.l) (n:=n0) k.r r1
 have km:=okm_mid hx ck0 kF (ap x C.l n0) (ah x n0) (aq x C.r n0) (br br0 p) p sh (fun q=>(br_gd q).1)
 have hbr:=brings_any n0 br0 p sh
 have hg:=br_gd (h:=br0) (p:=p)
 have il:I64 (ap x C.l n0):=kF.l
 unfold stp
 obtain ⟨F,hF⟩:∃ F,fed x C n0=F:=⟨_,rfl⟩
 have fF:F.m=C.m∧F.s=C.s∧F.v=C.v∧F.u=C.u∧F.g=C.g∧F.n=C.n∧F.z=C.z∧F.l=ap x C.l n0∧F.r=ar x C.r n0:=by subst hF; exact ⟨rfl,rfl,rfl,rfl,rfl,rfl,rfl,rfl,rfl⟩
 rw [hF] at kF km ⊢
 clear hF
 generalize ap x C.l n0=l1 at *
 generalize ah x n0=ho at *
 generalize aq x C.r n0=lo at *
 generalize ar x C.r n0=r2 at *
 generalize br br0 p=bb at *
 generalize bv br0 p=pp at *
 obtain ⟨M,hM⟩:∃ M,mid x F l1 ho lo bb p sh=M:=⟨_,rfl⟩
 rw [hM] at km ⊢
 replace hM:=Lib.hid hM
 replace fF:=Lib.hid fF
 replace hg:=Lib.hid hg
 replace km:=Lib.hid km
 have b2:Below w.heap.size w ((w.alloc (Obj.cells #[.int .i64 n0,.bool br0,.int .i64 p,.bool sh] 37)).alloc (Obj.cells #[.int .i64 0,.bool false,.bool false,.bool false,.bool false,.bool false,.int .i64 0,.int .i64 0,.int .i64 0] 39)):=b_alloc (b_alloc (Below.refl _ _))
 have H0:=ch_keep H b2
 have T0:=t3_keep b2 T
 have fe:=cb_fe H0.c
 have fr:=H0.f
 have kK:((w.alloc (Obj.cells #[.int .i64 n0,.bool br0,.int .i64 p,.bool sh] 37)).alloc (Obj.cells #[.int .i64 0,.bool false,.bool false,.bool false,.bool false,.bool false,.int .i64 0,.int .i64 0,.int .i64 0] 39)).heap[w.heap.size]?=some (.cells #[.int .i64 n0,.bool br0,.int .i64 p,.bool sh] 37 (0,0)):=lay_old _ _ _
 have kR:((w.alloc (Obj.cells #[.int .i64 n0,.bool br0,.int .i64 p,.bool sh] 37)).alloc (Obj.cells #[.int .i64 0,.bool false,.bool false,.bool false,.bool false,.bool false,.int .i64 0,.int .i64 0,.int .i64 0] 39)).heap[w.heap.size+1]?=some (.cells #[.int .i64 0,.bool false,.bool false,.bool false,.bool false,.bool false,.int .i64 0,.int .i64 0,.int .i64 0] 39 (0,0)):=lay_new _ _ _
 have g0:=(cell_of_row _ _ 0 _ _ _ kK).trans rfl
 have lo0:∀ q,Ow b fb gb hl q→q<w.heap.size:=fun q hq=>ch_own H q hq
 have bz:((w.alloc (Obj.cells #[.int .i64 n0,.bool br0,.int .i64 p,.bool sh] 37)).alloc (Obj.cells #[.int .i64 0,.bool false,.bool false,.bool false,.bool false,.bool false,.int .i64 0,.int .i64 0,.int .i64 0] 39)).heap.size=w.heap.size+1+1:=by simp
 go_enter Tryz.func9,Tryz.ntmps9
 go_wp2
 generalize ((w.alloc (Obj.cells #[.int .i64 n0,.bool br0,.int .i64 p,.bool sh] 37)).alloc (Obj.cells #[.int .i64 0,.bool false,.bool false,.bool false,.bool false,.bool false,.int .i64 0,.int .i64 0,.int .i64 0] 39))=y0 at *
 go_cut [5,6,7] (fun s5 s6 s7 wx=>s5=.int .i64 l1∧s6=.bool ho∧s7=.bool lo∧FR wx fb x l1 r2∧But fb y0 wx)
 case first =>
  go_region_with (go_at_call 21; refine (HI _ (fr_drew fr)).mono ?_; rintro e_ y1 ⟨rfl,hf,hb⟩)
  all_goals (go_wp2_with fail; go_meet; exact ⟨rfl,rfl,rfl,by assumption,but_drew (by assumption)⟩)
 case rest =>
  obtain ⟨rfl,rfl,rfl,hf,hb⟩:=hcut
  clear HI fr fe g0
  have nOw:∀ q,w.heap.size≤q→¬ Ow b fb gb hl q:=fun q hq c=>absurd (lo0 q c) (by omega)
  have lf:=lo0 fb (Or.inr (Or.inl rfl))
  have H1:CH wc b fb gb hl x F:=by
   obtain ⟨e0,e1,e2,e3,e4,e5,e6,e7,e8⟩:=fF.out
   exact ⟨by rw [e0,e1,e2,e3]; exact but_row hb (Ne.symm H0.nf) H0.c,by rw [e7,e8]; exact hf,by rw [e4]; exact but_row hb (Ne.symm H0.nfg) H0.g,by rw [e5,e6]; exact hs_but hb (fun q hq=>(H0.nh q hq).2.1) H0.h,H0.nf,H0.ng,H0.nfg,H0.nh,H0.up⟩
  have T1:=t3_but hb (H0.up fb (Or.inr (Or.inl rfl))) T0
  have kK1:=but_row hb (by omega) kK
  have kR1:=but_row hb (by omega) kR
  have B1:Chs (Ow b fb gb hl) w wc:=chs_trans (chs_below b2) (chs_of_but hb (Or.inr (Or.inl rfl)))
  have wz:=hb.size
  clear hb hf H0 T0 kK kR b2 H T
  have g0:=(cell_of_row _ _ 0 _ _ _ kK1).trans rfl
  have g1:=(cell_of_row _ _ 1 _ _ _ kK1).trans rfl
  have g2:=(cell_of_row _ _ 2 _ _ _ kK1).trans rfl
  have g3:=(cell_of_row _ _ 3 _ _ _ kK1).trans rfl
  go_wp2_with fail
  refine (hbr _).mono ?_
  rintro e_ y1 ⟨rfl,hb1⟩
  clear hbr g0 g1 g2 g3
  have b3:Below y1.heap.size y1 (y1.alloc (Obj.cells #[.int .i64 0,.bool false,.bool false,.bool false,.bool ho,.bool false,.int .i64 0,.int .i64 0,.int .i64 0] 39)):=b_alloc (Below.refl _ _)
  have b4:=b_trans hb1 b3
  have S:SW w b fb gb hl hl x F n0 p br0 sh y1.heap.size false false ho false (y1.alloc (Obj.cells #[.int .i64 0,.bool false,.bool false,.bool false,.bool ho,.bool false,.int .i64 0,.int .i64 0,.int .i64 0] 39)):=⟨ch_keep H1 b4,t3_keep b4 T1,row_keep b4 kK1,row_keep b4 kR1,heap_alloc_last _ _,fun _ h=>Or.inl h,fun q hq=>(by have:=lo0 q (Or.inr (Or.inr (Or.inr hq))); have:=hb1.size; exact ⟨by omega,by omega,by omega⟩),fun q hq=>⟨fun e=>nOw q hq (Or.inl e),fun e=>nOw q hq (Or.inr (Or.inl e)),fun e=>nOw q hq (Or.inr (Or.inr (Or.inl e)))⟩,by have:=hb1.size; omega,chs_trans B1 (chs_below b4)⟩
  have dz:=hb1.size
  clear hb1 b3 b4 H1 T1 kK1 kR1 B1
  go_upto_block 0 with fail
  generalize (y1.alloc (Obj.cells #[.int .i64 0,.bool false,.bool false,.bool false,.bool ho,.bool false,.int .i64 0,.int .i64 0,.int .i64 0] 39))=y2 at *
  generalize y1.heap.size=D at *
  go_cut [11] (fun s11 wx=>∃ h1,s11=.int .i64 M.2.1∧SW w b fb gb hl h1 x M.1 n0 p br0 sh D false (M.2.2.1 && decide (M.2.1=2)) ho M.2.2.2 wx)
  case first =>
   cases lo
   ·have ck:=cb_ck S.c.c
    go_wp2_with fail
    refine (seeks_any F.m F.s _).mono ?_
    rintro e_ y3 ⟨rfl,hb1⟩
    replace S:=sw_keep S hb1
    clear hb1 ck
    obtain ⟨sq,hsq⟩:∃ q,sks F.m=q:=⟨_,rfl⟩
    rw [hsq]
    replace hsq:=Lib.hid hsq
    cases sq
    ·go_wp2_with fail
     refine (moveOn_any hx ck0 kF l1 il ho _ S.c S.t).mono ?_
     rintro e_ y4 ⟨rfl,c1,hb1⟩
     replace S:=sw_but S hb1 c1 (fun _ q=>q)
     clear c1 hb1
     have kG:=ok_mov ck0 kF l1 ho
     cases bb
     ·go_wp2_with fail
      go_meet
      have eM:(mov x F l1 ho,2,false,false)=M:=by rw [← hM.out]; simp [mid,hsq.out]
      subst eM
      exact ⟨hl,rfl,S⟩
     ·obtain ⟨gp,rfl⟩:=hg.out rfl
      have g3:=(cell_of_row _ _ 3 _ _ _ S.k).trans rfl
      go_wp2_with fail
      refine (take_any hx ck0 kG gp sh _ S.c S.t).mono ?_
      rintro e_ y5 ⟨rfl,c1,hb1⟩
      replace S:=sw_but S hb1 c1 (fun _ q=>q)
      clear c1 hb1 g3
      obtain ⟨E,eE⟩:∃ E,(tke x (mov x F l1 ho) pp sh).2=E:=⟨_,rfl⟩
      obtain ⟨G,eG⟩:∃ G,tG x (mov x F l1 ho) pp=G:=⟨_,rfl⟩
      rw [eE,eG]
      have S1:=sw_put (o:=5) (v:=.bool G) (ac':=false) (rf':=false) (ho':=ho) (gr':=G) S ((heap_setCell_same _ D 5 _ _ _ S.d).trans rfl)
      have S2:=Lib.hid (sw_put (o:=3) (v:=.bool (E == 2)) (ac':=false) (rf':=(E == 2)) (ho':=ho) (gr':=G) S1 ((heap_setCell_same _ D 3 _ _ _ S1.d).trans rfl))
      have d5:=(cell_of_row _ _ 5 _ _ _ S.d).trans rfl
      have z5:=frozen_of_row _ D 5 _ _ S.d
      have d3:=(cell_of_row _ _ 3 _ _ _ S1.d).trans rfl
      have z3:=frozen_of_row _ D 3 _ _ S1.d
      clear S S1
      replace eE:=Lib.hid eE
      replace eG:=Lib.hid eG
      go_wp2_with fail
      go_meet
      have eM:((tke x (mov x F l1 ho) pp sh).1,(tke x (mov x F l1 ho) pp sh).2,true,tG x F pp)=M:=by rw [← hM.out]; simp [mid,hsq.out]
      subst eM
      have e1:=eE.out
      have e2:=eG.out
      subst e1
      subst e2
      exact ⟨hl,rfl,S2.out⟩
    ·cases bb
     ·go_wp2_with fail
      go_meet
      have eM:(F,2,false,false)=M:=by rw [← hM.out]; simp [mid,hsq.out]
      subst eM
      exact ⟨hl,rfl,S⟩
     ·obtain ⟨gp,rfl⟩:=hg.out rfl
      go_wp2_with fail
      refine (gather_any kF pp _ S.c S.t).mono ?_
      rintro e_ y4 ⟨rfl,h1,c1,q1,B1⟩
      replace S:=sw_step S c1 q1 B1
      clear c1 q1 B1
      obtain ⟨E,eE⟩:∃ E,(gat x F pp).2=E:=⟨_,rfl⟩
      rw [eE]
      replace eE:=Lib.hid eE
      go_wp2_with fail
      go_meet
      have eM:((gat x F pp).1,(gat x F pp).2,false,false)=M:=by rw [← hM.out]; simp [mid,hsq.out]
      subst eM
      exact ⟨h1,by rw [eE.out],S⟩
   ·go_wp2_with fail
    go_meet
    have eM:(F,3,false,false)=M:=by rw [← hM.out]; simp [mid]
    subst eM
    exact ⟨hl,rfl,S⟩
  case rest =>
   obtain ⟨h1,rfl,S⟩:=hcut
   obtain ⟨C1,E,lk,gr⟩:=M
   dsimp only at S
   clear hM hg fF
   have hv:=km.out.v
   have hs:=km.out.s
   clear km
   dsimp only at hv hs
   obtain ⟨rf,hrf⟩:∃ q,(lk && decide (E=2))=q:=⟨_,rfl⟩
   rw [hrf] at S
   replace hrf:=Lib.hid hrf
   obtain ⟨ac,hac⟩:∃ q,decide (E=0∨E=1)=q:=⟨_,rfl⟩
   replace hac:=Lib.hid hac
   go_upto_region 14 with fail
   go_cut [] (fun wx=>SW w b fb gb hl h1 x C1 n0 p br0 sh D ac rf ho gr wx)
   case first =>
    have d2:=(cell_of_row _ _ 2 _ _ _ S.d).trans rfl
    have z2:=frozen_of_row _ D 2 _ _ S.d
    have PT:=fun v=>sw_put (o:=2) (v:=.bool v) (ac':=v) (rf':=rf) (ho':=ho) (gr':=gr) S ((heap_setCell_same _ D 2 _ _ _ S.d).trans rfl)
    replace PT:=Lib.hid PT
    clear S
    by_cases c0:E=0
    ·have q0:(E == 0)=true:=by simpa using c0
     obtain rfl:true=ac:=by rw [← hac.out]; simp [c0]
     clear c0 hac
     go_wp2_with fail
     go_meet
     exact PT.out true
    ·have q0:(E == 0)=false:=by simpa using c0
     by_cases c1:E=1
     ·have q1:(E == 1)=true:=by simpa using c1
      obtain rfl:true=ac:=by rw [← hac.out]; simp [c1]
      clear c0 c1 hac
      go_wp2_with fail
      go_meet
      exact PT.out true
     ·have q1:(E == 1)=false:=by simpa using c1
      obtain rfl:false=ac:=by rw [← hac.out]; simp [c0,c1]
      clear c0 c1 hac
      go_wp2_with fail
      go_meet
      exact PT.out false
   case rest =>
    have S:=hcut
    clear hcut
    go_wp2_with fail
    refine (turnc_any hx hs E _ S.c).mono ?_
    rintro e_ y6 ⟨rfl,h3,c3,q3,hb1⟩
    replace S:=sw_but S hb1 c3 q3
    clear hb1 c3 q3
    have d9:=row9 S.d
    go_wp2_with fail
    refine (tell_any (C:=trn x C1 E) hv 0 false ac rf ho gr _ S.c).mono ?_
    rintro e_ y7 ⟨rfl,hb1⟩
    replace S:=sw_keep S hb1
    clear hb1 d9
    obtain ⟨T9,hT⟩:∃ q,tel (trn x C1 E) ac rf ho gr=q:=⟨_,rfl⟩
    rw [hT]
    replace hT:=Lib.hid hT
    have r9:=row9 S.r
    have f9:=fz9 S.r
    go_wp2
    obtain ⟨q0,q1,q2,q3,q4,q5,q6,q7,q8⟩:=r9
    have no:=sw_no S (j:=w.heap.size+1) (Nat.le_succ _) (fun i hi=>(S.n i hi).2.1)
    have CW:=chs_of_but (S:=fun j=>j=w.heap.size+1) (but_g0 (w:=y7) (b:=w.heap.size+1) (v0:=.int .i64 T9.m) (v1:=.bool T9.vd) (v2:=.bool T9.ac) (v3:=.bool T9.rf) (v4:=.bool T9.hl) (v5:=.bool T9.gr) (v6:=.int .i64 T9.al) (v7:=.int .i64 T9.sp) (v8:=.int .i64 T9.bi)) rfl
    have eT:=hT.out
    rw [← hrf.out,← hac.out] at eT
    exact bodyPost_ret (v:=tdw T9) (by simp [results,Tryz.results9,go_sem,q0,q1,q2,q3,q4,q5,q6,q7,q8]) rfl ⟨by rw [← eT]; rfl,h3,ch_chs S.c CW (fun q hq e=>no (e ▸ hq)),S.q,⟨CW.os.trans S.B.os,CW.tape.trans S.B.tape,CW.output.trans S.B.output,Nat.le_trans S.B.size CW.size,fun j hj hn=>(CW.block j (Nat.lt_of_lt_of_le hj S.B.size) (by omega)).trans (S.B.block j hj hn)⟩⟩
end Go.Proofs.YthnofhjgfhapiaaGreatDoor

import Derived.DeepKeys
import Derived.Test.YtdhnhmhgmnkajaaGreatDoorObe
import Derived.Test.YtdhnhmhgmnkajaaGreatDoorObc
import Derived.Test.YtdhnhmhgmnkajaaGreatDoorOae
import Derived.Test.YtdhnhmhgmnkajaaGreatDoorObd
import Derived.Test.YtdhnhmhgmnkajaaGreatDoorOah
import Derived.Test.YtdhnhmhgmnkajaaGreatDoorOan
import Derived.Test.YtdhnhmhgmnkajaaGreatDoorObb
import Derived.Test.YtdhnhmhgmnkajaaGreatDoorOaf
import Derived.Test.YtdhnhmhgmnkajaaGreatDoorOad
import Derived.Test.YtdhnhmhgmnkajaaGreatDoorOam
import Derived.Test.YtdhnhmhgmnkajaaGreatDoorOac
import Derived.Test.YtdhnhmhgmnkajaaGreatDoorOak
import Derived.Test.YtdhnhmhgmnkajaaGreatDoorOap
import Derived.Test.YtdhnhmhgmnkajaaGreatDoorOaj
import Derived.Test.YtdhnhmhgmnkajaaGreatDoorOaa
import Derived.Test.YtdhnhmhgmnkajaaGreatDoorOas
set_option maxHeartbeats 8000000
set_option maxRecDepth 20000
namespace Go.Proofs.YtdhnhmhgmnkajaaGreatDoor
open Go.RowKit Go.Shelf Go.Joins
noncomputable def itr (x:Nat→Int) (a p:Nat→Int) (h s:Nat→Bool):Nat→Cn
 | 0=>cn0
 | k+1=>(stp x (itr x a p h s k) (a k) (h k) (p k) (s k)).1
theorem ok_0:Okc cn0:=⟨fun _ _=>(show I64 0 by decide),fun _ _=>(show I64 0 by decide),(show I64 0 by decide),(show (0:Int)≤0 by decide),Or.inl rfl,Nat.zero_le _,fun _ h=>absurd h (Nat.not_lt_zero _),(show (0:Int)≤0 by decide)⟩
theorem ok_itr {x:Nat→Int} (hx:C64 x) (ck:cks x=0) (a p:Nat→Int) (h s:Nat→Bool):∀ k,Okc (itr x a p h s k)
 | 0=>ok_0
 | k+1=>ok_stp hx ck (ok_itr hx ck a p h s k) _ _ _ _
theorem stp_r (x:Nat→Int) (C:Cn) (a:Int) (h:Bool) (p:Int) (s:Bool):(stp x C a h p s).1.r=ar x C.r a:=by
 show (trn x (mid x (fed x C a) (ap x C.l a) (ah x a) (aq x C.r a) (br h p) p s).1 _).r=_
 show (mid x (fed x C a) (ap x C.l a) (ah x a) (aq x C.r a) (br h p) p s).1.r=_
 unfold mid gat tke
 repeat' split
 all_goals rfl
theorem itr_r (x:Nat→Int) (a p:Nat→Int) (h s:Nat→Bool):∀ k:Nat,(itr x a p h s k).r≤k
 | 0=>(show (0:Int)≤0 by decide)
 | k+1=>by
  have i:=itr_r x a p h s k
  show (stp x (itr x a p h s k) (a k) (h k) (p k) (s k)).1.r≤_
  rw [stp_r]
  unfold ar
  split <;> omega
theorem lit64 {n:Int} (h:I64 n):(Lit.int .i64 n).wf=true:=by
 have h1:=h.1
 have h2:=h.2
 simp [Lit.wf]
 exact ⟨h1,h2⟩
theorem kl_td {m:Int} {vd ac rf ho gr:Bool} {al sp bi:Int} (hm:I64 m) (ha:I64 al) (hs:I64 sp) (hb:I64 bi):∃ la,Tryz.prog.keyLits 5 38 (tdv m vd ac rf ho gr al sp bi).cells.toList=some la:=by
 have h1:Tryz.prog.cellsOf 2=1:=by kernel_rfl
 have h2:Tryz.prog.cellsOf 3=1:=by kernel_rfl
 have h3:Tryz.prog.cellsOf 4=1:=by kernel_rfl
 have h9:Tryz.prog.cellsOf 38=9:=by kernel_rfl
 have K:=fun (n:Int) (h:I64 n)=>(show Tryz.prog.keyLits 4 2 [.int .i64 n]=some [.int .i64 n] by simp only [Program.keyLits,Tryz.underlying2]; rw [if_pos ⟨trivial,lit64 h⟩])
 have I:=fun (n:Int) (h:I64 n)=>(show Tryz.prog.keyLits 4 3 [.int .i64 n]=some [.int .i64 n] by simp only [Program.keyLits,Tryz.underlying3]; rw [if_pos ⟨trivial,lit64 h⟩])
 have L:=fun (q:Bool)=>(show Tryz.prog.keyLits 4 4 [.bool q]=some [.bool q] by simp only [Program.keyLits,Tryz.underlying4])
 refine ⟨[.int .i64 m,.bool vd,.bool ac,.bool rf,.bool ho,.bool gr,.int .i64 al,.int .i64 sp,.int .i64 bi],?_⟩
 unfold Program.keyLits
 rw [Tryz.underlying38]
 simp only
 rw [if_pos ⟨by rw [h9]; rfl,by kernel_rfl⟩]
 simp [Value.cells,h1,h2,h3,K al ha,K sp hs,K bi hb,I m hm,L]
theorem td_eq_self {m:Int} {vd ac rf ho gr:Bool} {al sp bi:Int} (hm:I64 m) (ha:I64 al) (hs:I64 sp) (hb:I64 bi) (w:World):(Op.equalIn 10000 38 (tdv m vd ac rf ho gr al sp bi) (tdv m vd ac rf ho gr al sp bi)).run Tryz.prog w=.ok true w:=by
 have hk:Tryz.prog.keyTypeAt 5 38=true:=by kernel_rfl
 have hf:(tdv m vd ac rf ho gr al sp bi).formed Tryz.prog 38=true:=by kernel_rfl
 obtain ⟨la,hla⟩:=kl_td (vd:=vd) (ac:=ac) (rf:=rf) (ho:=ho) (gr:=gr) hm ha hs hb
 obtain ⟨r,hr,hiff⟩:=run_equalIn_deep (P:=Tryz.prog) 9995 5 38 hk w 5 5 _ _ la la hf hf hla hla
 rw [hiff.2 rfl] at hr
 exact hr
theorem nxt_seek {m s e co ou:Int} (h:sks m=true) (he:e=2):nxt (m,s) e co ou=(m,s):=by
 subst he
 have v:vld m=false:=by
  unfold sks at h
  unfold vld
  simp at h
  rcases h with rfl | rfl <;> rfl
 unfold nxt
 simp [v,h]
theorem nxt_in {m s co ou:Int} (h:sks m=true):nxt (m,s) 0 co ou=(1,0):=by
 unfold nxt
 simp [h]
theorem stp_gather {x:Nat→Int} {C:Cn} {a p:Int} (s:Bool) (hs:sks C.m=true) (ha:the x a=0) (gp:gd p=true) (n:C.n<15) :
  stp x C a true p s=({ C with l:=thv x a,r:=0,n:=C.n+1,z:=more C.z C.n p },⟨C.m,vld C.m,false,false,false,false,(tel C false false false false).al,(tel C false false false false).sp,(tel C false false false false).bi⟩):=by
 obtain ⟨e0,e1,e2,e3⟩:=a_ok ha C.l C.r
 have em:mid x (fed x C a) (thv x a) false false true p s=({ C with l:=thv x a,r:=0,n:=C.n+1,z:=more C.z C.n p },2,false,false):=by
  unfold mid
  rw [if_neg (by decide),if_pos (show sks (fed x C a).m=true from hs),if_pos rfl]
  unfold gat fed
  dsimp only
  rw [if_pos (by omega),e0,e2]
 have eb:br true p=true:=by simp [br,gp]
 unfold stp
 rw [e0,e1,e3,eb,em]
 unfold fin trn clk2
 dsimp only
 rw [nxt_seek hs rfl,if_neg (by rw [hs]; simp)]
 rfl
theorem stp_enter {x:Nat→Int} {C:Cn} {a p:Int} (s:Bool) (hs:sks C.m=true) (ha:the x a=0) (gp:gd p=true) (n:C.n=15) :
  stp x C a true p s=({ C with l:=thv x a,r:=0,n:=0,z:=more C.z C.n p,m:=1,s:=0,v:=tri (az (mv (more C.z C.n p) (C.n+1))) 0 0,u:=dgm (x 8) (x 9) (x 10),g:=sc C.g (mv (more C.z C.n p) (C.n+1)) },
   ⟨1,true,true,false,false,false,evn (az (mv (more C.z C.n p) (C.n+1))) 16777216,0,0⟩):=by
 obtain ⟨e0,e1,e2,e3⟩:=a_ok ha C.l C.r
 have em:mid x (fed x C a) (thv x a) false false true p s=(ent x (fed x C a) p,0,false,false):=by
  unfold mid
  rw [if_neg (by decide),if_pos (show sks (fed x C a).m=true from hs),if_pos rfl]
  unfold gat
  rw [if_neg (show ¬ (fed x C a).n+1<16 by show ¬ C.n+1<16; omega)]
 have eb:br true p=true:=by simp [br,gp]
 have ez:evn 0 16777216=0:=by decide
 unfold stp
 rw [e0,e1,e3,eb,em]
 unfold fin trn clk2
 dsimp only
 rw [show nxt ((ent x (fed x C a) p).m,(ent x (fed x C a) p).s) 0 (x 28) (x 29)=(1,0) from nxt_in hs,if_pos (Or.inl rfl)]
 simp [tel,vld,ent,fed,e0,e2,tri,ez]
theorem sm_const {z:Nat→Int} {p:Int}:∀ {n:Nat},(∀ k,k<n→z k=p)→sm z n=p*n
 | 0,_=>by simp [sm]
 | n+1,h=>by
  rw [sm,sm_const (fun k hk=>h k (by omega)),h n (by omega),Int.natCast_succ,Int.mul_add,Int.mul_one]
theorem mv_const {z:Nat→Int} {p:Int} {n:Nat} (hn:0<n) (gp:gd p=true) (h:∀ k,k<n→z k=p):mv z n=p:=by
 rw [(m_ok hn (ag_of (fun k hk=>by rw [h k hk]; exact gp))).1,sm_const h]
 exact Int.mul_ediv_cancel _ (by omega)
structure Sk (C:Cn) (n:Nat) (z:Nat→Int):Prop where
 m:C.m=0
 s:C.s=0
 g:C.g=0
 c:C.n=n
 z:∀ k,k<n→C.z k=z k
theorem sk_0 (z:Nat→Int):Sk cn0 0 z:=⟨rfl,rfl,rfl,rfl,fun _ h=>absurd h (Nat.not_lt_zero _)⟩
theorem sk_m {C:Cn} {n:Nat} {z:Nat→Int} (k:Sk C n z):sks C.m=true:=by rw [k.m]; rfl
def td0:Td:=⟨0,false,false,false,false,false,0,0,0⟩
theorem sk_td {C:Cn} {n:Nat} {z:Nat→Int} (k:Sk C n z):(⟨C.m,vld C.m,false,false,false,false,(tel C false false false false).al,(tel C false false false false).sp,(tel C false false false false).bi⟩:Td)=td0:=by
 simp [tel,k.m,vld,td0]
theorem sk_gather {x:Nat→Int} {C:Cn} {n:Nat} {z:Nat→Int} (k:Sk C n z) (hn:n<15) {a:Int} (s:Bool) (ha:the x a=0) (gp:gd (z n)=true):Sk (stp x C a true (z n) s).1 (n+1) z∧(stp x C a true (z n) s).2=td0:=by
 rw [stp_gather s (sk_m k) ha gp (by rw [k.c]; exact hn)]
 refine ⟨⟨k.m,k.s,k.g,by show C.n+1=_; rw [k.c],fun j hj=>?_⟩,sk_td k⟩
 show more C.z C.n (z n) j=z j
 rw [k.c]
 by_cases e:j<n
 ·rw [more_old e]; exact k.z j e
 ·rw [show j=n by omega,more_new]
structure En (x:Nat→Int) (C:Cn) (M:Int):Prop where
 m:C.m=1
 s:C.s=0
 n:C.n=0
 g:C.g=sc 0 M
 v:C.v=tri (az M) 0 0
 u:C.u=dgm (x 8) (x 9) (x 10)
 l:C.r=0
theorem sk_enter {x:Nat→Int} {C:Cn} {z:Nat→Int} (k:Sk C 15 z) {a:Int} (s:Bool) (ha:the x a=0) (gp:gd (z 15)=true) :
  En x (stp x C a true (z 15) s).1 (mv z 16)∧(stp x C a true (z 15) s).2=⟨1,true,true,false,false,false,evn (az (mv z 16)) 16777216,0,0⟩:=by
 have e:mv (more C.z C.n (z 15)) (C.n+1)=mv z 16:=by
  rw [k.c]
  refine (m_same (fun j hj=>?_)).1
  by_cases e:j<15
  ·rw [more_old e]; exact k.z j e
  ·rw [show j=15 by omega,more_new]
 rw [stp_enter s (sk_m k) ha gp k.c,e,k.g]
 exact ⟨⟨rfl,rfl,rfl,rfl,rfl,rfl,rfl⟩,rfl⟩
structure LC (W:World) (b fb gb:Nat) (hl:Value) (x:Nat→Int) (C:Cn) (U:World):Prop where
 c:CH U b fb gb hl x C
 o:∀ q,Ow b fb gb hl q→W.heap.size≤q
 b:Below W.heap.size W U
 t:Tb3 U
theorem lc_keep {W U U':World} {b fb gb:Nat} {hl:Value} {x:Nat→Int} {C:Cn} (h:LC W b fb gb hl x C U) (k:Below U.heap.size U U'):LC W b fb gb hl x C U' :=
 ⟨ch_keep h.c k,h.o,b_trans h.b k,t3_keep k h.t⟩
theorem lc_step {W U U':World} {b fb gb:Nat} {hl h1:Value} {x:Nat→Int} {C C':Cn} (h:LC W b fb gb hl x C U) (c:CH U' b fb gb h1 x C') (q:∀ k,h1.ownBlock=some k→hl.ownBlock=some k∨U.heap.size≤k) (k:Chs (Ow b fb gb hl) U U'):LC W b fb gb h1 x C' U':=by
 refine ⟨c,fun j hj=>?_,below_chs h.b k (fun j hj=>h.o j hj),t3_chs k (fun j hj=>h.c.up j hj) h.t⟩
 rcases hj with rfl | rfl | rfl | hj
 ·exact h.o _ (Or.inl rfl)
 ·exact h.o _ (Or.inr (Or.inl rfl))
 ·exact h.o _ (Or.inr (Or.inr (Or.inl rfl)))
 ·rcases q j hj with e | e
  ·exact h.o j (Or.inr (Or.inr (Or.inr e)))
  ·exact Nat.le_trans h.b.size e
theorem lc_new {W U U':World} {b fb gb:Nat} {x:Nat→Int} (E:Below W.heap.size W U) (T:Tb3 U) (c:CH U' b fb gb (.slice none 0 0) x cn0) (h0:U.heap.size≤b) (h1:U.heap.size≤fb) (h2:U.heap.size≤gb) (k:Below U.heap.size U U'):LC W b fb gb (.slice none 0 0) x cn0 U':=by
 refine ⟨c,fun j hj=>?_,b_trans E k,t3_keep k T⟩
 have s:=E.size
 rcases hj with rfl | rfl | rfl | hj
 ·omega
 ·omega
 ·omega
 ·cases hj
theorem lc_but {W U U':World} {b fb gb D:Nat} {hl:Value} {x:Nat→Int} {C:Cn} (h:LC W b fb gb hl x C U) (k:But D U U') (hD:W.heap.size≤D) (hu:Up D) (nD:¬ Ow b fb gb hl D):LC W b fb gb hl x C U' :=
 ⟨ch_chs (S:=fun q=>q=D) h.c (chs_of_but k rfl) (fun _ hq e=>nD (e ▸ hq)),h.o,below_but h.b hD k,t3_but k hu h.t⟩
end Go.Proofs.YtdhnhmhgmnkajaaGreatDoor
namespace Go.Proofs.YtdhnhmhgmnkajaaGreatDoor
open Go.RowKit Go.Shelf Go.Joins
abbrev TDR (w:World) (b:Nat) (t:Td):Prop:=w.heap[b]?=some (.cells #[.int .i64 t.m,.bool t.vd,.bool t.ac,.bool t.rf,.bool t.hl,.bool t.gr,.int .i64 t.al,.int .i64 t.sp,.int .i64 t.bi] 38 (0,0))
theorem tdr_put {w:World} {b:Nat} {t t':Td} (h:TDR w b t):TDR (((((((((w.setCell ⟨b,0,none⟩ (.int .i64 t'.m)).setCell ⟨b,1,none⟩ (.bool t'.vd)).setCell ⟨b,2,none⟩ (.bool t'.ac)).setCell ⟨b,3,none⟩ (.bool t'.rf)).setCell ⟨b,4,none⟩ (.bool t'.hl)).setCell ⟨b,5,none⟩ (.bool t'.gr)).setCell ⟨b,6,none⟩ (.int .i64 t'.al)).setCell ⟨b,7,none⟩ (.int .i64 t'.sp)).setCell ⟨b,8,none⟩ (.int .i64 t'.bi)) b t':=by
 replace h:(w.setCell ⟨b,0,none⟩ (.int .i64 t'.m)).heap[b]?=some (.cells #[.int .i64 t'.m,.bool t.vd,.bool t.ac,.bool t.rf,.bool t.hl,.bool t.gr,.int .i64 t.al,.int .i64 t.sp,.int .i64 t.bi] 38 (0,0)):=(heap_setCell_same _ b 0 _ _ _ h).trans rfl
 replace h:((w.setCell ⟨b,0,none⟩ (.int .i64 t'.m)).setCell ⟨b,1,none⟩ (.bool t'.vd)).heap[b]?=some (.cells #[.int .i64 t'.m,.bool t'.vd,.bool t.ac,.bool t.rf,.bool t.hl,.bool t.gr,.int .i64 t.al,.int .i64 t.sp,.int .i64 t.bi] 38 (0,0)):=(heap_setCell_same _ b 1 _ _ _ h).trans rfl
 replace h:(((w.setCell ⟨b,0,none⟩ (.int .i64 t'.m)).setCell ⟨b,1,none⟩ (.bool t'.vd)).setCell ⟨b,2,none⟩ (.bool t'.ac)).heap[b]?=some (.cells #[.int .i64 t'.m,.bool t'.vd,.bool t'.ac,.bool t.rf,.bool t.hl,.bool t.gr,.int .i64 t.al,.int .i64 t.sp,.int .i64 t.bi] 38 (0,0)):=(heap_setCell_same _ b 2 _ _ _ h).trans rfl
 replace h:((((w.setCell ⟨b,0,none⟩ (.int .i64 t'.m)).setCell ⟨b,1,none⟩ (.bool t'.vd)).setCell ⟨b,2,none⟩ (.bool t'.ac)).setCell ⟨b,3,none⟩ (.bool t'.rf)).heap[b]?=some (.cells #[.int .i64 t'.m,.bool t'.vd,.bool t'.ac,.bool t'.rf,.bool t.hl,.bool t.gr,.int .i64 t.al,.int .i64 t.sp,.int .i64 t.bi] 38 (0,0)):=(heap_setCell_same _ b 3 _ _ _ h).trans rfl
 replace h:(((((w.setCell ⟨b,0,none⟩ (.int .i64 t'.m)).setCell ⟨b,1,none⟩ (.bool t'.vd)).setCell ⟨b,2,none⟩ (.bool t'.ac)).setCell ⟨b,3,none⟩ (.bool t'.rf)).setCell ⟨b,4,none⟩ (.bool t'.hl)).heap[b]?=some (.cells #[.int .i64 t'.m,.bool t'.vd,.bool t'.ac,.bool t'.rf,.bool t'.hl,.bool t.gr,.int .i64 t.al,.int .i64 t.sp,.int .i64 t.bi] 38 (0,0)):=(heap_setCell_same _ b 4 _ _ _ h).trans rfl
 replace h:((((((w.setCell ⟨b,0,none⟩ (.int .i64 t'.m)).setCell ⟨b,1,none⟩ (.bool t'.vd)).setCell ⟨b,2,none⟩ (.bool t'.ac)).setCell ⟨b,3,none⟩ (.bool t'.rf)).setCell ⟨b,4,none⟩ (.bool t'.hl)).setCell ⟨b,5,none⟩ (.bool t'.gr)).heap[b]?=some (.cells #[.int .i64 t'.m,.bool t'.vd,.bool t'.ac,.bool t'.rf,.bool t'.hl,.bool t'.gr,.int .i64 t.al,.int .i64 t.sp,.int .i64 t.bi] 38 (0,0)):=(heap_setCell_same _ b 5 _ _ _ h).trans rfl
 replace h:(((((((w.setCell ⟨b,0,none⟩ (.int .i64 t'.m)).setCell ⟨b,1,none⟩ (.bool t'.vd)).setCell ⟨b,2,none⟩ (.bool t'.ac)).setCell ⟨b,3,none⟩ (.bool t'.rf)).setCell ⟨b,4,none⟩ (.bool t'.hl)).setCell ⟨b,5,none⟩ (.bool t'.gr)).setCell ⟨b,6,none⟩ (.int .i64 t'.al)).heap[b]?=some (.cells #[.int .i64 t'.m,.bool t'.vd,.bool t'.ac,.bool t'.rf,.bool t'.hl,.bool t'.gr,.int .i64 t'.al,.int .i64 t.sp,.int .i64 t.bi] 38 (0,0)):=(heap_setCell_same _ b 6 _ _ _ h).trans rfl
 replace h:((((((((w.setCell ⟨b,0,none⟩ (.int .i64 t'.m)).setCell ⟨b,1,none⟩ (.bool t'.vd)).setCell ⟨b,2,none⟩ (.bool t'.ac)).setCell ⟨b,3,none⟩ (.bool t'.rf)).setCell ⟨b,4,none⟩ (.bool t'.hl)).setCell ⟨b,5,none⟩ (.bool t'.gr)).setCell ⟨b,6,none⟩ (.int .i64 t'.al)).setCell ⟨b,7,none⟩ (.int .i64 t'.sp)).heap[b]?=some (.cells #[.int .i64 t'.m,.bool t'.vd,.bool t'.ac,.bool t'.rf,.bool t'.hl,.bool t'.gr,.int .i64 t'.al,.int .i64 t'.sp,.int .i64 t.bi] 38 (0,0)):=(heap_setCell_same _ b 7 _ _ _ h).trans rfl
 replace h:(((((((((w.setCell ⟨b,0,none⟩ (.int .i64 t'.m)).setCell ⟨b,1,none⟩ (.bool t'.vd)).setCell ⟨b,2,none⟩ (.bool t'.ac)).setCell ⟨b,3,none⟩ (.bool t'.rf)).setCell ⟨b,4,none⟩ (.bool t'.hl)).setCell ⟨b,5,none⟩ (.bool t'.gr)).setCell ⟨b,6,none⟩ (.int .i64 t'.al)).setCell ⟨b,7,none⟩ (.int .i64 t'.sp)).setCell ⟨b,8,none⟩ (.int .i64 t'.bi)).heap[b]?=some (.cells #[.int .i64 t'.m,.bool t'.vd,.bool t'.ac,.bool t'.rf,.bool t'.hl,.bool t'.gr,.int .i64 t'.al,.int .i64 t'.sp,.int .i64 t'.bi] 38 (0,0)):=(heap_setCell_same _ b 8 _ _ _ h).trans rfl
 exact h
theorem but_td {w:World} {g:Nat} {t:Td}:But g w (((((((((w.setCell ⟨g,0,none⟩ (.int .i64 t.m)).setCell ⟨g,1,none⟩ (.bool t.vd)).setCell ⟨g,2,none⟩ (.bool t.ac)).setCell ⟨g,3,none⟩ (.bool t.rf)).setCell ⟨g,4,none⟩ (.bool t.hl)).setCell ⟨g,5,none⟩ (.bool t.gr)).setCell ⟨g,6,none⟩ (.int .i64 t.al)).setCell ⟨g,7,none⟩ (.int .i64 t.sp)).setCell ⟨g,8,none⟩ (.int .i64 t.bi)):=but_g0
noncomputable def fix (k:Nat):Cn:=itr dflt (fun _=>2048) (fun _=>405300) (fun _=>true) (fun _=>false) k
theorem fix_sk:∀ k,k≤15→Sk (fix k) k (fun _=>405300)
 | 0,_=>sk_0 _
 | k+1,h=>(sk_gather (fix_sk k (by omega)) (by omega) false (show the dflt 2048=0 by decide +kernel) (show gd 405300=true by decide)).1
def fte:Td:=⟨1,true,true,false,false,false,0,0,0⟩
theorem fix_end:(stp dflt (fix 15) 2048 true 405300 false).2=fte:=by
 have h:=(sk_enter (fix_sk 15 (Nat.le_refl _)) (x:=dflt) (a:=2048) false (by decide +kernel) (by decide)).2
 have e:mv (fun _=>405300) 16=405300:=mv_const (by decide) (by decide) (fun _ _=>rfl)
 rw [e] at h
 have z:evn (az 405300) 16777216=0:=by decide +kernel
 rw [z] at h
 exact h
theorem fixed_cha (w:World) (T:Tb3 w):Calls Tryz.prog 7 #[] w (RetV (.bool true) w):=by
 go_enter Tryz.func7,Tryz.ntmps7
 go_wp2_with fail
 refine (default_any _).mono ?_
 rintro e_ y1 ⟨rfl,hb1⟩
 have E:=hb1
 replace T:=t3_keep hb1 T
 clear hb1
 go_wp2_with fail
 refine (chnew_ok dflt dflt64 default_kept _ T).mono ?_
 rintro e_ y2 ⟨b,fb,gb,rfl,c0,h0,h1,h2,hb2⟩
 have S:=lc_new E T c0 h0 h1 h2 hb2
 clear E T c0 h0 h1 h2 hb2
 have lo:∀ q,Ow b fb gb (.slice none 0 0) q→q<y2.heap.size:=fun q hq=>ch_own S.c q hq
 have b3:Below y2.heap.size y2 (y2.alloc (Obj.cells #[.int .i64 0,.bool false,.bool false,.bool false,.bool false,.bool false,.int .i64 0,.int .i64 0,.int .i64 0] 38)):=b_alloc (Below.refl _ _)
 have d0:TDR (y2.alloc (Obj.cells #[.int .i64 0,.bool false,.bool false,.bool false,.bool false,.bool false,.int .i64 0,.int .i64 0,.int .i64 0] 38)) y2.heap.size td0:=heap_alloc_last _ _
 replace S:=lc_keep S b3
 have dW:w.heap.size≤y2.heap.size:=by have:=lo b (Or.inl rfl); have:=S.o b (Or.inl rfl); omega
 have n0:b≠y2.heap.size:=Nat.ne_of_lt (lo _ (Or.inl rfl))
 have n1:fb≠y2.heap.size:=Nat.ne_of_lt (lo _ (Or.inr (Or.inl rfl)))
 have n2:gb≠y2.heap.size:=Nat.ne_of_lt (lo _ (Or.inr (Or.inr (Or.inl rfl))))
 have uD:Up y2.heap.size:=up_le (S.c.up b (Or.inl rfl)) (Nat.le_of_lt (lo b (Or.inl rfl)))
 clear lo b3
 replace S:=Lib.hid S
 go_wp2
 generalize y2.heap.size=D at *
 go_loopw [15] (fun iv wr=>∃ (k:Nat) (h1:Value) (q:Td),k≤16∧iv=.int .i64 k∧Hid (LC w b fb gb h1 dflt (fix k) wr)∧TDR wr D q∧Hid (k=16→q=fte)∧Hid (∀ i,h1.ownBlock=some i→i≠D)) (fun iv _=>16 - (intOf iv).toNat)
 case atStart=>exact ⟨0,_,td0,by decide,rfl,S,d0,Lib.hid (fun h=>by cases h),Lib.hid (fun i hi=>by cases hi)⟩
 case round =>
  clear S d0
  obtain ⟨k,h1,q,hk,rfl,S,dq,hq,nd⟩:=hrel
  by_cases hlt:k<16
  ·have hlk:(k:Int)<16:=by omega
   have hk0:(0:Int)≤k:=by omega
   have ws:IntKind.i64.wrap ((k:Int)+1)=(k:Int)+1:=by rw [IntKind.wrap_i64]; omega
   have ro:=itr_r dflt (fun _=>2048) (fun _=>405300) (fun _=>true) (fun _=>false) k
   have ok:=ok_itr dflt64 default_kept (fun _=>2048) (fun _=>405300) (fun _=>true) (fun _=>false) k
   have cs:=step_any (b:=b) (fb:=fb) (gb:=gb) (hl:=h1) dflt64 default_kept (C:=fix k) ok (by have:(fix k).r≤k:=ro; omega) 2048 true 405300 false wr S.out.c S.out.t
   replace hlt:=Lib.hid hlt
   clear ro ok
   go_wp2_with fail
   refine cs.mono ?_
   rintro e_ y3 ⟨rfl,h2,c2,q2,k2⟩
   clear cs
   have S2:=Lib.hid (lc_step S.out c2 q2 k2)
   have lD:=(Array.getElem?_eq_some_iff.1 dq).1
   have nD1:¬ Ow b fb gb h1 D:=fun c=>by
     rcases c with c | c | c | c
     ·exact n0 c.symm
     ·exact n1 c.symm
     ·exact n2 c.symm
     ·exact nd.out D c rfl
   have nd2:=Lib.hid (fun i (hi:h2.ownBlock=some i)=>(q2 i hi).elim (nd.out i) (fun e=>(by omega:i≠D)))
   replace dq:=chs_row k2 nD1 dq
   clear c2 q2 k2 S nD1 nd lD
   obtain ⟨R,hR⟩:∃ R,stp dflt (fix k) 2048 true 405300 false=R:=⟨_,rfl⟩
   have eq:Hid (k+1=16→R.2=fte):=Lib.hid (fun e=>by rw [← hR,show k=15 by omega]; exact fix_end)
   have eR:Hid (fix (k+1)=R.1):=Lib.hid (by rw [← hR]; rfl)
   rw [hR] at S2 ⊢
   clear hR
   obtain ⟨R1,R2⟩:=R
   dsimp only at S2 eq eR ⊢
   have nD2:¬ Ow b fb gb h2 D:=fun c=>by
     rcases c with c | c | c | c
     ·exact n0 c.symm
     ·exact n1 c.symm
     ·exact n2 c.symm
     ·exact nd2.out D c rfl
   have SF:=Lib.hid (lc_but S2.out (but_td (w:=y3) (g:=D) (t:=R2)) dW uD nD2)
   have dF:=Lib.hid (tdr_put (t':=R2) dq)
   have r9:=row9 dq
   have f9:=fz9 dq
   clear S2 dq nD2
   go_wp2
   refine ⟨⟨k+1,h2,R2,by omega,by go_num,by rw [eR.out]; exact SF,dF.out,eq,nd2⟩,?_⟩
   simp only [intOf]
   have:=hlt.out
   omega
  ·obtain rfl:k=16:=by omega
   obtain rfl:=hq.out rfl
   have r9:=row9 dq
   have te:=td_eq_self (m:=1) (vd:=true) (ac:=true) (rf:=false) (ho:=false) (gr:=false) (al:=0) (sp:=0) (bi:=0) (by decide) (by decide) (by decide) (by decide)
   unfold fte at r9
   clear dq hq nd hlt
   go_wp2
   go_ret
   exact ⟨rfl,S.out.b⟩
end Go.Proofs.YtdhnhmhgmnkajaaGreatDoor

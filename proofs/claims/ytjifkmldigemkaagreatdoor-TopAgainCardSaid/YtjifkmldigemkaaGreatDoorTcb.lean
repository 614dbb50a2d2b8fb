import Derived.DeepKeys
import Derived.Lib.SmallJoins
import Derived.Deep.WholeRow
import Derived.StillTactics
import Derived.Laws.Pointers
import Derived.Deep.RegionHeld3
import Derived.Deep.QuietTactic
import Derived.BigQuiet
import Derived.RowKit3
import Derived.Lib.Hide
import Derived.Lib.QuietBelow
import Derived.Laws.Bits64b
import Derived.Test.YtjifkmldigemkaaGreatDoorProg
import Derived.Shelf.Spec.BitsCarry
import Derived.Shelf.Bits.Mul64
import Derived.WalkKit
import Derived.WalkSpells
import Derived.Test.YtjifkmldigemkaaGreatDoorTbi
import Derived.Test.YtjifkmldigemkaaGreatDoorTca
import Derived.Test.YtjifkmldigemkaaGreatDoorTbh
import Derived.Test.YtjifkmldigemkaaGreatDoorTag
import Derived.Test.YtjifkmldigemkaaGreatDoorTab
import Derived.Test.YtjifkmldigemkaaGreatDoorTaa
import Derived.Test.YtjifkmldigemkaaGreatDoorTbx
import Derived.Test.YtjifkmldigemkaaGreatDoorTaq
import Derived.OwnWalkIn
import Derived.Deep.DeepCutAuto
import Derived.Test.YtjifkmldigemkaaGreatDoorTax
import Derived.Test.YtjifkmldigemkaaGreatDoorTak
import Derived.Test.YtjifkmldigemkaaGreatDoorTam
import Derived.Test.YtjifkmldigemkaaGreatDoorTbz
import Derived.Test.YtjifkmldigemkaaGreatDoorTcc
import Derived.Test.YtjifkmldigemkaaGreatDoorTad
import Derived.Test.YtjifkmldigemkaaGreatDoorTaj
import Derived.Test.YtjifkmldigemkaaGreatDoorTbg
import Derived.Test.YtjifkmldigemkaaGreatDoorTbe
import Derived.Test.YtjifkmldigemkaaGreatDoorTbd
import Derived.Test.YtjifkmldigemkaaGreatDoorTan
import Derived.Test.YtjifkmldigemkaaGreatDoorTaf
import Derived.Test.YtjifkmldigemkaaGreatDoorTah
namespace Go.Proofs.YtjifkmldigemkaaGreatDoor
open Go.RowKit Go.Shelf Go.Joins
theorem vld_of {m:Int} (h:0≤m∧m≤3) (s:¬ sks m=true):vld m=true:=by
 unfold sks at s
 unfold vld
 simp at s ⊢
 omega
theorem vld_no {m:Int} (s:sks m=true):vld m=false:=by
 unfold sks at s
 unfold vld
 simp at s ⊢
 omega
theorem nxt_lost {m s co ou:Int} (h:0≤m∧m≤3):nxt (m,s) 3 co ou=(3,0):=by
 unfold nxt
 by_cases k:sks m=true
 ·simp [k,vld_no k]
 ·simp [vld_of h k]
end Go.Proofs.YtjifkmldigemkaaGreatDoor
namespace Go.Proofs.YtjifkmldigemkaaGreatDoor
open Go.RowKit Go.Shelf Go.Joins
theorem thq_rest {x:Nat→Int} (h:cks x=0):thv x (x 25)=0∧the x (x 25)=0:=by
 have k:=kept_of h
 obtain ⟨e1,e2⟩:=th_ok h (inb_iff.2 ⟨k.r1,k.r2⟩)
 exact ⟨by rw [e1,Int.sub_self,Int.zero_mul],e2⟩
end Go.Proofs.YtjifkmldigemkaaGreatDoor
namespace Go.Proofs.YtjifkmldigemkaaGreatDoor
open Go.RowKit Go.Shelf Go.Joins
def U8s (w:World) (sg:Option Addr) (len:Nat) (e:Nat→Int):Prop:=∀ k,k<len→∃ g off,sg=some ⟨g,off,none⟩∧w.cell? ⟨g,off+k,none⟩=some (.int .u8 (e k))∧0≤e k∧e k≤255
theorem u8s_keep {w w':World} {sg:Option Addr} {len:Nat} {e:Nat→Int} (hb:Below w.heap.size w w') (h:U8s w sg len e):U8s w' sg len e:=fun k hk=>by
 obtain ⟨g,off,q,c,r⟩:=h k hk
 exact ⟨g,off,q,cell_keep hb c,r⟩
theorem u8s_of {w:World} {sa:Option Addr} {len:Nat} {zs:List Int} (hz:∀ n ∈ zs,0≤n∧n≤255) (hl:len≤zs.length) (h:∀ k,k<len→∃ gb off,sa=some ⟨gb,off,none⟩∧w.cell? ⟨gb,off+k,none⟩=some (.int .u8 (zs.getD k 0))):U8s w sa len (fun k=>zs.getD k 0):=fun k hk=>by
 obtain ⟨g,off,e,c⟩:=h k hk
 have q:zs.getD k 0=zs[k]:=by simp [List.getD,List.getElem?_eq_getElem (show k<zs.length by omega)]
 have r:=hz _ (List.getElem_mem (show k<zs.length by omega))
 exact ⟨g,off,e,c,by show 0≤zs.getD k 0; rw [q]; exact r.1,by show zs.getD k 0≤255; rw [q]; exact r.2⟩
theorem zc_in (c:Nat→Int) (j:Nat):90528≤zc c j∧zc c j≤430515:=by
 unfold zc
 have h1:=Int.tmod_lt_of_pos (c j) (show (0:Int)<339988 by decide)
 have h2:-339988<(c j).tmod 339988:=by
  have h:=Int.tmod_lt_of_pos (-(c j)) (show (0:Int)<339988 by decide)
  rw [Int.neg_tmod] at h
  omega
 have h3:=Int.tmod_nonneg 339988 (show 0≤(c j).tmod 339988+339988 by omega)
 have h4:=Int.tmod_lt_of_pos ((c j).tmod 339988+339988) (show (0:Int)<339988 by decide)
 constructor <;> omega
theorem zc_gd (c:Nat→Int) (j:Nat):gd (zc c j)=true:=by
 obtain ⟨a,b⟩:=zc_in c j
 unfold gd
 exact inb_iff.2 ⟨a,b⟩
def IA (w:World) (B i:Nat) (z c:Nat→Int):Prop:=∃ cur,w.heap[B]?=some (.cells cur 61 (0,0))∧(∀ j,j<i→cur[j]?=some (.int .i64 (z j)))∧∀ j,i≤j→j<16→cur[j]?=some (.int .i64 (c j))
theorem ia_chs {S:Nat→Prop} {w w':World} {B i:Nat} {z c:Nat→Int} (h:Chs S w w') (n:¬ S B):IA w B i z c→IA w' B i z c
 | ⟨cur,e,q⟩=>⟨cur,chs_row h n e,q⟩
theorem scv_keep {w w':World} {a b:Addr} {x y:Value} (h:w.cell? a=some x∧w.cell? b=some y) (k:Below w.heap.size w w'):w'.cell? a=some x∧w'.cell? b=some y:=⟨cell_keep k h.1,cell_keep k h.2⟩
theorem scv_chs {S:Nat→Prop} {w w':World} {a b o p:Nat} {x y:Value} (k:Chs S w w') (na:¬ S a) (nb:¬ S b) (h:w.cell? ⟨a,o,none⟩=some x∧w.cell? ⟨b,p,none⟩=some y):w'.cell? ⟨a,o,none⟩=some x∧w'.cell? ⟨b,p,none⟩=some y :=
 ⟨(World.cell?_of_block (a:=⟨a,o,none⟩) (k.block a (World.block_lt_of_cell? w _ h.1) na)).trans h.1,(World.cell?_of_block (a:=⟨b,p,none⟩) (k.block b (World.block_lt_of_cell? w _ h.2) nb)).trans h.2⟩
theorem scv_s9 {w:World} {a b o p g:Nat} {x y c0 c1 c2 c3 c4 c5 c6 c7 c8:Value} (na:a≠g) (nb:b≠g) (h:w.cell? ⟨a,o,none⟩=some x∧w.cell? ⟨b,p,none⟩=some y):(((((((((w.setCell ⟨g,0,none⟩ c0).setCell ⟨g,1,none⟩ c1).setCell ⟨g,2,none⟩ c2).setCell ⟨g,3,none⟩ c3).setCell ⟨g,4,none⟩ c4).setCell ⟨g,5,none⟩ c5).setCell ⟨g,6,none⟩ c6).setCell ⟨g,7,none⟩ c7).setCell ⟨g,8,none⟩ c8).cell? ⟨a,o,none⟩=some x∧(((((((((w.setCell ⟨g,0,none⟩ c0).setCell ⟨g,1,none⟩ c1).setCell ⟨g,2,none⟩ c2).setCell ⟨g,3,none⟩ c3).setCell ⟨g,4,none⟩ c4).setCell ⟨g,5,none⟩ c5).setCell ⟨g,6,none⟩ c6).setCell ⟨g,7,none⟩ c7).setCell ⟨g,8,none⟩ c8).cell? ⟨b,p,none⟩=some y :=
 scv_chs (S:=fun q=>q=g) (chs_of_but but_g0 rfl) na nb h
theorem ia_lt {w:World} {B i:Nat} {z c:Nat→Int}:IA w B i z c→B<w.heap.size
 | ⟨_,e,_⟩=>(Array.getElem?_eq_some_iff.1 e).1
theorem ow_step {b fb gb N s:Nat} {hl h3:Value} (n:∀ q,q≤N→¬ Ow b fb gb hl q) (q3:∀ k,h3.ownBlock=some k→hl.ownBlock=some k∨s≤k) (l:N<s):∀ q,q≤N→¬ Ow b fb gb h3 q:=fun q hq o=>by
 rcases o with o | o | o | o
 ·exact n q hq (Or.inl o)
 ·exact n q hq (Or.inr (Or.inl o))
 ·exact n q hq (Or.inr (Or.inr (Or.inl o)))
 ·rcases q3 q o with o | o
  ·exact n q hq (Or.inr (Or.inr (Or.inr o)))
  ·omega
theorem ow_one {b fb gb D s:Nat} {hl h3:Value} (n:¬ Ow b fb gb hl D) (q3:∀ k,h3.ownBlock=some k→hl.ownBlock=some k∨s≤k) (l:D<s):¬ Ow b fb gb h3 D:=fun o=>by
 rcases o with o | o | o | o
 ·exact n (Or.inl o)
 ·exact n (Or.inr (Or.inl o))
 ·exact n (Or.inr (Or.inr (Or.inl o)))
 ·rcases q3 D o with o | o
  ·exact n (Or.inr (Or.inr (Or.inr o)))
  ·omega
theorem ia_at {w:World} {B i:Nat} {z c:Nat→Int} (hi:i<16):IA w B i z c→w.cell? ⟨B,i,none⟩=some (.int .i64 (c i))∧w.frozen? ⟨B,i,none⟩=false
 | ⟨cur,e,_,q⟩=>⟨by rw [cell_of_row _ _ _ _ _ _ e]; exact q i (Nat.le_refl _) hi,frozen_of_row _ _ _ _ _ e⟩
theorem ia_done {w:World} {B i j:Nat} {z c:Nat→Int} (hj:j<i):IA w B i z c→w.cell? ⟨B,j,none⟩=some (.int .i64 (z j))
 | ⟨cur,e,q,_⟩=>by rw [cell_of_row _ _ _ _ _ _ e]; exact q j hj
theorem ia_step {w:World} {B i:Nat} {z c:Nat→Int} (hi:i<16):IA w B i z c→IA (w.setCell ⟨B,i,none⟩ (.int .i64 (z i))) B (i+1) z c
 | ⟨cur,e,q,r⟩=>⟨_,heap_setCell_same _ B i _ _ _ e,fun j hj=>by
   rw [Array.getElem?_setIfInBounds]
   have l:i<cur.size:=by
    have:=r i (Nat.le_refl _) hi
    rcases Nat.lt_or_ge i cur.size with h | h
    ·exact h
    ·rw [Array.getElem?_eq_none h] at this
     cases this
   by_cases ji:i=j
   ·subst ji
    rw [if_pos rfl,if_pos l]
   ·rw [if_neg ji]
    exact q j (by omega),fun j h0 h1=>by
   rw [Array.getElem?_setIfInBounds,if_neg (by omega)]
   exact r j (by omega) h1⟩
theorem vsym_eq_self (x0 x1 x2 x3 x4 x5:Int) (w:World):(Op.equalIn 10000 40 (.agg #[.int .i64 x0,.int .i64 x1,.int .i64 x2,.int .i64 x3,.int .i64 x4,.int .i64 x5]) (.agg #[.int .i64 x0,.int .i64 x1,.int .i64 x2,.int .i64 x3,.int .i64 x4,.int .i64 x5])).run Tryz.prog w=.ok true w:=by
 have hs:(Tryz.prog.info? 2).isSome=true:=by kernel_rfl
 obtain ⟨i,hi⟩:=Option.isSome_iff_exists.1 hs
 have hc:Tryz.prog.cellsOf 2=1:=by kernel_rfl
 have hp:Tryz.prog.plainKey 2=true:=by kernel_rfl
 rw [run_equalIn_array w 9999 _ _ Tryz.underlying40 hi]
 rw [hc]
 have P:=fun (k:Nat) (v:Value) (h:(#[Value.int IntKind.i64 x0,Value.int IntKind.i64 x1,Value.int IntKind.i64 x2,Value.int IntKind.i64 x3,Value.int IntKind.i64 x4,Value.int IntKind.i64 x5]:Array Value)[k*1]?=some v) (w:World)=>run_part_plain w hp h
 have E:=fun (a:Int) (w:World)=>run_equalIn_int w 9998 2 .i64 .i64 a a Tryz.underlying2
 simp only [List.range,List.range.loop,Op.eqItems,Sem.run_bind,P 0 _ rfl,Result.andThen_ok]
 simp [P 1 _ rfl,P 2 _ rfl,P 3 _ rfl,P 4 _ rfl,P 5 _ rfl,E]
theorem az_rng (p:Int):-9223372036854775808≤az p∧az p≤9223372036854775807:=by
 unfold az
 split
 ·rename_i g
  have:=al_range g
  omega
 ·exact ⟨by decide,by decide⟩
theorem row3 {w:World} {b:Nat} {t:TypeId} {c0 c1 c2:Value} (h:w.heap[b]?=some (.cells #[c0,c1,c2] t (0,0))):w.cell? ⟨b,0,none⟩=some c0∧w.cell? ⟨b,1,none⟩=some c1∧w.cell? ⟨b,2,none⟩=some c2:=⟨(cell_of_row _ _ 0 _ _ _ h).trans rfl,(cell_of_row _ _ 1 _ _ _ h).trans rfl,(cell_of_row _ _ 2 _ _ _ h).trans rfl⟩
theorem ia_new {w:World} {z c:Nat→Int} {B:Nat} (hB:B=w.heap.size):IA (w.alloc (Obj.cells #[.int .i64 (c 0),.int .i64 (c 1),.int .i64 (c 2),.int .i64 (c 3),.int .i64 (c 4),.int .i64 (c 5),.int .i64 (c 6),.int .i64 (c 7),.int .i64 (c 8),.int .i64 (c 9),.int .i64 (c 10),.int .i64 (c 11),.int .i64 (c 12),.int .i64 (c 13),.int .i64 (c 14),.int .i64 (c 15)] 61)) B 0 z c:=by
 subst hB
 refine ⟨_,heap_alloc_last _ _,fun j hj=>absurd hj (Nat.not_lt_zero j),fun j _ hj=>?_⟩
 rcases (show j=0∨j=1∨j=2∨j=3∨j=4∨j=5∨j=6∨j=7∨j=8∨j=9∨j=10∨j=11∨j=12∨j=13∨j=14∨j=15 by omega) with rfl | rfl | rfl | rfl | rfl | rfl | rfl | rfl | rfl | rfl | rfl | rfl | rfl | rfl | rfl | rfl <;> rfl
end Go.Proofs.YtjifkmldigemkaaGreatDoor
namespace Go.Proofs.YtjifkmldigemkaaGreatDoor
open Go.RowKit Go.Shelf Go.Joins
theorem nxa_lost {m s co ou:Int} (h:0≤m∧m≤3):nxt (m,s) 3 co ou=(3,0):=by
 have:m=0∨m=1∨m=2∨m=3:=by omega
 unfold nxt
 rcases this with rfl | rfl | rfl | rfl <;> simp [vld,sks]
theorem clip_r {x:Nat→Int} {C:Cn} {a:Int} (ha:¬ the x a=0) (h:Bool) (p:Int) (s:Bool):(stp x C a h p s).1.r=C.r+1:=by
 rw [stp_r,(a_no ha C.l C.r).2.2.1]
structure Ag (C:Cn) (n:Nat) (z:Nat→Int):Prop where
 m:C.m=3
 c:C.n=n
 z:∀ k,k<n→C.z k=z k
theorem ag_s {C:Cn} {n:Nat} {z:Nat→Int} (k:Ag C n z):sks C.m=true:=by rw [k.m]; rfl
theorem ag_lost {x:Nat→Int} {C:Cn} (hm:0≤C.m∧C.m≤3) {a:Int} (ha:¬ the x a=0) (hr:x 27≤C.r) (h:Bool) (p:Int) (s:Bool) (z:Nat→Int) :
  Ag (stp x C a h p s).1 0 z∧(stp x C a h p s).2=⟨3,false,false,false,true,false,0,0,0⟩:=by
 obtain ⟨e0,e1,e2,e3⟩:=a_no ha C.l C.r
 have e4:aq x C.r a=true:=by rw [e3]; simp; omega
 have em:mid x (fed x C a) C.l true true (br h p) p s=(fed x C a,3,false,false):=by
  unfold mid
  rw [if_pos rfl]
 have en:nxt ((fed x C a).m,(fed x C a).s) 3 (x 28) (x 29)=(3,0):=nxa_lost hm
 unfold stp
 rw [e0,e1,e4,em]
 unfold fin trn clk2
 dsimp only
 rw [en]
 exact ⟨⟨rfl,by simp,fun _ h=>absurd h (Nat.not_lt_zero _)⟩,by simp [tel,vld]⟩
theorem ag_gather {x:Nat→Int} {C:Cn} {n:Nat} {z:Nat→Int} (k:Ag C n z) (hn:n<15) {a:Int} (s:Bool) (ha:the x a=0) (gp:gd (z n)=true) :
  Ag (stp x C a true (z n) s).1 (n+1) z∧(stp x C a true (z n) s).2=⟨3,false,false,false,false,false,0,0,0⟩:=by
 rw [stp_gather s (ag_s k) ha gp (by rw [k.c]; exact hn)]
 refine ⟨⟨k.m,by show C.n+1=_; rw [k.c],fun j hj=>?_⟩,by simp [tel,k.m,vld]⟩
 show more C.z C.n (z n) j=z j
 rw [k.c]
 by_cases e:j<n
 ·rw [more_old e]; exact k.z j e
 ·rw [show j=n by omega,more_new]
theorem ag_enter {x:Nat→Int} {C:Cn} {z:Nat→Int} (k:Ag C 15 z) {a:Int} (s:Bool) (ha:the x a=0) (gp:gd (z 15)=true) :
  (stp x C a true (z 15) s).1.m=1∧(stp x C a true (z 15) s).1.s=0∧(stp x C a true (z 15) s).1.v=tri (az (mv z 16)) 0 0∧(stp x C a true (z 15) s).1.u=dgm (x 8) (x 9) (x 10) ∧
   (stp x C a true (z 15) s).2=⟨1,true,true,false,false,false,evn (az (mv z 16)) 16777216,0,0⟩:=by
 have e:mv (more C.z C.n (z 15)) (C.n+1)=mv z 16:=by
  rw [k.c]
  refine (m_same (fun j hj=>?_)).1
  by_cases e:j<15
  ·rw [more_old e]; exact k.z j e
  ·rw [show j=15 by omega,more_new]
 rw [stp_enter s (ag_s k) ha gp k.c,e]
 exact ⟨rfl,rfl,rfl,rfl,rfl⟩
end Go.Proofs.YtjifkmldigemkaaGreatDoor

import Derived.Deep.RegionWith
import Derived.Deep.DeepCutAuto
import Derived.Deep.CutBlock
import Derived.LoopN
import Derived.Laws.Cover1
import Derived.ChangeKeysEq
import Derived.Orders
import Derived.RegionTactic
import Derived.Below
import Derived.StillTactics
import Derived.Laws.Pointers
import Derived.Deep.RegionHeld3
import Derived.Deep.QuietTactic
import Derived.BigQuiet
import Derived.RowKit3
import Derived.Lib.Hide
import Derived.Lib.QuietBelow
import Derived.Laws.Bits64b
import Derived.Test.YtmcchknilnejgaaGreatDoorProg
import Derived.Shelf.Spec.BitsCarry
import Derived.Shelf.Bits.Mul64
import Derived.WalkKit
import Derived.WalkSpells
import Derived.ScopeJumps
import Derived.WalkMore
import Derived.BigRegion
import Derived.Lib.SmallJoins
import Derived.Deep.WholeRow
import Derived.Deep.LoopGhost
import Derived.Defers
import Derived.Tactics
import Derived.RangeFuncNested
import Derived.RangeFuncLeaves
import Derived.RangeFuncCalls
import Derived.Shelf.Abstract
import Derived.OwnWalkIn
import Derived.TacticsInMore
import Derived.LoopNIn
import Derived.LoopIn
import Derived.DeepKeys
import Derived.Test.YtmcchknilnejgaaGreatDoorSai
import Derived.Test.YtmcchknilnejgaaGreatDoorKbf
import Derived.Test.YtmcchknilnejgaaGreatDoorKbe
import Derived.Test.YtmcchknilnejgaaGreatDoorKar
import Derived.Test.YtmcchknilnejgaaGreatDoorKao
import Derived.Test.YtmcchknilnejgaaGreatDoorKaj
import Derived.Test.YtmcchknilnejgaaGreatDoorKaf
import Derived.Test.YtmcchknilnejgaaGreatDoorSad
import Derived.Test.YtmcchknilnejgaaGreatDoorKae
import Derived.Test.YtmcchknilnejgaaGreatDoorKab
import Derived.Test.YtmcchknilnejgaaGreatDoorSac
import Derived.Test.YtmcchknilnejgaaGreatDoorKaa
import Derived.Test.YtmcchknilnejgaaGreatDoorKad
import Derived.Test.YtmcchknilnejgaaGreatDoorKac
import Derived.Test.YtmcchknilnejgaaGreatDoorSap
import Derived.Test.YtmcchknilnejgaaGreatDoorKag
import Derived.Test.YtmcchknilnejgaaGreatDoorKai
import Derived.Test.YtmcchknilnejgaaGreatDoorKah
import Derived.Test.YtmcchknilnejgaaGreatDoorKak
import Derived.Test.YtmcchknilnejgaaGreatDoorSag
import Derived.Test.YtmcchknilnejgaaGreatDoorSaq
import Derived.Test.YtmcchknilnejgaaGreatDoorSaf
import Derived.Test.YtmcchknilnejgaaGreatDoorKan
import Derived.Test.YtmcchknilnejgaaGreatDoorKam
import Derived.Test.YtmcchknilnejgaaGreatDoorKal
import Derived.Test.YtmcchknilnejgaaGreatDoorKap
import Derived.Test.YtmcchknilnejgaaGreatDoorKaq
import Derived.Test.YtmcchknilnejgaaGreatDoorKas
import Derived.Test.YtmcchknilnejgaaGreatDoorKbd
import Derived.Test.YtmcchknilnejgaaGreatDoorKav
import Derived.Test.YtmcchknilnejgaaGreatDoorKau
import Derived.Test.YtmcchknilnejgaaGreatDoorKat
import Derived.Test.YtmcchknilnejgaaGreatDoorKaw
import Derived.Test.YtmcchknilnejgaaGreatDoorKax
import Derived.Test.YtmcchknilnejgaaGreatDoorKay
import Derived.Test.YtmcchknilnejgaaGreatDoorKaz
import Derived.Test.YtmcchknilnejgaaGreatDoorKbc
import Derived.Test.YtmcchknilnejgaaGreatDoorKbb
import Derived.Test.YtmcchknilnejgaaGreatDoorKba
import Derived.Test.YtmcchknilnejgaaGreatDoorSah
import Derived.Test.YtmcchknilnejgaaGreatDoorSaa
import Derived.Test.YtmcchknilnejgaaGreatDoorKbg
import Derived.Test.YtmcchknilnejgaaGreatDoorSab
import Derived.Test.YtmcchknilnejgaaGreatDoorSae
set_option maxHeartbeats 16000000
set_option maxRecDepth 20000
namespace Go.Proofs.YtmcchknilnejgaaGreatDoor
open Go.RowKit Go.Shelf Go.Joins
theorem stp_blank {x:Nat→Int} {C:Cn} {a p:Int} {h:Bool} (s:Bool) (hs:sks C.m=true) (ha:the x a=0) (gp:br h p=false) :
  stp x C a h p s=({ C with l:=thv x a,r:=0 },⟨C.m,vld C.m,false,false,false,false,(tel C false false false false).al,(tel C false false false false).sp,(tel C false false false false).bi⟩):=by
 obtain ⟨e0,e1,e2,e3⟩:=a_ok ha C.l C.r
 have em:mid x (fed x C a) (thv x a) false false false p s=({ C with l:=thv x a,r:=0 },2,false,false):=by
  unfold mid
  rw [if_neg (by decide),if_pos (show sks (fed x C a).m=true from hs),if_neg (by decide)]
  unfold fed
  rw [e0,e2]
 unfold stp
 rw [e0,e1,e3,gp,em]
 unfold fin trn clk2
 dsimp only
 rw [nxt_seek hs rfl,if_neg (by rw [hs]; simp)]
 rfl
theorem sk_blank {x:Nat→Int} {C:Cn} {n:Nat} {z:Nat→Int} (k:Sk C n z) {a p:Int} {h:Bool} (s:Bool) (ha:the x a=0) (gp:br h p=false):Sk (stp x C a h p s).1 n z∧(stp x C a h p s).2=td0:=by
 rw [stp_blank s (sk_m k) ha gp]
 exact ⟨⟨k.m,k.s,k.g,k.c,k.z⟩,sk_td k⟩
end Go.Proofs.YtmcchknilnejgaaGreatDoor
namespace Go.Proofs.YtmcchknilnejgaaGreatDoor
open Go.RowKit Go.Shelf Go.Joins
def U8s (w:World) (sg:Option Addr) (len:Nat) (e:Nat→Int):Prop:=∀ k,k<len→∃ g off,sg=some ⟨g,off,none⟩∧w.cell? ⟨g,off+k,none⟩=some (.int .u8 (e k))∧0≤e k∧e k≤255
theorem u8s_keep {w w':World} {sg:Option Addr} {len:Nat} {e:Nat→Int} (hb:Below w.heap.size w w') (h:U8s w sg len e):U8s w' sg len e:=fun k hk=>by
 obtain ⟨g,off,q,c,r⟩:=h k hk
 exact ⟨g,off,q,cell_keep hb c,r⟩
theorem u8s_of {w:World} {sa:Option Addr} {len:Nat} {zs:List Int} (hz:∀ n ∈ zs,0≤n∧n≤255) (hl:len≤zs.length) (h:∀ k,k<len→∃ gb off,sa=some ⟨gb,off,none⟩∧w.cell? ⟨gb,off+k,none⟩=some (.int .u8 (zs.getD k 0))):U8s w sa len (fun k=>zs.getD k 0):=fun k hk=>by
 obtain ⟨g,off,e,c⟩:=h k hk
 have q:zs.getD k 0=zs[k]:=by simp [List.getD,List.getElem?_eq_getElem (show k<zs.length by omega)]
 have r:=hz _ (List.getElem_mem (show k<zs.length by omega))
 exact ⟨g,off,e,c,by show 0≤zs.getD k 0; rw [q]; exact r.1,by show zs.getD k 0≤255; rw [q]; exact r.2⟩
def gpn (e:Nat→Int) (len k:Nat):Nat:=if k<len then (e k % 20).toNat else 0
theorem gap_any (sg:Option Addr) (len cap:Nat) (hl:len≤cap) (_hm:cap≤9223372036854775807) (e:Nat→Int) (k:Nat) (hk:k<16) (w:World) (h:U8s w sg len e):Calls Tryz.prog 24 #[.slice sg len cap,.int .i64 k] w (RetV (.int .i64 (gpn e len k)) w):=by
 unfold gpn
 have k0:(0:Int)≤k:=by omega
 by_cases c:k<len
 ·rw [if_pos c]
  obtain ⟨g,off,rfl,x0,e0,e1⟩:=h k c
  have lk:(k:Int)<len:=by omega
  have lc:(k:Int)<cap:=by omega
  have m:(e k).tmod 20=e k % 20:=Int.tmod_eq_emod_of_nonneg e0
  have wr:IntKind.u8.wrap ((e k).tmod 20)=e k % 20:=by rw [m,IntKind.wrap_u8]; omega
  have wi:IntKind.i64.wrap (e k % 20)=e k % 20:=by rw [IntKind.wrap_i64]; omega
  have tn:(((e k % 20).toNat:Nat):Int)=e k % 20:=by omega
  rw [tn]
  go_enter Tryz.func24,Tryz.ntmps24
  go_wp2_with fail
  go_ret
  exact ⟨rfl,Below.refl _ _⟩
 ·rw [if_neg c]
  have lk:¬ (k:Int)<len:=by omega
  go_enter Tryz.func24,Tryz.ntmps24
  go_wp2_with fail
  go_ret
  exact ⟨rfl,Below.refl _ _⟩
def zc (c:Nat→Int) (j:Nat):Int:=90528+((c j).tmod 339988+339988).tmod 339988
theorem zc_in (c:Nat→Int) (j:Nat):90528≤zc c j∧zc c j≤430515:=by
 unfold zc
 have h1:=Int.tmod_lt_of_pos (c j) (show (0:Int)<339988 by decide)
 have h2:-339988<(c j).tmod 339988:=by
  have h:=Int.tmod_lt_of_pos (-(c j)) (show (0:Int)<339988 by decide)
  rw [Int.neg_tmod] at h
  omega
 have h3:=Int.tmod_nonneg 339988 (show 0≤(c j).tmod 339988+339988 by omega)
 have h4:=Int.tmod_lt_of_pos ((c j).tmod 339988+339988) (show (0:Int)<339988 by decide)
 constructor <;> omega
theorem zc_gd (c:Nat→Int) (j:Nat):gd (zc c j)=true:=by
 obtain ⟨a,b⟩:=zc_in c j
 unfold gd
 exact inb_iff.2 ⟨a,b⟩
def IA (w:World) (B i:Nat) (z c:Nat→Int):Prop:=∃ cur,w.heap[B]?=some (.cells cur 67 (0,0))∧(∀ j,j<i→cur[j]?=some (.int .i64 (z j)))∧∀ j,i≤j→j<16→cur[j]?=some (.int .i64 (c j))
theorem ia_chs {S:Nat→Prop} {w w':World} {B i:Nat} {z c:Nat→Int} (h:Chs S w w') (n:¬ S B):IA w B i z c→IA w' B i z c
 | ⟨cur,e,q⟩=>⟨cur,chs_row h n e,q⟩
theorem scv_keep {w w':World} {a b:Addr} {x y:Value} (h:w.cell? a=some x∧w.cell? b=some y) (k:Below w.heap.size w w'):w'.cell? a=some x∧w'.cell? b=some y:=⟨cell_keep k h.1,cell_keep k h.2⟩
theorem scv_chs {S:Nat→Prop} {w w':World} {a b o p:Nat} {x y:Value} (k:Chs S w w') (na:¬ S a) (nb:¬ S b) (h:w.cell? ⟨a,o,none⟩=some x∧w.cell? ⟨b,p,none⟩=some y):w'.cell? ⟨a,o,none⟩=some x∧w'.cell? ⟨b,p,none⟩=some y :=
 ⟨(World.cell?_of_block (a:=⟨a,o,none⟩) (k.block a (World.block_lt_of_cell? w _ h.1) na)).trans h.1,(World.cell?_of_block (a:=⟨b,p,none⟩) (k.block b (World.block_lt_of_cell? w _ h.2) nb)).trans h.2⟩
theorem scv_s9 {w:World} {a b o p g:Nat} {x y c0 c1 c2 c3 c4 c5 c6 c7 c8:Value} (na:a≠g) (nb:b≠g) (h:w.cell? ⟨a,o,none⟩=some x∧w.cell? ⟨b,p,none⟩=some y):(((((((((w.setCell ⟨g,0,none⟩ c0).setCell ⟨g,1,none⟩ c1).setCell ⟨g,2,none⟩ c2).setCell ⟨g,3,none⟩ c3).setCell ⟨g,4,none⟩ c4).setCell ⟨g,5,none⟩ c5).setCell ⟨g,6,none⟩ c6).setCell ⟨g,7,none⟩ c7).setCell ⟨g,8,none⟩ c8).cell? ⟨a,o,none⟩=some x∧(((((((((w.setCell ⟨g,0,none⟩ c0).setCell ⟨g,1,none⟩ c1).setCell ⟨g,2,none⟩ c2).setCell ⟨g,3,none⟩ c3).setCell ⟨g,4,none⟩ c4).setCell ⟨g,5,none⟩ c5).setCell ⟨g,6,none⟩ c6).setCell ⟨g,7,none⟩ c7).setCell ⟨g,8,none⟩ c8).cell? ⟨b,p,none⟩=some y :=
 scv_chs (S:=fun q=>q=g) (chs_of_but but_g0 rfl) na nb h
theorem ia_lt {w:World} {B i:Nat} {z c:Nat→Int}:IA w B i z c→B<w.heap.size
 | ⟨_,e,_⟩=>(Array.getElem?_eq_some_iff.1 e).1
theorem ow_step {b fb gb N s:Nat} {hl h3:Value} (n:∀ q,q≤N→¬ Ow b fb gb hl q) (q3:∀ k,h3.ownBlock=some k→hl.ownBlock=some k∨s≤k) (l:N<s):∀ q,q≤N→¬ Ow b fb gb h3 q:=fun q hq o=>by
 rcases o with o | o | o | o
 ·exact n q hq (Or.inl o)
 ·exact n q hq (Or.inr (Or.inl o))
 ·exact n q hq (Or.inr (Or.inr (Or.inl o)))
 ·rcases q3 q o with o | o
  ·exact n q hq (Or.inr (Or.inr (Or.inr o)))
  ·omega
theorem ow_one {b fb gb D s:Nat} {hl h3:Value} (n:¬ Ow b fb gb hl D) (q3:∀ k,h3.ownBlock=some k→hl.ownBlock=some k∨s≤k) (l:D<s):¬ Ow b fb gb h3 D:=fun o=>by
 rcases o with o | o | o | o
 ·exact n (Or.inl o)
 ·exact n (Or.inr (Or.inl o))
 ·exact n (Or.inr (Or.inr (Or.inl o)))
 ·rcases q3 D o with o | o
  ·exact n (Or.inr (Or.inr (Or.inr o)))
  ·omega
theorem ia_at {w:World} {B i:Nat} {z c:Nat→Int} (hi:i<16):IA w B i z c→w.cell? ⟨B,i,none⟩=some (.int .i64 (c i))∧w.frozen? ⟨B,i,none⟩=false
 | ⟨cur,e,_,q⟩=>⟨by rw [cell_of_row _ _ _ _ _ _ e]; exact q i (Nat.le_refl _) hi,frozen_of_row _ _ _ _ _ e⟩
theorem ia_done {w:World} {B i j:Nat} {z c:Nat→Int} (hj:j<i):IA w B i z c→w.cell? ⟨B,j,none⟩=some (.int .i64 (z j))
 | ⟨cur,e,q,_⟩=>by rw [cell_of_row _ _ _ _ _ _ e]; exact q j hj
theorem ia_step {w:World} {B i:Nat} {z c:Nat→Int} (hi:i<16):IA w B i z c→IA (w.setCell ⟨B,i,none⟩ (.int .i64 (z i))) B (i+1) z c
 | ⟨cur,e,q,r⟩=>⟨_,heap_setCell_same _ B i _ _ _ e,fun j hj=>by
   rw [Array.getElem?_setIfInBounds]
   have l:i<cur.size:=by
    have:=r i (Nat.le_refl _) hi
    rcases Nat.lt_or_ge i cur.size with h | h
    ·exact h
    ·rw [Array.getElem?_eq_none h] at this
     cases this
   by_cases ji:i=j
   ·subst ji
    rw [if_pos rfl,if_pos l]
   ·rw [if_neg ji]
    exact q j (by omega),fun j h0 h1=>by
   rw [Array.getElem?_setIfInBounds,if_neg (by omega)]
   exact r j (by omega) h1⟩
theorem vsym_eq_self (x0 x1 x2 x3 x4 x5:Int) (w:World):(Op.equalIn 10000 40 (.agg #[.int .i64 x0,.int .i64 x1,.int .i64 x2,.int .i64 x3,.int .i64 x4,.int .i64 x5]) (.agg #[.int .i64 x0,.int .i64 x1,.int .i64 x2,.int .i64 x3,.int .i64 x4,.int .i64 x5])).run Tryz.prog w=.ok true w:=by
 have hs:(Tryz.prog.info? 2).isSome=true:=by kernel_rfl
 obtain ⟨i,hi⟩:=Option.isSome_iff_exists.1 hs
 have hc:Tryz.prog.cellsOf 2=1:=by kernel_rfl
 have hp:Tryz.prog.plainKey 2=true:=by kernel_rfl
 rw [run_equalIn_array w 9999 _ _ Tryz.underlying40 hi]
 rw [hc]
 have P:=fun (k:Nat) (v:Value) (h:(#[Value.int IntKind.i64 x0,Value.int IntKind.i64 x1,Value.int IntKind.i64 x2,Value.int IntKind.i64 x3,Value.int IntKind.i64 x4,Value.int IntKind.i64 x5]:Array Value)[k*1]?=some v) (w:World)=>run_part_plain w hp h
 have E:=fun (a:Int) (w:World)=>run_equalIn_int w 9998 2 .i64 .i64 a a Tryz.underlying2
 simp only [List.range,List.range.loop,Op.eqItems,Sem.run_bind,P 0 _ rfl,Result.andThen_ok]
 simp [P 1 _ rfl,P 2 _ rfl,P 3 _ rfl,P 4 _ rfl,P 5 _ rfl,E]
theorem az_rng (p:Int):-9223372036854775808≤az p∧az p≤9223372036854775807:=by
 unfold az
 split
 ·rename_i g
  have:=al_range g
  omega
 ·exact ⟨by decide,by decide⟩
theorem row3 {w:World} {b:Nat} {t:TypeId} {c0 c1 c2:Value} (h:w.heap[b]?=some (.cells #[c0,c1,c2] t (0,0))):w.cell? ⟨b,0,none⟩=some c0∧w.cell? ⟨b,1,none⟩=some c1∧w.cell? ⟨b,2,none⟩=some c2:=⟨(cell_of_row _ _ 0 _ _ _ h).trans rfl,(cell_of_row _ _ 1 _ _ _ h).trans rfl,(cell_of_row _ _ 2 _ _ _ h).trans rfl⟩
theorem ia_new {w:World} {z c:Nat→Int} {B:Nat} (hB:B=w.heap.size):IA (w.alloc (Obj.cells #[.int .i64 (c 0),.int .i64 (c 1),.int .i64 (c 2),.int .i64 (c 3),.int .i64 (c 4),.int .i64 (c 5),.int .i64 (c 6),.int .i64 (c 7),.int .i64 (c 8),.int .i64 (c 9),.int .i64 (c 10),.int .i64 (c 11),.int .i64 (c 12),.int .i64 (c 13),.int .i64 (c 14),.int .i64 (c 15)] 67)) B 0 z c:=by
 subst hB
 refine ⟨_,heap_alloc_last _ _,fun j hj=>absurd hj (Nat.not_lt_zero j),fun j _ hj=>?_⟩
 rcases (show j=0∨j=1∨j=2∨j=3∨j=4∨j=5∨j=6∨j=7∨j=8∨j=9∨j=10∨j=11∨j=12∨j=13∨j=14∨j=15 by omega) with rfl | rfl | rfl | rfl | rfl | rfl | rfl | rfl | rfl | rfl | rfl | rfl | rfl | rfl | rfl | rfl <;> rfl
theorem channelStarts_any (x:Nat→Int) (hx:C64 x) (c:Nat→Int) (hc:∀ k,k<16→I64 (c k)) (sg:Option Addr) (len cap:Nat) (hl:len≤cap) (hm:cap≤9223372036854775807) (e:Nat→Int) (w:World) (hu:U8s w sg len e) (T:Tb3 w):Calls Tryz.prog 8 #[cv x,.agg #[.int .i64 (c 0),.int .i64 (c 1),.int .i64 (c 2),.int .i64 (c 3),.int .i64 (c 4),.int .i64 (c 5),.int .i64 (c 6),.int .i64 (c 7),.int .i64 (c 8),.int .i64 (c 9),.int .i64 (c 10),.int .i64 (c 11),.int .i64 (c 12),.int .i64 (c 13),.int .i64 (c 14),.int .i64 (c 15)],.slice sg len cap] w (RetV (.bool true) w):=by
 have cr0:CR (w.alloc (Obj.cells #[.int .i64 (x 0),.int .i64 (x 1),.int .i64 (x 2),.int .i64 (x 3),.int .i64 (x 4),.int .i64 (x 5),.int .i64 (x 6),.int .i64 (x 7),.int .i64 (x 8),.int .i64 (x 9),.int .i64 (x 10),.int .i64 (x 11),.int .i64 (x 12),.int .i64 (x 13),.int .i64 (x 14),.int .i64 (x 15),.int .i64 (x 16),.int .i64 (x 17),.int .i64 (x 18),.int .i64 (x 19),.int .i64 (x 20),.int .i64 (x 21),.int .i64 (x 22),.int .i64 (x 23),.int .i64 (x 24),.int .i64 (x 25),.int .i64 (x 26),.int .i64 (x 27),.int .i64 (x 28),.int .i64 (x 29),.int .i64 (x 30)] 25)) w.heap.size x:=cr_new
 have B0:Below w.heap.size w (w.alloc (Obj.cells #[.int .i64 (x 0),.int .i64 (x 1),.int .i64 (x 2),.int .i64 (x 3),.int .i64 (x 4),.int .i64 (x 5),.int .i64 (x 6),.int .i64 (x 7),.int .i64 (x 8),.int .i64 (x 9),.int .i64 (x 10),.int .i64 (x 11),.int .i64 (x 12),.int .i64 (x 13),.int .i64 (x 14),.int .i64 (x 15),.int .i64 (x 16),.int .i64 (x 17),.int .i64 (x 18),.int .i64 (x 19),.int .i64 (x 20),.int .i64 (x 21),.int .i64 (x 22),.int .i64 (x 23),.int .i64 (x 24),.int .i64 (x 25),.int .i64 (x 26),.int .i64 (x 27),.int .i64 (x 28),.int .i64 (x 29),.int .i64 (x 30)] 25)):=b_alloc (Below.refl _ _)
 have B1:Below (w.alloc (Obj.cells #[.int .i64 (x 0),.int .i64 (x 1),.int .i64 (x 2),.int .i64 (x 3),.int .i64 (x 4),.int .i64 (x 5),.int .i64 (x 6),.int .i64 (x 7),.int .i64 (x 8),.int .i64 (x 9),.int .i64 (x 10),.int .i64 (x 11),.int .i64 (x 12),.int .i64 (x 13),.int .i64 (x 14),.int .i64 (x 15),.int .i64 (x 16),.int .i64 (x 17),.int .i64 (x 18),.int .i64 (x 19),.int .i64 (x 20),.int .i64 (x 21),.int .i64 (x 22),.int .i64 (x 23),.int .i64 (x 24),.int .i64 (x 25),.int .i64 (x 26),.int .i64 (x 27),.int .i64 (x 28),.int .i64 (x 29),.int .i64 (x 30)] 25)).heap.size (w.alloc (Obj.cells #[.int .i64 (x 0),.int .i64 (x 1),.int .i64 (x 2),.int .i64 (x 3),.int .i64 (x 4),.int .i64 (x 5),.int .i64 (x 6),.int .i64 (x 7),.int .i64 (x 8),.int .i64 (x 9),.int .i64 (x 10),.int .i64 (x 11),.int .i64 (x 12),.int .i64 (x 13),.int .i64 (x 14),.int .i64 (x 15),.int .i64 (x 16),.int .i64 (x 17),.int .i64 (x 18),.int .i64 (x 19),.int .i64 (x 20),.int .i64 (x 21),.int .i64 (x 22),.int .i64 (x 23),.int .i64 (x 24),.int .i64 (x 25),.int .i64 (x 26),.int .i64 (x 27),.int .i64 (x 28),.int .i64 (x 29),.int .i64 (x 30)] 25)) ((w.alloc (Obj.cells #[.int .i64 (x 0),.int .i64 (x 1),.int .i64 (x 2),.int .i64 (x 3),.int .i64 (x 4),.int .i64 (x 5),.int .i64 (x 6),.int .i64 (x 7),.int .i64 (x 8),.int .i64 (x 9),.int .i64 (x 10),.int .i64 (x 11),.int .i64 (x 12),.int .i64 (x 13),.int .i64 (x 14),.int .i64 (x 15),.int .i64 (x 16),.int .i64 (x 17),.int .i64 (x 18),.int .i64 (x 19),.int .i64 (x 20),.int .i64 (x 21),.int .i64 (x 22),.int .i64 (x 23),.int .i64 (x 24),.int .i64 (x 25),.int .i64 (x 26),.int .i64 (x 27),.int .i64 (x 28),.int .i64 (x 29),.int .i64 (x 30)] 25)).alloc (Obj.cells #[.int .i64 (c 0),.int .i64 (c 1),.int .i64 (c 2),.int .i64 (c 3),.int .i64 (c 4),.int .i64 (c 5),.int .i64 (c 6),.int .i64 (c 7),.int .i64 (c 8),.int .i64 (c 9),.int .i64 (c 10),.int .i64 (c 11),.int .i64 (c 12),.int .i64 (c 13),.int .i64 (c 14),.int .i64 (c 15)] 67)):=b_alloc (Below.refl _ _)
 have cr:=cr_keep B1 cr0
 have E0:=b_trans B0 B1
 have ia:IA ((w.alloc (Obj.cells #[.int .i64 (x 0),.int .i64 (x 1),.int .i64 (x 2),.int .i64 (x 3),.int .i64 (x 4),.int .i64 (x 5),.int .i64 (x 6),.int .i64 (x 7),.int .i64 (x 8),.int .i64 (x 9),.int .i64 (x 10),.int .i64 (x 11),.int .i64 (x 12),.int .i64 (x 13),.int .i64 (x 14),.int .i64 (x 15),.int .i64 (x 16),.int .i64 (x 17),.int .i64 (x 18),.int .i64 (x 19),.int .i64 (x 20),.int .i64 (x 21),.int .i64 (x 22),.int .i64 (x 23),.int .i64 (x 24),.int .i64 (x 25),.int .i64 (x 26),.int .i64 (x 27),.int .i64 (x 28),.int .i64 (x 29),.int .i64 (x 30)] 25)).alloc (Obj.cells #[.int .i64 (c 0),.int .i64 (c 1),.int .i64 (c 2),.int .i64 (c 3),.int .i64 (c 4),.int .i64 (c 5),.int .i64 (c 6),.int .i64 (c 7),.int .i64 (c 8),.int .i64 (c 9),.int .i64 (c 10),.int .i64 (c 11),.int .i64 (c 12),.int .i64 (c 13),.int .i64 (c 14),.int .i64 (c 15)] 67)) (w.heap.size+1) 0 (zc c) c:=ia_new (by simp)
 have lD:w.heap.size+1<((w.alloc (Obj.cells #[.int .i64 (x 0),.int .i64 (x 1),.int .i64 (x 2),.int .i64 (x 3),.int .i64 (x 4),.int .i64 (x 5),.int .i64 (x 6),.int .i64 (x 7),.int .i64 (x 8),.int .i64 (x 9),.int .i64 (x 10),.int .i64 (x 11),.int .i64 (x 12),.int .i64 (x 13),.int .i64 (x 14),.int .i64 (x 15),.int .i64 (x 16),.int .i64 (x 17),.int .i64 (x 18),.int .i64 (x 19),.int .i64 (x 20),.int .i64 (x 21),.int .i64 (x 22),.int .i64 (x 23),.int .i64 (x 24),.int .i64 (x 25),.int .i64 (x 26),.int .i64 (x 27),.int .i64 (x 28),.int .i64 (x 29),.int .i64 (x 30)] 25)).alloc (Obj.cells #[.int .i64 (c 0),.int .i64 (c 1),.int .i64 (c 2),.int .i64 (c 3),.int .i64 (c 4),.int .i64 (c 5),.int .i64 (c 6),.int .i64 (c 7),.int .i64 (c 8),.int .i64 (c 9),.int .i64 (c 10),.int .i64 (c 11),.int .i64 (c 12),.int .i64 (c 13),.int .i64 (c 14),.int .i64 (c 15)] 67)).heap.size:=by simp
 have uD:=up_of T (show w.heap.size≤w.heap.size+1 by omega)
 replace T:=t3_keep E0 T
 clear B0 B1 cr0
 go_enter Tryz.func8,Tryz.ntmps8
 go_wp2_with (with_reducible refine stop_at (some 18) rfl ?_)
 generalize ((w.alloc (Obj.cells #[.int .i64 (x 0),.int .i64 (x 1),.int .i64 (x 2),.int .i64 (x 3),.int .i64 (x 4),.int .i64 (x 5),.int .i64 (x 6),.int .i64 (x 7),.int .i64 (x 8),.int .i64 (x 9),.int .i64 (x 10),.int .i64 (x 11),.int .i64 (x 12),.int .i64 (x 13),.int .i64 (x 14),.int .i64 (x 15),.int .i64 (x 16),.int .i64 (x 17),.int .i64 (x 18),.int .i64 (x 19),.int .i64 (x 20),.int .i64 (x 21),.int .i64 (x 22),.int .i64 (x 23),.int .i64 (x 24),.int .i64 (x 25),.int .i64 (x 26),.int .i64 (x 27),.int .i64 (x 28),.int .i64 (x 29),.int .i64 (x 30)] 25)).alloc (Obj.cells #[.int .i64 (c 0),.int .i64 (c 1),.int .i64 (c 2),.int .i64 (c 3),.int .i64 (c 4),.int .i64 (c 5),.int .i64 (c 6),.int .i64 (c 7),.int .i64 (c 8),.int .i64 (c 9),.int .i64 (c 10),.int .i64 (c 11),.int .i64 (c 12),.int .i64 (c 13),.int .i64 (c 14),.int .i64 (c 15)] 67))=z0 at *
 refine unstop ?_
 refine wpList_load_row rfl 25 (.tmp 3) rfl w.heap.size rfl 25 _ (0,0) _ cr Tryz.underlying25 rfl (by kernel_rfl) ?_
 go_wp2_with fail
 have cc:=check_any x hx
 obtain ⟨ce,hce⟩:∃ q,cks x=q:=⟨_,rfl⟩
 rw [hce] at cc
 refine (cc _).mono ?_
 rintro e_ y1 ⟨rfl,hb1⟩
 clear cc
 replace T:=t3_keep hb1 T
 replace cr:=cr_keep hb1 cr
 replace E0:=b_trans E0 hb1
 replace ia:=ia_chs (S:=fun _=>False) (chs_below hb1) (fun q=>q) ia
 replace lD:=Nat.lt_of_lt_of_le lD hb1.size
 clear hb1
 by_cases ck:ce=0
 rotate_left
 ·have c1:(ce != 0)=true:=by simpa using ck
  clear hce ck
  go_wp2_with fail
  refine (fixed_cha _ T).mono ?_
  rintro e_ y9 ⟨rfl,hb9⟩
  go_wp2
  go_ret
  exact ⟨rfl,b_trans E0 hb9⟩
 subst ck
 have ck:=hce
 clear hce
 by_cases hl2:len≤16
 rotate_left
 ·have h2:(16:Int)<(len:Int):=by omega
  go_wp2_with fail
  refine (fixed_cha _ T).mono ?_
  rintro e_ y9 ⟨rfl,hb9⟩
  go_wp2
  go_ret
  exact ⟨rfl,b_trans E0 hb9⟩
 have h2:¬ (16:Int)<(len:Int):=by omega
 replace ck:=Lib.hid ck
 go_wp2_with (with_reducible refine stop_at (some 28) rfl ?_)
 refine unstop ?_
 refine wpList_load_row rfl 25 (.tmp 3) rfl w.heap.size rfl 25 _ (0,0) _ cr Tryz.underlying25 rfl (by kernel_rfl) ?_
 go_wp2_with fail
 refine (chnew_ok x hx ck.out _ T).mono ?_
 rintro e_ y2 ⟨b,fb,gb,rfl,c0,h0,h1,h2_,hb2⟩
 have nD:Hid (¬ Ow b fb gb (.slice none 0 0) (w.heap.size+1)):=Lib.hid (fun q=>by rcases q with q | q | q | q <;> first | omega | cases q)
 have S:=Lib.hid (lc_new E0 T c0 h0 h1 h2_ hb2)
 have IA2:=Lib.hid (ia_chs (S:=fun _=>False) (chs_below hb2) (fun q=>q) ia)
 replace cr:=Lib.hid (cr_keep hb2 cr)
 replace uD:=Lib.hid uD
 have nD2:Hid (∀ q,q≤w.heap.size+1→¬ Ow b fb gb (.slice none 0 0) q):=Lib.hid (fun q hq o=>by rcases o with o | o | o | o <;> first | omega | cases o)
 clear T c0 h0 h1 h2_ hb2 h2 ia E0 lD nD
 go_wp2
 go_loopw [38] (fun iv wr=>∃ (i:Nat) (hb:Value) (C:Cn),i≤16∧iv=.int .i64 i∧Hid (LC w b fb gb hb x C wr)∧Hid (CR wr w.heap.size x)∧Hid (∀ q,q≤w.heap.size+1→¬ Ow b fb gb hb q)∧Hid (IA wr (w.heap.size+1) i (zc c) c)∧Hid (i<16→Sk C i (zc c)∧C.r=0∧Okc C)) (fun iv _=>16 - (intOf iv).toNat)
 case atStart=>exact ⟨0,_,cn0,Nat.zero_le _,rfl,S,cr,nD2,IA2,Lib.hid (fun _=>⟨sk_0 _,rfl,ok_0⟩)⟩
 case round =>
  clear S cr nD2 IA2
  obtain ⟨i,hb,C,hi,rfl,S,cr,nD,ia,HK⟩:=hrel
  by_cases hlt:i<16
  ·obtain ⟨sk,r0,ok⟩:=HK.out hlt
   clear HK
   have i0:(0:Int)≤i:=by omega
   have i1:(i:Int)<16:=by omega
   have ws:IntKind.i64.wrap ((i:Int)+1)=(i:Int)+1:=by rw [IntKind.wrap_i64]; omega
   obtain ⟨ci,fi⟩:=ia_at hlt ia.out
   have N:=ia_step hlt ia.out
   have kb:But (w.heap.size+1) wr (wr.setCell ⟨w.heap.size+1,i,none⟩ (.int .i64 (zc c i))):=but_set
   have S1:=Lib.hid (lc_but S.out kb (by omega) uD.out (nD.out _ (Nat.le_refl _)))
   have cr1:=Lib.hid (chs_row (chs_of_but (S:=fun q=>q=w.heap.size+1) kb rfl) (show ¬ w.heap.size=w.heap.size+1 by omega) cr.out)
   have hu1:=u8s_keep S1.out.b hu
   have cg:=gap_any sg len cap hl hm e i hlt _ hu1
   have zi:=zc_in c i
   have hz:(90528:Int)+((c i).tmod 339988+339988).tmod 339988=zc c i:=rfl
   have hci:=hc i hlt
   obtain ⟨q0,q1⟩:=hci
   obtain ⟨m1,hm1⟩:∃ q,(c i).tmod 339988=q:=⟨_,rfl⟩
   rw [hm1] at hz
   have m1a:-339988<m1∧m1<339988:=by
    have a:=Int.tmod_lt_of_pos (c i) (show (0:Int)<339988 by decide)
    have b9:=Int.tmod_lt_of_pos (-(c i)) (show (0:Int)<339988 by decide)
    rw [Int.neg_tmod] at b9
    omega
   obtain ⟨m2,hm2⟩:∃ q,(m1+339988).tmod 339988=q:=⟨_,rfl⟩
   rw [hm2] at hz
   have wm1:IntKind.i64.wrap m1=m1:=by rw [IntKind.wrap_i64]; omega
   have wm2:IntKind.i64.wrap (m1+339988)=m1+339988:=by rw [IntKind.wrap_i64]; omega
   have wm3:IntKind.i64.wrap m2=m2:=by rw [IntKind.wrap_i64]; omega
   have wm4:IntKind.i64.wrap (90528+m2)=zc c i:=by rw [IntKind.wrap_i64]; omega
   generalize hz9:zc c i=z9 at *
   replace hz9:=Lib.hid hz9
   clear hz zi q0 q1 m1a S cr ia
   have gn:gpn e len i≤20:=by unfold gpn; split <;> omega
   go_wp2_with fail
   refine cg.mono ?_
   rintro e_ y3 ⟨rfl,hb3⟩
   clear cg ci fi wm1 wm2 wm3 wm4
   have S2:=Lib.hid (lc_keep S1.out hb3)
   have cr2:=Lib.hid (cr_keep hb3 cr1.out)
   have N2:=Lib.hid (ia_chs (S:=fun _=>False) (chs_below hb3) (fun q=>q) N)
   clear S1 cr1 N hb3 hu1 kb
   have SK:=Lib.hid (And.intro sk (And.intro r0 ok))
   clear sk r0 ok
   generalize wr.setCell ⟨w.heap.size+1,i,none⟩ (.int .i64 z9)=y2_ at *
   generalize gpn e len i=n at *
   replace hlt:=Lib.hid hlt
   clear hm1 hm2
   go_wp2
   go_loopw [53] (fun iv wr=>∃ (g:Nat) (hb:Value) (C:Cn),g≤n∧iv=.int .i64 g∧Hid (LC w b fb gb hb x C wr)∧Hid (CR wr w.heap.size x)∧Hid (∀ q,q≤w.heap.size+1→¬ Ow b fb gb hb q)∧Hid (IA wr (w.heap.size+1) (i+1) (zc c) c)∧Hid (Sk C i (zc c)∧C.r=0∧Okc C)) (fun iv _=>n - (intOf iv).toNat)
   case atStart=>exact ⟨0,_,_,Nat.zero_le _,rfl,S2,cr2,nD,N2,SK⟩
   case round =>
    clear S2 cr2 nD N2 SK
    obtain ⟨g,hg,C,gi,rfl,S,cr,nD,ia,SK⟩:=hrel
    by_cases gl:g<n
    ·obtain ⟨sk,r0,ok⟩:=SK.out
     clear SK
     have g0:(0:Int)≤g:=by omega
     have g1:(g:Int)<n:=by omega
     have wg:IntKind.i64.wrap ((g:Int)+1)=(g:Int)+1:=by rw [IntKind.wrap_i64]; omega
     have x25:wr.cell? ⟨w.heap.size,25,none⟩=some (.int .i64 (x 25)):=(cell_of_row _ _ 25 _ _ _ cr.out).trans rfl
     have cs:=step_any (b:=b) (fb:=fb) (gb:=gb) (hl:=hg) hx ck.out (C:=C) ok (by omega) (x 25) false 0 false _ S.out.c S.out.t
     obtain ⟨sk1,td⟩:=sk_blank sk (x:=x) (a:=x 25) (p:=0) (h:=false) false (thq_rest ck.out).2 rfl
     have r1:(stp x C (x 25) false 0 false).1.r=0:=by rw [stp_r]; exact if_pos (thq_rest ck.out).2
     have ok1:=ok_stp hx ck.out ok (x 25) false 0 false
     have te:=fun w=>td_eq_self (m:=0) (vd:=false) (ac:=false) (rf:=false) (ho:=false) (gr:=false) (al:=0) (sp:=0) (bi:=0) (by decide) (by decide) (by decide) (by decide) w
     obtain ⟨R,hR⟩:∃ R,stp x C (x 25) false 0 false=R:=⟨_,rfl⟩
     rw [hR] at cs sk1 td r1 ok1
     rw [td] at cs
     clear hR td sk r0 ok
     have SK1:=Lib.hid (And.intro sk1 (And.intro r1 ok1))
     clear sk1 r1 ok1
     go_wp2_with fail
     clear x25
     refine cs.mono ?_
     rintro e_ y5 ⟨rfl,h3,c3,q3,k3⟩
     have S3:=Lib.hid (lc_step S.out c3 q3 k3)
     have lD:=ia_lt ia.out
     have nD3:=Lib.hid (ow_step nD.out q3 lD)
     have ZB:Below y5.heap.size y5 (y5.alloc (Obj.cells #[.int .i64 0,.bool false,.bool false,.bool false,.bool false,.bool false,.int .i64 0,.int .i64 0,.int .i64 0] 51)):=b_alloc (Below.refl _ _)
     have S4:=Lib.hid (lc_keep S3.out ZB)
     have cr4:=Lib.hid (cr_keep ZB (chs_row k3 (nD.out _ (by omega)) cr.out))
     have ia4:=Lib.hid (ia_chs (S:=fun _=>False) (chs_below ZB) (fun q=>q) (ia_chs k3 (nD.out _ (Nat.le_refl _)) ia.out))
     clear S3 cr ia nD q3 k3 c3 ZB S lD cs
     replace gl:=Lib.hid gl
     rw [show tdw td0=tdv 0 false false false false false 0 0 0 from rfl]
     go_wp2_with fail
     generalize y5.alloc _=y6 at *
     go_wp2
     refine ⟨⟨g+1,h3,R.1,by have:=gl.out; omega,by go_num,S4,cr4,nD3,ia4,SK1⟩,?_⟩
     simp only [intOf]
     have:=gl.out
     omega
    ·have g1:¬ (g:Int)<n:=by omega
     obtain ⟨sk,r0,ok⟩:=SK.out
     clear SK gl gi
     have ci:=ia_done (Nat.lt_succ_self i) ia.out
     rw [hz9.out] at ci
     have x25:wr.cell? ⟨w.heap.size,25,none⟩=some (.int .i64 (x 25)):=(cell_of_row _ _ 25 _ _ _ cr.out).trans rfl
     obtain ⟨sh,hsh⟩:∃ q,((i:Int).tmod 2 == 0)=q:=⟨_,rfl⟩
     have wq2:IntKind.i64.wrap ((i:Int).tmod 2)=(i:Int).tmod 2:=by rw [Int.tmod_eq_emod_of_nonneg i0,IntKind.wrap_i64]; omega
     have SD:=Lib.hid (lc_keep S.out (b_drew (Below.refl _ _)))
     have SA:=Lib.hid (lc_keep SD.out (b_alloc (o:=Obj.cells #[.int .i64 0,.bool false,.bool false,.bool false,.bool false,.bool false,.int .i64 0,.int .i64 0,.int .i64 0] 51) (Below.refl _ _)))
     have lD:=Lib.hid (ia_lt ia.out)
     have cs:=fun u (hu:CH u b fb gb hg x C) (ht:Tb3 u)=>step_any (b:=b) (fb:=fb) (gb:=gb) (hl:=hg) hx ck.out (C:=C) ok (by omega) (x 25) true z9 sh u hu ht
     have r1:(stp x C (x 25) true z9 sh).1.r=0:=by rw [stp_r]; exact if_pos (thq_rest ck.out).2
     have ok1:=ok_stp hx ck.out ok (x 25) true z9 sh
     obtain ⟨R,hR⟩:∃ R,stp x C (x 25) true z9 sh=R:=⟨_,rfl⟩
     rw [hR] at cs r1 ok1
     replace hR:=Lib.hid hR
     replace sk:=Lib.hid sk
     clear r0 ok
     go_upto_region 16 with fail
     go_cut [11] (fun s11 wx=>∃ (V:Nat) (h3:Value),s11=.pointer (some ⟨V,0,none⟩)∧wx.heap[V]?=some (.cells #[.int .i64 R.2.m,.bool R.2.vd,.bool R.2.ac,.bool R.2.rf,.bool R.2.hl,.bool R.2.gr,.int .i64 R.2.al,.int .i64 R.2.sp,.int .i64 R.2.bi] 51 (0,0))∧LC w b fb gb h3 x R.1 wx∧CR wx w.heap.size x∧(∀ q,q≤w.heap.size+1→¬ Ow b fb gb h3 q)∧IA wx (w.heap.size+1) (i+1) (zc c) c)
     case first =>
      have S0:=scv_keep (And.intro x25 ci) (b_drew (Below.refl _ _))
      have S0a:=scv_keep S0 (b_alloc (o:=Obj.cells #[.int .i64 0,.bool false,.bool false,.bool false,.bool false,.bool false,.int .i64 0,.int .i64 0,.int .i64 0] 51) (Below.refl _ _))
      have hA:(wr.drew.alloc (Obj.cells #[.int .i64 0,.bool false,.bool false,.bool false,.bool false,.bool false,.int .i64 0,.int .i64 0,.int .i64 0] 51)).heap[wr.drew.heap.size]?=some (.cells #[.int .i64 0,.bool false,.bool false,.bool false,.bool false,.bool false,.int .i64 0,.int .i64 0,.int .i64 0] 51 (0,0)):=heap_alloc_last _ _
      have nB:=Lib.hid (nD.out w.heap.size (Nat.le_succ _))
      have nB1:=Lib.hid (nD.out (w.heap.size+1) (Nat.le_refl _))
      have nV:Hid (¬ Ow b fb gb hg wr.drew.heap.size):=Lib.hid (fun e=>Nat.lt_irrefl _ (ch_own SD.out.c _ e))
      have hsz:wr.drew.heap.size=wr.heap.size:=by first | rfl | simp
      rw [hsz] at hA nV
      have lD1:Hid (w.heap.size+1<wr.drew.heap.size):=Lib.hid (by have:=lD.out; simpa using this)
      have lV1:Hid (wr.heap.size<(wr.drew.alloc (Obj.cells #[.int .i64 0,.bool false,.bool false,.bool false,.bool false,.bool false,.int .i64 0,.int .i64 0,.int .i64 0] 51)).heap.size):=Lib.hid (by simp)
      have nVa:w.heap.size≠wr.heap.size:=by have:=lD.out; omega
      have nVb:w.heap.size+1≠wr.heap.size:=by have:=lD.out; omega
      replace hA:=Lib.hid hA
      clear x25 ci hsz
      go_region_held3 (fun u=>u.cell? ⟨w.heap.size,25,none⟩=some (.int .i64 (x 25))∧u.cell? ⟨w.heap.size+1,i,none⟩=some (.int .i64 z9)) (first | with_reducible assumption | with_reducible exact scv_s9 nVa nVb (by with_reducible assumption) | with_reducible exact scv_keep (by with_reducible assumption) (b_alloc (Below.refl _ _))) (first | (go_at_call 15; refine (cs _ SD.out.c SD.out.t).mono ?_; rintro e_ y5 ⟨rfl,h3,c3,q3,k3⟩; have S5:=scv_chs k3 nB.out nB1.out S0) | (go_at_call 15; refine (cs _ SA.out.c SA.out.t).mono ?_; rintro e_ y5 ⟨rfl,h3,c3,q3,k3⟩; have S5:=scv_chs k3 nB.out nB1.out S0a; have V5:=chs_row k3 nV.out hA.out; obtain ⟨z0,z1,z2,z3,z4,z5,z6,z7,z8⟩:=row9 V5; obtain ⟨f0,f1,f2,f3,f4,f5,f6,f7,f8⟩:=fz9 V5))
      ·go_wp2_with fail
       go_meet
       exact ⟨_,h3,rfl,heap_alloc_last _ _,lc_keep (lc_step SD.out c3 q3 k3) (b_alloc (Below.refl _ _)),cr_keep (b_alloc (Below.refl _ _)) (chs_row k3 nB.out (cr_keep (b_drew (Below.refl _ _)) cr.out)),ow_step nD.out q3 lD1.out,ia_chs (S:=fun _=>False) (chs_below (b_alloc (Below.refl _ _))) (fun q=>q) (ia_chs k3 nB1.out (ia_chs (S:=fun _=>False) (chs_below (b_drew (Below.refl _ _))) (fun q=>q) ia.out))⟩
      ·have q4:=lc_but (D:=wr.heap.size) (lc_step SA.out c3 q3 k3) (but_td (t:=R.2)) (Nat.le_of_lt (Nat.lt_of_succ_lt lD.out)) (up_le uD.out (Nat.le_of_lt lD.out)) (ow_one nV.out q3 lV1.out)
       go_wp2_with fail
       go_meet
       exact ⟨_,h3,rfl,tdr_put (t:=td0) V5,q4,but_row but_g0 nVa (chs_row k3 nB.out (cr_keep (b_alloc (o:=Obj.cells #[.int .i64 0,.bool false,.bool false,.bool false,.bool false,.bool false,.int .i64 0,.int .i64 0,.int .i64 0] 51) (Below.refl _ _)) (cr_keep (b_drew (Below.refl _ _)) cr.out))),ow_step nD.out q3 (Nat.lt_trans lD.out lV1.out),ia_chs (S:=fun q=>q=wr.heap.size) (chs_of_but but_g0 rfl) nVb (ia_chs k3 nB1.out (ia_chs (S:=fun _=>False) (chs_below (b_trans (b_drew (Below.refl wr.heap.size wr)) (b_alloc (o:=Obj.cells #[.int .i64 0,.bool false,.bool false,.bool false,.bool false,.bool false,.int .i64 0,.int .i64 0,.int .i64 0] 51) (Below.refl _ _)))) (fun q=>q) ia.out))⟩
     case rest =>
      obtain ⟨V,h3,rfl,hV,S3,cr3,nD3,ia3⟩:=hcut
      replace S3:=Lib.hid S3
      replace cr3:=Lib.hid cr3
      replace nD3:=Lib.hid nD3
      replace ia3:=Lib.hid ia3
      clear SD SA S cr nD ia ci x25 lD
      have gz:=zc_gd c i
      have tq:=(thq_rest ck.out).2
      by_cases i15:i<15
      ·have q:=sk_gather sk.out i15 (a:=x 25) sh tq gz
       rw [hz9.out,hR.out] at q
       obtain ⟨R1,R2⟩:=R
       dsimp only at q hV S3 r1 ok1
       obtain ⟨q1,rfl⟩:=q
       have SK1:Hid (i+1<16→Sk R1 (i+1) (zc c)∧R1.r=0∧Okc R1):=Lib.hid (fun _=>⟨q1,r1,ok1⟩)
       have j15:(i:Int)<15:=by omega
       have hV9:wc.heap[V]?=some (.cells #[.int .i64 0,.bool false,.bool false,.bool false,.bool false,.bool false,.int .i64 0,.int .i64 0,.int .i64 0] 51 (0,0)):=hV
       have te:=fun w=>td_eq_self (m:=0) (vd:=false) (ac:=false) (rf:=false) (ho:=false) (gr:=false) (al:=0) (sp:=0) (bi:=0) (by decide) (by decide) (by decide) (by decide) w
       obtain ⟨d0,d1,d2,d3,d4,d5,d6,d7,d8⟩:=row9 hV9
       clear hV hV9 hR sk q1 r1 ok1 gz tq cs hz9
       go_wp2
       refine ⟨⟨i+1,h3,R1,by omega,by go_num,S3,cr3,nD3,ia3,SK1⟩,?_⟩
       simp only [intOf]
       omega
      ·obtain rfl:i=15:=by omega
       have q:=sk_enter sk.out (a:=x 25) sh tq gz
       rw [hz9.out,hR.out] at q
       obtain ⟨R1,R2⟩:=R
       dsimp only at q hV S3 r1 ok1
       obtain ⟨q1,rfl⟩:=q
       clear hR sk r1 ok1 gz tq cs hz9 i15
       have zr:=az_rng (mv (zc c) 16)
       have cm:=rmean_any 0 (zc c) (some ⟨w.heap.size+1,0,none⟩) 16 16 (by decide)
       have al_:=raltitude_any (mv (zc c) 16)
       have cst:∀ u,CB u b fb gb h3 x R1.m R1.s R1.v R1.u→Calls Tryz.prog 17 #[.pointer (some ⟨b,0,none⟩)] u (RetV (.tuple #[.agg #[.int .i64 (az (mv (zc c) 16)),.int .i64 0,.int .i64 0],.agg #[.int .i64 (x 8),.int .i64 0,.int .i64 0,.int .i64 (x 9),.int .i64 0,.int .i64 (x 10)]]) u):=fun u hu=>by
            have q:=chstate_any b fb gb h3 x R1.m R1.s R1.v R1.u u hu
            rw [q1.v,q1.u] at q
            exact q
       have is:=fun u (h:IA u (w.heap.size+1) 16 (zc c) c)=>(fun k hk=>⟨w.heap.size+1,0,rfl,Nat.zero_le _,by rw [Nat.zero_add]; exact ia_done hk h⟩:IS u 0 (some ⟨w.heap.size+1,0,none⟩) 16 (zc c))
       clear q1
       generalize mv (zc c) 16=M at *
       generalize az M=z at *
       have cO:=fun u=>out_ref z zr.1 zr.2 u
       have av_rng:=evn24 (show I64 z from zr)
       generalize evn z 16777216=av at *
       go_wp2_with fail
       refine (cm _ (is _ ia3.out)).mono ?_
       rintro e_ y1 ⟨rfl,hb⟩
       clear cm is
       replace S3:=Lib.hid (lc_keep S3.out hb)
       replace cr3:=Lib.hid (cr_keep hb cr3.out)
       replace ia3:=Lib.hid (ia_chs (S:=fun _=>False) (chs_below hb) (fun q=>q) ia3.out)
       replace hV:=row_keep hb hV
       clear hb
       go_wp2_with fail
       refine (al_ _).mono ?_
       rintro e_ y2 ⟨rfl,hb⟩
       clear al_
       replace S3:=Lib.hid (lc_keep S3.out hb)
       replace cr3:=Lib.hid (cr_keep hb cr3.out)
       replace ia3:=Lib.hid (ia_chs (S:=fun _=>False) (chs_below hb) (fun q=>q) ia3.out)
       replace hV:=row_keep hb hV
       clear hb
       go_wp2_with fail
       refine (cst _ S3.out.c.c).mono ?_
       rintro e_ y5 ⟨rfl,hb⟩
       clear cst
       replace S3:=Lib.hid (lc_keep S3.out hb)
       replace cr3:=Lib.hid (cr_keep hb cr3.out)
       replace ia3:=Lib.hid (ia_chs (S:=fun _=>False) (chs_below hb) (fun q=>q) ia3.out)
       replace hV:=row_keep hb hV
       clear hb
       have b3:Below y5.heap.size y5 ((y5.alloc (Obj.cells #[.int .i64 z,.int .i64 0,.int .i64 0] 23)).alloc (Obj.cells #[.int .i64 (x 8),.int .i64 0,.int .i64 0,.int .i64 (x 9),.int .i64 0,.int .i64 (x 10)] 40)):=b_alloc (b_alloc (Below.refl _ _))
       have kV:((y5.alloc (Obj.cells #[.int .i64 z,.int .i64 0,.int .i64 0] 23)).alloc (Obj.cells #[.int .i64 (x 8),.int .i64 0,.int .i64 0,.int .i64 (x 9),.int .i64 0,.int .i64 (x 10)] 40)).heap[y5.heap.size]?=some (.cells #[.int .i64 z,.int .i64 0,.int .i64 0] 23 (0,0)):=lay_old _ _ _
       have kS:((y5.alloc (Obj.cells #[.int .i64 z,.int .i64 0,.int .i64 0] 23)).alloc (Obj.cells #[.int .i64 (x 8),.int .i64 0,.int .i64 0,.int .i64 (x 9),.int .i64 0,.int .i64 (x 10)] 40)).heap[y5.heap.size+1]?=some (.cells #[.int .i64 (x 8),.int .i64 0,.int .i64 0,.int .i64 (x 9),.int .i64 0,.int .i64 (x 10)] 40 (0,0)):=lay_new _ _ _
       replace S3:=Lib.hid (lc_keep S3.out b3)
       replace cr3:=Lib.hid (cr_keep b3 cr3.out)
       replace ia3:=Lib.hid (ia_chs (S:=fun _=>False) (chs_below b3) (fun q=>q) ia3.out)
       replace hV:=row_keep b3 hV
       clear b3
       have cr4:=cr3.out
       have x8:((y5.alloc (Obj.cells #[.int .i64 z,.int .i64 0,.int .i64 0] 23)).alloc (Obj.cells #[.int .i64 (x 8),.int .i64 0,.int .i64 0,.int .i64 (x 9),.int .i64 0,.int .i64 (x 10)] 40)).cell? ⟨w.heap.size,8,none⟩=some (.int .i64 (x 8)):=(cell_of_row _ _ 8 _ _ _ cr4).trans rfl
       have x9:((y5.alloc (Obj.cells #[.int .i64 z,.int .i64 0,.int .i64 0] 23)).alloc (Obj.cells #[.int .i64 (x 8),.int .i64 0,.int .i64 0,.int .i64 (x 9),.int .i64 0,.int .i64 (x 10)] 40)).cell? ⟨w.heap.size,9,none⟩=some (.int .i64 (x 9)):=(cell_of_row _ _ 9 _ _ _ cr4).trans rfl
       have x10:((y5.alloc (Obj.cells #[.int .i64 z,.int .i64 0,.int .i64 0] 23)).alloc (Obj.cells #[.int .i64 (x 8),.int .i64 0,.int .i64 0,.int .i64 (x 9),.int .i64 0,.int .i64 (x 10)] 40)).cell? ⟨w.heap.size,10,none⟩=some (.int .i64 (x 10)):=(cell_of_row _ _ 10 _ _ _ cr4).trans rfl
       clear cr4
       obtain ⟨d0,d1,d2,d3,d4,d5,d6,d7,d8⟩:=row9 hV
       obtain ⟨v0,v1,v2⟩:=row3 kV
       obtain ⟨u0,u1,u2,u3,u4,u5⟩:=row6 kS
       have wa:I64 av:=av_rng
       have te:=fun w=>td_eq_self (m:=1) (vd:=true) (ac:=true) (rf:=false) (ho:=false) (gr:=false) (al:=av) (sp:=0) (bi:=0) (by decide) wa (by decide) (by decide) w
       have ve:=vec_eq_self z 0 0
       have se:=vsym_eq_self (x 8) 0 0 (x 9) 0 (x 10)
       clear kV kS hV wa
       go_upto_region 23 with fail
       generalize ((y5.alloc (Obj.cells #[.int .i64 z,.int .i64 0,.int .i64 0] 23)).alloc (Obj.cells #[.int .i64 (x 8),.int .i64 0,.int .i64 0,.int .i64 (x 9),.int .i64 0,.int .i64 (x 10)] 40))=y6 at *
       generalize y5.heap.size=X9 at *
       replace d0:=cell_regrown d0
       replace d1:=cell_regrown d1
       replace d2:=cell_regrown d2
       replace d3:=cell_regrown d3
       replace d4:=cell_regrown d4
       replace d5:=cell_regrown d5
       replace d6:=cell_regrown d6
       replace d7:=cell_regrown d7
       replace d8:=cell_regrown d8
       replace v0:=cell_regrown v0
       replace v1:=cell_regrown v1
       replace v2:=cell_regrown v2
       replace u0:=cell_regrown u0
       replace u1:=cell_regrown u1
       replace u2:=cell_regrown u2
       replace u3:=cell_regrown u3
       replace u4:=cell_regrown u4
       replace u5:=cell_regrown u5
       replace x8:=cell_regrown x8
       replace x9:=cell_regrown x9
       replace x10:=cell_regrown x10
       have c2:=retV_regrown (w:=y6) cO
       clear cO
       refine wp_region_quiet_below (by kernel_rfl) (by kernel_rfl) ?_
       repeat (first | go_big_quiet_skip | (go_big_quiet_want; go_big_quiet_op; first | go_big_quiet_on | (apply Exists.intro; refine ⟨fun _=>?_,?_⟩; (with_reducible first | exact c2 _ _); go_big_quiet_on)))
       refine wpQuiet_nil ?_
       intro _ hw'
       obtain ⟨⟨dq,osq⟩,hw''⟩:=hw'
       subst hw''
       have RG:=below_regrown y6 dq osq
       have S4:=Lib.hid (lc_keep S3.out RG)
       have cr4:=Lib.hid (cr_keep RG cr3.out)
       have ia4:=Lib.hid (ia_chs (S:=fun _=>False) (chs_below RG) (fun q=>q) ia3.out)
       clear RG S3 cr3 ia3 c2 te ve se d0 d1 d2 d3 d4 d5 d6 d7 d8 v0 v1 v2 u0 u1 u2 u3 u4 u5 x8 x9 x10
       generalize Sort.grow (redrawn y6 dq) osq=y7 at *
       go_wp2
       refine ⟨⟨16,h3,R1,Nat.le_refl _,by go_num,S4,cr4,nD3,ia4,Lib.hid (fun q=>absurd q (by decide))⟩,?_⟩
       simp only [intOf]
       omega
  ·have hlk:¬ (i:Int)<16:=by omega
   go_wp2_with fail
   refine (fixed_cha _ S.out.t).mono ?_
   rintro e_ y9 ⟨rfl,hb9⟩
   go_wp2
   go_ret
   exact ⟨rfl,b_trans S.out.b hb9⟩
end Go.Proofs.YtmcchknilnejgaaGreatDoor

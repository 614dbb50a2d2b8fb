import Derived.BigQuiet
import Derived.OwnWalkIn
import Derived.DeepKeys
import Derived.Deep.RegionWith
import Derived.Deep.DeepCutAuto
import Derived.Deep.CutBlock
import Derived.LoopN
import Derived.Laws.Cover1
import Derived.ChangeKeysEq
import Derived.Orders
import Derived.RegionTactic
import Derived.Below
import Derived.StillTactics
import Derived.Laws.Pointers
import Derived.Deep.RegionHeld3
import Derived.Deep.QuietTactic
import Derived.RowKit3
import Derived.Lib.Hide
import Derived.Lib.QuietBelow
import Derived.Laws.Bits64b
import Derived.Test.YtmcchknilnejgaaGreatDoorProg
import Derived.Shelf.Spec.BitsCarry
import Derived.Shelf.Bits.Mul64
import Derived.WalkKit
import Derived.WalkSpells
import Derived.ScopeJumps
import Derived.WalkMore
import Derived.Lib.SmallJoins
import Derived.Deep.WholeRow
import Derived.BigRegion
import Derived.Laws.AppendOwn
import Derived.OwnWalk
import Derived.Defers
import Derived.Tactics
import Derived.RangeFuncNested
import Derived.RangeFuncLeaves
import Derived.RangeFuncCalls
import Derived.Shelf.Abstract
import Derived.TacticsInMore
import Derived.LoopNIn
import Derived.LoopIn
import Derived.Deep.LoopGhost
import Derived.Maps.AppendAt
import Derived.Laws.OwnMore
import Derived.Deep.AppendLies
import Derived.Test.YtmcchknilnejgaaGreatDoorPab
import Derived.Test.YtmcchknilnejgaaGreatDoorKbg
import Derived.Test.YtmcchknilnejgaaGreatDoorPad
import Derived.Test.YtmcchknilnejgaaGreatDoorKbf
import Derived.Test.YtmcchknilnejgaaGreatDoorKbe
import Derived.Test.YtmcchknilnejgaaGreatDoorKar
import Derived.Test.YtmcchknilnejgaaGreatDoorKao
import Derived.Test.YtmcchknilnejgaaGreatDoorKaj
import Derived.Test.YtmcchknilnejgaaGreatDoorKaf
import Derived.Test.YtmcchknilnejgaaGreatDoorPac
import Derived.Test.YtmcchknilnejgaaGreatDoorKae
import Derived.Test.YtmcchknilnejgaaGreatDoorKab
import Derived.Test.YtmcchknilnejgaaGreatDoorKaa
import Derived.Test.YtmcchknilnejgaaGreatDoorKad
import Derived.Test.YtmcchknilnejgaaGreatDoorKac
import Derived.Test.YtmcchknilnejgaaGreatDoorKag
import Derived.Test.YtmcchknilnejgaaGreatDoorKai
import Derived.Test.YtmcchknilnejgaaGreatDoorKah
import Derived.Test.YtmcchknilnejgaaGreatDoorKak
import Derived.Test.YtmcchknilnejgaaGreatDoorPax
import Derived.Test.YtmcchknilnejgaaGreatDoorKan
import Derived.Test.YtmcchknilnejgaaGreatDoorKap
import Derived.Test.YtmcchknilnejgaaGreatDoorPay
import Derived.Test.YtmcchknilnejgaaGreatDoorKaq
import Derived.Test.YtmcchknilnejgaaGreatDoorKas
import Derived.Test.YtmcchknilnejgaaGreatDoorKbd
import Derived.Test.YtmcchknilnejgaaGreatDoorKav
import Derived.Test.YtmcchknilnejgaaGreatDoorKau
import Derived.Test.YtmcchknilnejgaaGreatDoorKat
import Derived.Test.YtmcchknilnejgaaGreatDoorKaw
import Derived.Test.YtmcchknilnejgaaGreatDoorKax
import Derived.Test.YtmcchknilnejgaaGreatDoorKay
import Derived.Test.YtmcchknilnejgaaGreatDoorKaz
import Derived.Test.YtmcchknilnejgaaGreatDoorKbc
import Derived.Test.YtmcchknilnejgaaGreatDoorKbb
import Derived.Test.YtmcchknilnejgaaGreatDoorKba
import Derived.Test.YtmcchknilnejgaaGreatDoorPaz
import Derived.Test.YtmcchknilnejgaaGreatDoorPaa
import Derived.Test.YtmcchknilnejgaaGreatDoorPba
import Derived.Test.YtmcchknilnejgaaGreatDoorKam
set_option maxHeartbeats 16000000
set_option maxRecDepth 20000
namespace Go.Proofs.YtmcchknilnejgaaGreatDoor
open Go.RowKit Go.Shelf Go.Joins
noncomputable def itf (x:Nat→Int) (C:Cn) (a p:Nat→Int) (h s:Nat→Bool):Nat→Cn
 | 0=>C
 | k+1=>(stp x (itf x C a p h s k) (a k) (h k) (p k) (s k)).1
noncomputable def otf (x:Nat→Int) (C:Cn) (a p:Nat→Int) (h s:Nat→Bool) (k:Nat):Td:=(stp x (itf x C a p h s k) (a k) (h k) (p k) (s k)).2
theorem ok_itf {x:Nat→Int} (hx:C64 x) (ck:cks x=0) {C:Cn} (k0:Okc C) (a p:Nat→Int) (h s:Nat→Bool):∀ k,Okc (itf x C a p h s k)
 | 0=>k0
 | k+1=>ok_stp hx ck (ok_itf hx ck k0 a p h s k) _ _ _ _
theorem itf_r {x:Nat→Int} {C:Cn} (k0:0≤C.r) (a p:Nat→Int) (h s:Nat→Bool):∀ k:Nat,(itf x C a p h s k).r≤C.r+k
 | 0=>by show C.r≤C.r+((0:Nat):Int); omega
 | k+1=>by
  have i:=itf_r (x:=x) k0 a p h s k
  show (stp x (itf x C a p h s k) (a k) (h k) (p k) (s k)).1.r≤_
  rw [stp_r]
  unfold ar
  split <;> omega
theorem itf_m {x:Nat→Int} {C:Cn} (hm:0≤C.m∧C.m≤3) (a p:Nat→Int) (h s:Nat→Bool):∀ k:Nat,0≤(itf x C a p h s k).m∧(itf x C a p h s k).m≤3
 | 0=>hm
 | k+1=>stp_m (itf_m hm a p h s k) _ _ _ _
theorem tw_otf {x:Nat→Int} (hx:C64 x) (ck:cks x=0) {C:Cn} (k0:Okc C) (hm:0≤C.m∧C.m≤3) (a p:Nat→Int) (h s:Nat→Bool) (k:Nat):Tw (otf x C a p h s k):=tw_stp hx ck (ok_itf hx ck k0 a p h s k) (itf_m hm a p h s k) _ _ _ _
def Far (N:Nat) (F S:Nat→Prop):Prop:=∀ q,q<N→¬ F q→¬ S q
theorem far_0 {N:Nat} {F:Nat→Prop}:Far N F F:=fun _ _ h=>h
theorem far_step {N b fb gb s:Nat} {hl h3:Value} {F:Nat→Prop} (f:Far N F (Ow b fb gb hl)) (q3:∀ k,h3.ownBlock=some k→hl.ownBlock=some k∨s≤k) (l:N≤s):Far N F (Ow b fb gb h3):=fun q hq nf o=>by
 rcases o with o | o | o | o
 ·exact f q hq nf (Or.inl o)
 ·exact f q hq nf (Or.inr (Or.inl o))
 ·exact f q hq nf (Or.inr (Or.inr (Or.inl o)))
 ·rcases q3 q o with o | o
  ·exact f q hq nf (Or.inr (Or.inr (Or.inr o)))
  ·omega
theorem lc_chs {W U U':World} {b fb gb:Nat} {hl:Value} {x:Nat→Int} {C:Cn} {S:Nat→Prop} (h:LC W b fb gb hl x C U) (k:Chs S U U') (n:∀ q,Ow b fb gb hl q→¬ S q) (o:∀ q,S q→W.heap.size≤q) (u:∀ q,S q→Up q):LC W b fb gb hl x C U' :=
 ⟨ch_chs h.c k n,h.o,below_chs h.b k o,t3_chs k u h.t⟩
theorem lc_oth {W U U':World} {b fb gb b1 f1 g1 N:Nat} {hl h1:Value} {x:Nat→Int} {C C1:Cn} {F:Nat→Prop} (h:LC W b fb gb hl x C U) (f:LC W b1 f1 g1 h1 x C1 U) (k:Chs (Ow b1 f1 g1 h1) U U') (far:Far N F (Ow b1 f1 g1 h1)) (kn:∀ q,Ow b fb gb hl q→q<N∧¬ F q):LC W b fb gb hl x C U' :=
 lc_chs h k (fun q hq=>far q (kn q hq).1 (kn q hq).2) f.o (fun q hq=>f.c.up q hq)
theorem lc_copy {W U U':World} {n f g:Nat} {h:Value} {x:Nat→Int} {C:Cn} (B:Below W.heap.size W U) (T:Tb3 U) (c:CH U' n f g h x C) (h0:U.heap.size≤n) (h1:U.heap.size≤f) (h2:U.heap.size≤g) (h3:∀ k,h.ownBlock=some k→U.heap.size≤k) (k:Below U.heap.size U U'):LC W n f g h x C U' :=
 ⟨c,fun q hq=>by
  have:=B.size
  rcases hq with rfl | rfl | rfl | hq
  ·omega
  ·omega
  ·omega
  ·have:=h3 q hq; omega,b_trans B k,t3_keep k T⟩
theorem ow_cop {n f g s:Nat} {h:Value} (h0:s≤n) (h1:s≤f) (h2:s≤g) (h3:∀ k,h.ownBlock=some k→s≤k):∀ q,Ow n f g h q→s≤q:=fun q hq=>by
 rcases hq with rfl | rfl | rfl | hq
 ·exact h0
 ·exact h1
 ·exact h2
 ·exact h3 q hq
theorem told_own {w:World} {B n:Nat} {t:TypeId} {v:Value} {T:Nat→Td} (o:w.ownsRow B t 9 v n (trow T n)):∃ sb cap,v=.slice sb n cap∧cap≤9223372036854775807∧n≤cap∧∀ k,k<n→∃ g,sb=some ⟨g,0,none⟩∧TR9 w g n T:=by
 rcases o.2 with ⟨rfl,rfl⟩ | ⟨g,cap,cur,rfl,hB,hg,hc,hm,hs,ht⟩
 ·exact ⟨none,0,rfl,by decide,Nat.le_refl _,fun k hk=>absurd hk (Nat.not_lt_zero _)⟩
 ·exact ⟨_,cap,rfl,by unfold maxLen at hm; omega,hc,fun k _=>⟨g,rfl,tr9_own o⟩⟩
theorem told_at {w:World} {B n ct k:Nat} {t:TypeId} {st:Option Addr} {T:Nat→Td} (o:w.ownsRow B t 9 (.slice st n ct) n (trow T n)) (hk:k<n):∃ g,st=some ⟨g,0,none⟩∧TR9 w g n T:=by
 obtain ⟨sb,cap,e,_,_,h⟩:=told_own o
 injection e with e0
 obtain ⟨g,e1,q⟩:=h k hk
 exact ⟨g,e0.trans e1,q⟩
theorem csym_eq_self (x0 x1 x2 x3 x4 x5:Int) (w:World):(Op.equalIn 10000 40 (.agg #[.int .i64 x0,.int .i64 x1,.int .i64 x2,.int .i64 x3,.int .i64 x4,.int .i64 x5]) (.agg #[.int .i64 x0,.int .i64 x1,.int .i64 x2,.int .i64 x3,.int .i64 x4,.int .i64 x5])).run Tryz.prog w=.ok true w:=by
 have hs:(Tryz.prog.info? 2).isSome=true:=by kernel_rfl
 obtain ⟨i,hi⟩:=Option.isSome_iff_exists.1 hs
 have hc:Tryz.prog.cellsOf 2=1:=by kernel_rfl
 have hp:Tryz.prog.plainKey 2=true:=by kernel_rfl
 rw [run_equalIn_array w 9999 _ _ Tryz.underlying40 hi]
 rw [hc]
 have P:=fun (k:Nat) (v:Value) (h:(#[Value.int IntKind.i64 x0,Value.int IntKind.i64 x1,Value.int IntKind.i64 x2,Value.int IntKind.i64 x3,Value.int IntKind.i64 x4,Value.int IntKind.i64 x5]:Array Value)[k*1]?=some v) (w:World)=>run_part_plain w hp h
 have E:=fun (a:Int) (w:World)=>run_equalIn_int w 9998 2 .i64 .i64 a a Tryz.underlying2
 simp only [List.range,List.range.loop,Op.eqItems,Sem.run_bind,P 0 _ rfl,Result.andThen_ok]
 simp [P 1 _ rfl,P 2 _ rfl,P 3 _ rfl,P 4 _ rfl,P 5 _ rfl,E]
theorem cell_chs {S:Nat→Prop} {w w':World} (h:Chs S w w') {b o:Nat} {v:Value} (nb:¬ S b) (c:w.cell? ⟨b,o,none⟩=some v):w'.cell? ⟨b,o,none⟩=some v :=
 (World.cell?_of_block (a:=⟨b,o,none⟩) (h.block b (World.block_lt_of_cell? w _ c) nb)).trans c
theorem s13_chs {S:Nat→Prop} {u u':World} {D g o:Nat} {v0 v1 v2 v3 v4 v5 v6 v7 v8 v9 v10 v11 v12:Value} (k:Chs S u u') (nD:¬ S D) (nG:¬ S g):u.cell? ⟨D,0,none⟩=some v0∧u.cell? ⟨D,1,none⟩=some v1∧u.cell? ⟨D,2,none⟩=some v2∧u.cell? ⟨D,3,none⟩=some v3∧u.cell? ⟨g,o,none⟩=some v4∧u.cell? ⟨g,o+1,none⟩=some v5∧u.cell? ⟨g,o+2,none⟩=some v6∧u.cell? ⟨g,o+3,none⟩=some v7∧u.cell? ⟨g,o+4,none⟩=some v8∧u.cell? ⟨g,o+5,none⟩=some v9∧u.cell? ⟨g,o+6,none⟩=some v10∧u.cell? ⟨g,o+7,none⟩=some v11∧u.cell? ⟨g,o+8,none⟩=some v12→u'.cell? ⟨D,0,none⟩=some v0∧u'.cell? ⟨D,1,none⟩=some v1∧u'.cell? ⟨D,2,none⟩=some v2∧u'.cell? ⟨D,3,none⟩=some v3∧u'.cell? ⟨g,o,none⟩=some v4∧u'.cell? ⟨g,o+1,none⟩=some v5∧u'.cell? ⟨g,o+2,none⟩=some v6∧u'.cell? ⟨g,o+3,none⟩=some v7∧u'.cell? ⟨g,o+4,none⟩=some v8∧u'.cell? ⟨g,o+5,none⟩=some v9∧u'.cell? ⟨g,o+6,none⟩=some v10∧u'.cell? ⟨g,o+7,none⟩=some v11∧u'.cell? ⟨g,o+8,none⟩=some v12
 | ⟨h0,h1,h2,h3,h4,h5,h6,h7,h8,h9,h10,h11,h12⟩=>⟨cell_chs k nD h0,cell_chs k nD h1,cell_chs k nD h2,cell_chs k nD h3,cell_chs k nG h4,cell_chs k nG h5,cell_chs k nG h6,cell_chs k nG h7,cell_chs k nG h8,cell_chs k nG h9,cell_chs k nG h10,cell_chs k nG h11,cell_chs k nG h12⟩
theorem s13_keep {u u':World} {D g o:Nat} {v0 v1 v2 v3 v4 v5 v6 v7 v8 v9 v10 v11 v12:Value} (h:u.cell? ⟨D,0,none⟩=some v0∧u.cell? ⟨D,1,none⟩=some v1∧u.cell? ⟨D,2,none⟩=some v2∧u.cell? ⟨D,3,none⟩=some v3∧u.cell? ⟨g,o,none⟩=some v4∧u.cell? ⟨g,o+1,none⟩=some v5∧u.cell? ⟨g,o+2,none⟩=some v6∧u.cell? ⟨g,o+3,none⟩=some v7∧u.cell? ⟨g,o+4,none⟩=some v8∧u.cell? ⟨g,o+5,none⟩=some v9∧u.cell? ⟨g,o+6,none⟩=some v10∧u.cell? ⟨g,o+7,none⟩=some v11∧u.cell? ⟨g,o+8,none⟩=some v12) (k:Below u.heap.size u u'):u'.cell? ⟨D,0,none⟩=some v0∧u'.cell? ⟨D,1,none⟩=some v1∧u'.cell? ⟨D,2,none⟩=some v2∧u'.cell? ⟨D,3,none⟩=some v3∧u'.cell? ⟨g,o,none⟩=some v4∧u'.cell? ⟨g,o+1,none⟩=some v5∧u'.cell? ⟨g,o+2,none⟩=some v6∧u'.cell? ⟨g,o+3,none⟩=some v7∧u'.cell? ⟨g,o+4,none⟩=some v8∧u'.cell? ⟨g,o+5,none⟩=some v9∧u'.cell? ⟨g,o+6,none⟩=some v10∧u'.cell? ⟨g,o+7,none⟩=some v11∧u'.cell? ⟨g,o+8,none⟩=some v12:=s13_chs (S:=fun _=>False) (chs_below k) (fun q=>q) (fun q=>q) h
theorem channelCopies_any (x:Nat→Int) (hx:C64 x) (a p:Nat→Int) (h s:Nat→Bool) (sa:Option Addr) (len cap:Nat) (hm:cap≤9223372036854775807) (hl:len≤cap) (a2 p2:Nat→Int) (h2 s2:Nat→Bool) (sb:Option Addr) (len2 cap2:Nat) (hm2:cap2≤9223372036854775807) (hl2:len2≤cap2) (w:World) (hc:∀ k,k<len→∃ g off,sa=some ⟨g,off,none⟩∧TW w g (off+k*4) (a k) (h k) (p k) (s k)) (hc2:∀ k,k<len2→∃ g off,sb=some ⟨g,off,none⟩∧TW w g (off+k*4) (a2 k) (h2 k) (p2 k) (s2 k)) (T:Tb3 w):Calls Tryz.prog 10 #[cv x,.slice sa len cap,.slice sb len2 cap2] w (RetV (.bool true) w):=by
 by_cases ck:cks x=0
 rotate_left
 ·by_cases la:len≤200
  rotate_left
  ·have q1:(200:Int)<(len:Int):=by omega
   have cr:CR (w.alloc (Obj.cells #[.int .i64 (x 0),.int .i64 (x 1),.int .i64 (x 2),.int .i64 (x 3),.int .i64 (x 4),.int .i64 (x 5),.int .i64 (x 6),.int .i64 (x 7),.int .i64 (x 8),.int .i64 (x 9),.int .i64 (x 10),.int .i64 (x 11),.int .i64 (x 12),.int .i64 (x 13),.int .i64 (x 14),.int .i64 (x 15),.int .i64 (x 16),.int .i64 (x 17),.int .i64 (x 18),.int .i64 (x 19),.int .i64 (x 20),.int .i64 (x 21),.int .i64 (x 22),.int .i64 (x 23),.int .i64 (x 24),.int .i64 (x 25),.int .i64 (x 26),.int .i64 (x 27),.int .i64 (x 28),.int .i64 (x 29),.int .i64 (x 30)] 25)) w.heap.size x:=cr_new
   have E0:Below w.heap.size w (w.alloc (Obj.cells #[.int .i64 (x 0),.int .i64 (x 1),.int .i64 (x 2),.int .i64 (x 3),.int .i64 (x 4),.int .i64 (x 5),.int .i64 (x 6),.int .i64 (x 7),.int .i64 (x 8),.int .i64 (x 9),.int .i64 (x 10),.int .i64 (x 11),.int .i64 (x 12),.int .i64 (x 13),.int .i64 (x 14),.int .i64 (x 15),.int .i64 (x 16),.int .i64 (x 17),.int .i64 (x 18),.int .i64 (x 19),.int .i64 (x 20),.int .i64 (x 21),.int .i64 (x 22),.int .i64 (x 23),.int .i64 (x 24),.int .i64 (x 25),.int .i64 (x 26),.int .i64 (x 27),.int .i64 (x 28),.int .i64 (x 29),.int .i64 (x 30)] 25)):=b_alloc (Below.refl _ _)
   replace T:=t3_keep E0 T
   go_enter Tryz.func10,Tryz.ntmps10
   go_wp2_with (with_reducible refine stop_at (some 25) rfl ?_)
   generalize (w.alloc (Obj.cells #[.int .i64 (x 0),.int .i64 (x 1),.int .i64 (x 2),.int .i64 (x 3),.int .i64 (x 4),.int .i64 (x 5),.int .i64 (x 6),.int .i64 (x 7),.int .i64 (x 8),.int .i64 (x 9),.int .i64 (x 10),.int .i64 (x 11),.int .i64 (x 12),.int .i64 (x 13),.int .i64 (x 14),.int .i64 (x 15),.int .i64 (x 16),.int .i64 (x 17),.int .i64 (x 18),.int .i64 (x 19),.int .i64 (x 20),.int .i64 (x 21),.int .i64 (x 22),.int .i64 (x 23),.int .i64 (x 24),.int .i64 (x 25),.int .i64 (x 26),.int .i64 (x 27),.int .i64 (x 28),.int .i64 (x 29),.int .i64 (x 30)] 25))=z0 at *
   refine unstop ?_
   refine wpList_load_row rfl 25 (.tmp 3) rfl w.heap.size rfl 25 _ (0,0) _ cr Tryz.underlying25 rfl (by kernel_rfl) ?_
   go_wp2_with fail
   refine (chnew_bad x hx ck _).mono ?_
   rintro e_ y1 ⟨rfl,hb1⟩
   replace T:=t3_keep hb1 T
   replace cr:=cr_keep hb1 cr
   replace E0:=b_trans E0 hb1
   clear hb1
   obtain ⟨ce,hce⟩:∃ q,cks x=q:=⟨_,rfl⟩
   have c1:(ce != 0)=true:=by rw [← hce]; simpa using ck
   have cc:=check_any x hx
   rw [hce] at cc
   clear hce ck
   go_wp2_with fail
   refine (fixed_cha _ T).mono ?_
   rintro e_ y9 ⟨rfl,hb9⟩
   replace cr:=cr_keep hb9 cr
   replace E0:=b_trans E0 hb9
   clear hb9 T
   go_wp2_with (with_reducible refine stop_at (some 50) rfl ?_)
   refine unstop ?_
   refine wpList_load_part (by kernel_rfl) 25 (.tmp 3) rfl w.heap.size 0 rfl 25 _ #[.int .i64 (x 0),.int .i64 (x 1),.int .i64 (x 2),.int .i64 (x 3),.int .i64 (x 4),.int .i64 (x 5),.int .i64 (x 6),.int .i64 (x 7),.int .i64 (x 8),.int .i64 (x 9),.int .i64 (x 10),.int .i64 (x 11),.int .i64 (x 12),.int .i64 (x 13),.int .i64 (x 14),.int .i64 (x 15),.int .i64 (x 16),.int .i64 (x 17),.int .i64 (x 18),.int .i64 (x 19),.int .i64 (x 20),.int .i64 (x 21),.int .i64 (x 22),.int .i64 (x 23),.int .i64 (x 24),.int .i64 (x 25),.int .i64 (x 26),.int .i64 (x 27),.int .i64 (x 28),.int .i64 (x 29),.int .i64 (x 30)] (0,0) _ cr (by kernel_rfl) Tryz.underlying25 rfl (by kernel_rfl) ?_
   go_wp2_with fail
   refine (cc _).mono ?_
   rintro e_ y8 ⟨rfl,hb8⟩
   go_wp2
   go_ret
   exact ⟨rfl,b_trans E0 hb8⟩
  by_cases lb:len2≤200
  rotate_left
  ·have q1:¬ (200:Int)<(len:Int):=by omega
   have q2:(200:Int)<(len2:Int):=by omega
   have cr:CR (w.alloc (Obj.cells #[.int .i64 (x 0),.int .i64 (x 1),.int .i64 (x 2),.int .i64 (x 3),.int .i64 (x 4),.int .i64 (x 5),.int .i64 (x 6),.int .i64 (x 7),.int .i64 (x 8),.int .i64 (x 9),.int .i64 (x 10),.int .i64 (x 11),.int .i64 (x 12),.int .i64 (x 13),.int .i64 (x 14),.int .i64 (x 15),.int .i64 (x 16),.int .i64 (x 17),.int .i64 (x 18),.int .i64 (x 19),.int .i64 (x 20),.int .i64 (x 21),.int .i64 (x 22),.int .i64 (x 23),.int .i64 (x 24),.int .i64 (x 25),.int .i64 (x 26),.int .i64 (x 27),.int .i64 (x 28),.int .i64 (x 29),.int .i64 (x 30)] 25)) w.heap.size x:=cr_new
   have E0:Below w.heap.size w (w.alloc (Obj.cells #[.int .i64 (x 0),.int .i64 (x 1),.int .i64 (x 2),.int .i64 (x 3),.int .i64 (x 4),.int .i64 (x 5),.int .i64 (x 6),.int .i64 (x 7),.int .i64 (x 8),.int .i64 (x 9),.int .i64 (x 10),.int .i64 (x 11),.int .i64 (x 12),.int .i64 (x 13),.int .i64 (x 14),.int .i64 (x 15),.int .i64 (x 16),.int .i64 (x 17),.int .i64 (x 18),.int .i64 (x 19),.int .i64 (x 20),.int .i64 (x 21),.int .i64 (x 22),.int .i64 (x 23),.int .i64 (x 24),.int .i64 (x 25),.int .i64 (x 26),.int .i64 (x 27),.int .i64 (x 28),.int .i64 (x 29),.int .i64 (x 30)] 25)):=b_alloc (Below.refl _ _)
   replace T:=t3_keep E0 T
   go_enter Tryz.func10,Tryz.ntmps10
   go_wp2_with (with_reducible refine stop_at (some 25) rfl ?_)
   generalize (w.alloc (Obj.cells #[.int .i64 (x 0),.int .i64 (x 1),.int .i64 (x 2),.int .i64 (x 3),.int .i64 (x 4),.int .i64 (x 5),.int .i64 (x 6),.int .i64 (x 7),.int .i64 (x 8),.int .i64 (x 9),.int .i64 (x 10),.int .i64 (x 11),.int .i64 (x 12),.int .i64 (x 13),.int .i64 (x 14),.int .i64 (x 15),.int .i64 (x 16),.int .i64 (x 17),.int .i64 (x 18),.int .i64 (x 19),.int .i64 (x 20),.int .i64 (x 21),.int .i64 (x 22),.int .i64 (x 23),.int .i64 (x 24),.int .i64 (x 25),.int .i64 (x 26),.int .i64 (x 27),.int .i64 (x 28),.int .i64 (x 29),.int .i64 (x 30)] 25))=z0 at *
   refine unstop ?_
   refine wpList_load_row rfl 25 (.tmp 3) rfl w.heap.size rfl 25 _ (0,0) _ cr Tryz.underlying25 rfl (by kernel_rfl) ?_
   go_wp2_with fail
   refine (chnew_bad x hx ck _).mono ?_
   rintro e_ y1 ⟨rfl,hb1⟩
   replace T:=t3_keep hb1 T
   replace cr:=cr_keep hb1 cr
   replace E0:=b_trans E0 hb1
   clear hb1
   obtain ⟨ce,hce⟩:∃ q,cks x=q:=⟨_,rfl⟩
   have c1:(ce != 0)=true:=by rw [← hce]; simpa using ck
   have cc:=check_any x hx
   rw [hce] at cc
   clear hce ck
   go_wp2_with fail
   refine (fixed_cha _ T).mono ?_
   rintro e_ y9 ⟨rfl,hb9⟩
   replace cr:=cr_keep hb9 cr
   replace E0:=b_trans E0 hb9
   clear hb9 T
   go_wp2_with (with_reducible refine stop_at (some 50) rfl ?_)
   refine unstop ?_
   refine wpList_load_part (by kernel_rfl) 25 (.tmp 3) rfl w.heap.size 0 rfl 25 _ #[.int .i64 (x 0),.int .i64 (x 1),.int .i64 (x 2),.int .i64 (x 3),.int .i64 (x 4),.int .i64 (x 5),.int .i64 (x 6),.int .i64 (x 7),.int .i64 (x 8),.int .i64 (x 9),.int .i64 (x 10),.int .i64 (x 11),.int .i64 (x 12),.int .i64 (x 13),.int .i64 (x 14),.int .i64 (x 15),.int .i64 (x 16),.int .i64 (x 17),.int .i64 (x 18),.int .i64 (x 19),.int .i64 (x 20),.int .i64 (x 21),.int .i64 (x 22),.int .i64 (x 23),.int .i64 (x 24),.int .i64 (x 25),.int .i64 (x 26),.int .i64 (x 27),.int .i64 (x 28),.int .i64 (x 29),.int .i64 (x 30)] (0,0) _ cr (by kernel_rfl) Tryz.underlying25 rfl (by kernel_rfl) ?_
   go_wp2_with fail
   refine (cc _).mono ?_
   rintro e_ y8 ⟨rfl,hb8⟩
   go_wp2
   go_ret
   exact ⟨rfl,b_trans E0 hb8⟩
  have q1:¬ (200:Int)<(len:Int):=by omega
  have q2:¬ (200:Int)<(len2:Int):=by omega
  have cr:CR (w.alloc (Obj.cells #[.int .i64 (x 0),.int .i64 (x 1),.int .i64 (x 2),.int .i64 (x 3),.int .i64 (x 4),.int .i64 (x 5),.int .i64 (x 6),.int .i64 (x 7),.int .i64 (x 8),.int .i64 (x 9),.int .i64 (x 10),.int .i64 (x 11),.int .i64 (x 12),.int .i64 (x 13),.int .i64 (x 14),.int .i64 (x 15),.int .i64 (x 16),.int .i64 (x 17),.int .i64 (x 18),.int .i64 (x 19),.int .i64 (x 20),.int .i64 (x 21),.int .i64 (x 22),.int .i64 (x 23),.int .i64 (x 24),.int .i64 (x 25),.int .i64 (x 26),.int .i64 (x 27),.int .i64 (x 28),.int .i64 (x 29),.int .i64 (x 30)] 25)) w.heap.size x:=cr_new
  have E0:Below w.heap.size w (w.alloc (Obj.cells #[.int .i64 (x 0),.int .i64 (x 1),.int .i64 (x 2),.int .i64 (x 3),.int .i64 (x 4),.int .i64 (x 5),.int .i64 (x 6),.int .i64 (x 7),.int .i64 (x 8),.int .i64 (x 9),.int .i64 (x 10),.int .i64 (x 11),.int .i64 (x 12),.int .i64 (x 13),.int .i64 (x 14),.int .i64 (x 15),.int .i64 (x 16),.int .i64 (x 17),.int .i64 (x 18),.int .i64 (x 19),.int .i64 (x 20),.int .i64 (x 21),.int .i64 (x 22),.int .i64 (x 23),.int .i64 (x 24),.int .i64 (x 25),.int .i64 (x 26),.int .i64 (x 27),.int .i64 (x 28),.int .i64 (x 29),.int .i64 (x 30)] 25)):=b_alloc (Below.refl _ _)
  replace T:=t3_keep E0 T
  go_enter Tryz.func10,Tryz.ntmps10
  go_wp2_with (with_reducible refine stop_at (some 25) rfl ?_)
  generalize (w.alloc (Obj.cells #[.int .i64 (x 0),.int .i64 (x 1),.int .i64 (x 2),.int .i64 (x 3),.int .i64 (x 4),.int .i64 (x 5),.int .i64 (x 6),.int .i64 (x 7),.int .i64 (x 8),.int .i64 (x 9),.int .i64 (x 10),.int .i64 (x 11),.int .i64 (x 12),.int .i64 (x 13),.int .i64 (x 14),.int .i64 (x 15),.int .i64 (x 16),.int .i64 (x 17),.int .i64 (x 18),.int .i64 (x 19),.int .i64 (x 20),.int .i64 (x 21),.int .i64 (x 22),.int .i64 (x 23),.int .i64 (x 24),.int .i64 (x 25),.int .i64 (x 26),.int .i64 (x 27),.int .i64 (x 28),.int .i64 (x 29),.int .i64 (x 30)] 25))=z0 at *
  refine unstop ?_
  refine wpList_load_row rfl 25 (.tmp 3) rfl w.heap.size rfl 25 _ (0,0) _ cr Tryz.underlying25 rfl (by kernel_rfl) ?_
  go_wp2_with fail
  refine (chnew_bad x hx ck _).mono ?_
  rintro e_ y1 ⟨rfl,hb1⟩
  replace T:=t3_keep hb1 T
  replace cr:=cr_keep hb1 cr
  replace E0:=b_trans E0 hb1
  clear hb1
  obtain ⟨ce,hce⟩:∃ q,cks x=q:=⟨_,rfl⟩
  have c1:(ce != 0)=true:=by rw [← hce]; simpa using ck
  have cc:=check_any x hx
  rw [hce] at cc
  clear hce ck
  go_wp2_with fail
  refine (fixed_cha _ T).mono ?_
  rintro e_ y9 ⟨rfl,hb9⟩
  replace cr:=cr_keep hb9 cr
  replace E0:=b_trans E0 hb9
  clear hb9 T
  go_wp2_with (with_reducible refine stop_at (some 50) rfl ?_)
  refine unstop ?_
  refine wpList_load_part (by kernel_rfl) 25 (.tmp 3) rfl w.heap.size 0 rfl 25 _ #[.int .i64 (x 0),.int .i64 (x 1),.int .i64 (x 2),.int .i64 (x 3),.int .i64 (x 4),.int .i64 (x 5),.int .i64 (x 6),.int .i64 (x 7),.int .i64 (x 8),.int .i64 (x 9),.int .i64 (x 10),.int .i64 (x 11),.int .i64 (x 12),.int .i64 (x 13),.int .i64 (x 14),.int .i64 (x 15),.int .i64 (x 16),.int .i64 (x 17),.int .i64 (x 18),.int .i64 (x 19),.int .i64 (x 20),.int .i64 (x 21),.int .i64 (x 22),.int .i64 (x 23),.int .i64 (x 24),.int .i64 (x 25),.int .i64 (x 26),.int .i64 (x 27),.int .i64 (x 28),.int .i64 (x 29),.int .i64 (x 30)] (0,0) _ cr (by kernel_rfl) Tryz.underlying25 rfl (by kernel_rfl) ?_
  go_wp2_with fail
  refine (cc _).mono ?_
  rintro e_ y8 ⟨rfl,hb8⟩
  go_wp2
  go_ret
  exact ⟨rfl,b_trans E0 hb8⟩
 by_cases la:len≤200
 rotate_left
 ·have q1:(200:Int)<(len:Int):=by omega
  have cr:CR (w.alloc (Obj.cells #[.int .i64 (x 0),.int .i64 (x 1),.int .i64 (x 2),.int .i64 (x 3),.int .i64 (x 4),.int .i64 (x 5),.int .i64 (x 6),.int .i64 (x 7),.int .i64 (x 8),.int .i64 (x 9),.int .i64 (x 10),.int .i64 (x 11),.int .i64 (x 12),.int .i64 (x 13),.int .i64 (x 14),.int .i64 (x 15),.int .i64 (x 16),.int .i64 (x 17),.int .i64 (x 18),.int .i64 (x 19),.int .i64 (x 20),.int .i64 (x 21),.int .i64 (x 22),.int .i64 (x 23),.int .i64 (x 24),.int .i64 (x 25),.int .i64 (x 26),.int .i64 (x 27),.int .i64 (x 28),.int .i64 (x 29),.int .i64 (x 30)] 25)) w.heap.size x:=cr_new
  have E0:Below w.heap.size w (w.alloc (Obj.cells #[.int .i64 (x 0),.int .i64 (x 1),.int .i64 (x 2),.int .i64 (x 3),.int .i64 (x 4),.int .i64 (x 5),.int .i64 (x 6),.int .i64 (x 7),.int .i64 (x 8),.int .i64 (x 9),.int .i64 (x 10),.int .i64 (x 11),.int .i64 (x 12),.int .i64 (x 13),.int .i64 (x 14),.int .i64 (x 15),.int .i64 (x 16),.int .i64 (x 17),.int .i64 (x 18),.int .i64 (x 19),.int .i64 (x 20),.int .i64 (x 21),.int .i64 (x 22),.int .i64 (x 23),.int .i64 (x 24),.int .i64 (x 25),.int .i64 (x 26),.int .i64 (x 27),.int .i64 (x 28),.int .i64 (x 29),.int .i64 (x 30)] 25)):=b_alloc (Below.refl _ _)
  replace T:=t3_keep E0 T
  go_enter Tryz.func10,Tryz.ntmps10
  go_wp2_with (with_reducible refine stop_at (some 25) rfl ?_)
  generalize (w.alloc (Obj.cells #[.int .i64 (x 0),.int .i64 (x 1),.int .i64 (x 2),.int .i64 (x 3),.int .i64 (x 4),.int .i64 (x 5),.int .i64 (x 6),.int .i64 (x 7),.int .i64 (x 8),.int .i64 (x 9),.int .i64 (x 10),.int .i64 (x 11),.int .i64 (x 12),.int .i64 (x 13),.int .i64 (x 14),.int .i64 (x 15),.int .i64 (x 16),.int .i64 (x 17),.int .i64 (x 18),.int .i64 (x 19),.int .i64 (x 20),.int .i64 (x 21),.int .i64 (x 22),.int .i64 (x 23),.int .i64 (x 24),.int .i64 (x 25),.int .i64 (x 26),.int .i64 (x 27),.int .i64 (x 28),.int .i64 (x 29),.int .i64 (x 30)] 25))=z0 at *
  refine unstop ?_
  refine wpList_load_row rfl 25 (.tmp 3) rfl w.heap.size rfl 25 _ (0,0) _ cr Tryz.underlying25 rfl (by kernel_rfl) ?_
  go_wp2_with fail
  refine (chnew_ok x hx ck _ T).mono ?_
  rintro e_ y1 ⟨b,fb,gb,rfl,c0,h0,h1,h2,hb1⟩
  replace T:=t3_keep hb1 T
  replace E0:=b_trans E0 hb1
  clear hb1 c0 h0 h1 h2
  go_wp2_with fail
  refine (fixed_cha _ T).mono ?_
  rintro e_ y9 ⟨rfl,hb9⟩
  go_wp2
  go_ret
  exact ⟨rfl,b_trans E0 hb9⟩
 by_cases lb:len2≤200
 rotate_left
 ·have q1:¬ (200:Int)<(len:Int):=by omega
  have q2:(200:Int)<(len2:Int):=by omega
  have cr:CR (w.alloc (Obj.cells #[.int .i64 (x 0),.int .i64 (x 1),.int .i64 (x 2),.int .i64 (x 3),.int .i64 (x 4),.int .i64 (x 5),.int .i64 (x 6),.int .i64 (x 7),.int .i64 (x 8),.int .i64 (x 9),.int .i64 (x 10),.int .i64 (x 11),.int .i64 (x 12),.int .i64 (x 13),.int .i64 (x 14),.int .i64 (x 15),.int .i64 (x 16),.int .i64 (x 17),.int .i64 (x 18),.int .i64 (x 19),.int .i64 (x 20),.int .i64 (x 21),.int .i64 (x 22),.int .i64 (x 23),.int .i64 (x 24),.int .i64 (x 25),.int .i64 (x 26),.int .i64 (x 27),.int .i64 (x 28),.int .i64 (x 29),.int .i64 (x 30)] 25)) w.heap.size x:=cr_new
  have E0:Below w.heap.size w (w.alloc (Obj.cells #[.int .i64 (x 0),.int .i64 (x 1),.int .i64 (x 2),.int .i64 (x 3),.int .i64 (x 4),.int .i64 (x 5),.int .i64 (x 6),.int .i64 (x 7),.int .i64 (x 8),.int .i64 (x 9),.int .i64 (x 10),.int .i64 (x 11),.int .i64 (x 12),.int .i64 (x 13),.int .i64 (x 14),.int .i64 (x 15),.int .i64 (x 16),.int .i64 (x 17),.int .i64 (x 18),.int .i64 (x 19),.int .i64 (x 20),.int .i64 (x 21),.int .i64 (x 22),.int .i64 (x 23),.int .i64 (x 24),.int .i64 (x 25),.int .i64 (x 26),.int .i64 (x 27),.int .i64 (x 28),.int .i64 (x 29),.int .i64 (x 30)] 25)):=b_alloc (Below.refl _ _)
  replace T:=t3_keep E0 T
  go_enter Tryz.func10,Tryz.ntmps10
  go_wp2_with (with_reducible refine stop_at (some 25) rfl ?_)
  generalize (w.alloc (Obj.cells #[.int .i64 (x 0),.int .i64 (x 1),.int .i64 (x 2),.int .i64 (x 3),.int .i64 (x 4),.int .i64 (x 5),.int .i64 (x 6),.int .i64 (x 7),.int .i64 (x 8),.int .i64 (x 9),.int .i64 (x 10),.int .i64 (x 11),.int .i64 (x 12),.int .i64 (x 13),.int .i64 (x 14),.int .i64 (x 15),.int .i64 (x 16),.int .i64 (x 17),.int .i64 (x 18),.int .i64 (x 19),.int .i64 (x 20),.int .i64 (x 21),.int .i64 (x 22),.int .i64 (x 23),.int .i64 (x 24),.int .i64 (x 25),.int .i64 (x 26),.int .i64 (x 27),.int .i64 (x 28),.int .i64 (x 29),.int .i64 (x 30)] 25))=z0 at *
  refine unstop ?_
  refine wpList_load_row rfl 25 (.tmp 3) rfl w.heap.size rfl 25 _ (0,0) _ cr Tryz.underlying25 rfl (by kernel_rfl) ?_
  go_wp2_with fail
  refine (chnew_ok x hx ck _ T).mono ?_
  rintro e_ y1 ⟨b,fb,gb,rfl,c0,h0,h1,h2,hb1⟩
  replace T:=t3_keep hb1 T
  replace E0:=b_trans E0 hb1
  clear hb1 c0 h0 h1 h2
  go_wp2_with fail
  refine (fixed_cha _ T).mono ?_
  rintro e_ y9 ⟨rfl,hb9⟩
  go_wp2
  go_ret
  exact ⟨rfl,b_trans E0 hb9⟩
 have q1:¬ (200:Int)<(len:Int):=by omega
 have q2:¬ (200:Int)<(len2:Int):=by omega
 have cr:CR (w.alloc (Obj.cells #[.int .i64 (x 0),.int .i64 (x 1),.int .i64 (x 2),.int .i64 (x 3),.int .i64 (x 4),.int .i64 (x 5),.int .i64 (x 6),.int .i64 (x 7),.int .i64 (x 8),.int .i64 (x 9),.int .i64 (x 10),.int .i64 (x 11),.int .i64 (x 12),.int .i64 (x 13),.int .i64 (x 14),.int .i64 (x 15),.int .i64 (x 16),.int .i64 (x 17),.int .i64 (x 18),.int .i64 (x 19),.int .i64 (x 20),.int .i64 (x 21),.int .i64 (x 22),.int .i64 (x 23),.int .i64 (x 24),.int .i64 (x 25),.int .i64 (x 26),.int .i64 (x 27),.int .i64 (x 28),.int .i64 (x 29),.int .i64 (x 30)] 25)) w.heap.size x:=cr_new
 have E0:Below w.heap.size w (w.alloc (Obj.cells #[.int .i64 (x 0),.int .i64 (x 1),.int .i64 (x 2),.int .i64 (x 3),.int .i64 (x 4),.int .i64 (x 5),.int .i64 (x 6),.int .i64 (x 7),.int .i64 (x 8),.int .i64 (x 9),.int .i64 (x 10),.int .i64 (x 11),.int .i64 (x 12),.int .i64 (x 13),.int .i64 (x 14),.int .i64 (x 15),.int .i64 (x 16),.int .i64 (x 17),.int .i64 (x 18),.int .i64 (x 19),.int .i64 (x 20),.int .i64 (x 21),.int .i64 (x 22),.int .i64 (x 23),.int .i64 (x 24),.int .i64 (x 25),.int .i64 (x 26),.int .i64 (x 27),.int .i64 (x 28),.int .i64 (x 29),.int .i64 (x 30)] 25)):=b_alloc (Below.refl _ _)
 replace T:=t3_keep E0 T
 go_enter Tryz.func10,Tryz.ntmps10
 go_wp2_with (with_reducible refine stop_at (some 25) rfl ?_)
 generalize (w.alloc (Obj.cells #[.int .i64 (x 0),.int .i64 (x 1),.int .i64 (x 2),.int .i64 (x 3),.int .i64 (x 4),.int .i64 (x 5),.int .i64 (x 6),.int .i64 (x 7),.int .i64 (x 8),.int .i64 (x 9),.int .i64 (x 10),.int .i64 (x 11),.int .i64 (x 12),.int .i64 (x 13),.int .i64 (x 14),.int .i64 (x 15),.int .i64 (x 16),.int .i64 (x 17),.int .i64 (x 18),.int .i64 (x 19),.int .i64 (x 20),.int .i64 (x 21),.int .i64 (x 22),.int .i64 (x 23),.int .i64 (x 24),.int .i64 (x 25),.int .i64 (x 26),.int .i64 (x 27),.int .i64 (x 28),.int .i64 (x 29),.int .i64 (x 30)] 25))=z0 at *
 refine unstop ?_
 refine wpList_load_row rfl 25 (.tmp 3) rfl w.heap.size rfl 25 _ (0,0) _ cr Tryz.underlying25 rfl (by kernel_rfl) ?_
 go_wp2_with fail
 refine (chnew_ok x hx ck _ T).mono ?_
 rintro e_ y1 ⟨b,fb,gb,rfl,c0,h0,h1,h2_,hb1⟩
 have S:=Lib.hid (lc_new (Below.refl _ _) T c0 h0 h1 h2_ hb1)
 clear T c0 h0 h1 h2_ hb1 cr
 go_wp2
 clear q1 q2
 go_loopw [57] (fun iv wr=>∃ (k:Nat) (h1:Value),k≤len∧iv=.int .i64 k∧Hid (LC z0 b fb gb h1 x (itr x a p h s k) wr)) (fun iv _=>len - (intOf iv).toNat)
 case atStart=>exact ⟨0,_,Nat.zero_le _,rfl,S⟩
 case round =>
  clear S
  obtain ⟨k,h1,hk,rfl,S⟩:=hrel
  by_cases hlt:k<len
  ·obtain ⟨gs,off,rfl,tw⟩:=hc k hlt
   have gl:gs<w.heap.size:=World.block_lt_of_cell? w _ tw.1
   replace tw:=tw_keep (b_trans E0 S.out.b) tw
   have hlk:(k:Int)<len:=by omega
   have hk0:(0:Int)≤k:=by omega
   have hk1:(0:Int)≤(k:Int)+1:=by omega
   have hk2:(k:Int)+1≤cap:=by omega
   have ws:IntKind.i64.wrap ((k:Int)+1)=(k:Int)+1:=by rw [IntKind.wrap_i64]; omega
   have tn:((k:Int)+1).toNat=k+1:=by omega
   have ro:=itr_r x a p h s k
   have ok:=ok_itr hx ck a p h s k
   have Z:Below wr.heap.size wr (wr.alloc (Obj.cells #[.int .i64 (a k),.bool (h k),.int .i64 (p k),.bool (s k)] 49)):=b_alloc (Below.refl _ _)
   have S1:=Lib.hid (lc_keep S.out Z)
   have cs:=step_any (b:=b) (fb:=fb) (gb:=gb) (hl:=h1) hx ck (C:=(itr x a p h s k)) ok (by omega) (a k) (h k) (p k) (s k) _ S1.out.c S1.out.t
   replace hlt:=Lib.hid hlt
   obtain ⟨t0,t1,t2,t3⟩:=tw
   clear ro ok Z S
   go_wp2_with fail
   refine cs.mono ?_
   rintro e_ y3 ⟨rfl,h2_,c2,q2,k2⟩
   have S2:=Lib.hid (lc_step S1.out c2 q2 k2)
   clear cs c2 q2 k2 S1 t0 t1 t2 t3
   go_wp2
   refine ⟨⟨k+1,h2_,hlt.out,by go_num,S2⟩,?_⟩
   simp only [intOf]
   have:=hlt.out
   omega
  ·have hlk:¬ (k:Int)<len:=by omega
   obtain rfl:k=len:=by omega
   have ok0:=Lib.hid (ok_itr hx ck a p h s k)
   have r0:=itr_r x a p h s k
   have m0:=itr_m x a p h s k
   have n15:=ok0.out.n
   generalize itr x a p h s k=C0 at *
   clear hc hlt hk
   go_wp2_with fail
   refine (chcopy_any b fb gb h1 x C0 (by omega) ok0.out.g _ S.out.c S.out.t).mono ?_
   rintro e_ u1 ⟨n1,f1,g1,v1,rfl,cc,i0,i1,i2,i3,hb⟩
   have O1:=Lib.hid (ow_cop i0 i1 i2 i3)
   have K1:=Lib.hid (ch_own S.out.c)
   have A1:=Lib.hid (ch_own cc)
   have L1:=Lib.hid (lc_copy S.out.b S.out.t cc i0 i1 i2 i3 hb)
   replace S:=Lib.hid (lc_keep S.out hb)
   have sz1:=hb.size
   clear cc i0 i1 i2 i3 hb
   generalize wr.heap.size=M at *
   go_wp2_with fail
   refine (chcopy_any b fb gb h1 x C0 (by omega) ok0.out.g u1 S.out.c S.out.t).mono ?_
   rintro e_ u2 ⟨n2,f2,g2,v2,rfl,cc,i0,i1,i2,i3,hb⟩
   have O2:=Lib.hid (ow_cop i0 i1 i2 i3)
   have A2:=Lib.hid (ch_own cc)
   have L2:=Lib.hid (lc_copy S.out.b S.out.t cc i0 i1 i2 i3 hb)
   replace S:=Lib.hid (lc_keep S.out hb)
   replace L1:=Lib.hid (lc_keep L1.out hb)
   have sz2:=hb.size
   clear cc i0 i1 i2 i3 hb
   generalize u1.heap.size=M1 at *
   go_wp2_with fail
   refine (chstate_any b fb gb h1 x C0.m C0.s C0.v C0.u _ S.out.c.c).mono ?_
   rintro e_ u3 ⟨rfl,hb⟩
   have sz3:=hb.size
   replace S:=Lib.hid (lc_keep S.out hb)
   replace L1:=Lib.hid (lc_keep L1.out hb)
   replace L2:=Lib.hid (lc_keep L2.out hb)
   clear hb
   have b3:Below u3.heap.size u3 ((u3.alloc (Obj.cells #[.int .i64 (C0.v 0),.int .i64 (C0.v 1),.int .i64 (C0.v 2)] 23)).alloc (Obj.cells #[.int .i64 (C0.u 0),.int .i64 (C0.u 1),.int .i64 (C0.u 2),.int .i64 (C0.u 3),.int .i64 (C0.u 4),.int .i64 (C0.u 5)] 40)):=b_alloc (b_alloc (Below.refl _ _))
   have kV:VR ((u3.alloc (Obj.cells #[.int .i64 (C0.v 0),.int .i64 (C0.v 1),.int .i64 (C0.v 2)] 23)).alloc (Obj.cells #[.int .i64 (C0.u 0),.int .i64 (C0.u 1),.int .i64 (C0.u 2),.int .i64 (C0.u 3),.int .i64 (C0.u 4),.int .i64 (C0.u 5)] 40)) u3.heap.size C0.v:=lay_old _ _ _
   have kS:((u3.alloc (Obj.cells #[.int .i64 (C0.v 0),.int .i64 (C0.v 1),.int .i64 (C0.v 2)] 23)).alloc (Obj.cells #[.int .i64 (C0.u 0),.int .i64 (C0.u 1),.int .i64 (C0.u 2),.int .i64 (C0.u 3),.int .i64 (C0.u 4),.int .i64 (C0.u 5)] 40)).heap[u3.heap.size+1]?=some (.cells #[.int .i64 (C0.u 0),.int .i64 (C0.u 1),.int .i64 (C0.u 2),.int .i64 (C0.u 3),.int .i64 (C0.u 4),.int .i64 (C0.u 5)] 40 (0,0)):=lay_new _ _ _
   replace S:=Lib.hid (lc_keep S.out b3)
   replace L1:=Lib.hid (lc_keep L1.out b3)
   replace L2:=Lib.hid (lc_keep L2.out b3)
   replace kV:=Lib.hid kV
   replace kS:=Lib.hid kS
   have sz4:((u3.alloc (Obj.cells #[.int .i64 (C0.v 0),.int .i64 (C0.v 1),.int .i64 (C0.v 2)] 23)).alloc (Obj.cells #[.int .i64 (C0.u 0),.int .i64 (C0.u 1),.int .i64 (C0.u 2),.int .i64 (C0.u 3),.int .i64 (C0.u 4),.int .i64 (C0.u 5)] 40)).heap.size=u3.heap.size+2:=by simp
   clear b3
   go_wp2
   generalize ((u3.alloc (Obj.cells #[.int .i64 (C0.v 0),.int .i64 (C0.v 1),.int .i64 (C0.v 2)] 23)).alloc (Obj.cells #[.int .i64 (C0.u 0),.int .i64 (C0.u 1),.int .i64 (C0.u 2),.int .i64 (C0.u 3),.int .i64 (C0.u 4),.int .i64 (C0.u 5)] 40))=u4 at *
   generalize u2.heap.size=M2 at *
   generalize u3.heap.size=V at *
   have uN:Hid (Up u4.heap.size):=Lib.hid (up_of S.out.t (Nat.le_refl _))
   generalize hN:u4.heap.size=N at *
   replace hN:=Lib.hid hN
   have kn1:Hid (∀ q,Ow b fb gb h1 q→q<N∧¬ Ow n1 f1 g1 v1 q):=Lib.hid (fun q hq=>⟨by have:=K1.out q hq; omega,fun e=>by have:=K1.out q hq; have:=O1.out q e; omega⟩)
   have kn2:Hid (∀ q,Ow n2 f2 g2 v2 q→q<N∧¬ Ow n1 f1 g1 v1 q):=Lib.hid (fun q hq=>⟨by have:=A2.out q hq; omega,fun e=>by have:=O2.out q hq; have:=A1.out q e; omega⟩)
   have kn3:Hid (∀ q,Ow b fb gb h1 q→q<N∧¬ Ow n2 f2 g2 v2 q):=Lib.hid (fun q hq=>⟨by have:=K1.out q hq; omega,fun e=>by have:=K1.out q hq; have:=O2.out q e; omega⟩)
   have vn:Hid (V+1<N∧¬ Ow n1 f1 g1 v1 V∧¬ Ow n1 f1 g1 v1 (V+1)):=Lib.hid ⟨by omega,fun e=>by have:=A1.out _ e; omega,fun e=>by have:=A1.out _ e; omega⟩
   have zN:z0.heap.size≤N:=by have:=S.out.b.size; have:=hN.out; omega
   clear O1 K1 A1 O2 A2 sz1 sz2 sz3 sz4 hlk n15
   obtain ⟨i0,hi,hz0,hz1,hz2⟩:=info_parts info_told
   have tws:=Lib.hid (tw_otf hx ck ok0.out m0 a2 p2 h2 s2)
   have oki:=Lib.hid (ok_itf hx ck ok0.out a2 p2 h2 s2)
   have ri:=Lib.hid (itf_r (x:=x) ok0.out.r a2 p2 h2 s2)
   clear m0 ok0
   have nN:Hid (N≤u4.heap.size):=Lib.hid (Nat.le_of_eq hN.out.symm)
   replace hc2:=Lib.hid hc2
   replace E0:=Lib.hid E0
   go_loopw [15,82] (fun tv_ iv wr=>∃ (j:Nat) (hf ov:Value),j≤len2∧iv=.int .i64 j∧ov=tv_∧Hid (LC z0 n1 f1 g1 hf x (itf x C0 a2 p2 h2 s2 j) wr)∧Hid (Far N (Ow n1 f1 g1 v1) (Ow n1 f1 g1 hf))∧Hid (LC z0 b fb gb h1 x C0 wr)∧Hid (LC z0 n2 f2 g2 v2 x C0 wr)∧Hid (VR wr V C0.v)∧Hid (wr.heap[V+1]?=some (.cells #[.int .i64 (C0.u 0),.int .i64 (C0.u 1),.int .i64 (C0.u 2),.int .i64 (C0.u 3),.int .i64 (C0.u 4),.int .i64 (C0.u 5)] 40 (0,0)))∧Hid (wr.ownsRow N 51 9 ov j (trow (otf x C0 a2 p2 h2 s2) j))∧Hid (∀ q,ov.ownBlock=some q→¬ Ow n1 f1 g1 hf q)∧Hid (N≤wr.heap.size)) (fun _ iv _=>len2 - (intOf iv).toNat)
   case atStart=>exact ⟨0,_,_,Nat.zero_le _,rfl,rfl,L1,Lib.hid far_0,S,L2,kV,kS,Lib.hid ⟨rfl,Or.inl ⟨rfl,rfl⟩⟩,Lib.hid (fun q hq=>by cases hq),nN⟩
   case round =>
    clear S L1 L2 kV kS nN hN
    obtain ⟨j,hf,ov,hj,rfl,rfl,L1,far,S,L2,kV,kS,HO,nd,nN⟩:=hrel
    by_cases hlt:j<len2
    ·obtain ⟨gs,off,rfl,tw⟩:=hc2.out j hlt
     have gl:gs<w.heap.size:=World.block_lt_of_cell? w _ tw.1
     replace tw:=tw_keep (b_trans E0.out L1.out.b) tw
     have hlk:(j:Int)<len2:=by omega
     have hk0:(0:Int)≤j:=by omega
     have hk1:(0:Int)≤(j:Int)+1:=by omega
     have hk2:(j:Int)+1≤cap2:=by omega
     have ws:IntKind.i64.wrap ((j:Int)+1)=(j:Int)+1:=by rw [IntKind.wrap_i64]; omega
     have tn:((j:Int)+1).toNat=j+1:=by omega
     have ro:=ri.out j
     have ok:=oki.out j
     have Z:Below wr.heap.size wr (wr.alloc (Obj.cells #[.int .i64 (a2 j),.bool (h2 j),.int .i64 (p2 j),.bool (s2 j)] 49)):=b_alloc (Below.refl _ _)
     have S1:=Lib.hid (lc_keep L1.out Z)
     have K1:=Lib.hid (lc_keep S.out Z)
     have K2:=Lib.hid (lc_keep L2.out Z)
     have kV1:=Lib.hid (row_keep Z kV.out)
     have kS1:=Lib.hid (row_keep Z kS.out)
     have HO1:=Lib.hid (own_chs (S:=fun _=>False) (chs_below Z) (fun _ _ q=>q) HO.out)
     have lo:=Lib.hid (fun q (hq:ov.ownBlock=some q)=>(HO.out.lt q hq).2)
     have cs:=step_any (b:=n1) (fb:=f1) (gb:=g1) (hl:=hf) hx ck (C:=(itf x C0 a2 p2 h2 s2 j)) ok (by omega) (a2 j) (h2 j) (p2 j) (s2 j) _ S1.out.c S1.out.t
     replace hlt:=Lib.hid hlt
     obtain ⟨t0,t1,t2,t3⟩:=tw
     have lA:wr.heap.size≤(wr.alloc (Obj.cells #[.int .i64 (a2 j),.bool (h2 j),.int .i64 (p2 j),.bool (s2 j)] 49)).heap.size:=by simp
     clear ro ok Z L1 S L2 kV kS HO
     go_wp2_with fail
     refine cs.mono ?_
     rintro e_ y3 ⟨rfl,h3,c3,q3,k3⟩
     have S3:=lc_step S1.out c3 q3 k3
     have K3:=lc_oth K1.out S1.out k3 far.out kn1.out
     have L3:=lc_oth K2.out S1.out k3 far.out kn2.out
     have kV3:=chs_row k3 (far.out V (by have:=vn.out.1; omega) vn.out.2.1) kV1.out
     have kS3:=chs_row k3 (far.out (V+1) vn.out.1 vn.out.2.2) kS1.out
     have HO3:=own_chs k3 nd.out HO1.out
     have far3:=Lib.hid (far_step far.out q3 (Nat.le_trans nN.out lA))
     have nd3:Hid (∀ q,ov.ownBlock=some q→¬ Ow n1 f1 g1 h3 q):=Lib.hid (fun q hq o=>by
      rcases o with o | o | o | o
      ·exact nd.out q hq (Or.inl o)
      ·exact nd.out q hq (Or.inr (Or.inl o))
      ·exact nd.out q hq (Or.inr (Or.inr (Or.inl o)))
      ·rcases q3 q o with o | o
       ·exact nd.out q hq (Or.inr (Or.inr (Or.inr o)))
       ·have:=lo.out q hq
        omega)
     have nN3:Hid (N≤y3.heap.size):=Lib.hid (Nat.le_trans nN.out (Nat.le_trans lA k3.size))
     clear cs c3 q3 k3 S1 K1 K2 kV1 kS1 HO1 lA lo nd nN far t0 t1 t2 t3
     obtain ⟨R,hR⟩:∃ R,stp x (itf x C0 a2 p2 h2 s2 j) (a2 j) (h2 j) (p2 j) (s2 j)=R:=⟨_,rfl⟩
     have eI:Hid ((itf x C0 a2 p2 h2 s2 (j+1))=R.1):=Lib.hid (by rw [← hR]; rfl)
     have eO:Hid (trow (otf x C0 a2 p2 h2 s2) (j+1)=trow (otf x C0 a2 p2 h2 s2) j ++ tdl R.2):=Lib.hid (by rw [← hR]; rfl)
     rw [hR] at S3 ⊢
     clear hR
     obtain ⟨R1,R2⟩:=R
     dsimp only at S3 eI eO ⊢
     have Z2:Below y3.heap.size y3 (y3.alloc (Obj.cells #[.int .i64 R2.m,.bool R2.vd,.bool R2.ac,.bool R2.rf,.bool R2.hl,.bool R2.gr,.int .i64 R2.al,.int .i64 R2.sp,.int .i64 R2.bi] 51)):=b_alloc (Below.refl _ _)
     replace S3:=Lib.hid (lc_keep S3 Z2)
     replace K3:=Lib.hid (lc_keep K3 Z2)
     replace L3:=Lib.hid (lc_keep L3 Z2)
     replace kV3:=Lib.hid (row_keep Z2 kV3)
     replace kS3:=Lib.hid (row_keep Z2 kS3)
     replace HO3:=Lib.hid HO3
     have nN4:=Lib.hid (Nat.le_trans nN3.out Z2.size)
     clear Z2
     generalize trow (otf x C0 a2 p2 h2 s2) j=xs at *
     go_wp2_with (with_reducible refine stop_at (some 91) rfl ?_)
     refine unstop ?_
     refine wpList_append_own_at _ rfl (.tmp 86) (.tmp 90) 45 rfl N 51 i0 (tdv 0 false false false false false 0 0 0) 9 40 Tryz.underlying45 hi hz0 hz1 hz2 rfl (by decide) ov j xs rfl (HO3.out.alloc _) ⟨y3.heap.size,0,none⟩ 1 1 (tdl R2) rfl rfl (td_new _ _ _) (fun u hu=>by simp at hu; rcases hu with rfl | rfl | rfl | rfl | rfl | rfl | rfl | rfl | rfl <;> rfl) (by unfold maxLen; have:=hlt.out; omega) (by have:=hlt.out; omega) nN4.out ?_
     intro v5 y5 ho hg _ hat
     have oB:=Lib.hid (fun q (hq:ov.ownBlock=some q)=>(HO3.out.lt q hq).1)
     generalize y3.alloc _=y4 at *
     have c5:Chs (fun q=>ov.ownBlock=some q) y4 y5:=chs_grown hg (fun _ h=>h)
     have S5:=Lib.hid (lc_chs S3.out c5 (fun q hq e=>nd3.out q e hq) (fun q hq=>Nat.le_trans zN (oB.out q hq)) (fun q hq=>up_le uN.out (oB.out q hq)))
     have K5:=Lib.hid (lc_chs K3.out c5 (fun q hq e=>by have:=oB.out q e; have:=(kn1.out q hq).1; omega) (fun q hq=>Nat.le_trans zN (oB.out q hq)) (fun q hq=>up_le uN.out (oB.out q hq)))
     have L5:=Lib.hid (lc_chs L3.out c5 (fun q hq e=>by have:=oB.out q e; have:=(kn2.out q hq).1; omega) (fun q hq=>Nat.le_trans zN (oB.out q hq)) (fun q hq=>up_le uN.out (oB.out q hq)))
     have kV5:=Lib.hid (chs_row c5 (fun e=>by have:=oB.out V e; have:=vn.out.1; omega) kV3.out)
     have kS5:=Lib.hid (chs_row c5 (fun e=>by have:=oB.out (V+1) e; have:=vn.out.1; omega) kS3.out)
     have nN5:Hid (N≤y5.heap.size):=Lib.hid (Nat.le_trans nN4.out c5.size)
     have nd5:Hid (∀ q,v5.ownBlock=some q→¬ Ow n1 f1 g1 h3 q):=Lib.hid (fun q hq o=>by
      rcases hat with e | e
      ·exact nd3.out q (e ▸ hq) o
      ·rw [e] at hq
       injection hq with hq
       have:=ch_own S3.out.c q o
       omega)
     have HO5:=Lib.hid ho
     clear ho hg hat c5 S3 K3 L3 kV3 kS3 HO3 nN4 nN3 nd3 oB
     go_wp2
     refine ⟨⟨j+1,h3,v5,by have:=hlt.out; omega,by go_num,rfl,by rw [eI.out]; exact S5,far3,K5,L5,kV5,kS5,by rw [eO.out]; exact HO5,nd5,nN5⟩,?_⟩
     simp only [intOf]
     have:=hlt.out
     omega
    ·have hlk:¬ (j:Int)<len2:=by omega
     obtain rfl:len2=j:=by omega
     obtain ⟨st,ct,rfl,m2,l2,_⟩:=told_own HO.out
     have nt2:Hid (∀ q,(Value.slice st len2 ct).ownBlock=some q→q<wr.heap.size∧¬ Ow n2 f2 g2 v2 q∧¬ Ow b fb gb h1 q):=Lib.hid (fun q hq=>⟨(HO.out.lt q hq).2,fun e=>by have:=(kn2.out q e).1; have:=(HO.out.lt q hq).1; omega,fun e=>by have:=(kn1.out q e).1; have:=(HO.out.lt q hq).1; omega⟩)
     have nN2:=nN.out
     clear far nd vn L1 kn1 kn2 nN hlt
     go_wp2_with fail
     refine (chstate_any b fb gb h1 x C0.m C0.s C0.v C0.u _ S.out.c.c).mono ?_
     rintro e_ u5 ⟨rfl,hb⟩
     have sz5:=hb.size
     replace S:=Lib.hid (lc_keep S.out hb)
     replace L2:=Lib.hid (lc_keep L2.out hb)
     replace kV:=row_keep hb kV.out
     replace kS:=row_keep hb kS.out
     replace HO:=Lib.hid (own_chs (S:=fun _=>False) (chs_below hb) (fun _ _ q=>q) HO.out)
     clear hb
     have b3:Below u5.heap.size u5 ((u5.alloc (Obj.cells #[.int .i64 (C0.v 0),.int .i64 (C0.v 1),.int .i64 (C0.v 2)] 23)).alloc (Obj.cells #[.int .i64 (C0.u 0),.int .i64 (C0.u 1),.int .i64 (C0.u 2),.int .i64 (C0.u 3),.int .i64 (C0.u 4),.int .i64 (C0.u 5)] 40)):=b_alloc (b_alloc (Below.refl _ _))
     have kV2:VR ((u5.alloc (Obj.cells #[.int .i64 (C0.v 0),.int .i64 (C0.v 1),.int .i64 (C0.v 2)] 23)).alloc (Obj.cells #[.int .i64 (C0.u 0),.int .i64 (C0.u 1),.int .i64 (C0.u 2),.int .i64 (C0.u 3),.int .i64 (C0.u 4),.int .i64 (C0.u 5)] 40)) u5.heap.size C0.v:=lay_old _ _ _
     have kS2:((u5.alloc (Obj.cells #[.int .i64 (C0.v 0),.int .i64 (C0.v 1),.int .i64 (C0.v 2)] 23)).alloc (Obj.cells #[.int .i64 (C0.u 0),.int .i64 (C0.u 1),.int .i64 (C0.u 2),.int .i64 (C0.u 3),.int .i64 (C0.u 4),.int .i64 (C0.u 5)] 40)).heap[u5.heap.size+1]?=some (.cells #[.int .i64 (C0.u 0),.int .i64 (C0.u 1),.int .i64 (C0.u 2),.int .i64 (C0.u 3),.int .i64 (C0.u 4),.int .i64 (C0.u 5)] 40 (0,0)):=lay_new _ _ _
     replace S:=Lib.hid (lc_keep S.out b3)
     replace L2:=Lib.hid (lc_keep L2.out b3)
     replace kV:=row_keep b3 kV
     replace kS:=row_keep b3 kS
     replace HO:=Lib.hid (own_chs (S:=fun _=>False) (chs_below b3) (fun _ _ q=>q) HO.out)
     have sz6:=b3.size
     clear b3
     obtain ⟨va0,va1,va2⟩:=vr_tc kV
     obtain ⟨vb0,vb1,vb2⟩:=vr_tc kV2
     obtain ⟨ua0,ua1,ua2,ua3,ua4,ua5⟩:=row6 kS
     obtain ⟨ub0,ub1,ub2,ub3,ub4,ub5⟩:=row6 kS2
     have hve:=vec_eq_self
     have hse:=csym_eq_self
     clear kV kS kV2 kS2
     go_wp2
     generalize ((u5.alloc (Obj.cells #[.int .i64 (C0.v 0),.int .i64 (C0.v 1),.int .i64 (C0.v 2)] 23)).alloc (Obj.cells #[.int .i64 (C0.u 0),.int .i64 (C0.u 1),.int .i64 (C0.u 2),.int .i64 (C0.u 3),.int .i64 (C0.u 4),.int .i64 (C0.u 5)] 40))=u6 at *
     clear va0 va1 va2 vb0 vb1 vb2 ua0 ua1 ua2 ua3 ua4 ua5 ub0 ub1 ub2 ub3 ub4 ub5 hve hse
     have nt3:Hid (∀ q,(Value.slice st len2 ct).ownBlock=some q→q<u6.heap.size∧¬ Ow n2 f2 g2 v2 q):=Lib.hid (fun q hq=>⟨by have:=(nt2.out q hq).1; omega,(nt2.out q hq).2.1⟩)
     have nt4:Hid (∀ q,(Value.slice st len2 ct).ownBlock=some q→¬ Ow b fb gb h1 q):=Lib.hid (fun q hq=>(nt2.out q hq).2.2)
     have kn4:Hid (∀ q,Ow b fb gb h1 q→q<u6.heap.size∧¬ Ow n2 f2 g2 v2 q):=Lib.hid (fun q hq=>⟨by have:=(kn3.out q hq).1; omega,(kn3.out q hq).2⟩)
     have nz6:z0.heap.size≤u6.heap.size:=by omega
     clear nt2 kn3 sz5 sz6 nN2 zN
     obtain ⟨N2,hN2⟩:∃ q,u6.heap.size=q:=⟨_,rfl⟩
     rw [hN2] at nt3 kn4 nz6
     have nN6:Hid (N2≤u6.heap.size):=Lib.hid (Nat.le_of_eq hN2.symm)
     clear hN2
     go_loopw [108] (fun iv wr=>∃ (j:Nat) (hs:Value),j≤len2∧iv=.int .i64 j∧Hid (LC z0 n2 f2 g2 hs x (itf x C0 a2 p2 h2 s2 j) wr)∧Hid (LC z0 b fb gb h1 x C0 wr)∧Hid (wr.ownsRow N 51 9 (.slice st len2 ct) len2 (trow (otf x C0 a2 p2 h2 s2) len2))∧Hid (Far N2 (Ow n2 f2 g2 v2) (Ow n2 f2 g2 hs))∧Hid (N2≤wr.heap.size)) (fun iv _=>len2 - (intOf iv).toNat)
     case atStart=>exact ⟨0,_,Nat.zero_le _,rfl,L2,S,HO,Lib.hid far_0,nN6⟩
     case round =>
      clear L2 S HO nN6
      obtain ⟨j,hs,hj,rfl,L1,S,HO,far,nN⟩:=hrel
      by_cases hlt:j<len2
      ·obtain ⟨g9,rfl,tr⟩:=told_at HO.out hlt
       obtain ⟨gs,off,rfl,tw⟩:=hc2.out j hlt
       have gl:gs<w.heap.size:=World.block_lt_of_cell? w _ tw.1
       replace tw:=tw_keep (b_trans E0.out L1.out.b) tw
       have hlk:(j:Int)<len2:=by omega
       have hk0:(0:Int)≤j:=by omega
       have hk1:(0:Int)≤(j:Int)+1:=by omega
       have hk2:(j:Int)+1≤cap2:=by omega
       have ws:IntKind.i64.wrap ((j:Int)+1)=(j:Int)+1:=by rw [IntKind.wrap_i64]; omega
       have tn:((j:Int)+1).toNat=j+1:=by omega
       have ro:=ri.out j
       have ok:=oki.out j
       have Z:Below wr.heap.size wr (wr.alloc (Obj.cells #[.int .i64 (a2 j),.bool (h2 j),.int .i64 (p2 j),.bool (s2 j)] 49)):=b_alloc (Below.refl _ _)
       have S1:=Lib.hid (lc_keep L1.out Z)
       have K1:=Lib.hid (lc_keep S.out Z)
       have HO1:=Lib.hid (own_chs (S:=fun _=>False) (chs_below Z) (fun _ _ q=>q) HO.out)
       have kT:(wr.alloc (Obj.cells #[.int .i64 (a2 j),.bool (h2 j),.int .i64 (p2 j),.bool (s2 j)] 49)).heap[wr.heap.size]?=some (.cells #[.int .i64 (a2 j),.bool (h2 j),.int .i64 (p2 j),.bool (s2 j)] 49 (0,0)):=heap_alloc_last _ _
       have tr1:=Lib.hid (tr9_keep Z tr)
       have nT:Hid (¬ Ow n2 f2 g2 hs wr.heap.size):=Lib.hid (fun e=>Nat.lt_irrefl _ (ch_own L1.out.c _ e))
       have nG:Hid (¬ Ow n2 f2 g2 hs g9):=Lib.hid (far.out g9 (nt3.out g9 rfl).1 (nt3.out g9 rfl).2)
       have n0:0≤(j:Int)*9:=by omega
       obtain ⟨R,hR⟩:∃ R,stp x (itf x C0 a2 p2 h2 s2 j) (a2 j) (h2 j) (p2 j) (s2 j)=R:=⟨_,rfl⟩
       have eI:Hid ((itf x C0 a2 p2 h2 s2 (j+1))=R.1):=Lib.hid (by rw [← hR]; rfl)
       have eO:(otf x C0 a2 p2 h2 s2) j=R.2:=by rw [← hR]; rfl
       have tw9:=tws.out j
       have oc:=Lib.hid (tr9_cells tr1.out hlt)
       rw [eO] at tw9 oc
       obtain ⟨R1,m9,vd,ac,rf,ho,gr,al,sp,bi⟩:=R
       dsimp only at tw9 oc eI
       have te:=fun w=>td_eq_self (m:=m9) (vd:=vd) (ac:=ac) (rf:=rf) (ho:=ho) (gr:=gr) (al:=al) (sp:=sp) (bi:=bi) tw9.m tw9.a tw9.s tw9.b w
       have cs:∀ u (hu:CH u n2 f2 g2 hs x (itf x C0 a2 p2 h2 s2 j)) (ht:Tb3 u),Calls Tryz.prog 15 #[.pointer (some ⟨n2,0,none⟩),tk (a2 j) (h2 j) (p2 j) (s2 j)] u (fun e w'=>e=.returned (tdv m9 vd ac rf ho gr al sp bi)∧∃ h1,CH w' n2 f2 g2 h1 x R1∧(∀ k,h1.ownBlock=some k→hs.ownBlock=some k∨u.heap.size≤k)∧Chs (Ow n2 f2 g2 hs) u w'):=fun u hu ht=>by
            have q:=step_any (b:=n2) (fb:=f2) (gb:=g2) (hl:=hs) hx ck (C:=(itf x C0 a2 p2 h2 s2 j)) ok (by omega) (a2 j) (h2 j) (p2 j) (s2 j) u hu ht
            rw [hR] at q
            exact q
       clear hR tw9 ro ok eO
       replace hlt:=Lib.hid hlt
       obtain ⟨t0,t1,t2,t3⟩:=tw
       clear L1 HO Z tr S
       have lA:wr.heap.size≤(wr.alloc (Obj.cells #[.int .i64 (a2 j),.bool (h2 j),.int .i64 (p2 j),.bool (s2 j)] 49)).heap.size:=by simp
       go_upto_region 25 with fail
       generalize wr.alloc (Obj.cells #[.int .i64 (a2 j),.bool (h2 j),.int .i64 (p2 j),.bool (s2 j)] 49)=y1 at *
       generalize wr.heap.size=D at *
       clear t0 t1 t2 t3
       obtain ⟨r0,r1,r2,r3⟩:=row4 kT
       obtain ⟨c0,c1,c2,c3,c4,c5,c6,c7,c8⟩:=oc.out
       clear oc tr1 kT
       have S0:=And.intro r0 (And.intro r1 (And.intro r2 (And.intro r3 (And.intro c0 (And.intro c1 (And.intro c2 (And.intro c3 (And.intro c4 (And.intro c5 (And.intro c6 (And.intro c7 c8)))))))))))
       clear r0 r1 r2 r3 c0 c1 c2 c3 c4 c5 c6 c7 c8
       have SD:=Lib.hid (lc_keep S1.out (b_drew (Below.refl _ _)))
       go_region_held3 (fun u=>u.cell? ⟨D,0,none⟩=some (.int .i64 (a2 j))∧u.cell? ⟨D,1,none⟩=some (.bool (h2 j))∧u.cell? ⟨D,2,none⟩=some (.int .i64 (p2 j))∧u.cell? ⟨D,3,none⟩=some (.bool (s2 j))∧u.cell? ⟨g9,j*9,none⟩=some (.int .i64 m9)∧u.cell? ⟨g9,j*9+1,none⟩=some (.bool vd)∧u.cell? ⟨g9,j*9+2,none⟩=some (.bool ac)∧u.cell? ⟨g9,j*9+3,none⟩=some (.bool rf)∧u.cell? ⟨g9,j*9+4,none⟩=some (.bool ho)∧u.cell? ⟨g9,j*9+5,none⟩=some (.bool gr)∧u.cell? ⟨g9,j*9+6,none⟩=some (.int .i64 al)∧u.cell? ⟨g9,j*9+7,none⟩=some (.int .i64 sp)∧u.cell? ⟨g9,j*9+8,none⟩=some (.int .i64 bi)) (first | assumption | exact s13_keep (by assumption) (b_drew (Below.refl _ _))) (first | (go_at_call 15; refine (cs _ SD.out.c SD.out.t).mono ?_; rintro e_ y5 ⟨rfl,h3,c3_,q3,k3⟩; have S5:=s13_chs k3 nT.out nG.out (s13_keep S0 (b_drew (Below.refl _ _)))))
       have S6:=Lib.hid (lc_step SD.out c3_ q3 k3)
       have K6:=Lib.hid (lc_oth (lc_keep K1.out (b_drew (Below.refl _ _))) SD.out k3 far.out kn4.out)
       have HO6:=Lib.hid (own_chs k3 (fun q hq=>far.out q (nt3.out q hq).1 (nt3.out q hq).2) (own_chs (S:=fun _=>False) (chs_below (b_drew (Below.refl _ _))) (fun _ _ q=>q) HO1.out))
       have far6:=Lib.hid (far_step far.out q3 (Nat.le_trans nN.out (Nat.le_trans lA (b_drew (Below.refl _ _)).size)))
       have nN9:=Lib.hid (Nat.le_trans nN.out (Nat.le_trans lA (Nat.le_trans (b_drew (Below.refl _ _)).size k3.size)))
       clear S0 S5 SD S1 HO1 cs c3_ q3 k3 te far nN lA nT nG K1
       go_wp2
       refine ⟨⟨j+1,h3,by have:=hlt.out; omega,by go_num,by rw [eI.out]; exact S6,K6,HO6,far6,nN9⟩,?_⟩
       simp only [intOf]
       have:=hlt.out
       omega
      ·have hlk:¬ (j:Int)<len2:=by omega
       have nt5:Hid (∀ q,(Value.slice st len2 ct).ownBlock=some q→q<wr.heap.size∧¬ Ow b fb gb h1 q):=Lib.hid (fun q hq=>⟨(HO.out.lt q hq).2,nt4.out q hq⟩)
       obtain ⟨N3,hN3⟩:∃ q,wr.heap.size=q:=⟨_,rfl⟩
       have nN5:Hid (N3≤wr.heap.size):=Lib.hid (Nat.le_of_eq hN3.symm)
       rw [hN3] at nt5
       clear hN3 L1 far nN nt3 kn4 nt4
       go_wp2
       go_loopw [124] (fun iv wr=>∃ (j:Nat) (hs:Value),j≤len2∧iv=.int .i64 j∧Hid (LC z0 b fb gb hs x (itf x C0 a2 p2 h2 s2 j) wr)∧Hid (wr.ownsRow N 51 9 (.slice st len2 ct) len2 (trow (otf x C0 a2 p2 h2 s2) len2))∧Hid (Far N3 (Ow b fb gb h1) (Ow b fb gb hs))∧Hid (N3≤wr.heap.size)) (fun iv _=>len2 - (intOf iv).toNat)
       case atStart=>exact ⟨0,_,Nat.zero_le _,rfl,S,HO,Lib.hid far_0,nN5⟩
       case round =>
        clear S HO nN5
        obtain ⟨j,hs,hj,rfl,L1,HO,far,nN⟩:=hrel
        by_cases hlt:j<len2
        ·obtain ⟨g9,rfl,tr⟩:=told_at HO.out hlt
         obtain ⟨gs,off,rfl,tw⟩:=hc2.out j hlt
         have gl:gs<w.heap.size:=World.block_lt_of_cell? w _ tw.1
         replace tw:=tw_keep (b_trans E0.out L1.out.b) tw
         have hlk:(j:Int)<len2:=by omega
         have hk0:(0:Int)≤j:=by omega
         have hk1:(0:Int)≤(j:Int)+1:=by omega
         have hk2:(j:Int)+1≤cap2:=by omega
         have ws:IntKind.i64.wrap ((j:Int)+1)=(j:Int)+1:=by rw [IntKind.wrap_i64]; omega
         have tn:((j:Int)+1).toNat=j+1:=by omega
         have ro:=ri.out j
         have ok:=oki.out j
         have Z:Below wr.heap.size wr (wr.alloc (Obj.cells #[.int .i64 (a2 j),.bool (h2 j),.int .i64 (p2 j),.bool (s2 j)] 49)):=b_alloc (Below.refl _ _)
         have S1:=Lib.hid (lc_keep L1.out Z)
         have HO1:=Lib.hid (own_chs (S:=fun _=>False) (chs_below Z) (fun _ _ q=>q) HO.out)
         have kT:(wr.alloc (Obj.cells #[.int .i64 (a2 j),.bool (h2 j),.int .i64 (p2 j),.bool (s2 j)] 49)).heap[wr.heap.size]?=some (.cells #[.int .i64 (a2 j),.bool (h2 j),.int .i64 (p2 j),.bool (s2 j)] 49 (0,0)):=heap_alloc_last _ _
         have tr1:=Lib.hid (tr9_keep Z tr)
         have nT:Hid (¬ Ow b fb gb hs wr.heap.size):=Lib.hid (fun e=>Nat.lt_irrefl _ (ch_own L1.out.c _ e))
         have nG:Hid (¬ Ow b fb gb hs g9):=Lib.hid (far.out g9 (nt5.out g9 rfl).1 (nt5.out g9 rfl).2)
         have n0:0≤(j:Int)*9:=by omega
         obtain ⟨R,hR⟩:∃ R,stp x (itf x C0 a2 p2 h2 s2 j) (a2 j) (h2 j) (p2 j) (s2 j)=R:=⟨_,rfl⟩
         have eI:Hid ((itf x C0 a2 p2 h2 s2 (j+1))=R.1):=Lib.hid (by rw [← hR]; rfl)
         have eO:(otf x C0 a2 p2 h2 s2) j=R.2:=by rw [← hR]; rfl
         have tw9:=tws.out j
         have oc:=Lib.hid (tr9_cells tr1.out hlt)
         rw [eO] at tw9 oc
         obtain ⟨R1,m9,vd,ac,rf,ho,gr,al,sp,bi⟩:=R
         dsimp only at tw9 oc eI
         have te:=fun w=>td_eq_self (m:=m9) (vd:=vd) (ac:=ac) (rf:=rf) (ho:=ho) (gr:=gr) (al:=al) (sp:=sp) (bi:=bi) tw9.m tw9.a tw9.s tw9.b w
         have cs:∀ u (hu:CH u b fb gb hs x (itf x C0 a2 p2 h2 s2 j)) (ht:Tb3 u),Calls Tryz.prog 15 #[.pointer (some ⟨b,0,none⟩),tk (a2 j) (h2 j) (p2 j) (s2 j)] u (fun e w'=>e=.returned (tdv m9 vd ac rf ho gr al sp bi)∧∃ h1,CH w' b fb gb h1 x R1∧(∀ k,h1.ownBlock=some k→hs.ownBlock=some k∨u.heap.size≤k)∧Chs (Ow b fb gb hs) u w'):=fun u hu ht=>by
            have q:=step_any (b:=b) (fb:=fb) (gb:=gb) (hl:=hs) hx ck (C:=(itf x C0 a2 p2 h2 s2 j)) ok (by omega) (a2 j) (h2 j) (p2 j) (s2 j) u hu ht
            rw [hR] at q
            exact q
         clear hR tw9 ro ok eO
         replace hlt:=Lib.hid hlt
         obtain ⟨t0,t1,t2,t3⟩:=tw
         clear L1 HO Z tr
         have lA:wr.heap.size≤(wr.alloc (Obj.cells #[.int .i64 (a2 j),.bool (h2 j),.int .i64 (p2 j),.bool (s2 j)] 49)).heap.size:=by simp
         go_upto_region 31 with fail
         generalize wr.alloc (Obj.cells #[.int .i64 (a2 j),.bool (h2 j),.int .i64 (p2 j),.bool (s2 j)] 49)=y1 at *
         generalize wr.heap.size=D at *
         clear t0 t1 t2 t3
         obtain ⟨r0,r1,r2,r3⟩:=row4 kT
         obtain ⟨c0,c1,c2,c3,c4,c5,c6,c7,c8⟩:=oc.out
         clear oc tr1 kT
         have S0:=And.intro r0 (And.intro r1 (And.intro r2 (And.intro r3 (And.intro c0 (And.intro c1 (And.intro c2 (And.intro c3 (And.intro c4 (And.intro c5 (And.intro c6 (And.intro c7 c8)))))))))))
         clear r0 r1 r2 r3 c0 c1 c2 c3 c4 c5 c6 c7 c8
         have SD:=Lib.hid (lc_keep S1.out (b_drew (Below.refl _ _)))
         go_region_held3 (fun u=>u.cell? ⟨D,0,none⟩=some (.int .i64 (a2 j))∧u.cell? ⟨D,1,none⟩=some (.bool (h2 j))∧u.cell? ⟨D,2,none⟩=some (.int .i64 (p2 j))∧u.cell? ⟨D,3,none⟩=some (.bool (s2 j))∧u.cell? ⟨g9,j*9,none⟩=some (.int .i64 m9)∧u.cell? ⟨g9,j*9+1,none⟩=some (.bool vd)∧u.cell? ⟨g9,j*9+2,none⟩=some (.bool ac)∧u.cell? ⟨g9,j*9+3,none⟩=some (.bool rf)∧u.cell? ⟨g9,j*9+4,none⟩=some (.bool ho)∧u.cell? ⟨g9,j*9+5,none⟩=some (.bool gr)∧u.cell? ⟨g9,j*9+6,none⟩=some (.int .i64 al)∧u.cell? ⟨g9,j*9+7,none⟩=some (.int .i64 sp)∧u.cell? ⟨g9,j*9+8,none⟩=some (.int .i64 bi)) (first | assumption | exact s13_keep (by assumption) (b_drew (Below.refl _ _))) (first | (go_at_call 15; refine (cs _ SD.out.c SD.out.t).mono ?_; rintro e_ y5 ⟨rfl,h3,c3_,q3,k3⟩; have S5:=s13_chs k3 nT.out nG.out (s13_keep S0 (b_drew (Below.refl _ _)))))
         have S6:=Lib.hid (lc_step SD.out c3_ q3 k3)
         have HO6:=Lib.hid (own_chs k3 (fun q hq=>far.out q (nt5.out q hq).1 (nt5.out q hq).2) (own_chs (S:=fun _=>False) (chs_below (b_drew (Below.refl _ _))) (fun _ _ q=>q) HO1.out))
         have far6:=Lib.hid (far_step far.out q3 (Nat.le_trans nN.out (Nat.le_trans lA (b_drew (Below.refl _ _)).size)))
         have nN9:=Lib.hid (Nat.le_trans nN.out (Nat.le_trans lA (Nat.le_trans (b_drew (Below.refl _ _)).size k3.size)))
         clear S0 S5 SD S1 HO1 cs c3_ q3 k3 te far nN lA nT nG
         go_wp2
         refine ⟨⟨j+1,h3,by have:=hlt.out; omega,by go_num,by rw [eI.out]; exact S6,HO6,far6,nN9⟩,?_⟩
         simp only [intOf]
         have:=hlt.out
         omega
        ·have hlk:¬ (j:Int)<len2:=by omega
         have T9:=L1.out.t
         have E9:=L1.out.b
         clear L1 HO far
         go_wp2_with fail
         refine (fixed_cha _ T9).mono ?_
         rintro e_ y9 ⟨rfl,hb9⟩
         go_wp2
         go_ret
         exact ⟨rfl,b_trans E0.out (b_trans E9 hb9)⟩
end Go.Proofs.YtmcchknilnejgaaGreatDoor

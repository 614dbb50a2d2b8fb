import Derived.Deep.RegionWith
import Derived.Deep.DeepCutAuto
import Derived.Deep.CutBlock
import Derived.LoopN
import Derived.Laws.Cover1
import Derived.ChangeKeysEq
import Derived.Orders
import Derived.RegionTactic
import Derived.Below
import Derived.StillTactics
import Derived.Laws.Pointers
import Derived.Deep.RegionHeld3
import Derived.Deep.QuietTactic
import Derived.BigQuiet
import Derived.RowKit3
import Derived.Lib.Hide
import Derived.Lib.QuietBelow
import Derived.Laws.Bits64b
import Derived.Test.YtmcchknilnejgaaGreatDoorProg
import Derived.Shelf.Spec.BitsCarry
import Derived.Shelf.Bits.Mul64
import Derived.WalkKit
import Derived.WalkSpells
import Derived.ScopeJumps
import Derived.WalkMore
import Derived.Lib.SmallJoins
import Derived.Deep.WholeRow
import Derived.BigRegion
import Derived.Laws.AppendOwn
import Derived.OwnWalk
import Derived.Deep.LoopGhost
import Derived.Defers
import Derived.Tactics
import Derived.RangeFuncNested
import Derived.RangeFuncLeaves
import Derived.RangeFuncCalls
import Derived.Shelf.Abstract
import Derived.OwnWalkIn
import Derived.TacticsInMore
import Derived.LoopNIn
import Derived.LoopIn
import Derived.Maps.AppendAt
import Derived.Laws.OwnMore
import Derived.Deep.AppendLies
import Derived.DeepKeys
import Derived.Test.YtmcchknilnejgaaGreatDoorKbf
import Derived.Test.YtmcchknilnejgaaGreatDoorKbe
import Derived.Test.YtmcchknilnejgaaGreatDoorKar
import Derived.Test.YtmcchknilnejgaaGreatDoorKao
import Derived.Test.YtmcchknilnejgaaGreatDoorKaj
import Derived.Test.YtmcchknilnejgaaGreatDoorKaf
import Derived.Test.YtmcchknilnejgaaGreatDoorKae
import Derived.Test.YtmcchknilnejgaaGreatDoorKab
import Derived.Test.YtmcchknilnejgaaGreatDoorKaa
import Derived.Test.YtmcchknilnejgaaGreatDoorKad
import Derived.Test.YtmcchknilnejgaaGreatDoorKac
import Derived.Test.YtmcchknilnejgaaGreatDoorKag
import Derived.Test.YtmcchknilnejgaaGreatDoorKbh
import Derived.Test.YtmcchknilnejgaaGreatDoorKai
import Derived.Test.YtmcchknilnejgaaGreatDoorKah
import Derived.Test.YtmcchknilnejgaaGreatDoorKak
import Derived.Test.YtmcchknilnejgaaGreatDoorKan
import Derived.Test.YtmcchknilnejgaaGreatDoorKam
import Derived.Test.YtmcchknilnejgaaGreatDoorKal
import Derived.Test.YtmcchknilnejgaaGreatDoorKap
import Derived.Test.YtmcchknilnejgaaGreatDoorKaq
import Derived.Test.YtmcchknilnejgaaGreatDoorKas
import Derived.Test.YtmcchknilnejgaaGreatDoorKbd
import Derived.Test.YtmcchknilnejgaaGreatDoorKav
import Derived.Test.YtmcchknilnejgaaGreatDoorKau
import Derived.Test.YtmcchknilnejgaaGreatDoorKat
import Derived.Test.YtmcchknilnejgaaGreatDoorKaw
import Derived.Test.YtmcchknilnejgaaGreatDoorKax
import Derived.Test.YtmcchknilnejgaaGreatDoorKay
import Derived.Test.YtmcchknilnejgaaGreatDoorKaz
import Derived.Test.YtmcchknilnejgaaGreatDoorKbc
import Derived.Test.YtmcchknilnejgaaGreatDoorKbb
import Derived.Test.YtmcchknilnejgaaGreatDoorKba
import Derived.Test.YtmcchknilnejgaaGreatDoorKbi
import Derived.Test.YtmcchknilnejgaaGreatDoorKbg
set_option maxHeartbeats 16000000
set_option maxRecDepth 20000
namespace Go.Proofs.YtmcchknilnejgaaGreatDoor
open Go.RowKit Go.Shelf Go.Joins
noncomputable def otr (x:Nat→Int) (a p:Nat→Int) (h s:Nat→Bool) (k:Nat):Td:=(stp x (itr x a p h s k) (a k) (h k) (p k) (s k)).2
theorem stp_l (x:Nat→Int) (C:Cn) (a:Int) (h:Bool) (p:Int) (s:Bool):(stp x C a h p s).1.l=ap x C.l a:=by
 show (trn x (mid x (fed x C a) (ap x C.l a) (ah x a) (aq x C.r a) (br h p) p s).1 _).l=_
 show (mid x (fed x C a) (ap x C.l a) (ah x a) (aq x C.r a) (br h p) p s).1.l=_
 unfold mid gat tke
 repeat' split
 all_goals rfl
structure Tw (t:Td):Prop where
 m:I64 t.m
 a:I64 t.al
 s:I64 t.sp
 b:I64 t.bi
theorem evn24 {v:Int} (h:I64 v):I64 (evn v 16777216):=by
 obtain ⟨h0,h1⟩:=h
 unfold evn near
 split <;> exact ⟨by omega,by omega⟩
theorem tw_tel {C:Cn} (hm:0≤C.m∧C.m≤3) (hv:∀ i,i<3→I64 (C.v i)) (ac rf hl gr:Bool):Tw (tel C ac rf hl gr):=by
 have z:I64 0:=by decide
 refine ⟨⟨by show _≤C.m; omega,by show C.m≤_; omega⟩,?_,?_,?_⟩
 ·show I64 (if vld C.m then evn (C.v 0) 16777216 else 0)
  split
  ·exact evn24 (hv 0 (by decide))
  ·exact z
 ·show I64 (if vld C.m then evn (C.v 1) 16777216 else 0)
  split
  ·exact evn24 (hv 1 (by decide))
  ·exact z
 ·show I64 (if vld C.m then evn (C.v 2) 16777216 else 0)
  split
  ·exact evn24 (hv 2 (by decide))
  ·exact z
theorem tw_stp {x:Nat→Int} (hx:C64 x) (ck:cks x=0) {C:Cn} (k:Okc C) (hm:0≤C.m∧C.m≤3) (a:Int) (h:Bool) (p:Int) (s:Bool):Tw (stp x C a h p s).2 :=
 tw_tel (stp_m hm a h p s) (ok_stp hx ck k a h p s).v _ _ _ _
theorem tw_otr {x:Nat→Int} (hx:C64 x) (ck:cks x=0) (a p:Nat→Int) (h s:Nat→Bool) (k:Nat):Tw (otr x a p h s k):=tw_stp hx ck (ok_itr hx ck a p h s k) (itr_m x a p h s k) _ _ _ _
end Go.Proofs.YtmcchknilnejgaaGreatDoor
namespace Go.Proofs.YtmcchknilnejgaaGreatDoor
open Go.RowKit Go.Shelf Go.Joins
abbrev tdl (t:Td):List Value:=[.int .i64 t.m,.bool t.vd,.bool t.ac,.bool t.rf,.bool t.hl,.bool t.gr,.int .i64 t.al,.int .i64 t.sp,.int .i64 t.bi]
def trow (T:Nat→Td):Nat→List Value
 | 0=>[]
 | n+1=>trow T n ++ tdl (T n)
theorem trow_len (T:Nat→Td) (n:Nat):(trow T n).length=n*9:=by
 induction n with
 | zero=>rfl
 | succ n ih=>rw [trow,List.length_append,ih]; simp; omega
theorem trow_at (T:Nat→Td) (n k i:Nat) (h:k<n) (hi:i<9):(trow T n)[k*9+i]?=(tdl (T k))[i]?:=by
 induction n with
 | zero=>omega
 | succ n ih =>
  rw [trow]
  by_cases e:k=n
  ·subst e
   rw [List.getElem?_append_right (by rw [trow_len]; omega),trow_len]
   congr 1
   omega
  ·rw [List.getElem?_append_left (by rw [trow_len]; omega)]
   exact ih (by omega)
theorem info_told:(Tryz.prog.info? 51).map (fun i=>(i.zero,i.size,i.bytes))=some (some (tdv 0 false false false false false 0 0 0),9,40):=by kernel_rfl
theorem td_new (w:World) (T:Td) (t:TypeId):∀ j u,(tdl T)[j]?=some u→(w.alloc (Obj.cells #[.int .i64 T.m,.bool T.vd,.bool T.ac,.bool T.rf,.bool T.hl,.bool T.gr,.int .i64 T.al,.int .i64 T.sp,.int .i64 T.bi] t)).cell? ((⟨w.heap.size,0,none⟩:Addr).add j)=some u:=fun j u hu=>by
 have hadd:(⟨w.heap.size,0,none⟩:Addr).add j=⟨w.heap.size,j,none⟩:=by unfold Addr.add; split <;> simp_all
 rw [hadd,cell_of_row _ _ j _ _ _ (heap_alloc_last w _)]
 simpa using hu
def TR9 (w:World) (g n:Nat) (T:Nat→Td):Prop:=∀ k,k<n→∀ i,i<9→w.cell? ⟨g,k*9+i,none⟩=(tdl (T k))[i]?
theorem tr9_own {w:World} {B g n m cap:Nat} {t:TypeId} {T:Nat→Td} (h:w.ownsRow B t 9 (.slice (some ⟨g,0,none⟩) m cap) n (trow T n)):TR9 w g n T:=fun k hk i hi=>by
 have add:∀ j,(⟨g,0,none⟩:Addr).add j=⟨g,j,none⟩:=fun j=>by unfold Addr.add; split <;> simp_all
 have e:=trow_at T n k i hk hi
 obtain ⟨u,hu⟩:∃ u,(tdl (T k))[i]?=some u:=⟨(tdl (T k))[i]'hi,List.getElem?_eq_getElem _⟩
 have c:=h.cells rfl _ _ (e.trans hu)
 rw [add] at c
 rw [c,hu]
theorem tr9_keep {w w':World} {g n:Nat} {T:Nat→Td} (hb:Below w.heap.size w w') (h:TR9 w g n T):TR9 w' g n T:=fun k hk i hi=>by
 obtain ⟨u,hu⟩:∃ u,(tdl (T k))[i]?=some u:=⟨(tdl (T k))[i]'hi,List.getElem?_eq_getElem _⟩
 have c:=h k hk i hi
 rw [hu] at c ⊢
 exact cell_keep hb c
theorem own_chs {w w':World} {S:Nat→Prop} {B z n:Nat} {t:TypeId} {v:Value} {xs:List Value} (h:Chs S w w') (hn:∀ k,v.ownBlock=some k→¬ S k) (c:w.ownsRow B t z v n xs):w'.ownsRow B t z v n xs:=by
 refine ⟨c.1,?_⟩
 rcases c.2 with q | ⟨g,cap,cur,rfl,h1,h2,h3⟩
 ·exact Or.inl q
 ·exact Or.inr ⟨g,cap,cur,rfl,h1,chs_row h (hn g rfl) h2,h3⟩
theorem wpList_fits {P:Program} (w:World) {ops:Array Oper} {rest:List Oper} {o:Oper} {a:Act} {Q:Exit→Act→World→Prop}
  (hg:o.guard=none) (s x:Operand) (t:TypeId) (hop:o.op=Op.call { callee:=Callee.builtin Builtin.append,args:=#[s,x],argTypes:=#[t,t] })
  (base:Nat) (e:TypeId) (i:TypeInfo) (size:Nat) (h1:P.underlying t=some (.slice e)) (h2:P.info? e=some i) (h4:i.size=size)
  (g k cap:Nat) (xs:List Value) (hs:a.eval s=.slice (some ⟨g,0,none⟩) k cap) (hown:w.ownsRow base e size (.slice (some ⟨g,0,none⟩) k cap) k xs) (ad:Addr) (m c:Nat) (news:List Value) (hx:a.eval x=.slice (some ad) m c) (hn:news.length=m*size)
  (hc:∀ j u,news[j]?=some u→w.cell? (ad.add j)=some u) (h1c:∀ u ∈ news,u.oneCell'=true) (b1:k+m≤cap)
  (hK:∀ w',w'.ownsRow base e size (.slice (some ⟨g,0,none⟩) (k+m) cap) (k+m) (xs ++ news)→w.grownBy w' (some g)→wpList P ops Q rest (a.put o.dst (.slice (some ⟨g,0,none⟩) (k+m) cap)) w') :
  wpList P ops Q (o :: rest) a w:=by
 refine wpList_plain hg fun K hK'=>?_
 obtain ⟨w',hrun,r1,r2⟩:=run_append_fits (P:=P) w base t o.type e i size h1 h2 h4 g k cap xs hown ad m c news hn hc h1c b1
 unfold Oper.wp execOp
 simp only [hop,resolve,invoke,builtin,Sem.run_bind,Sem.run_pure,Result.andThen_ok,List.map_toArray,List.map_cons,List.map_nil,hs,hx,hrun]
 exact hK' _ _ (hK w' r1 r2)
theorem wpList_make {P:Program} (w:World) {ops:Array Oper} {rest:List Oper} {o:Oper} {a:Act} {Q:Exit→Act→World→Prop}
  (hg:o.guard=none) (l c:Operand) (t:TypeId) (hop:o.op=Op.makeSlice t l c)
  (base:Nat) (e:TypeId) (i:TypeInfo) (z:Value) (size:Nat) (h1:P.underlying t=some (.slice e)) (h2:P.info? e=some i) (h3:i.zero=some z) (h4:i.size=size)
  (kl kc:IntKind) (C:Int) (m:Nat) (hl:a.eval l=.int kl 0) (hc:a.eval c=.int kc C) (hC:C=(m:Int)) (b2:i.bytes*m≤281474976710656) (b3:m≤maxLen) (b4:base≤w.heap.size)
  (hK:∀ w',w'.ownsRow base e size (.slice (some ⟨w.heap.size,0,none⟩) 0 m) 0 []→w.grownBy w' none→wpList P ops Q rest (a.put o.dst (.slice (some ⟨w.heap.size,0,none⟩) 0 m)) w') :
  wpList P ops Q (o :: rest) a w:=by
 refine wpList_plain hg fun K hK'=>?_
 obtain ⟨w',hrun,r1,r2⟩:=run_make_own (P:=P) w base t e i z size h1 h2 h3 h4 kl kc m b2 b3 b4
 subst hC
 unfold Oper.wp execOp
 simp [hop,hl,hc,hrun,Result.andThen]
 exact hK' _ _ (hK w' r1 r2)
theorem chrun_bad (x:Nat→Int) (hx:C64 x) (ck:¬ cks x=0) (v:Value) (w:World):Calls Tryz.prog 14 #[cv x,v] w (RetV (.tuple #[.slice none 0 0,.int .i64 1]) w):=by
 have cr:CR (w.alloc (Obj.cells #[.int .i64 (x 0),.int .i64 (x 1),.int .i64 (x 2),.int .i64 (x 3),.int .i64 (x 4),.int .i64 (x 5),.int .i64 (x 6),.int .i64 (x 7),.int .i64 (x 8),.int .i64 (x 9),.int .i64 (x 10),.int .i64 (x 11),.int .i64 (x 12),.int .i64 (x 13),.int .i64 (x 14),.int .i64 (x 15),.int .i64 (x 16),.int .i64 (x 17),.int .i64 (x 18),.int .i64 (x 19),.int .i64 (x 20),.int .i64 (x 21),.int .i64 (x 22),.int .i64 (x 23),.int .i64 (x 24),.int .i64 (x 25),.int .i64 (x 26),.int .i64 (x 27),.int .i64 (x 28),.int .i64 (x 29),.int .i64 (x 30)] 25)) w.heap.size x:=cr_new
 have E0:Below w.heap.size w (w.alloc (Obj.cells #[.int .i64 (x 0),.int .i64 (x 1),.int .i64 (x 2),.int .i64 (x 3),.int .i64 (x 4),.int .i64 (x 5),.int .i64 (x 6),.int .i64 (x 7),.int .i64 (x 8),.int .i64 (x 9),.int .i64 (x 10),.int .i64 (x 11),.int .i64 (x 12),.int .i64 (x 13),.int .i64 (x 14),.int .i64 (x 15),.int .i64 (x 16),.int .i64 (x 17),.int .i64 (x 18),.int .i64 (x 19),.int .i64 (x 20),.int .i64 (x 21),.int .i64 (x 22),.int .i64 (x 23),.int .i64 (x 24),.int .i64 (x 25),.int .i64 (x 26),.int .i64 (x 27),.int .i64 (x 28),.int .i64 (x 29),.int .i64 (x 30)] 25)):=b_alloc (Below.refl _ _)
 go_enter Tryz.func14,Tryz.ntmps14
 go_wp2_with (with_reducible refine stop_at (some 12) rfl ?_)
 generalize (w.alloc (Obj.cells #[.int .i64 (x 0),.int .i64 (x 1),.int .i64 (x 2),.int .i64 (x 3),.int .i64 (x 4),.int .i64 (x 5),.int .i64 (x 6),.int .i64 (x 7),.int .i64 (x 8),.int .i64 (x 9),.int .i64 (x 10),.int .i64 (x 11),.int .i64 (x 12),.int .i64 (x 13),.int .i64 (x 14),.int .i64 (x 15),.int .i64 (x 16),.int .i64 (x 17),.int .i64 (x 18),.int .i64 (x 19),.int .i64 (x 20),.int .i64 (x 21),.int .i64 (x 22),.int .i64 (x 23),.int .i64 (x 24),.int .i64 (x 25),.int .i64 (x 26),.int .i64 (x 27),.int .i64 (x 28),.int .i64 (x 29),.int .i64 (x 30)] 25))=z0 at *
 refine unstop ?_
 refine wpList_load_row rfl 25 (.tmp 2) rfl w.heap.size rfl 25 _ (0,0) _ cr Tryz.underlying25 rfl (by kernel_rfl) ?_
 go_wp2_with fail
 refine (chnew_bad x hx ck _).mono ?_
 rintro e_ y1 ⟨rfl,hb1⟩
 go_wp2
 go_ret2
 exact ⟨rfl,b_trans E0 hb1⟩
theorem chrun_own (x:Nat→Int) (hx:C64 x) (ck:cks x=0) (a p:Nat→Int) (h s:Nat→Bool) (sa:Option Addr) (len cap:Nat) (hm:cap≤9223372036854775807) (hl:len≤cap) (h3:len≤4096) (w:World) (hc:∀ k,k<len→∃ g off,sa=some ⟨g,off,none⟩∧TW w g (off+k*4) (a k) (h k) (p k) (s k)) (T:Tb3 w) :
  Calls Tryz.prog 14 #[cv x,.slice sa len cap] w fun e w'=>∃ g,e=.returned (.tuple #[.slice (some ⟨g,0,none⟩) len len,.int .i64 0])∧TR9 w' g len (otr x a p h s)∧Below w.heap.size w w'∧w.heap.size≤g∧w'.ownsRow 0 51 9 (.slice (some ⟨g,0,none⟩) len len) len (trow (otr x a p h s) len):=by
 have cr:CR (w.alloc (Obj.cells #[.int .i64 (x 0),.int .i64 (x 1),.int .i64 (x 2),.int .i64 (x 3),.int .i64 (x 4),.int .i64 (x 5),.int .i64 (x 6),.int .i64 (x 7),.int .i64 (x 8),.int .i64 (x 9),.int .i64 (x 10),.int .i64 (x 11),.int .i64 (x 12),.int .i64 (x 13),.int .i64 (x 14),.int .i64 (x 15),.int .i64 (x 16),.int .i64 (x 17),.int .i64 (x 18),.int .i64 (x 19),.int .i64 (x 20),.int .i64 (x 21),.int .i64 (x 22),.int .i64 (x 23),.int .i64 (x 24),.int .i64 (x 25),.int .i64 (x 26),.int .i64 (x 27),.int .i64 (x 28),.int .i64 (x 29),.int .i64 (x 30)] 25)) w.heap.size x:=cr_new
 have E0:Below w.heap.size w (w.alloc (Obj.cells #[.int .i64 (x 0),.int .i64 (x 1),.int .i64 (x 2),.int .i64 (x 3),.int .i64 (x 4),.int .i64 (x 5),.int .i64 (x 6),.int .i64 (x 7),.int .i64 (x 8),.int .i64 (x 9),.int .i64 (x 10),.int .i64 (x 11),.int .i64 (x 12),.int .i64 (x 13),.int .i64 (x 14),.int .i64 (x 15),.int .i64 (x 16),.int .i64 (x 17),.int .i64 (x 18),.int .i64 (x 19),.int .i64 (x 20),.int .i64 (x 21),.int .i64 (x 22),.int .i64 (x 23),.int .i64 (x 24),.int .i64 (x 25),.int .i64 (x 26),.int .i64 (x 27),.int .i64 (x 28),.int .i64 (x 29),.int .i64 (x 30)] 25)):=b_alloc (Below.refl _ _)
 have E0h:=Lib.hid E0
 obtain ⟨i0,hi,hz0,hz1,hz2⟩:=info_parts info_told
 replace T:=t3_keep E0 T
 have h2:¬ (4096:Int)<(len:Int):=by omega
 go_enter Tryz.func14,Tryz.ntmps14
 go_wp2_with (with_reducible refine stop_at (some 12) rfl ?_)
 generalize (w.alloc (Obj.cells #[.int .i64 (x 0),.int .i64 (x 1),.int .i64 (x 2),.int .i64 (x 3),.int .i64 (x 4),.int .i64 (x 5),.int .i64 (x 6),.int .i64 (x 7),.int .i64 (x 8),.int .i64 (x 9),.int .i64 (x 10),.int .i64 (x 11),.int .i64 (x 12),.int .i64 (x 13),.int .i64 (x 14),.int .i64 (x 15),.int .i64 (x 16),.int .i64 (x 17),.int .i64 (x 18),.int .i64 (x 19),.int .i64 (x 20),.int .i64 (x 21),.int .i64 (x 22),.int .i64 (x 23),.int .i64 (x 24),.int .i64 (x 25),.int .i64 (x 26),.int .i64 (x 27),.int .i64 (x 28),.int .i64 (x 29),.int .i64 (x 30)] 25))=z0 at *
 refine unstop ?_
 refine wpList_load_row rfl 25 (.tmp 2) rfl w.heap.size rfl 25 _ (0,0) _ cr Tryz.underlying25 rfl (by kernel_rfl) ?_
 go_wp2_with fail
 refine (chnew_ok x hx ck _ T).mono ?_
 rintro e_ y1 ⟨b,fb,gb,rfl,c0,h0,h1,h2_,hb1⟩
 have lo:∀ q,Ow b fb gb (.slice none 0 0) q→q<y1.heap.size:=fun q hq=>ch_own c0 q hq
 have S:=lc_new (Below.refl _ _) T c0 h0 h1 h2_ hb1
 clear T c0 h0 h1 h2_ hb1
 go_wp2_with (with_reducible refine stop_at (some 24) rfl ?_)
 refine unstop ?_
 refine wpList_make _ rfl _ _ 45 rfl 0 51 i0 (tdv 0 false false false false false 0 0 0) 9 Tryz.underlying45 hi hz0 hz1 .i64 .i64 _ len rfl rfl rfl (by rw [hz2]; omega) (by unfold maxLen; omega) (Nat.zero_le _) ?_
 intro y2 ho hg
 have hb2:Below y1.heap.size y1 y2:=⟨hg.os,hg.tape,hg.output,hg.size,fun i hi=>hg.block i hi (fun e=>by cases e)⟩
 have zG:z0.heap.size≤y1.heap.size:=by have:=lo b (Or.inl rfl); have:=S.o b (Or.inl rfl); omega
 have lG:y1.heap.size<y2.heap.size:=(ho.lt _ rfl).2
 have n0:b≠y1.heap.size:=Nat.ne_of_lt (lo _ (Or.inl rfl))
 have n1:fb≠y1.heap.size:=Nat.ne_of_lt (lo _ (Or.inr (Or.inl rfl)))
 have n2:gb≠y1.heap.size:=Nat.ne_of_lt (lo _ (Or.inr (Or.inr (Or.inl rfl))))
 have uG:Up y1.heap.size:=up_le (S.c.up b (Or.inl rfl)) (Nat.le_of_lt (lo b (Or.inl rfl)))
 replace S:=Lib.hid (lc_keep S hb2)
 have HO:=Lib.hid ho
 clear ho hg hb2 lo lG
 generalize y1.heap.size=G at *
 go_wp2
 go_loopw [8,27] (fun tv_ iv wr=>∃ (k:Nat) (h1:Value),k≤len∧iv=.int .i64 k∧tv_=.slice (some ⟨G,0,none⟩) k len∧Hid (LC z0 b fb gb h1 x (itr x a p h s k) wr)∧Hid (wr.ownsRow 0 51 9 (.slice (some ⟨G,0,none⟩) k len) k (trow (otr x a p h s) k))∧Hid (∀ i,h1.ownBlock=some i→i≠G)) (fun _ iv _=>len - (intOf iv).toNat)
 case atStart=>exact ⟨0,_,Nat.zero_le _,rfl,rfl,S,HO,Lib.hid (fun i hi=>by cases hi)⟩
 case round =>
  clear S HO
  obtain ⟨k,h1,hk,rfl,rfl,S,HO,nd⟩:=hrel
  by_cases hlt:k<len
  ·obtain ⟨gs,off,rfl,tw⟩:=hc k hlt
   have gl:gs<w.heap.size:=World.block_lt_of_cell? w _ tw.1
   replace tw:=tw_keep (b_trans E0 S.out.b) tw
   have hlk:(k:Int)<len:=by omega
   have hk0:(0:Int)≤k:=by omega
   have hk1:(0:Int)≤(k:Int)+1:=by omega
   have hk2:(k:Int)+1≤cap:=by omega
   have ws:IntKind.i64.wrap ((k:Int)+1)=(k:Int)+1:=by rw [IntKind.wrap_i64]; omega
   have tn:((k:Int)+1).toNat=k+1:=by omega
   have ro:=itr_r x a p h s k
   have ok:=ok_itr hx ck a p h s k
   have Z:Below wr.heap.size wr (wr.alloc (Obj.cells #[.int .i64 (a k),.bool (h k),.int .i64 (p k),.bool (s k)] 49)):=b_alloc (Below.refl _ _)
   have S1:=Lib.hid (lc_keep S.out Z)
   have cs:=step_any (b:=b) (fb:=fb) (gb:=gb) (hl:=h1) hx ck (C:=(itr x a p h s k)) ok (by omega) (a k) (h k) (p k) (s k) _ S1.out.c S1.out.t
   replace hlt:=Lib.hid hlt
   obtain ⟨t0,t1,t2,t3⟩:=tw
   clear ro ok Z S
   have lD:=(HO.out.lt _ rfl).2
   have HO1:=own_chs (S:=fun _=>False) (chs_below (b_alloc (o:=(Obj.cells #[.int .i64 (a k),.bool (h k),.int .i64 (p k),.bool (s k)] 49)) (Below.refl wr.heap.size wr))) (fun _ _ q=>q) HO.out
   clear HO
   go_wp2_with fail
   refine cs.mono ?_
   rintro e_ y3 ⟨rfl,h2,c2,q2,k2⟩
   have S2:=lc_step S1.out c2 q2 k2
   have nD1:¬ Ow b fb gb h1 G:=fun c=>by
     rcases c with c | c | c | c
     ·exact n0 c.symm
     ·exact n1 c.symm
     ·exact n2 c.symm
     ·exact nd.out G c rfl
   have lA:wr.heap.size≤(wr.alloc (Obj.cells #[.int .i64 (a k),.bool (h k),.int .i64 (p k),.bool (s k)] 49)).heap.size:=by simp
   have nd2:=Lib.hid (fun i (hi:h2.ownBlock=some i)=>(q2 i hi).elim (nd.out i) (fun e=>(by omega:i≠G)))
   have HO2:=own_chs k2 (fun q hq e=>nD1 (by injection hq with hq; subst hq; exact e)) HO1
   clear cs c2 q2 k2 S1 t0 t1 t2 t3 HO1 nD1 lA
   obtain ⟨R,hR⟩:∃ R,stp x (itr x a p h s k) (a k) (h k) (p k) (s k)=R:=⟨_,rfl⟩
   have eI:Hid ((itr x a p h s (k+1))=R.1):=Lib.hid (by rw [← hR]; rfl)
   have eO:Hid (trow (otr x a p h s) (k+1)=trow (otr x a p h s) k ++ tdl R.2):=Lib.hid (by rw [← hR]; rfl)
   rw [hR] at S2 ⊢
   clear hR
   obtain ⟨R1,R2⟩:=R
   dsimp only at S2 eI eO ⊢
   replace HO2:=Lib.hid HO2
   have S3:=Lib.hid (lc_keep S2 (b_alloc (o:=Obj.cells #[.int .i64 R2.m,.bool R2.vd,.bool R2.ac,.bool R2.rf,.bool R2.hl,.bool R2.gr,.int .i64 R2.al,.int .i64 R2.sp,.int .i64 R2.bi] 51) (Below.refl _ _)))
   have nD2:¬ Ow b fb gb h2 G:=fun c=>by
     rcases c with c | c | c | c
     ·exact n0 c.symm
     ·exact n1 c.symm
     ·exact n2 c.symm
     ·exact nd2.out G c rfl
   generalize trow (otr x a p h s) k=xs at *
   clear S2
   go_wp2_with (with_reducible refine stop_at (some 36) rfl ?_)
   refine unstop ?_
   refine wpList_fits _ rfl (.tmp 31) (.tmp 35) 45 rfl 0 51 i0 9 Tryz.underlying45 hi hz1 G k len xs rfl (HO2.out.alloc _) ⟨y3.heap.size,0,none⟩ 1 1 (tdl R2) rfl rfl (td_new _ _ _) (fun u hu=>by simp at hu; rcases hu with rfl | rfl | rfl | rfl | rfl | rfl | rfl | rfl | rfl <;> rfl) (by have:=hlt.out; omega) ?_
   intro y5 ho hg
   have S5:=Lib.hid (lc_but S3.out (D:=G) ⟨hg.os,hg.tape,hg.output,hg.size,fun i hi hn=>hg.block i hi (fun e=>hn (by injection e))⟩ zG uG nD2)
   have HO5:=Lib.hid ho
   clear ho hg S3 HO2 nD2 nd
   go_wp2
   refine ⟨⟨k+1,h2,by have:=hlt.out; omega,by go_num,rfl,by rw [eI.out]; exact S5,by rw [eO.out]; exact HO5,nd2⟩,?_⟩
   simp only [intOf]
   have:=hlt.out
   omega
  ·have hlk:¬ (k:Int)<len:=by omega
   obtain rfl:k=len:=by omega
   go_wp2
   go_ret2
   exact ⟨G,rfl,tr9_own HO.out,b_trans E0h.out S.out.b,by have:=E0h.out.size; omega,HO.out⟩
theorem chrun_ok (x:Nat→Int) (hx:C64 x) (ck:cks x=0) (a p:Nat→Int) (h s:Nat→Bool) (sa:Option Addr) (len cap:Nat) (hm:cap≤9223372036854775807) (hl:len≤cap) (h3:len≤4096) (w:World) (hc:∀ k,k<len→∃ g off,sa=some ⟨g,off,none⟩∧TW w g (off+k*4) (a k) (h k) (p k) (s k)) (T:Tb3 w) :
  Calls Tryz.prog 14 #[cv x,.slice sa len cap] w fun e w'=>∃ g,e=.returned (.tuple #[.slice (some ⟨g,0,none⟩) len len,.int .i64 0])∧TR9 w' g len (otr x a p h s)∧Below w.heap.size w w' :=
 (chrun_own x hx ck a p h s sa len cap hm hl h3 w hc T).mono fun _ _ ⟨g,e,t,b,_,_⟩=>⟨g,e,t,b⟩
end Go.Proofs.YtmcchknilnejgaaGreatDoor

import Derived.Deep.RegionWith
import Derived.Deep.DeepCutAuto
import Derived.Deep.CutBlock
import Derived.LoopN
import Derived.Laws.Cover1
import Derived.ChangeKeysEq
import Derived.Orders
import Derived.RegionTactic
import Derived.Below
import Derived.StillTactics
import Derived.Laws.Pointers
import Derived.Deep.RegionHeld3
import Derived.Deep.QuietTactic
import Derived.BigQuiet
import Derived.RowKit3
import Derived.Lib.Hide
import Derived.Lib.QuietBelow
import Derived.Laws.Bits64b
import Derived.Test.YtmcchknilnejgaaGreatDoorProg
import Derived.Shelf.Spec.BitsCarry
import Derived.Shelf.Bits.Mul64
import Derived.WalkKit
import Derived.WalkSpells
import Derived.ScopeJumps
import Derived.WalkMore
import Derived.Lib.SmallJoins
import Derived.Deep.WholeRow
import Derived.BigRegion
import Derived.Laws.AppendOwn
import Derived.OwnWalk
import Derived.Deep.LoopGhost
import Derived.Defers
import Derived.Tactics
import Derived.RangeFuncNested
import Derived.RangeFuncLeaves
import Derived.RangeFuncCalls
import Derived.Shelf.Abstract
import Derived.OwnWalkIn
import Derived.TacticsInMore
import Derived.LoopNIn
import Derived.LoopIn
import Derived.Maps.AppendAt
import Derived.Laws.OwnMore
import Derived.Deep.AppendLies
import Derived.DeepKeys
import Derived.Test.YtmcchknilnejgaaGreatDoorKbf
import Derived.Test.YtmcchknilnejgaaGreatDoorKbe
import Derived.Test.YtmcchknilnejgaaGreatDoorKar
import Derived.Test.YtmcchknilnejgaaGreatDoorKao
import Derived.Test.YtmcchknilnejgaaGreatDoorKaj
import Derived.Test.YtmcchknilnejgaaGreatDoorKaf
import Derived.Test.YtmcchknilnejgaaGreatDoorKae
import Derived.Test.YtmcchknilnejgaaGreatDoorKab
import Derived.Test.YtmcchknilnejgaaGreatDoorKaa
import Derived.Test.YtmcchknilnejgaaGreatDoorKad
import Derived.Test.YtmcchknilnejgaaGreatDoorKac
import Derived.Test.YtmcchknilnejgaaGreatDoorKag
import Derived.Test.YtmcchknilnejgaaGreatDoorKai
import Derived.Test.YtmcchknilnejgaaGreatDoorKah
import Derived.Test.YtmcchknilnejgaaGreatDoorKak
import Derived.Test.YtmcchknilnejgaaGreatDoorKan
import Derived.Test.YtmcchknilnejgaaGreatDoorKam
import Derived.Test.YtmcchknilnejgaaGreatDoorKal
import Derived.Test.YtmcchknilnejgaaGreatDoorKap
import Derived.Test.YtmcchknilnejgaaGreatDoorKaq
import Derived.Test.YtmcchknilnejgaaGreatDoorKas
import Derived.Test.YtmcchknilnejgaaGreatDoorKbd
import Derived.Test.YtmcchknilnejgaaGreatDoorKav
import Derived.Test.YtmcchknilnejgaaGreatDoorKau
import Derived.Test.YtmcchknilnejgaaGreatDoorKat
import Derived.Test.YtmcchknilnejgaaGreatDoorKaw
import Derived.Test.YtmcchknilnejgaaGreatDoorKax
import Derived.Test.YtmcchknilnejgaaGreatDoorKay
import Derived.Test.YtmcchknilnejgaaGreatDoorKaz
import Derived.Test.YtmcchknilnejgaaGreatDoorKbc
import Derived.Test.YtmcchknilnejgaaGreatDoorKbb
import Derived.Test.YtmcchknilnejgaaGreatDoorKba
import Derived.Test.YtmcchknilnejgaaGreatDoorPaa
import Derived.Test.YtmcchknilnejgaaGreatDoorKbg
namespace Go.Proofs.YtmcchknilnejgaaGreatDoor
open Go.RowKit Go.Shelf Go.Joins
structure Tw (t:Td):Prop where
 m:I64 t.m
 a:I64 t.al
 s:I64 t.sp
 b:I64 t.bi
theorem evn24 {v:Int} (h:I64 v):I64 (evn v 16777216):=by
 obtain ⟨h0,h1⟩:=h
 unfold evn near
 split <;> exact ⟨by omega,by omega⟩
theorem tw_tel {C:Cn} (hm:0≤C.m∧C.m≤3) (hv:∀ i,i<3→I64 (C.v i)) (ac rf hl gr:Bool):Tw (tel C ac rf hl gr):=by
 have z:I64 0:=by decide
 refine ⟨⟨by show _≤C.m; omega,by show C.m≤_; omega⟩,?_,?_,?_⟩
 ·show I64 (if vld C.m then evn (C.v 0) 16777216 else 0)
  split
  ·exact evn24 (hv 0 (by decide))
  ·exact z
 ·show I64 (if vld C.m then evn (C.v 1) 16777216 else 0)
  split
  ·exact evn24 (hv 1 (by decide))
  ·exact z
 ·show I64 (if vld C.m then evn (C.v 2) 16777216 else 0)
  split
  ·exact evn24 (hv 2 (by decide))
  ·exact z
theorem tw_stp {x:Nat→Int} (hx:C64 x) (ck:cks x=0) {C:Cn} (k:Okc C) (hm:0≤C.m∧C.m≤3) (a:Int) (h:Bool) (p:Int) (s:Bool):Tw (stp x C a h p s).2 :=
 tw_tel (stp_m hm a h p s) (ok_stp hx ck k a h p s).v _ _ _ _
end Go.Proofs.YtmcchknilnejgaaGreatDoor
namespace Go.Proofs.YtmcchknilnejgaaGreatDoor
open Go.RowKit Go.Shelf Go.Joins
abbrev tdl (t:Td):List Value:=[.int .i64 t.m,.bool t.vd,.bool t.ac,.bool t.rf,.bool t.hl,.bool t.gr,.int .i64 t.al,.int .i64 t.sp,.int .i64 t.bi]
def trow (T:Nat→Td):Nat→List Value
 | 0=>[]
 | n+1=>trow T n ++ tdl (T n)
theorem trow_len (T:Nat→Td) (n:Nat):(trow T n).length=n*9:=by
 induction n with
 | zero=>rfl
 | succ n ih=>rw [trow,List.length_append,ih]; simp; omega
theorem trow_at (T:Nat→Td) (n k i:Nat) (h:k<n) (hi:i<9):(trow T n)[k*9+i]?=(tdl (T k))[i]?:=by
 induction n with
 | zero=>omega
 | succ n ih =>
  rw [trow]
  by_cases e:k=n
  ·subst e
   rw [List.getElem?_append_right (by rw [trow_len]; omega),trow_len]
   congr 1
   omega
  ·rw [List.getElem?_append_left (by rw [trow_len]; omega)]
   exact ih (by omega)
theorem info_told:(Tryz.prog.info? 51).map (fun i=>(i.zero,i.size,i.bytes))=some (some (tdv 0 false false false false false 0 0 0),9,40):=by kernel_rfl
theorem td_new (w:World) (T:Td) (t:TypeId):∀ j u,(tdl T)[j]?=some u→(w.alloc (Obj.cells #[.int .i64 T.m,.bool T.vd,.bool T.ac,.bool T.rf,.bool T.hl,.bool T.gr,.int .i64 T.al,.int .i64 T.sp,.int .i64 T.bi] t)).cell? ((⟨w.heap.size,0,none⟩:Addr).add j)=some u:=fun j u hu=>by
 have hadd:(⟨w.heap.size,0,none⟩:Addr).add j=⟨w.heap.size,j,none⟩:=by unfold Addr.add; split <;> simp_all
 rw [hadd,cell_of_row _ _ j _ _ _ (heap_alloc_last w _)]
 simpa using hu
def TR9 (w:World) (g n:Nat) (T:Nat→Td):Prop:=∀ k,k<n→∀ i,i<9→w.cell? ⟨g,k*9+i,none⟩=(tdl (T k))[i]?
theorem tr9_own {w:World} {B g n m cap:Nat} {t:TypeId} {T:Nat→Td} (h:w.ownsRow B t 9 (.slice (some ⟨g,0,none⟩) m cap) n (trow T n)):TR9 w g n T:=fun k hk i hi=>by
 have add:∀ j,(⟨g,0,none⟩:Addr).add j=⟨g,j,none⟩:=fun j=>by unfold Addr.add; split <;> simp_all
 have e:=trow_at T n k i hk hi
 obtain ⟨u,hu⟩:∃ u,(tdl (T k))[i]?=some u:=⟨(tdl (T k))[i]'hi,List.getElem?_eq_getElem _⟩
 have c:=h.cells rfl _ _ (e.trans hu)
 rw [add] at c
 rw [c,hu]
theorem tr9_keep {w w':World} {g n:Nat} {T:Nat→Td} (hb:Below w.heap.size w w') (h:TR9 w g n T):TR9 w' g n T:=fun k hk i hi=>by
 obtain ⟨u,hu⟩:∃ u,(tdl (T k))[i]?=some u:=⟨(tdl (T k))[i]'hi,List.getElem?_eq_getElem _⟩
 have c:=h k hk i hi
 rw [hu] at c ⊢
 exact cell_keep hb c
theorem own_chs {w w':World} {S:Nat→Prop} {B z n:Nat} {t:TypeId} {v:Value} {xs:List Value} (h:Chs S w w') (hn:∀ k,v.ownBlock=some k→¬ S k) (c:w.ownsRow B t z v n xs):w'.ownsRow B t z v n xs:=by
 refine ⟨c.1,?_⟩
 rcases c.2 with q | ⟨g,cap,cur,rfl,h1,h2,h3⟩
 ·exact Or.inl q
 ·exact Or.inr ⟨g,cap,cur,rfl,h1,chs_row h (hn g rfl) h2,h3⟩
end Go.Proofs.YtmcchknilnejgaaGreatDoor
namespace Go.Proofs.YtmcchknilnejgaaGreatDoor
open Go.RowKit Go.Shelf Go.Joins
theorem tr9_cells {w:World} {g n:Nat} {T:Nat→Td} (h:TR9 w g n T) {k:Nat} (hk:k<n):w.cell? ⟨g,k*9,none⟩=some (.int .i64 (T k).m)∧w.cell? ⟨g,k*9+1,none⟩=some (.bool (T k).vd)∧w.cell? ⟨g,k*9+2,none⟩=some (.bool (T k).ac)∧w.cell? ⟨g,k*9+3,none⟩=some (.bool (T k).rf)∧w.cell? ⟨g,k*9+4,none⟩=some (.bool (T k).hl)∧w.cell? ⟨g,k*9+5,none⟩=some (.bool (T k).gr)∧w.cell? ⟨g,k*9+6,none⟩=some (.int .i64 (T k).al)∧w.cell? ⟨g,k*9+7,none⟩=some (.int .i64 (T k).sp)∧w.cell? ⟨g,k*9+8,none⟩=some (.int .i64 (T k).bi) :=
 ⟨h k hk 0 (by decide),h k hk 1 (by decide),h k hk 2 (by decide),h k hk 3 (by decide),h k hk 4 (by decide),h k hk 5 (by decide),h k hk 6 (by decide),h k hk 7 (by decide),h k hk 8 (by decide)⟩
theorem row4 {w:World} {b:Nat} {t:TypeId} {c0 c1 c2 c3:Value} (h:w.heap[b]?=some (.cells #[c0,c1,c2,c3] t (0,0))):w.cell? ⟨b,0,none⟩=some c0∧w.cell? ⟨b,1,none⟩=some c1∧w.cell? ⟨b,2,none⟩=some c2∧w.cell? ⟨b,3,none⟩=some c3:=⟨(cell_of_row _ _ 0 _ _ _ h).trans rfl,(cell_of_row _ _ 1 _ _ _ h).trans rfl,(cell_of_row _ _ 2 _ _ _ h).trans rfl,(cell_of_row _ _ 3 _ _ _ h).trans rfl⟩
end Go.Proofs.YtmcchknilnejgaaGreatDoor

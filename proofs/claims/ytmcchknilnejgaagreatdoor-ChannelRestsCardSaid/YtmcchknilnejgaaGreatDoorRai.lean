import Derived.Deep.RegionWith
import Derived.Deep.DeepCutAuto
import Derived.Deep.CutBlock
import Derived.LoopN
import Derived.Laws.Cover1
import Derived.ChangeKeysEq
import Derived.Lib.SmallJoins
import Derived.Deep.WholeRow
import Derived.StillTactics
import Derived.Laws.Pointers
import Derived.Deep.RegionHeld3
import Derived.Deep.QuietTactic
import Derived.BigQuiet
import Derived.RowKit3
import Derived.Lib.Hide
import Derived.Lib.QuietBelow
import Derived.Laws.Bits64b
import Derived.Test.YtmcchknilnejgaaGreatDoorProg
import Derived.Shelf.Spec.BitsCarry
import Derived.Shelf.Bits.Mul64
import Derived.WalkKit
import Derived.WalkSpells
import Derived.BigRegion
import Derived.WalkMore
import Derived.ScopeJumps
import Derived.Orders
import Derived.RegionTactic
import Derived.Below
import Derived.Deep.LoopGhost
import Derived.Defers
import Derived.Tactics
import Derived.RangeFuncNested
import Derived.RangeFuncLeaves
import Derived.RangeFuncCalls
import Derived.Shelf.Abstract
import Derived.OwnWalkIn
import Derived.TacticsInMore
import Derived.LoopNIn
import Derived.LoopIn
import Derived.Maps.AppendAt
import Derived.Laws.OwnMore
import Derived.Deep.AppendLies
import Derived.Test.YtmcchknilnejgaaGreatDoorKbf
import Derived.Test.YtmcchknilnejgaaGreatDoorKbe
import Derived.Test.YtmcchknilnejgaaGreatDoorKar
import Derived.Test.YtmcchknilnejgaaGreatDoorKao
import Derived.Test.YtmcchknilnejgaaGreatDoorKaj
import Derived.Test.YtmcchknilnejgaaGreatDoorKaf
import Derived.Test.YtmcchknilnejgaaGreatDoorRad
import Derived.Test.YtmcchknilnejgaaGreatDoorKae
import Derived.Test.YtmcchknilnejgaaGreatDoorKag
import Derived.Test.YtmcchknilnejgaaGreatDoorKab
import Derived.Test.YtmcchknilnejgaaGreatDoorKaa
import Derived.Test.YtmcchknilnejgaaGreatDoorKai
import Derived.Test.YtmcchknilnejgaaGreatDoorKah
import Derived.Test.YtmcchknilnejgaaGreatDoorKad
import Derived.Test.YtmcchknilnejgaaGreatDoorKac
import Derived.Test.YtmcchknilnejgaaGreatDoorRac
import Derived.Test.YtmcchknilnejgaaGreatDoorKak
import Derived.Test.YtmcchknilnejgaaGreatDoorRag
import Derived.Test.YtmcchknilnejgaaGreatDoorKan
import Derived.Test.YtmcchknilnejgaaGreatDoorKam
import Derived.Test.YtmcchknilnejgaaGreatDoorKal
import Derived.Test.YtmcchknilnejgaaGreatDoorKap
import Derived.Test.YtmcchknilnejgaaGreatDoorKaq
import Derived.Test.YtmcchknilnejgaaGreatDoorKas
import Derived.Test.YtmcchknilnejgaaGreatDoorKbd
import Derived.Test.YtmcchknilnejgaaGreatDoorKav
import Derived.Test.YtmcchknilnejgaaGreatDoorKau
import Derived.Test.YtmcchknilnejgaaGreatDoorKat
import Derived.Test.YtmcchknilnejgaaGreatDoorKaw
import Derived.Test.YtmcchknilnejgaaGreatDoorKax
import Derived.Test.YtmcchknilnejgaaGreatDoorKay
import Derived.Test.YtmcchknilnejgaaGreatDoorKaz
import Derived.Test.YtmcchknilnejgaaGreatDoorKbc
import Derived.Test.YtmcchknilnejgaaGreatDoorKbb
import Derived.Test.YtmcchknilnejgaaGreatDoorKba
import Derived.Test.YtmcchknilnejgaaGreatDoorRah
set_option maxHeartbeats 8000000
set_option maxRecDepth 20000
namespace Go.Proofs.YtmcchknilnejgaaGreatDoor
open Go.RowKit Go.Shelf Go.Joins
structure SR (W:World) (a u:Nat→Int) (U:World):Prop where
 v:VR U W.heap.size a
 s:U.heap[W.heap.size+1]?=some (.cells #[.int .i64 (u 0),.int .i64 (u 1),.int .i64 (u 2),.int .i64 (u 3),.int .i64 (u 4),.int .i64 (u 5)] 40 (0,0))
 b:Below W.heap.size W U
theorem row6 {w:World} {b:Nat} {t:TypeId} {c0 c1 c2 c3 c4 c5:Value} (h:w.heap[b]?=some (.cells #[c0,c1,c2,c3,c4,c5] t (0,0))) :
  w.cell? ⟨b,0,none⟩=some c0∧w.cell? ⟨b,1,none⟩=some c1∧w.cell? ⟨b,2,none⟩=some c2∧w.cell? ⟨b,3,none⟩=some c3∧w.cell? ⟨b,4,none⟩=some c4∧w.cell? ⟨b,5,none⟩=some c5:=⟨(cell_of_row _ _ 0 _ _ _ h).trans rfl,(cell_of_row _ _ 1 _ _ _ h).trans rfl,(cell_of_row _ _ 2 _ _ _ h).trans rfl,(cell_of_row _ _ 3 _ _ _ h).trans rfl,(cell_of_row _ _ 4 _ _ _ h).trans rfl,(cell_of_row _ _ 5 _ _ _ h).trans rfl⟩
theorem fz6 {w:World} {b:Nat} {t:TypeId} {c0 c1 c2 c3 c4 c5:Value} (h:w.heap[b]?=some (.cells #[c0,c1,c2,c3,c4,c5] t (0,0))) :
  w.frozen? ⟨b,0,none⟩=false∧w.frozen? ⟨b,1,none⟩=false∧w.frozen? ⟨b,2,none⟩=false∧w.frozen? ⟨b,3,none⟩=false∧w.frozen? ⟨b,4,none⟩=false∧w.frozen? ⟨b,5,none⟩=false:=⟨frozen_of_row _ _ 0 _ _ h,frozen_of_row _ _ 1 _ _ h,frozen_of_row _ _ 2 _ _ h,frozen_of_row _ _ 3 _ _ h,frozen_of_row _ _ 4 _ _ h,frozen_of_row _ _ 5 _ _ h⟩
theorem row6_put {w:World} {b:Nat} {t:TypeId} {c0 c1 c2 c3 c4 c5 d0 d1 d2 d3 d4 d5:Value} (h:w.heap[b]?=some (.cells #[c0,c1,c2,c3,c4,c5] t (0,0))):((((((w.setCell ⟨b,0,none⟩ d0).setCell ⟨b,1,none⟩ d1).setCell ⟨b,2,none⟩ d2).setCell ⟨b,3,none⟩ d3).setCell ⟨b,4,none⟩ d4).setCell ⟨b,5,none⟩ d5).heap[b]?=some (.cells #[d0,d1,d2,d3,d4,d5] t (0,0)):=by
 replace h:(w.setCell ⟨b,0,none⟩ d0).heap[b]?=some (.cells #[d0,c1,c2,c3,c4,c5] t (0,0)):=(heap_setCell_same _ b 0 _ _ _ h).trans rfl
 replace h:((w.setCell ⟨b,0,none⟩ d0).setCell ⟨b,1,none⟩ d1).heap[b]?=some (.cells #[d0,d1,c2,c3,c4,c5] t (0,0)):=(heap_setCell_same _ b 1 _ _ _ h).trans rfl
 replace h:(((w.setCell ⟨b,0,none⟩ d0).setCell ⟨b,1,none⟩ d1).setCell ⟨b,2,none⟩ d2).heap[b]?=some (.cells #[d0,d1,d2,c3,c4,c5] t (0,0)):=(heap_setCell_same _ b 2 _ _ _ h).trans rfl
 replace h:((((w.setCell ⟨b,0,none⟩ d0).setCell ⟨b,1,none⟩ d1).setCell ⟨b,2,none⟩ d2).setCell ⟨b,3,none⟩ d3).heap[b]?=some (.cells #[d0,d1,d2,d3,c4,c5] t (0,0)):=(heap_setCell_same _ b 3 _ _ _ h).trans rfl
 replace h:(((((w.setCell ⟨b,0,none⟩ d0).setCell ⟨b,1,none⟩ d1).setCell ⟨b,2,none⟩ d2).setCell ⟨b,3,none⟩ d3).setCell ⟨b,4,none⟩ d4).heap[b]?=some (.cells #[d0,d1,d2,d3,d4,c5] t (0,0)):=(heap_setCell_same _ b 4 _ _ _ h).trans rfl
 replace h:((((((w.setCell ⟨b,0,none⟩ d0).setCell ⟨b,1,none⟩ d1).setCell ⟨b,2,none⟩ d2).setCell ⟨b,3,none⟩ d3).setCell ⟨b,4,none⟩ d4).setCell ⟨b,5,none⟩ d5).heap[b]?=some (.cells #[d0,d1,d2,d3,d4,d5] t (0,0)):=(heap_setCell_same _ b 5 _ _ _ h).trans rfl
 exact h
theorem chstate_any (b fb gb:Nat) (hl:Value) (x:Nat→Int) (m s:Int) (a u:Nat→Int) (w:World) (cb:CB w b fb gb hl x m s a u):Calls Tryz.prog 17 #[.pointer (some ⟨b,0,none⟩)] w (RetV (.tuple #[tv (a 0) (a 1) (a 2),sv u]) w):=by
 have b2:Below w.heap.size w ((w.alloc (Obj.cells #[.int .i64 0,.int .i64 0,.int .i64 0] 23)).alloc (Obj.cells #[.int .i64 0,.int .i64 0,.int .i64 0,.int .i64 0,.int .i64 0,.int .i64 0] 40)):=b_alloc (b_alloc (Below.refl _ _))
 have lb:=cb_lt cb
 have nb:b≠w.heap.size:=Nat.ne_of_lt lb
 have nr:w.heap.size+1≠w.heap.size:=Nat.ne_of_gt (Nat.lt_succ_self _)
 have kV:VR ((w.alloc (Obj.cells #[.int .i64 0,.int .i64 0,.int .i64 0] 23)).alloc (Obj.cells #[.int .i64 0,.int .i64 0,.int .i64 0,.int .i64 0,.int .i64 0,.int .i64 0] 40)) w.heap.size (fun _=>0):=lay_old _ _ _
 have kS:((w.alloc (Obj.cells #[.int .i64 0,.int .i64 0,.int .i64 0] 23)).alloc (Obj.cells #[.int .i64 0,.int .i64 0,.int .i64 0,.int .i64 0,.int .i64 0,.int .i64 0] 40)).heap[w.heap.size+1]?=some (.cells #[.int .i64 0,.int .i64 0,.int .i64 0,.int .i64 0,.int .i64 0,.int .i64 0] 40 (0,0)):=lay_new _ _ _
 replace cb:=row_keep b2 cb
 have B:=b2
 clear b2
 go_enter Tryz.func17,Tryz.ntmps17
 go_wp2
 generalize ((w.alloc (Obj.cells #[.int .i64 0,.int .i64 0,.int .i64 0] 23)).alloc (Obj.cells #[.int .i64 0,.int .i64 0,.int .i64 0,.int .i64 0,.int .i64 0,.int .i64 0] 40))=y0 at *
 obtain ⟨s0,s1,s2⟩:=cb_st cb
 obtain ⟨d0,d1,d2,d3,d4,d5⟩:=cb_db cb
 obtain ⟨v0,v1,v2⟩:=vr_tc (k:=fun _=>0) kV
 have z0:=frozen_of_row y0 w.heap.size 0 _ _ kV
 have z1:=frozen_of_row y0 w.heap.size 1 _ _ kV
 have z2:=frozen_of_row y0 w.heap.size 2 _ _ kV
 have r6:=row6 kS
 have f6:=fz6 kS
 have lV:w.heap.size<y0.heap.size:=(Array.getElem?_eq_some_iff.1 kV).1
 have lS:w.heap.size+1<y0.heap.size:=(Array.getElem?_eq_some_iff.1 kS).1
 have sN:SR w a u (((((((((y0.setCell ⟨w.heap.size,0,none⟩ (.int .i64 (a 0))).setCell ⟨w.heap.size,1,none⟩ (.int .i64 (a 1))).setCell ⟨w.heap.size,2,none⟩ (.int .i64 (a 2))).setCell ⟨(w.heap.size+1),0,none⟩ (.int .i64 (u 0))).setCell ⟨(w.heap.size+1),1,none⟩ (.int .i64 (u 1))).setCell ⟨(w.heap.size+1),2,none⟩ (.int .i64 (u 2))).setCell ⟨(w.heap.size+1),3,none⟩ (.int .i64 (u 3))).setCell ⟨(w.heap.size+1),4,none⟩ (.int .i64 (u 4))).setCell ⟨(w.heap.size+1),5,none⟩ (.int .i64 (u 5))):=⟨but_row but_set6 (Ne.symm nr) (vr_put (k:=fun _=>0) kV),row6_put (but_row but_v3 nr kS),bb_set6 (z:=u) (b_set (b_set (b_set B (Nat.le_refl _)) (Nat.le_refl _)) (Nat.le_refl _)) (Nat.le_succ _)⟩
 clear cb kV kS B
 go_region
 generalize (((((((((y0.setCell ⟨w.heap.size,0,none⟩ (.int .i64 (a 0))).setCell ⟨w.heap.size,1,none⟩ (.int .i64 (a 1))).setCell ⟨w.heap.size,2,none⟩ (.int .i64 (a 2))).setCell ⟨(w.heap.size+1),0,none⟩ (.int .i64 (u 0))).setCell ⟨(w.heap.size+1),1,none⟩ (.int .i64 (u 1))).setCell ⟨(w.heap.size+1),2,none⟩ (.int .i64 (u 2))).setCell ⟨(w.heap.size+1),3,none⟩ (.int .i64 (u 3))).setCell ⟨(w.heap.size+1),4,none⟩ (.int .i64 (u 4))).setCell ⟨(w.heap.size+1),5,none⟩ (.int .i64 (u 5)))=y1 at *
 obtain ⟨h1,h2,h3⟩:=vr_tc sN.v
 obtain ⟨q0,q1,q2,q3,q4,q5⟩:=row6 sN.s
 go_wp2
 exact bodyPost_ret (v:=.tuple #[tv (a 0) (a 1) (a 2),sv u]) (by simp [results,Tryz.results17,go_sem,h1,h2,h3,q0,q1,q2,q3,q4,q5]) rfl ⟨rfl,b_drew sN.b⟩
end Go.Proofs.YtmcchknilnejgaaGreatDoor

import Derived.Deep.RegionWith
import Derived.Deep.DeepCutAuto
import Derived.Deep.CutBlock
import Derived.LoopN
import Derived.Laws.Cover1
import Derived.ChangeKeysEq
import Derived.Orders
import Derived.RegionTactic
import Derived.Below
import Derived.StillTactics
import Derived.Laws.Pointers
import Derived.Deep.RegionHeld3
import Derived.Deep.QuietTactic
import Derived.BigQuiet
import Derived.RowKit3
import Derived.Lib.Hide
import Derived.Lib.QuietBelow
import Derived.Laws.Bits64b
import Derived.Test.YtjifkmldigemkaaGreatDoorProg
import Derived.Shelf.Spec.BitsCarry
import Derived.Shelf.Bits.Mul64
import Derived.WalkKit
import Derived.WalkSpells
import Derived.ScopeJumps
import Derived.WalkMore
import Derived.BigRegion
import Derived.Lib.SmallJoins
import Derived.Deep.WholeRow
import Derived.Deep.LoopGhost
import Derived.Defers
import Derived.Tactics
import Derived.RangeFuncNested
import Derived.RangeFuncLeaves
import Derived.RangeFuncCalls
import Derived.Shelf.Abstract
import Derived.OwnWalkIn
import Derived.TacticsInMore
import Derived.LoopNIn
import Derived.LoopIn
import Derived.Test.YtjifkmldigemkaaGreatDoorTbg
import Derived.Test.YtjifkmldigemkaaGreatDoorTbf
import Derived.Test.YtjifkmldigemkaaGreatDoorTar
import Derived.Test.YtjifkmldigemkaaGreatDoorTao
import Derived.Test.YtjifkmldigemkaaGreatDoorTaj
import Derived.Test.YtjifkmldigemkaaGreatDoorTaf
import Derived.Test.YtjifkmldigemkaaGreatDoorTae
import Derived.Test.YtjifkmldigemkaaGreatDoorTab
import Derived.Test.YtjifkmldigemkaaGreatDoorTbo
import Derived.Test.YtjifkmldigemkaaGreatDoorTaa
import Derived.Test.YtjifkmldigemkaaGreatDoorTad
import Derived.Test.YtjifkmldigemkaaGreatDoorTac
import Derived.Test.YtjifkmldigemkaaGreatDoorTbp
import Derived.Test.YtjifkmldigemkaaGreatDoorTag
import Derived.Test.YtjifkmldigemkaaGreatDoorTai
import Derived.Test.YtjifkmldigemkaaGreatDoorTah
import Derived.Test.YtjifkmldigemkaaGreatDoorTak
import Derived.Test.YtjifkmldigemkaaGreatDoorTbv
import Derived.Test.YtjifkmldigemkaaGreatDoorTan
import Derived.Test.YtjifkmldigemkaaGreatDoorTam
import Derived.Test.YtjifkmldigemkaaGreatDoorTal
import Derived.Test.YtjifkmldigemkaaGreatDoorTap
import Derived.Test.YtjifkmldigemkaaGreatDoorTaq
import Derived.Test.YtjifkmldigemkaaGreatDoorTas
import Derived.Test.YtjifkmldigemkaaGreatDoorTbe
import Derived.Test.YtjifkmldigemkaaGreatDoorTbd
import Derived.Test.YtjifkmldigemkaaGreatDoorTav
import Derived.Test.YtjifkmldigemkaaGreatDoorTau
import Derived.Test.YtjifkmldigemkaaGreatDoorTat
import Derived.Test.YtjifkmldigemkaaGreatDoorTaw
import Derived.Test.YtjifkmldigemkaaGreatDoorTax
import Derived.Test.YtjifkmldigemkaaGreatDoorTay
import Derived.Test.YtjifkmldigemkaaGreatDoorTaz
import Derived.Test.YtjifkmldigemkaaGreatDoorTbc
import Derived.Test.YtjifkmldigemkaaGreatDoorTbb
import Derived.Test.YtjifkmldigemkaaGreatDoorTba
import Derived.Test.YtjifkmldigemkaaGreatDoorTbx
import Derived.Test.YtjifkmldigemkaaGreatDoorTbz
import Derived.Test.YtjifkmldigemkaaGreatDoorTbh
import Derived.DeepKeys
set_option maxHeartbeats 4000000
set_option maxRecDepth 20000
namespace Go.Proofs.YtjifkmldigemkaaGreatDoor
open Go.RowKit Go.Shelf Go.Joins
theorem chclock_any (b fb gb:Nat) (hl:Value) (x:Nat→Int) (m s:Int) (a u:Nat→Int) (w:World) (cb:CB w b fb gb hl x m s a u):Calls Tryz.prog 13 #[.pointer (some ⟨b,0,none⟩)] w (RetV (.tuple #[.int .i64 m,.int .i64 s]) w):=by
 obtain ⟨q0,q1⟩:=cb_ck cb
 go_enter Tryz.func13,Tryz.ntmps13
 go_wp2
 have q0:=cell_regrown q0
 have q1:=cell_regrown q1
 refine wp_region_quiet_below (by kernel_rfl) (by kernel_rfl) ?_
 repeat (with_reducible refine wpQuiet_step (fun KQ hKQ=>?_); go_simp; with_reducible refine hKQ _ ?_; clear hKQ KQ)
 refine wpQuiet_nil ?_
 intro _ hw'
 obtain ⟨⟨dq,osq⟩,hw''⟩:=hw'
 subst hw''
 have E:=below_regrown w dq osq
 generalize Sort.grow (redrawn w dq) osq=y1 at *
 go_wp2
 go_ret2
 exact ⟨rfl,E⟩
end Go.Proofs.YtjifkmldigemkaaGreatDoor
namespace Go.Proofs.YtjifkmldigemkaaGreatDoor
open Go.RowKit Go.Shelf Go.Joins
theorem stp_blank {x:Nat→Int} {C:Cn} {a p:Int} {h:Bool} (s:Bool) (hs:sks C.m=true) (ha:the x a=0) (gp:br h p=false) :
  stp x C a h p s=({ C with l:=thv x a,r:=0 },⟨C.m,vld C.m,false,false,false,false,(tel C false false false false).al,(tel C false false false false).sp,(tel C false false false false).bi⟩):=by
 obtain ⟨e0,e1,e2,e3⟩:=a_ok ha C.l C.r
 have em:mid x (fed x C a) (thv x a) false false false p s=({ C with l:=thv x a,r:=0 },2,false,false):=by
  unfold mid
  rw [if_neg (by decide),if_pos (show sks (fed x C a).m=true from hs),if_neg (by decide)]
  unfold fed
  rw [e0,e2]
 unfold stp
 rw [e0,e1,e3,gp,em]
 unfold fin trn clk2
 dsimp only
 rw [nxt_seek hs rfl,if_neg (by rw [hs]; simp)]
 rfl
theorem sk_blank {x:Nat→Int} {C:Cn} {n:Nat} {z:Nat→Int} (k:Sk C n z) {a p:Int} {h:Bool} (s:Bool) (ha:the x a=0) (gp:br h p=false):Sk (stp x C a h p s).1 n z∧(stp x C a h p s).2=td0:=by
 rw [stp_blank s (sk_m k) ha gp]
 exact ⟨⟨k.m,k.s,k.g,k.c,k.z⟩,sk_td k⟩
end Go.Proofs.YtjifkmldigemkaaGreatDoor

import Derived.LoopN
import Derived.Laws.Cover1
import Derived.ChangeKeysEq
import Derived.Orders
import Derived.RegionTactic
import Derived.Below
import Derived.Test.YtmcchknilnejgaaGreatDoorKae
import Derived.Test.YtmcchknilnejgaaGreatDoorKaa
import Derived.Test.YtmcchknilnejgaaGreatDoorKaf
import Derived.Test.YtmcchknilnejgaaGreatDoorKbl
import Derived.Test.YtmcchknilnejgaaGreatDoorKag
import Derived.Test.YtmcchknilnejgaaGreatDoorKbk
import Derived.Deep.QuietTactic
import Derived.BigQuiet
import Derived.Lib.SmallJoins
import Derived.StillTactics
import Derived.Laws.Pointers
import Derived.Deep.RegionHeld3
import Derived.RowKit3
import Derived.Lib.Hide
import Derived.Lib.QuietBelow
import Derived.Laws.Bits64b
import Derived.Test.YtmcchknilnejgaaGreatDoorProg
import Derived.Shelf.Spec.BitsCarry
import Derived.Shelf.Bits.Mul64
import Derived.WalkKit
import Derived.WalkSpells
import Derived.Maps.AppendAt
import Derived.Laws.OwnMore
import Derived.Deep.AppendLies
import Derived.Deep.WholeRow
import Derived.Test.YtmcchknilnejgaaGreatDoorKah
import Derived.Test.YtmcchknilnejgaaGreatDoorKab
namespace Go.Proofs.YtmcchknilnejgaaGreatDoor
theorem tdg_id {x f c:Int} (h:f≤x) (k:x≤c):tdg x f c=x:=by
 unfold tdg
 rw [if_neg (show ¬ x<f by omega),if_neg (by omega)]
section
variable {m:Nat→Int} {f0 f1 f2 c0 c1 c2 a b c:Int}
theorem tmz_stays (h0:FB f0 c0) (h1:FB f1 c1) (h2:FB f2 c2) (R:TR m f0 f1 f2 c0 c1 c2 a b c) :
  (∀ i,i<6→tmz m f0 f1 f2 c0 c1 c2 a b c i=m i)↔(m 0≤c0∧m 3≤c1∧m 5≤c2)∧Snd m f0 f1 f2:=by
 obtain ⟨e0,e1,e2,e3,e4,e5⟩:=tmz_lits m f0 f1 f2 c0 c1 c2 a b c
 constructor
 ·intro h
  have S:=tmz_snd h0 h1 h2 R
  have d0:=(tdg_in (x:=m 0) h0.2.1).2
  have d1:=(tdg_in (x:=m 3) h1.2.1).2
  have d2:=(tdg_in (x:=m 5) h2.2.1).2
  rw [← e0,h 0 (by decide)] at d0
  rw [← e3,h 3 (by decide)] at d1
  rw [← e5,h 5 (by decide)] at d2
  obtain ⟨s,s0,s1,s2,s3,s4,s5⟩:=S
  rw [h 0 (by decide),h 1 (by decide),h 3 (by decide)] at s3
  rw [h 0 (by decide),h 2 (by decide),h 5 (by decide)] at s4
  rw [h 3 (by decide),h 4 (by decide),h 5 (by decide)] at s5
  rw [h 0 (by decide)] at s0
  rw [h 3 (by decide)] at s1
  rw [h 5 (by decide)] at s2
  exact ⟨⟨d0,d1,d2⟩,fun i hi=>by have:=s i hi; rwa [h i hi] at this,s0,s1,s2,s3,s4,s5⟩
 ·rintro ⟨⟨u0,u1,u2⟩,_,s0,s1,s2,s3,s4,s5⟩
  have q0:=tdg_id s0 u0
  have q1:=tdg_id s1 u1
  have q2:=tdg_id s2 u2
  have Ra:=R.a
  have Rb:=R.b
  have Rc:=R.c
  rw [q0,q1,Int.mul_comm] at Ra
  rw [q0,q2,Int.mul_comm] at Rb
  rw [q1,q2,Int.mul_comm] at Rc
  have k1:=(root_abs Ra).1 s3
  have k2:=(root_abs Rb).1 s4
  have k4:=(root_abs Rc).1 s5
  exact six (P:=fun i=>tmz m f0 f1 f2 c0 c1 c2 a b c i=m i) (e0.trans q0) (e1.trans (clz_id k1.1 k1.2)) (e2.trans (clz_id k2.1 k2.2)) (e3.trans q1) (e4.trans (clz_id k4.1 k4.2)) (e5.trans q2)
end
end Go.Proofs.YtmcchknilnejgaaGreatDoor
namespace Go.Proofs.YtmcchknilnejgaaGreatDoor
open Go.RowKit Go.Shelf Go.Joins
def sqb (a b:Nat→Int):Bool:=a 0 == b 0 && (a 1 == b 1 && (a 2 == b 2 && (a 3 == b 3 && (a 4 == b 4 && a 5 == b 5))))
theorem sqb_iff {a b:Nat→Int}:sqb a b=true↔∀ i,i<6→a i=b i:=by
 unfold sqb
 simp only [Bool.and_eq_true,beq_iff_eq]
 constructor
 ·rintro ⟨h0,h1,h2,h3,h4,h5⟩
  exact six (P:=fun i=>a i=b i) h0 h1 h2 h3 h4 h5
 ·intro h
  exact ⟨h 0 (by decide),h 1 (by decide),h 2 (by decide),h 3 (by decide),h 4 (by decide),h 5 (by decide)⟩
theorem sqb_same {a b:Nat→Int} (h:∀ i,i<6→a i=b i):sqb a b=true:=sqb_iff.2 h
theorem sym_eq6 (x0 x1 x2 x3 x4 x5 y0 y1 y2 y3 y4 y5:Int) (w:World):(Op.equalIn 10000 40 (.agg #[.int .i64 x0,.int .i64 x1,.int .i64 x2,.int .i64 x3,.int .i64 x4,.int .i64 x5]) (.agg #[.int .i64 y0,.int .i64 y1,.int .i64 y2,.int .i64 y3,.int .i64 y4,.int .i64 y5])).run Tryz.prog w=.ok (x0 == y0 && (x1 == y1 && (x2 == y2 && (x3 == y3 && (x4 == y4 && x5 == y5))))) w:=by
 have hs:(Tryz.prog.info? 2).isSome=true:=by kernel_rfl
 obtain ⟨i,hi⟩:=Option.isSome_iff_exists.1 hs
 have hc:Tryz.prog.cellsOf 2=1:=by kernel_rfl
 have hp:Tryz.prog.plainKey 2=true:=by kernel_rfl
 rw [run_equalIn_array w 9999 _ _ Tryz.underlying40 hi]
 rw [hc]
 have P:=fun (x0 x1 x2 x3 x4 x5:Int) (k:Nat) (v:Value) (h:(#[Value.int IntKind.i64 x0,Value.int IntKind.i64 x1,Value.int IntKind.i64 x2,Value.int IntKind.i64 x3,Value.int IntKind.i64 x4,Value.int IntKind.i64 x5]:Array Value)[k*1]?=some v) (w:World)=>run_part_plain w hp h
 have E:=fun (a b:Int) (w:World)=>run_equalIn_int w 9998 2 .i64 .i64 a b Tryz.underlying2
 simp only [List.range,List.range.loop,Op.eqItems,Sem.run_bind,P _ _ _ _ _ _ 0 _ rfl,Result.andThen_ok]
 by_cases h0:x0=y0
 ·subst h0
  by_cases h1:x1=y1
  ·subst h1
   by_cases h2:x2=y2
   ·subst h2
    by_cases h3:x3=y3
    ·subst h3
     by_cases h4:x4=y4
     ·subst h4
      by_cases h5:x5=y5 <;> simp [h5,P _ _ _ _ _ _ 1 _ rfl,P _ _ _ _ _ _ 2 _ rfl,P _ _ _ _ _ _ 3 _ rfl,P _ _ _ _ _ _ 4 _ rfl,P _ _ _ _ _ _ 5 _ rfl,E]
     ·simp [h4,P _ _ _ _ _ _ 1 _ rfl,P _ _ _ _ _ _ 2 _ rfl,P _ _ _ _ _ _ 3 _ rfl,P _ _ _ _ _ _ 4 _ rfl,P _ _ _ _ _ _ 5 _ rfl,E]
    ·simp [h3,P _ _ _ _ _ _ 1 _ rfl,P _ _ _ _ _ _ 2 _ rfl,P _ _ _ _ _ _ 3 _ rfl,P _ _ _ _ _ _ 4 _ rfl,P _ _ _ _ _ _ 5 _ rfl,E]
   ·simp [h2,P _ _ _ _ _ _ 1 _ rfl,P _ _ _ _ _ _ 2 _ rfl,P _ _ _ _ _ _ 3 _ rfl,P _ _ _ _ _ _ 4 _ rfl,P _ _ _ _ _ _ 5 _ rfl,E]
  ·simp [h1,P _ _ _ _ _ _ 1 _ rfl,P _ _ _ _ _ _ 2 _ rfl,P _ _ _ _ _ _ 3 _ rfl,P _ _ _ _ _ _ 4 _ rfl,P _ _ _ _ _ _ 5 _ rfl,E]
 ·simp [h0,P _ _ _ _ _ _ 1 _ rfl,P _ _ _ _ _ _ 2 _ rfl,P _ _ _ _ _ _ 3 _ rfl,P _ _ _ _ _ _ 4 _ rfl,P _ _ _ _ _ _ 5 _ rfl,E]
theorem sym_eq (a b:Nat→Int) (w:World):(Op.equalIn 10000 40 (sv a) (sv b)).run Tryz.prog w=.ok (sqb a b) w:=sym_eq6 _ _ _ _ _ _ _ _ _ _ _ _ w
end Go.Proofs.YtmcchknilnejgaaGreatDoor
namespace Go.Proofs.YtmcchknilnejgaaGreatDoor
open Go.RowKit Go.Shelf Go.Joins
def od (z:Nat→Int) (l:Int):Nat→Int
 | 0=>0
 | n+1=>od z l n+z n - l
end Go.Proofs.YtmcchknilnejgaaGreatDoor

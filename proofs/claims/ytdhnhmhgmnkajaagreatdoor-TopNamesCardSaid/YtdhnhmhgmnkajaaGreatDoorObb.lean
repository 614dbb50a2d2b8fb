import Derived.Lib.SmallJoins
import Derived.Test.YtdhnhmhgmnkajaaGreatDoorOaf
import Derived.Test.YtdhnhmhgmnkajaaGreatDoorOaa
import Derived.Test.YtdhnhmhgmnkajaaGreatDoorOak
import Derived.Test.YtdhnhmhgmnkajaaGreatDoorOah
set_option maxHeartbeats 4000000
set_option maxRecDepth 10000
namespace Go.Proofs.YtdhnhmhgmnkajaaGreatDoor
open Go.RowKit Go.Shelf Go.Joins
def kd (h:Bool) (p:Int):Int:=if h then (if gd p then 0 else 1) else 2
def br (h:Bool) (p:Int):Bool:=h && gd p
def bv (h:Bool) (p:Int):Int:=if br h p then p else 0
theorem three (h:Bool) (p:Int):(h=true∧gd p=true∧kd h p=0∧br h p=true∧bv h p=p)∨(h=true∧gd p=false∧kd h p=1∧br h p=false∧bv h p=0)∨(h=false∧kd h p=2∧br h p=false∧bv h p=0):=by
 cases h <;> cases g:gd p <;> simp [kd,br,bv,g]
theorem kind_any (a:Int) (h:Bool) (p:Int) (s:Bool) (w:World):Calls Tryz.prog 62 #[tk a h p s] w (RetV (.int .i64 (kd h p)) w):=by
 have cg:=good_any p
 rcases three h p with ⟨rfl,g,k,-,-⟩ | ⟨rfl,g,k,-,-⟩ | ⟨rfl,k,-,-⟩
 ·rw [k]
  rw [g] at cg
  clear k g
  go_enter Tryz.func62,Tryz.ntmps62
  go_wp2_with fail
  refine (cg _).mono ?_
  rintro e y0 ⟨rfl,hb⟩
  go_wp2
  go_ret
  exact ⟨rfl,b_trans (b_alloc (Below.refl _ _)) hb⟩
 ·rw [k]
  rw [g] at cg
  clear k g
  go_enter Tryz.func62,Tryz.ntmps62
  go_wp2_with fail
  refine (cg _).mono ?_
  rintro e y0 ⟨rfl,hb⟩
  go_wp2
  go_ret
  exact ⟨rfl,b_trans (b_alloc (Below.refl _ _)) hb⟩
 ·rw [k]
  clear k cg
  go_enter Tryz.func62,Tryz.ntmps62
  go_wp2
  go_ret
  exact ⟨rfl,b_alloc (Below.refl _ _)⟩
theorem brings_any (a:Int) (h:Bool) (p:Int) (s:Bool) (w:World):Calls Tryz.prog 23 #[tk a h p s] w (RetV (.tuple #[.int .i64 (bv h p),.bool (br h p)]) w):=by
 have ck:=kind_any a h p s
 have tw:TW (w.alloc (Obj.cells #[.int .i64 a,.bool h,.int .i64 p,.bool s] 36)) w.heap.size 0 a h p s:=tw_new
 have E:Below w.heap.size w (w.alloc (Obj.cells #[.int .i64 a,.bool h,.int .i64 p,.bool s] 36)):=b_alloc (Below.refl _ _)
 rcases three h p with ⟨-,-,k,k1,k2⟩ | ⟨-,-,k,k1,k2⟩ | ⟨-,k,k1,k2⟩
 ·rw [k1,k2]
  rw [k] at ck
  clear k k1 k2
  go_enter Tryz.func23,Tryz.ntmps23
  go_wp2_with fail
  refine (ck _).mono ?_
  rintro e y0 ⟨rfl,hb⟩
  replace tw:=tw_keep hb tw
  replace E:=b_trans E hb
  clear hb ck
  obtain ⟨t0,t1,t2,t3⟩:=tw
  go_wp2
  go_ret2
  exact ⟨rfl,E⟩
 ·rw [k1,k2]
  rw [k] at ck
  clear k k1 k2
  go_enter Tryz.func23,Tryz.ntmps23
  go_wp2_with fail
  refine (ck _).mono ?_
  rintro e y0 ⟨rfl,hb⟩
  replace tw:=tw_keep hb tw
  replace E:=b_trans E hb
  clear hb ck
  obtain ⟨t0,t1,t2,t3⟩:=tw
  go_wp2
  go_ret2
  exact ⟨rfl,E⟩
 ·rw [k1,k2]
  rw [k] at ck
  clear k k1 k2
  go_enter Tryz.func23,Tryz.ntmps23
  go_wp2_with fail
  refine (ck _).mono ?_
  rintro e y0 ⟨rfl,hb⟩
  replace tw:=tw_keep hb tw
  replace E:=b_trans E hb
  clear hb ck
  obtain ⟨t0,t1,t2,t3⟩:=tw
  go_wp2
  go_ret2
  exact ⟨rfl,E⟩
end Go.Proofs.YtdhnhmhgmnkajaaGreatDoor

import Derived.Test.YtjifkmldigemkaaGreatDoorTai
import Derived.Test.YtjifkmldigemkaaGreatDoorTab
import Derived.Test.YtjifkmldigemkaaGreatDoorTae
import Derived.Test.YtjifkmldigemkaaGreatDoorTaf
import Derived.Test.YtjifkmldigemkaaGreatDoorTak
import Derived.Test.YtjifkmldigemkaaGreatDoorTah
import Derived.Lib.SmallJoins
import Derived.Test.YtjifkmldigemkaaGreatDoorTag
set_option maxHeartbeats 4000000
set_option maxRecDepth 10000
namespace Go.Proofs.YtjifkmldigemkaaGreatDoor
open Go.RowKit Go.Shelf
theorem retV_same {P:Program} {f:FuncId} {args:Array Value} {w:World} {v:Value} (h:Calls P f args w fun e w'=>e=.returned v∧w=w'):Calls P f args w (RetV v w) :=
 h.mono fun _ _ k=>⟨k.1,k.2 ▸ Below.refl _ _⟩
theorem tmz_sv (m:Nat→Int) (f0 f1 f2 c0 c1 c2 a b c:Int):sv (umk (umk (umk (dgm (tdg (m 0) f0 c0) (tdg (m 3) f1 c1) (tdg (m 5) f2 c2)) 1 (clz (m 1) a)) 2 (clz (m 2) b)) 4 (clz (m 4) c))=sv (tmz m f0 f1 f2 c0 c1 c2 a b c):=by
 simp [sv,umk,tmz,dgm]
theorem sub_i64 {x f:Int} (h:-9223372036854775808≤x - f) (k:x - f≤9223372036854775807):IntKind.i64.wrap (x - f)=x - f:=by
 rw [IntKind.wrap_i64]; omega
theorem tame_ok (m:Nat→Int) (f0 f1 f2 c0 c1 c2 a b c:Int) (hm:I6 m) (h0:FB f0 c0) (h1:FB f1 c1) (h2:FB f2 c2) (R:TR m f0 f1 f2 c0 c1 c2 a b c) (w:World) (hp:PL w) :
  Calls Tryz.prog 133 #[sv m,tv f0 f1 f2,tv c0 c1 c2] w (RetV (.tuple #[sv (tmz m f0 f1 f2 c0 c1 c2 a b c),.int .i64 0]) w):=by
 have d0:=tdg_in (x:=m 0) h0.2.1
 have d1:=tdg_in (x:=m 3) h1.2.1
 have d2:=tdg_in (x:=m 5) h2.2.1
 obtain ⟨ha,hb,hc⟩:=tr_fits h0 h1 h2 R
 have Ra:=R.a
 have Rb:=R.b
 have Rc:=R.c
 rw [Int.mul_comm] at Ra Rb Rc
 have k1:=hm 1 (by decide)
 have k2:=hm 2 (by decide)
 have k4:=hm 4 (by decide)
 obtain ⟨h00,h01,h02⟩:=h0
 obtain ⟨h10,h11,h12⟩:=h1
 obtain ⟨h20,h21,h22⟩:=h2
 rw [← tmz_sv]
 refine tame_go m _ _ _ _ f0 f1 f2 c0 c1 c2 (tdg (m 0) f0 c0) (tdg (m 3) f1 c1) (tdg (m 5) f2 c2) (tdg (m 0) f0 c0 - f0) (tdg (m 3) f1 c1 - f1) (tdg (m 5) f2 c2 - f2) a b c (clz (m 1) a) (clz (m 2) b) (clz (m 4) c) ?_ (fun w=>between_tam _ _ _ _ _ _ _ _ _ w) (fun w k=>diag_any _ _ _ w k) (Lib.hid (sub_i64 (by omega) (by omega))) (Lib.hid (sub_i64 (by omega) (by omega))) (Lib.hid (sub_i64 (by omega) (by omega)))
  (fun w=>mean_of _ _ a (by omega) (by omega) (by omega) (by omega) Ra w) (fun w=>mean_of _ _ b (by omega) (by omega) (by omega) (by omega) Rb w) (fun w=>mean_of _ _ c (by omega) (by omega) (by omega) (by omega) Rc w)
  (fun w=>retV_same (clamp_fix _ _ k1.1 k1.2 (by omega) (by omega) w)) (fun w=>retV_same (clamp_fix _ _ k2.1 k2.2 (by omega) (by omega) w)) (fun w=>retV_same (clamp_fix _ _ k4.1 k4.2 (by omega) (by omega) w))
  (fun w k=>put_ok _ _ _ _ _ (by simp [At9]) w k) (fun w k=>put_ok _ _ _ _ _ (by simp [At9]) w k) (fun w k=>put_ok _ _ _ _ _ (by simp [At9]) w k) w hp
 intro w
 have q:=may_any f0 f1 f2 c0 c1 c2 ⟨by omega,by omega⟩ ⟨by omega,by omega⟩ ⟨by omega,by omega⟩ w
 rwa [mayb_yes ⟨⟨h00,h01,h02⟩,⟨h10,h11,h12⟩,⟨h20,h21,h22⟩⟩] at q
end Go.Proofs.YtjifkmldigemkaaGreatDoor
namespace Go.Proofs.YtjifkmldigemkaaGreatDoor
open Go.RowKit Go.Shelf Go.Joins
def kd (h:Bool) (p:Int):Int:=if h then (if gd p then 0 else 1) else 2
def br (h:Bool) (p:Int):Bool:=h && gd p
def bv (h:Bool) (p:Int):Int:=if br h p then p else 0
theorem three (h:Bool) (p:Int):(h=true∧gd p=true∧kd h p=0∧br h p=true∧bv h p=p)∨(h=true∧gd p=false∧kd h p=1∧br h p=false∧bv h p=0)∨(h=false∧kd h p=2∧br h p=false∧bv h p=0):=by
 cases h <;> cases g:gd p <;> simp [kd,br,bv,g]
theorem kind_any (a:Int) (h:Bool) (p:Int) (s:Bool) (w:World):Calls Tryz.prog 57 #[tk a h p s] w (RetV (.int .i64 (kd h p)) w):=by
 have cg:=good_any p
 rcases three h p with ⟨rfl,g,k,-,-⟩ | ⟨rfl,g,k,-,-⟩ | ⟨rfl,k,-,-⟩
 ·rw [k]
  rw [g] at cg
  clear k g
  go_enter Tryz.func57,Tryz.ntmps57
  go_wp2_with fail
  refine (cg _).mono ?_
  rintro e y0 ⟨rfl,hb⟩
  go_wp2
  go_ret
  exact ⟨rfl,b_trans (b_alloc (Below.refl _ _)) hb⟩
 ·rw [k]
  rw [g] at cg
  clear k g
  go_enter Tryz.func57,Tryz.ntmps57
  go_wp2_with fail
  refine (cg _).mono ?_
  rintro e y0 ⟨rfl,hb⟩
  go_wp2
  go_ret
  exact ⟨rfl,b_trans (b_alloc (Below.refl _ _)) hb⟩
 ·rw [k]
  clear k cg
  go_enter Tryz.func57,Tryz.ntmps57
  go_wp2
  go_ret
  exact ⟨rfl,b_alloc (Below.refl _ _)⟩
theorem brings_any (a:Int) (h:Bool) (p:Int) (s:Bool) (w:World):Calls Tryz.prog 27 #[tk a h p s] w (RetV (.tuple #[.int .i64 (bv h p),.bool (br h p)]) w):=by
 have ck:=kind_any a h p s
 have tw:TW (w.alloc (Obj.cells #[.int .i64 a,.bool h,.int .i64 p,.bool s] 49)) w.heap.size 0 a h p s:=tw_new
 have E:Below w.heap.size w (w.alloc (Obj.cells #[.int .i64 a,.bool h,.int .i64 p,.bool s] 49)):=b_alloc (Below.refl _ _)
 rcases three h p with ⟨-,-,k,k1,k2⟩ | ⟨-,-,k,k1,k2⟩ | ⟨-,k,k1,k2⟩
 ·rw [k1,k2]
  rw [k] at ck
  clear k k1 k2
  go_enter Tryz.func27,Tryz.ntmps27
  go_wp2_with fail
  refine (ck _).mono ?_
  rintro e y0 ⟨rfl,hb⟩
  replace tw:=tw_keep hb tw
  replace E:=b_trans E hb
  clear hb ck
  obtain ⟨t0,t1,t2,t3⟩:=tw
  go_wp2
  go_ret2
  exact ⟨rfl,E⟩
 ·rw [k1,k2]
  rw [k] at ck
  clear k k1 k2
  go_enter Tryz.func27,Tryz.ntmps27
  go_wp2_with fail
  refine (ck _).mono ?_
  rintro e y0 ⟨rfl,hb⟩
  replace tw:=tw_keep hb tw
  replace E:=b_trans E hb
  clear hb ck
  obtain ⟨t0,t1,t2,t3⟩:=tw
  go_wp2
  go_ret2
  exact ⟨rfl,E⟩
 ·rw [k1,k2]
  rw [k] at ck
  clear k k1 k2
  go_enter Tryz.func27,Tryz.ntmps27
  go_wp2_with fail
  refine (ck _).mono ?_
  rintro e y0 ⟨rfl,hb⟩
  replace tw:=tw_keep hb tw
  replace E:=b_trans E hb
  clear hb ck
  obtain ⟨t0,t1,t2,t3⟩:=tw
  go_wp2
  go_ret2
  exact ⟨rfl,E⟩
end Go.Proofs.YtjifkmldigemkaaGreatDoor

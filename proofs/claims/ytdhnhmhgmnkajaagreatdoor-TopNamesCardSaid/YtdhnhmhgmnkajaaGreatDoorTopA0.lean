import Derived.Test.YtdhnhmhgmnkajaaGreatDoorObf
import Derived.Test.YtdhnhmhgmnkajaaGreatDoorOaa
import Derived.Test.YtdhnhmhgmnkajaaGreatDoorOaj
set_option maxHeartbeats 4000000
set_option maxRecDepth 10000
namespace Go.Proofs.YtdhnhmhgmnkajaaGreatDoor
open Go.RowKit Go.Shelf Go.Joins
theorem eight_at {w:World} {t:TypeId}:∀ k:Nat,k<8→(w.alloc (Obj.cells #[.int .i64 0,.int .i64 1,.int .i64 2,.int .i64 3,.int .i64 4,.int .i64 5,.int .i64 6,.int .i64 7] t)).cell? ⟨w.heap.size,k,none⟩=some (.int .i64 k):=fun k hk=>by
 rw [cell_of_row _ _ k _ _ _ (heap_alloc_last w _)]
 rcases (show k=0∨k=1∨k=2∨k=3∨k=4∨k=5∨k=6∨k=7 by omega) with rfl | rfl | rfl | rfl | rfl | rfl | rfl | rfl <;> rfl
theorem topNames_any (w:World) (T:Tb3 w):Calls Tryz.prog 5 #[] w (RetV (.bool true) w):=by
 have E0:Below w.heap.size w (w.alloc (Obj.cells #[.int .i64 0,.int .i64 1,.int .i64 2,.int .i64 3,.int .i64 4,.int .i64 5,.int .i64 6,.int .i64 7] 32)):=b_alloc (Below.refl _ _)
 have c:=eight_at (w:=w) (t:=32)
 have HT:=Lib.hid (t3_keep E0 T)
 clear T
 go_enter Tryz.func5,Tryz.ntmps5
 go_wp2
 have HE:=Lib.hid E0
 clear E0
 generalize (w.alloc (Obj.cells #[.int .i64 0,.int .i64 1,.int .i64 2,.int .i64 3,.int .i64 4,.int .i64 5,.int .i64 6,.int .i64 7] 32))=y0 at *
 go_loopw [8] (fun iv wr=>∃ k:Nat,k≤8∧iv=.int .i64 k∧wr=y0) (fun iv _=>8 - (intOf iv).toNat)
 case atStart=>exact ⟨0,Nat.zero_le _,rfl,rfl⟩
 case round =>
  obtain ⟨k,hk,rfl,rfl⟩:=hrel
  by_cases hlt:k<8
  ·have c0:=c k hlt
   have hlk:(k:Int)<8:=by omega
   have hk0:(0:Int)≤k:=by omega
   have ws:IntKind.i64.wrap ((k:Int)+1)=(k:Int)+1:=by rw [IntKind.wrap_i64]; omega
   clear c
   go_wp2
   refine ⟨⟨k+1,by omega,rfl,trivial⟩,?_⟩
   simp only [intOf]
   omega
  ·have e:k=8:=by omega
   subst e
   clear hlt hk c
   go_wp2_with fail
   refine (fixed_cha _ HT.out).mono ?_
   rintro e_ y9 ⟨rfl,hb⟩
   have hE:=Lib.hid (b_trans HE.out hb)
   clear hb
   go_wp2
   go_ret
   exact ⟨rfl,hE.out⟩
end Go.Proofs.YtdhnhmhgmnkajaaGreatDoor

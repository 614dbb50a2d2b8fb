import Derived.Deep.LoopGhost
import Derived.LoopN
import Derived.Test.YthnofhjgfhapiaaGreatDoorWas
import Derived.Test.YthnofhjgfhapiaaGreatDoorWae
import Derived.Test.YthnofhjgfhapiaaGreatDoorWag
import Derived.Test.YthnofhjgfhapiaaGreatDoorWab
import Derived.Test.YthnofhjgfhapiaaGreatDoorWaf
import Derived.Test.YthnofhjgfhapiaaGreatDoorWat
import Derived.Test.YthnofhjgfhapiaaGreatDoorWac
import Derived.Test.YthnofhjgfhapiaaGreatDoorWaa
import Derived.Test.YthnofhjgfhapiaaGreatDoorWad
import Derived.Lib.SmallJoins
import Derived.Test.YthnofhjgfhapiaaGreatDoorWai
set_option maxHeartbeats 4000000
set_option maxRecDepth 10000
namespace Go.Proofs.YthnofhjgfhapiaaGreatDoor
open Go.RowKit Go.Shelf
theorem fits_gate (m:Nat→Int) (hm:I6 m) (w:World) :
  Calls Tryz.prog 104 #[sv m] w (RetV (.bool (f6b m)) w):=by
 have B:=b_alloc (o:=Obj.cells #[.int .i64 (m 0),.int .i64 (m 1),.int .i64 (m 2),.int .i64 (m 3),.int .i64 (m 4),.int .i64 (m 5)] 42) (Below.refl w.heap.size w)
 obtain ⟨x0,x1,x2,x3,x4,x5⟩:=ix_sym m
 go_enter Tryz.func104,Tryz.ntmps104
 go_wp2
 go_loop [6] (fun iv=>∃ k:Nat,k≤6∧iv=.int .i64 k∧Hid (∀ i,i<k→FitP (m i))) (fun iv=>6 - (intOf iv).toNat)
 case atStart=>exact ⟨0,by decide,rfl,Lib.hid (fun i hi=>absurd hi (by omega))⟩
 case round =>
  obtain ⟨k,hk,rfl,hf⟩:=hrel
  by_cases c:k<6∧¬ FitP (m k)
  ·have E:=Lib.hid (f6b_no (fun h=>c.2 (h k c.1)))
   have ex:=Lib.hid (fitb_no c.2)
   have hx:=Lib.hid (hm k c.1)
   obtain ⟨c,_⟩:=c
   rcases seven hk with rfl | rfl | rfl | rfl | rfl | rfl | rfl
   ·exact absurd c (by decide)
   all_goals
    go_wp2_with fail
    refine (fits_any _ hx.out.1 hx.out.2 _).mono ?_
    rintro e w9 ⟨rfl,rfl⟩
    rw [ex.out]
    go_wp2
    go_ret
    exact ⟨by rw [E.out]; rfl,B⟩
  ·by_cases d:k=6
   ·subst d
    have E:=Lib.hid (f6b_yes hf.out)
    go_wp2
    go_ret
    exact ⟨by rw [E.out]; rfl,B⟩
   ·have fk:FitP (m k):=Classical.byContradiction (fun h=>c ⟨by omega,h⟩)
    have hf':=Lib.hid (less_succ hf.out fk)
    have hx:=Lib.hid (hm k (by omega))
    have ex:=Lib.hid (fitb_yes fk)
    clear c fk
    rcases seven hk with rfl | rfl | rfl | rfl | rfl | rfl | rfl
    ·exact absurd rfl d
    all_goals
     go_wp2_with fail
     refine (fits_any _ hx.out.1 hx.out.2 _).mono ?_
     rintro e w9 ⟨rfl,rfl⟩
     rw [ex.out]
     go_wp2
     go_round
     case rel=>exact ⟨_,by decide,rfl,hf'⟩
     case measure=>simp [intOf]
def lkb (x0 x1 x2:Int) (m:Nat→Int) (a n:Int):Bool:=f3b x0 x1 x2 && f6b m && fitb a && fitb n && !decide (n<1) && !decide (m 0<0)
def lkf (x0:Int) (m:Nat→Int) (a n:Int):Bool:=fitb (a - x0) && fitb (m 0+n)
def lke (x0 x1 x2:Int) (m:Nat→Int) (a n:Int):Int:=if lkb x0 x1 x2 m a n then (if lkf x0 m a n then 0 else 3) else 1
def lky (x0 x1 x2:Int) (m:Nat→Int) (a n:Int):Int:=if lke x0 x1 x2 m a n=0 then a - x0 else 0
def lks (x0 x1 x2:Int) (m:Nat→Int) (a n:Int):Int:=if lke x0 x1 x2 m a n=0 then m 0+n else 0
def Lkr (x0 x1 x2:Int) (m:Nat→Int) (a n y s e:Int):Prop:=lky x0 x1 x2 m a n=y∧lks x0 x1 x2 m a n=s∧lke x0 x1 x2 m a n=e
theorem lk_bad {x0 x1 x2:Int} {m:Nat→Int} {a n:Int} (h:lkb x0 x1 x2 m a n=false):Lkr x0 x1 x2 m a n 0 0 1:=by simp [Lkr,lky,lks,lke,h]
theorem lk_far {x0 x1 x2:Int} {m:Nat→Int} {a n:Int} (h:lkb x0 x1 x2 m a n=true) (k:lkf x0 m a n=false):Lkr x0 x1 x2 m a n 0 0 3:=by simp [Lkr,lky,lks,lke,h,k]
theorem lk_ok {x0 x1 x2:Int} {m:Nat→Int} {a n:Int} (h:lkb x0 x1 x2 m a n=true) (k:lkf x0 m a n=true):Lkr x0 x1 x2 m a n (a - x0) (m 0+n) 0:=by simp [Lkr,lky,lks,lke,h,k]
theorem lk_ret {x0 x1 x2:Int} {m:Nat→Int} {a n y s e:Int} (h:Lkr x0 x1 x2 m a n y s e) {w w':World} (B:Below w.heap.size w w') :
  RetV (.tuple #[.int .i64 (lky x0 x1 x2 m a n),.int .i64 (lks x0 x1 x2 m a n),.int .i64 (lke x0 x1 x2 m a n)]) w (.returned (.tuple #[.int .i64 y,.int .i64 s,.int .i64 e])) w':=by
 obtain ⟨rfl,rfl,rfl⟩:=h
 exact ⟨rfl,B⟩
theorem lookg_any (x0 x1 x2:Int) (m:Nat→Int) (a n:Int) (h0:I64 x0) (h1:I64 x1) (h2:I64 x2) (hm:I6 m) (ha:I64 a) (hn:I64 n) (w:World) (hp:PL w) :
  Calls Tryz.prog 74 #[tv x0 x1 x2,sv m,.int .i64 a,.int .i64 n] w (RetV (.tuple #[.int .i64 (lky x0 x1 x2 m a n),.int .i64 (lks x0 x1 x2 m a n),.int .i64 (lke x0 x1 x2 m a n)]) w):=by
 have B:Below w.heap.size w ((w.alloc (Obj.cells #[.int .i64 x0,.int .i64 x1,.int .i64 x2] 25)).alloc (Obj.cells #[.int .i64 (m 0),.int .i64 (m 1),.int .i64 (m 2),.int .i64 (m 3),.int .i64 (m 4),.int .i64 (m 5)] 42)):=b_alloc (b_alloc (Below.refl _ _))
 have P:=pl_keep (b_alloc (o:=(Obj.cells #[.int .i64 (m 0),.int .i64 (m 1),.int .i64 (m 2),.int .i64 (m 3),.int .i64 (m 4),.int .i64 (m 5)] 42)) (b_alloc (o:=(Obj.cells #[.int .i64 x0,.int .i64 x1,.int .i64 x2] 25)) (Below.refl w.heap.size w))) hp
 go_enter Tryz.func74,Tryz.ntmps74
 have T:TC ((w.alloc (Obj.cells #[.int .i64 x0,.int .i64 x1,.int .i64 x2] 25)).alloc (Obj.cells #[.int .i64 (m 0),.int .i64 (m 1),.int .i64 (m 2),.int .i64 (m 3),.int .i64 (m 4),.int .i64 (m 5)] 42)) w.heap.size x0 x1 x2:=tc_alloc (tc_new rfl)
 have S:SC6 ((w.alloc (Obj.cells #[.int .i64 x0,.int .i64 x1,.int .i64 x2] 25)).alloc (Obj.cells #[.int .i64 (m 0),.int .i64 (m 1),.int .i64 (m 2),.int .i64 (m 3),.int .i64 (m 4),.int .i64 (m 5)] 42)) (w.heap.size+1) m:=sc_six (sc_new (by simp))
 go_wp2_with fail
 refine (fits3_vec x0 x1 x2 h0 h1 h2 _).mono ?_
 rintro e w1 ⟨rfl,hb1⟩
 replace T:=tc_keep hb1 T
 replace S:=sc_six (sc_keep hb1 (six_sc S))
 replace P:=pl_keep hb1 P
 replace B:=b_trans B hb1
 clear hb1
 by_cases c0:F3 x0 x1 x2
 rotate_left
 ·rw [f3b_no c0]
  go_wp2
  exact bodyPost_ret (v:=.tuple #[.int .i64 0,.int .i64 0,.int .i64 1]) (by simp [results,Tryz.results74,go_sem]) rfl (lk_ret (lk_bad (by simp [lkb,f3b_no c0])) B)
 rw [f3b_yes c0]
 go_wp2_with fail
 refine (fits_gate m hm _).mono ?_
 rintro e w1 ⟨rfl,hb1⟩
 replace T:=tc_keep hb1 T
 replace S:=sc_six (sc_keep hb1 (six_sc S))
 replace P:=pl_keep hb1 P
 replace B:=b_trans B hb1
 clear hb1
 by_cases c1:F6 m
 rotate_left
 ·rw [f6b_no c1]
  go_wp2
  exact bodyPost_ret (v:=.tuple #[.int .i64 0,.int .i64 0,.int .i64 1]) (by simp [results,Tryz.results74,go_sem]) rfl (lk_ret (lk_bad (by simp [lkb,f6b_no c1])) B)
 rw [f6b_yes c1]
 go_wp2_with fail
 refine (fits_any a ha.1 ha.2 _).mono ?_
 rintro e w9 ⟨rfl,rfl⟩
 by_cases c2:FitP a
 rotate_left
 ·rw [fitb_no c2]
  go_wp2
  exact bodyPost_ret (v:=.tuple #[.int .i64 0,.int .i64 0,.int .i64 1]) (by simp [results,Tryz.results74,go_sem]) rfl (lk_ret (lk_bad (by simp [lkb,fitb_no c2])) B)
 rw [fitb_yes c2]
 go_wp2_with fail
 refine (fits_any n hn.1 hn.2 _).mono ?_
 rintro e w9 ⟨rfl,rfl⟩
 by_cases c3:FitP n
 rotate_left
 ·rw [fitb_no c3]
  go_wp2
  exact bodyPost_ret (v:=.tuple #[.int .i64 0,.int .i64 0,.int .i64 1]) (by simp [results,Tryz.results74,go_sem]) rfl (lk_ret (lk_bad (by simp [lkb,fitb_no c3])) B)
 rw [fitb_yes c3]
 go_wp2_with fail
 refine (at_ok m 0 0 0 (Or.inl ⟨rfl,rfl,rfl⟩) _ P).mono ?_
 rintro e w1 ⟨rfl,hb1⟩
 replace T:=tc_keep hb1 T
 replace S:=sc_six (sc_keep hb1 (six_sc S))
 replace P:=pl_keep hb1 P
 replace B:=b_trans B hb1
 clear hb1
 by_cases n1:n<1
 ·go_wp2
  exact bodyPost_ret (v:=.tuple #[.int .i64 0,.int .i64 0,.int .i64 1]) (by simp [results,Tryz.results74,go_sem]) rfl (lk_ret (lk_bad (by simp [lkb,n1])) B)
 by_cases m0:m 0<0
 ·go_wp2
  exact bodyPost_ret (v:=.tuple #[.int .i64 0,.int .i64 0,.int .i64 1]) (by simp [results,Tryz.results74,go_sem]) rfl (lk_ret (lk_bad (by simp [lkb,m0])) B)
 have nb:Hid (lkb x0 x1 x2 m a n=true):=Lib.hid (by simp [lkb,f3b_yes c0,f6b_yes c1,fitb_yes c2,fitb_yes c3]; omega)
 have k0:=hm 0 (by decide)
 go_wp2_with fail
 refine (sub_fix a x0 ha.1 ha.2 h0.1 h0.2 _).mono ?_
 rintro e w1 ⟨rfl,hb1⟩
 replace T:=tc_keep hb1 T
 replace S:=sc_six (sc_keep hb1 (six_sc S))
 replace P:=pl_keep hb1 P
 replace B:=b_trans B hb1
 clear hb1
 rw [(gz_of ⟨c2,c0.1⟩ _).1,(gz_of ⟨c2,c0.1⟩ _).2]
 have C4:=Lib.hid (Classical.em (FitP (a - x0)))
 rcases C4.out with c4 | c4
 rotate_left
 ·rw [(nz_no c4).1,(nz_no c4).2]
  go_wp2
  exact bodyPost_ret (v:=.tuple #[.int .i64 0,.int .i64 0,.int .i64 3]) (by simp [results,Tryz.results74,go_sem]) rfl (lk_ret (lk_far nb.out (by simp [lkf,fitb_no c4])) B)
 rw [(nz_of c4).1,(nz_of c4).2]
 go_wp2_with fail
 refine (add_fix (m 0) n k0.1 k0.2 hn.1 hn.2 _).mono ?_
 rintro e w1 ⟨rfl,hb1⟩
 replace T:=tc_keep hb1 T
 replace S:=sc_six (sc_keep hb1 (six_sc S))
 replace P:=pl_keep hb1 P
 replace B:=b_trans B hb1
 clear hb1
 rw [(gz_of ⟨c1 0 (by decide),c3⟩ _).1,(gz_of ⟨c1 0 (by decide),c3⟩ _).2]
 by_cases c5:FitP (m 0+n)
 rotate_left
 ·rw [(nz_no c5).1,(nz_no c5).2]
  go_wp2
  exact bodyPost_ret (v:=.tuple #[.int .i64 0,.int .i64 0,.int .i64 3]) (by simp [results,Tryz.results74,go_sem]) rfl (lk_ret (lk_far nb.out (by simp [lkf,fitb_no c5])) B)
 rw [(nz_of c5).1,(nz_of c5).2]
 go_wp2
 exact bodyPost_ret (v:=.tuple #[.int .i64 (a - x0),.int .i64 (m 0+n),.int .i64 0]) (by simp [results,Tryz.results74,go_sem]) rfl (lk_ret (lk_ok nb.out (by simp [lkf,fitb_yes c4,fitb_yes c5])) B)
end Go.Proofs.YthnofhjgfhapiaaGreatDoor
namespace Go.Proofs.YthnofhjgfhapiaaGreatDoor
open Go.RowKit Go.Shelf
theorem ef_evn (x:Int) {y:Int} (h:0<y):ef x y=evn x y:=by
 unfold ef qf rf sg evn
 rw [if_neg (by omega),show (y.natAbs:Int)=y by omega]
def bq (m:Nat→Int) (s:Int) (i:Nat):Int:=evn (m i*1099511627776) s
def BK (m:Nat→Int) (s:Int):Prop:=F6 m∧FitP s∧1≤s
def BF (m:Nat→Int) (s:Int):Prop:=FitP (bq m s 0)∧FitP (bq m s 1)∧FitP (bq m s 2)
instance (m:Nat→Int) (s:Int):Decidable (BK m s):=by unfold BK; infer_instance
instance (m:Nat→Int) (s:Int):Decidable (BF m s):=by unfold BF; infer_instance
def bz (m:Nat→Int) (s:Int) (i:Nat):Int:=if BK m s∧BF m s then bq m s i else 0
def be (m:Nat→Int) (s:Int):Int:=if BK m s then (if BF m s then 0 else 3) else 1
theorem b_ok {m:Nat→Int} {s:Int} (h:BK m s) (f:BF m s):bz m s=bq m s∧be m s=0:=by
 refine ⟨funext fun i=>if_pos ⟨h,f⟩,?_⟩
 unfold be
 rw [if_pos h,if_pos f]
theorem b_wide {m:Nat→Int} {s:Int} (h:BK m s) (f:¬ BF m s):bz m s=(fun _=>0)∧be m s=3:=by
 refine ⟨funext fun i=>if_neg (fun k=>f k.2),?_⟩
 unfold be
 rw [if_pos h,if_neg f]
theorem b_wrong {m:Nat→Int} {s:Int} (h:¬ BK m s):bz m s=(fun _=>0)∧be m s=1:=by
 refine ⟨funext fun i=>if_neg (fun k=>h k.1),?_⟩
 unfold be
 rw [if_neg h]
theorem div_bq {m:Nat→Int} {s:Int} (h:BK m s) {i:Nat} (hi:i<6):dz (m i) s=nz (bq m s i)∧de (m i) s=ne (bq m s i):=by
 have:=dz_of (show FitP (m i)∧FitP s from ⟨h.1 i hi,h.2.1⟩) (by have:=h.2.2; omega)
 rwa [ef_evn _ (by have:=h.2.2; omega)] at this
end Go.Proofs.YthnofhjgfhapiaaGreatDoor
namespace Go.Proofs.YthnofhjgfhapiaaGreatDoor
open Go.RowKit Go.Shelf
theorem fits_gai (m:Nat→Int) (hm:I6 m) (w:World) :
  Calls Tryz.prog 192 #[sv m] w (RetV (.bool (f6b m)) w):=by
 have B:=b_alloc (o:=Obj.cells #[.int .i64 (m 0),.int .i64 (m 1),.int .i64 (m 2),.int .i64 (m 3),.int .i64 (m 4),.int .i64 (m 5)] 42) (Below.refl w.heap.size w)
 obtain ⟨x0,x1,x2,x3,x4,x5⟩:=ix_sym m
 go_enter Tryz.func192,Tryz.ntmps192
 go_wp2
 go_loop [6] (fun iv=>∃ k:Nat,k≤6∧iv=.int .i64 k∧Hid (∀ i,i<k→FitP (m i))) (fun iv=>6 - (intOf iv).toNat)
 case atStart=>exact ⟨0,by decide,rfl,Lib.hid (fun i hi=>absurd hi (by omega))⟩
 case round =>
  obtain ⟨k,hk,rfl,hf⟩:=hrel
  by_cases c:k<6∧¬ FitP (m k)
  ·have E:=Lib.hid (f6b_no (fun h=>c.2 (h k c.1)))
   have ex:=Lib.hid (fitb_no c.2)
   have hx:=Lib.hid (hm k c.1)
   obtain ⟨c,_⟩:=c
   rcases seven hk with rfl | rfl | rfl | rfl | rfl | rfl | rfl
   ·exact absurd c (by decide)
   all_goals
    go_wp2_with fail
    refine (fits_any _ hx.out.1 hx.out.2 _).mono ?_
    rintro e w9 ⟨rfl,rfl⟩
    rw [ex.out]
    go_wp2
    go_ret
    exact ⟨by rw [E.out]; rfl,B⟩
  ·by_cases d:k=6
   ·subst d
    have E:=Lib.hid (f6b_yes hf.out)
    go_wp2
    go_ret
    exact ⟨by rw [E.out]; rfl,B⟩
   ·have fk:FitP (m k):=Classical.byContradiction (fun h=>c ⟨by omega,h⟩)
    have hf':=Lib.hid (less_succ hf.out fk)
    have hx:=Lib.hid (hm k (by omega))
    have ex:=Lib.hid (fitb_yes fk)
    clear c fk
    rcases seven hk with rfl | rfl | rfl | rfl | rfl | rfl | rfl
    ·exact absurd rfl d
    all_goals
     go_wp2_with fail
     refine (fits_any _ hx.out.1 hx.out.2 _).mono ?_
     rintro e w9 ⟨rfl,rfl⟩
     rw [ex.out]
     go_wp2
     go_round
     case rel=>exact ⟨_,by decide,rfl,hf'⟩
     case measure=>simp [intOf]
def Bst (m:Nat→Int) (s z0 z1 z2 e:Int):Prop:=bz m s 0=z0∧bz m s 1=z1∧bz m s 2=z2∧be m s=e
theorem bst_wrong {m:Nat→Int} {s:Int} (h:¬ BK m s):Bst m s 0 0 0 1:=⟨by rw [(b_wrong h).1],by rw [(b_wrong h).1],by rw [(b_wrong h).1],(b_wrong h).2⟩
theorem bst_wide {m:Nat→Int} {s:Int} (k:BK m s) (h:¬ BF m s):Bst m s 0 0 0 3:=⟨by rw [(b_wide k h).1],by rw [(b_wide k h).1],by rw [(b_wide k h).1],(b_wide k h).2⟩
theorem bst_ok {m:Nat→Int} {s:Int} (k:BK m s) (h:BF m s):Bst m s (bq m s 0) (bq m s 1) (bq m s 2) 0:=⟨by rw [(b_ok k h).1],by rw [(b_ok k h).1],by rw [(b_ok k h).1],(b_ok k h).2⟩
theorem bst_ret {m:Nat→Int} {s z0 z1 z2 e:Int} (h:Bst m s z0 z1 z2 e) {w w':World} (B:Below w.heap.size w w') :
  RetV (.tuple #[tv (bz m s 0) (bz m s 1) (bz m s 2),.int .i64 (be m s)]) w (.returned (.tuple #[tv z0 z1 z2,.int .i64 e])) w':=by
 obtain ⟨rfl,rfl,rfl,rfl⟩:=h
 exact ⟨rfl,B⟩
theorem best_any (m:Nat→Int) (s:Int) (hm:I6 m) (hs:I64 s) (w:World) (hp:PL w) :
  Calls Tryz.prog 172 #[sv m,.int .i64 s] w (RetV (.tuple #[tv (bz m s 0) (bz m s 1) (bz m s 2),.int .i64 (be m s)]) w):=by
 obtain ⟨v0,v1,v2⟩:=ix_vec (m 0) (m 1) (m 2)
 have B:Below w.heap.size w ((w.alloc (Obj.cells #[.int .i64 (m 0),.int .i64 (m 1),.int .i64 (m 2),.int .i64 (m 3),.int .i64 (m 4),.int .i64 (m 5)] 42)).alloc (Obj.cells #[.int .i64 0,.int .i64 0,.int .i64 0] 25)):=b_alloc (b_alloc (Below.refl _ _))
 have l0:=pl_lt hp
 have P:=pl_keep B hp
 clear hp
 have S:SC6 ((w.alloc (Obj.cells #[.int .i64 (m 0),.int .i64 (m 1),.int .i64 (m 2),.int .i64 (m 3),.int .i64 (m 4),.int .i64 (m 5)] 42)).alloc (Obj.cells #[.int .i64 0,.int .i64 0,.int .i64 0] 25)) w.heap.size m:=sc_six (sc_alloc (sc_new rfl))
 have R:TC ((w.alloc (Obj.cells #[.int .i64 (m 0),.int .i64 (m 1),.int .i64 (m 2),.int .i64 (m 3),.int .i64 (m 4),.int .i64 (m 5)] 42)).alloc (Obj.cells #[.int .i64 0,.int .i64 0,.int .i64 0] 25)) (w.heap.size+1) 0 0 0:=tc_new (by simp)
 have RF:TF ((w.alloc (Obj.cells #[.int .i64 (m 0),.int .i64 (m 1),.int .i64 (m 2),.int .i64 (m 3),.int .i64 (m 4),.int .i64 (m 5)] 42)).alloc (Obj.cells #[.int .i64 0,.int .i64 0,.int .i64 0] 25)) (w.heap.size+1):=tf_new (by simp)
 go_enter Tryz.func172,Tryz.ntmps172
 go_wp2_with fail
 refine (fits_gai m hm _).mono ?_
 rintro e w1 ⟨rfl,hb⟩
 replace RF:=tf_keep hb R RF
 replace R:=tc_keep hb R
 replace S:=sc_six (sc_keep hb (six_sc S))
 replace P:=pl_keep hb P
 replace B:=b_trans B hb
 clear hb
 by_cases c:F6 m
 rotate_left
 ·rw [f6b_no c]
  go_wp2
  obtain ⟨q0,q1,q2⟩:=R
  refine bodyPost_ret (v:=.tuple #[tv 0 0 0,.int .i64 1]) (by simp [results,Tryz.results172,go_sem,q0,q1,q2]) rfl (bst_ret (bst_wrong (fun k=>c k.1)) ?_)
  repeat (first | exact B | refine b_alloc ?_ | refine b_set ?_ (by omega) | refine b_set ?_ (by simp))
 rw [f6b_yes c]
 go_wp2_with fail
 refine (fits_any s hs.1 hs.2 _).mono ?_
 rintro e w9 ⟨rfl,rfl⟩
 by_cases d:FitP s
 rotate_left
 ·rw [fitb_no d]
  go_wp2
  obtain ⟨q0,q1,q2⟩:=R
  refine bodyPost_ret (v:=.tuple #[tv 0 0 0,.int .i64 1]) (by simp [results,Tryz.results172,go_sem,q0,q1,q2]) rfl (bst_ret (bst_wrong (fun k=>d k.2.1)) ?_)
  repeat (first | exact B | refine b_alloc ?_ | refine b_set ?_ (by omega) | refine b_set ?_ (by simp))
 rw [fitb_yes d]
 by_cases e1:s<1
 ·go_wp2
  obtain ⟨q0,q1,q2⟩:=R
  refine bodyPost_ret (v:=.tuple #[tv 0 0 0,.int .i64 1]) (by simp [results,Tryz.results172,go_sem,q0,q1,q2]) rfl (bst_ret (bst_wrong (fun k=>absurd k.2.2 (by omega))) ?_)
  repeat (first | exact B | refine b_alloc ?_ | refine b_set ?_ (by omega) | refine b_set ?_ (by simp))
 have k:BK m s:=⟨c,d,by omega⟩
 have HK:=Lib.hid k
 have c0:=div_fix (m 0) s (hm 0 (by decide)).1 (hm 0 (by decide)).2 hs.1 hs.2
 have c1:=div_fix (m 1) s (hm 1 (by decide)).1 (hm 1 (by decide)).2 hs.1 hs.2
 have c2:=div_fix (m 2) s (hm 2 (by decide)).1 (hm 2 (by decide)).2 hs.1 hs.2
 rw [(div_bq k (by decide)).1,(div_bq k (by decide)).2] at c0 c1 c2
 clear k c d
 go_wp2_with fail
 refine (row_ok m 0 0 1 2 (by simp [Row3]) _ P).mono ?_
 rintro e w1 ⟨rfl,hb⟩
 replace RF:=tf_keep hb R RF
 replace R:=tc_keep hb R
 replace S:=sc_six (sc_keep hb (six_sc S))
 replace P:=pl_keep hb P
 replace B:=b_trans B hb
 clear hb
 clear S P
 have K:TC (w1.alloc (Obj.cells #[.int .i64 (m 0),.int .i64 (m 1),.int .i64 (m 2)] 25)) w1.heap.size (m 0) (m 1) (m 2):=tc_new rfl
 have KF:TF (w1.alloc (Obj.cells #[.int .i64 (m 0),.int .i64 (m 1),.int .i64 (m 2)] 25)) w1.heap.size:=tf_new rfl
 have l1:=tc_lt R
 replace RF:=tf_keep (b_alloc (o:=(Obj.cells #[.int .i64 (m 0),.int .i64 (m 1),.int .i64 (m 2)] 25)) (Below.refl _ _)) R RF
 replace R:=tc_alloc (o:=(Obj.cells #[.int .i64 (m 0),.int .i64 (m 1),.int .i64 (m 2)] 25)) R
 replace B:=b_alloc (o:=(Obj.cells #[.int .i64 (m 0),.int .i64 (m 1),.int .i64 (m 2)] 25)) B
 have n1:w1.heap.size≠w.heap.size+1:=by omega
 have g1:w.heap.size≤w1.heap.size:=by omega
 go_wp2
 refine wp_loop_rounds 4 ?_
 by_cases f0:FitP (bq m s 0)
 rotate_left
 ·rw [(nz_no f0).1,(nz_no f0).2] at c0
  rw [rounds_succ]
  go_wp2_with fail
  refine (c0 _).mono ?_
  rintro e x0 ⟨rfl,hb⟩
  replace KF:=tf_keep hb K KF
  replace K:=tc_keep hb K
  replace RF:=tf_keep hb R RF
  replace R:=tc_keep hb R
  replace B:=b_trans B hb
  clear hb c0
  go_wp2
  obtain ⟨q0,q1,q2⟩:=R
  refine bodyPost_ret (v:=.tuple #[tv 0 0 0,.int .i64 3]) (by simp [results,Tryz.results172,go_sem,q0,q1,q2]) rfl (bst_ret (bst_wide HK.out (fun f=>f0 f.1)) ?_)
  repeat (first | exact B | refine b_alloc ?_ | refine b_set ?_ (by omega) | refine b_set ?_ (by simp))
 rw [(nz_of f0).1,(nz_of f0).2] at c0
 rw [rounds_succ]
 go_wp2_with fail
 refine (c0 _).mono ?_
 rintro e x0 ⟨rfl,hb⟩
 replace KF:=tf_keep hb K KF
 replace K:=tc_keep hb K
 replace RF:=tf_keep hb R RF
 replace R:=tc_keep hb R
 replace B:=b_trans B hb
 clear hb c0
 go_wp2
 replace K:=tc_put0 (v:=(bq m s 0)) K
 replace KF:=tf_set (b1:=w1.heap.size) (o:=0) (v:=.int .i64 (bq m s 0)) KF
 replace R:=tc_set (o:=0) (v:=.int .i64 (bq m s 0)) R n1
 replace RF:=tf_set (b1:=w1.heap.size) (o:=0) (v:=.int .i64 (bq m s 0)) RF
 replace B:=b_set (p:=⟨w1.heap.size,0,none⟩) (v:=.int .i64 (bq m s 0)) B g1
 by_cases f1:FitP (bq m s 1)
 rotate_left
 ·rw [(nz_no f1).1,(nz_no f1).2] at c1
  rw [rounds_succ]
  go_wp2_with fail
  refine (c1 _).mono ?_
  rintro e x1 ⟨rfl,hb⟩
  replace KF:=tf_keep hb K KF
  replace K:=tc_keep hb K
  replace RF:=tf_keep hb R RF
  replace R:=tc_keep hb R
  replace B:=b_trans B hb
  clear hb c1
  go_wp2
  obtain ⟨q0,q1,q2⟩:=R
  refine bodyPost_ret (v:=.tuple #[tv 0 0 0,.int .i64 3]) (by simp [results,Tryz.results172,go_sem,q0,q1,q2]) rfl (bst_ret (bst_wide HK.out (fun f=>f1 f.2.1)) ?_)
  repeat (first | exact B | refine b_alloc ?_ | refine b_set ?_ (by omega) | refine b_set ?_ (by simp))
 rw [(nz_of f1).1,(nz_of f1).2] at c1
 rw [rounds_succ]
 go_wp2_with fail
 refine (c1 _).mono ?_
 rintro e x1 ⟨rfl,hb⟩
 replace KF:=tf_keep hb K KF
 replace K:=tc_keep hb K
 replace RF:=tf_keep hb R RF
 replace R:=tc_keep hb R
 replace B:=b_trans B hb
 clear hb c1
 go_wp2
 replace K:=tc_put1 (v:=(bq m s 1)) K
 replace KF:=tf_set (b1:=w1.heap.size) (o:=1) (v:=.int .i64 (bq m s 1)) KF
 replace R:=tc_set (o:=1) (v:=.int .i64 (bq m s 1)) R n1
 replace RF:=tf_set (b1:=w1.heap.size) (o:=1) (v:=.int .i64 (bq m s 1)) RF
 replace B:=b_set (p:=⟨w1.heap.size,1,none⟩) (v:=.int .i64 (bq m s 1)) B g1
 by_cases f2:FitP (bq m s 2)
 rotate_left
 ·rw [(nz_no f2).1,(nz_no f2).2] at c2
  rw [rounds_succ]
  go_wp2_with fail
  refine (c2 _).mono ?_
  rintro e x2 ⟨rfl,hb⟩
  replace KF:=tf_keep hb K KF
  replace K:=tc_keep hb K
  replace RF:=tf_keep hb R RF
  replace R:=tc_keep hb R
  replace B:=b_trans B hb
  clear hb c2
  go_wp2
  obtain ⟨q0,q1,q2⟩:=R
  refine bodyPost_ret (v:=.tuple #[tv 0 0 0,.int .i64 3]) (by simp [results,Tryz.results172,go_sem,q0,q1,q2]) rfl (bst_ret (bst_wide HK.out (fun f=>f2 f.2.2)) ?_)
  repeat (first | exact B | refine b_alloc ?_ | refine b_set ?_ (by omega) | refine b_set ?_ (by simp))
 rw [(nz_of f2).1,(nz_of f2).2] at c2
 rw [rounds_succ]
 go_wp2_with fail
 refine (c2 _).mono ?_
 rintro e x2 ⟨rfl,hb⟩
 replace KF:=tf_keep hb K KF
 replace K:=tc_keep hb K
 replace RF:=tf_keep hb R RF
 replace R:=tc_keep hb R
 replace B:=b_trans B hb
 clear hb c2
 go_wp2
 replace K:=tc_put2 (v:=(bq m s 2)) K
 replace KF:=tf_set (b1:=w1.heap.size) (o:=2) (v:=.int .i64 (bq m s 2)) KF
 replace R:=tc_set (o:=2) (v:=.int .i64 (bq m s 2)) R n1
 replace RF:=tf_set (b1:=w1.heap.size) (o:=2) (v:=.int .i64 (bq m s 2)) RF
 replace B:=b_set (p:=⟨w1.heap.size,2,none⟩) (v:=.int .i64 (bq m s 2)) B g1
 rw [rounds_succ]
 go_wp2
 obtain ⟨q0,q1,q2⟩:=R
 refine bodyPost_ret (v:=.tuple #[tv (bq m s 0) (bq m s 1) (bq m s 2),.int .i64 0]) (by simp [results,Tryz.results172,go_sem,q0,q1,q2]) rfl (bst_ret (bst_ok HK.out ⟨f0,f1,f2⟩) ?_)
 repeat (first | exact B | refine b_alloc ?_ | refine b_set ?_ (by omega) | refine b_set ?_ (by simp))
end Go.Proofs.YthnofhjgfhapiaaGreatDoor
namespace Go.Proofs.YthnofhjgfhapiaaGreatDoor
open Go.RowKit Go.Shelf Go.Joins
def kd (h:Bool) (p:Int):Int:=if h then (if gd p then 0 else 1) else 2
def br (h:Bool) (p:Int):Bool:=h && gd p
def bv (h:Bool) (p:Int):Int:=if br h p then p else 0
theorem three (h:Bool) (p:Int):(h=true∧gd p=true∧kd h p=0∧br h p=true∧bv h p=p)∨(h=true∧gd p=false∧kd h p=1∧br h p=false∧bv h p=0)∨(h=false∧kd h p=2∧br h p=false∧bv h p=0):=by
 cases h <;> cases g:gd p <;> simp [kd,br,bv,g]
theorem kind_any (a:Int) (h:Bool) (p:Int) (s:Bool) (w:World):Calls Tryz.prog 63 #[tk a h p s] w (RetV (.int .i64 (kd h p)) w):=by
 have cg:=good_any p
 rcases three h p with ⟨rfl,g,k,-,-⟩ | ⟨rfl,g,k,-,-⟩ | ⟨rfl,k,-,-⟩
 ·rw [k]
  rw [g] at cg
  clear k g
  go_enter Tryz.func63,Tryz.ntmps63
  go_wp2_with fail
  refine (cg _).mono ?_
  rintro e y0 ⟨rfl,hb⟩
  go_wp2
  go_ret
  exact ⟨rfl,b_trans (b_alloc (Below.refl _ _)) hb⟩
 ·rw [k]
  rw [g] at cg
  clear k g
  go_enter Tryz.func63,Tryz.ntmps63
  go_wp2_with fail
  refine (cg _).mono ?_
  rintro e y0 ⟨rfl,hb⟩
  go_wp2
  go_ret
  exact ⟨rfl,b_trans (b_alloc (Below.refl _ _)) hb⟩
 ·rw [k]
  clear k cg
  go_enter Tryz.func63,Tryz.ntmps63
  go_wp2
  go_ret
  exact ⟨rfl,b_alloc (Below.refl _ _)⟩
theorem brings_any (a:Int) (h:Bool) (p:Int) (s:Bool) (w:World):Calls Tryz.prog 22 #[tk a h p s] w (RetV (.tuple #[.int .i64 (bv h p),.bool (br h p)]) w):=by
 have ck:=kind_any a h p s
 have tw:TW (w.alloc (Obj.cells #[.int .i64 a,.bool h,.int .i64 p,.bool s] 37)) w.heap.size 0 a h p s:=tw_new
 have E:Below w.heap.size w (w.alloc (Obj.cells #[.int .i64 a,.bool h,.int .i64 p,.bool s] 37)):=b_alloc (Below.refl _ _)
 rcases three h p with ⟨-,-,k,k1,k2⟩ | ⟨-,-,k,k1,k2⟩ | ⟨-,k,k1,k2⟩
 ·rw [k1,k2]
  rw [k] at ck
  clear k k1 k2
  go_enter Tryz.func22,Tryz.ntmps22
  go_wp2_with fail
  refine (ck _).mono ?_
  rintro e y0 ⟨rfl,hb⟩
  replace tw:=tw_keep hb tw
  replace E:=b_trans E hb
  clear hb ck
  obtain ⟨t0,t1,t2,t3⟩:=tw
  go_wp2
  go_ret2
  exact ⟨rfl,E⟩
 ·rw [k1,k2]
  rw [k] at ck
  clear k k1 k2
  go_enter Tryz.func22,Tryz.ntmps22
  go_wp2_with fail
  refine (ck _).mono ?_
  rintro e y0 ⟨rfl,hb⟩
  replace tw:=tw_keep hb tw
  replace E:=b_trans E hb
  clear hb ck
  obtain ⟨t0,t1,t2,t3⟩:=tw
  go_wp2
  go_ret2
  exact ⟨rfl,E⟩
 ·rw [k1,k2]
  rw [k] at ck
  clear k k1 k2
  go_enter Tryz.func22,Tryz.ntmps22
  go_wp2_with fail
  refine (ck _).mono ?_
  rintro e y0 ⟨rfl,hb⟩
  replace tw:=tw_keep hb tw
  replace E:=b_trans E hb
  clear hb ck
  obtain ⟨t0,t1,t2,t3⟩:=tw
  go_wp2
  go_ret2
  exact ⟨rfl,E⟩
end Go.Proofs.YthnofhjgfhapiaaGreatDoor

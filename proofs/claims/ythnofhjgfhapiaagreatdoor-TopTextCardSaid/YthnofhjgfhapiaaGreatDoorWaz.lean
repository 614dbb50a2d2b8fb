import Derived.LoopN
import Derived.Test.YthnofhjgfhapiaaGreatDoorWag
import Derived.Test.YthnofhjgfhapiaaGreatDoorWaf
import Derived.Test.YthnofhjgfhapiaaGreatDoorWac
import Derived.Test.YthnofhjgfhapiaaGreatDoorWad
import Derived.Test.YthnofhjgfhapiaaGreatDoorWae
import Derived.Test.YthnofhjgfhapiaaGreatDoorWat
import Derived.Test.YthnofhjgfhapiaaGreatDoorWaa
import Derived.Test.YthnofhjgfhapiaaGreatDoorWab
import Derived.Test.YthnofhjgfhapiaaGreatDoorWai
set_option maxHeartbeats 8000000
set_option maxRecDepth 10000
namespace Go.Proofs.YthnofhjgfhapiaaGreatDoor
open Go.RowKit Go.Shelf
abbrev IC (w:World) (b:Nat) (x:Int):Prop:=w.cell? ⟨b,0,none⟩=some (.int .i64 x)
abbrev IF (w:World) (b:Nat):Prop:=w.frozen? ⟨b,0,none⟩=false
theorem ic_keep {w w':World} (hb:Below w.heap.size w w') {b:Nat} {x:Int} (c:IC w b x):IC w' b x:=cell_keep hb c
theorem ic_lt {w:World} {b:Nat} {x:Int} (c:IC w b x):b<w.heap.size:=World.block_lt_of_cell? w _ c
theorem if_keep {w w':World} (hb:Below w.heap.size w w') {b:Nat} {x:Int} (c:IC w b x) (f:IF w b):IF w' b:=by
 have h:=ic_lt c
 show w'.frozen? ⟨b,0,none⟩=false
 rw [hb.frozen (p:=⟨b,0,none⟩) h]; exact f
theorem ic_set {w:World} {b b1 o:Nat} {x:Int} {v:Value} (c:IC w b x) (hb:b1≠b):IC (w.setCell ⟨b1,o,none⟩ v) b x:=by
 show World.cell? _ _=_
 rw [World.cell?_setCell_far _ _ _ _ hb]; exact c
theorem if_set {w:World} {b b1 o:Nat} {v:Value} (f:IF w b):IF (w.setCell ⟨b1,o,none⟩ v) b:=by
 show World.frozen? _ _=_
 rw [World.frozen?_setCell]; exact f
theorem ic_put {w:World} {b:Nat} {x y:Int} (c:IC w b x):IC (w.setCell ⟨b,0,none⟩ (.int .i64 y)) b y:=by
 show World.cell? _ _=_
 rw [World.cell?_setCell_same' _ _ _ (by rw [c]; rfl)]
theorem ic_new {w:World} {b:Nat} {x:Int} {t:TypeId} (hn:b=w.heap.size):IC (w.alloc (Obj.cells #[.int .i64 x] t)) b x:=by subst hn; simp [IC,go_sem]
theorem if_new {w:World} {b:Nat} {x:Int} {t:TypeId} (hn:b=w.heap.size):IF (w.alloc (Obj.cells #[.int .i64 x] t)) b:=by subst hn; simp [IF,go_sem]
theorem tc_at {w:World} {b i:Nat} {k:Nat→Int} (c:TC w b (k 0) (k 1) (k 2)) (h:i<3):w.cell? ⟨b,i,none⟩=some (.int .i64 (k i)):=by
 rcases (show i=0∨i=1∨i=2 by omega) with rfl | rfl | rfl
 ·exact c.1
 ·exact c.2.1
 ·exact c.2.2
theorem nz_fit (x:Int):FitP (nz x):=by
 unfold nz
 split
 ·assumption
 ·decide
theorem ne_two (x:Int):ne x=0∨ne x=3:=by
 unfold ne
 split
 ·exact Or.inl rfl
 ·exact Or.inr rfl
theorem ne_zero {x:Int} (h:ne x=0):FitP x:=Classical.byContradiction fun c=>by rw [(nz_no c).2] at h; exact absurd h (by decide)
theorem ne_nz {x:Int} (h:¬ ne x=0):nz x=0:=(nz_no (fun c=>h (nz_of c).2)).1
def RetC (c:Int) (p:Addr) (v:Value) (w:World) (e:Ending) (w':World):Prop:=e=.returned (.int .i64 c)∧∃ u,Below w.heap.size w u∧w'=u.setCell p v
def RetT (c:Int) (b:Nat) (x y z:Int) (w:World) (e:Ending) (w':World):Prop:=e=.returned (.int .i64 c)∧∃ u,Below w.heap.size w u∧w'=((u.setCell ⟨b,0,none⟩ (.int .i64 x)).setCell ⟨b,1,none⟩ (.int .i64 y)).setCell ⟨b,2,none⟩ (.int .i64 z)
theorem fits_jos (m:Nat→Int) (hm:I6 m) (w:World) :
  Calls Tryz.prog 114 #[sv m] w (RetV (.bool (f6b m)) w):=by
 have B:=b_alloc (o:=Obj.cells #[.int .i64 (m 0),.int .i64 (m 1),.int .i64 (m 2),.int .i64 (m 3),.int .i64 (m 4),.int .i64 (m 5)] 42) (Below.refl w.heap.size w)
 obtain ⟨x0,x1,x2,x3,x4,x5⟩:=ix_sym m
 go_enter Tryz.func114,Tryz.ntmps114
 go_wp2
 go_loop [6] (fun iv=>∃ k:Nat,k≤6∧iv=.int .i64 k∧Hid (∀ i,i<k→FitP (m i))) (fun iv=>6 - (intOf iv).toNat)
 case atStart=>exact ⟨0,by decide,rfl,Lib.hid (fun i hi=>absurd hi (by omega))⟩
 case round =>
  obtain ⟨k,hk,rfl,hf⟩:=hrel
  by_cases c:k<6∧¬ FitP (m k)
  ·have E:=Lib.hid (f6b_no (fun h=>c.2 (h k c.1)))
   have ex:=Lib.hid (fitb_no c.2)
   have hx:=Lib.hid (hm k c.1)
   obtain ⟨c,_⟩:=c
   rcases seven hk with rfl | rfl | rfl | rfl | rfl | rfl | rfl
   ·exact absurd c (by decide)
   all_goals
    go_wp2_with fail
    refine (fits_any _ hx.out.1 hx.out.2 _).mono ?_
    rintro e w9 ⟨rfl,rfl⟩
    rw [ex.out]
    go_wp2
    go_ret
    exact ⟨by rw [E.out]; rfl,B⟩
  ·by_cases d:k=6
   ·subst d
    have E:=Lib.hid (f6b_yes hf.out)
    go_wp2
    go_ret
    exact ⟨by rw [E.out]; rfl,B⟩
   ·have fk:FitP (m k):=Classical.byContradiction (fun h=>c ⟨by omega,h⟩)
    have hf':=Lib.hid (less_succ hf.out fk)
    have hx:=Lib.hid (hm k (by omega))
    have ex:=Lib.hid (fitb_yes fk)
    clear c fk
    rcases seven hk with rfl | rfl | rfl | rfl | rfl | rfl | rfl
    ·exact absurd rfl d
    all_goals
     go_wp2_with fail
     refine (fits_any _ hx.out.1 hx.out.2 _).mono ?_
     rintro e w9 ⟨rfl,rfl⟩
     rw [ex.out]
     go_wp2
     go_round
     case rel=>exact ⟨_,by decide,rfl,hf'⟩
     case measure=>simp [intOf]
theorem crossed_go (m k:Nat→Int) (i j:Nat) (hi:i<3) (hj:j<3) (mh ml nh nl sh sl hh hl t e y f:Int)
  (cR:∀ w,PL w→Calls Tryz.prog 176 #[sv m,.int .i64 0] w (RetV (.tuple #[tv (m 0) (m 1) (m 2),.int .i64 0]) w))
  (c0:∀ w,Calls Tryz.prog 32 #[.int .i64 (k i),.int .i64 (m j)] w (RetV (wv mh ml) w))
  (c1:∀ w,Calls Tryz.prog 32 #[.int .i64 (k j),.int .i64 (m i)] w (RetV (wv nh nl) w))
  (cA:∀ w,Calls Tryz.prog 131 #[wv mh ml,wv nh nl] w (RetV (.tuple #[wv sh sl,.int .i64 0]) w))
  (cH:∀ w,Calls Tryz.prog 118 #[wv sh sl,.int .i64 40] w (RetV (.tuple #[wv hh hl,.int .i64 0]) w))
  (cI:∀ w,Calls Tryz.prog 119 #[wv hh hl] w (RetV (.tuple #[.int .i64 t,.int .i64 e]) w))
  (ht:Hid (I64 t)) (ho:Hid ((e=0∧FitP t∧y=t∧f=0)∨(e=0∧¬ FitP t∧y=0∧f=3)∨(e=3∧y=0∧f=3))) (w:World) (hp:PL w) :
  Calls Tryz.prog 148 #[sv m,tv (k 0) (k 1) (k 2),.int .i64 ((i:Nat):Int),.int .i64 ((j:Nat):Int)] w (RetV (.tuple #[.int .i64 y,.int .i64 f]) w):=by
 have B:Below w.heap.size w ((w.alloc (Obj.cells #[.int .i64 (m 0),.int .i64 (m 1),.int .i64 (m 2),.int .i64 (m 3),.int .i64 (m 4),.int .i64 (m 5)] 42)).alloc (Obj.cells #[.int .i64 (k 0),.int .i64 (k 1),.int .i64 (k 2)] 25)):=b_alloc (b_alloc (Below.refl _ _))
 have S:SC6 ((w.alloc (Obj.cells #[.int .i64 (m 0),.int .i64 (m 1),.int .i64 (m 2),.int .i64 (m 3),.int .i64 (m 4),.int .i64 (m 5)] 42)).alloc (Obj.cells #[.int .i64 (k 0),.int .i64 (k 1),.int .i64 (k 2)] 25)) w.heap.size m:=sc_six (sc_alloc (sc_new rfl))
 have K:TC ((w.alloc (Obj.cells #[.int .i64 (m 0),.int .i64 (m 1),.int .i64 (m 2),.int .i64 (m 3),.int .i64 (m 4),.int .i64 (m 5)] 42)).alloc (Obj.cells #[.int .i64 (k 0),.int .i64 (k 1),.int .i64 (k 2)] 25)) (w.heap.size+1) (k 0) (k 1) (k 2):=tc_new (by simp)
 have P:=pl_keep B hp
 clear hp
 go_enter Tryz.func148,Tryz.ntmps148
 go_wp2_with fail
 refine (cR _ P).mono ?_
 rintro e1 w1 ⟨rfl,hb⟩
 replace K:=tc_keep hb K
 replace B:=b_trans B hb
 clear hb S P cR
 have R:TC (w1.alloc (Obj.cells #[.int .i64 (m 0),.int .i64 (m 1),.int .i64 (m 2)] 25)) w1.heap.size (m 0) (m 1) (m 2):=tc_new rfl
 replace K:=tc_alloc (o:=(Obj.cells #[.int .i64 (m 0),.int .i64 (m 1),.int .i64 (m 2)] 25)) K
 replace B:=b_alloc (o:=(Obj.cells #[.int .i64 (m 0),.int .i64 (m 1),.int .i64 (m 2)] 25)) B
 have hi0:(0:Int)≤(i:Int):=by omega
 have hi3:(i:Int)<3:=by omega
 have hj0:(0:Int)≤(j:Int):=by omega
 have hj3:(j:Int)<3:=by omega
 go_wp2
 generalize w1.alloc (Obj.cells #[.int .i64 (m 0),.int .i64 (m 1),.int .i64 (m 2)] 25)=y1 at *
 generalize w1.heap.size=Q at *
 refine region_late [24,25,26,27,28,29,30,31,32,33,34,35,36,37,38,23,39,40,12] 17 (fun i_ X_ U_=>match i_ with | 0=>X_=.int .i64 ((i:Nat):Int) | 1=>X_=.pointer (some ⟨w.heap.size+1,i,none⟩) | 2=>X_=.int .i64 (k i) | 3=>X_=.int .i64 ((j:Nat):Int) | 4=>X_=.pointer (some ⟨Q,j,none⟩) | 5=>X_=.int .i64 (m j) | 6=>X_=wv mh ml | 7=>X_=.int .i64 ((j:Nat):Int) | 8=>X_=.pointer (some ⟨w.heap.size+1,j,none⟩) | 9=>X_=.int .i64 (k j) | 10=>X_=.int .i64 ((i:Nat):Int) | 11=>X_=.pointer (some ⟨Q,i,none⟩) | 12=>X_=.int .i64 (m i) | 13=>X_=wv nh nl | 14=>X_=.tuple #[wv sh sl,.int .i64 0] | 15=>X_=.tuple #[wv sh sl,.int .i64 0] | 16=>X_=wv sh sl | 17=>X_=.int .i64 0 | 18=>∃ g,X_=.pointer (some ⟨g,0,none⟩)∧y1.heap.size≤g∧WC U_ g 0 0∧WF U_ g | _=>True) (fun i_=>i_ == 18) (by kernel_rfl) (by kernel_rfl) (by kernel_rfl) (by kernel_rfl) ?_ ?_ ?_ ?_ ?_
 ·refine swp (upS (upS (upS (upS (upS (upS (upS (upS (upS (upS (upS (upS (upS (upS (upS (upS (upS (upS (upS up0 ?_) ?_) ?_) ?_) ?_) ?_) ?_) ?_) ?_) ?_) ?_) ?_) ?_) ?_) ?_) ?_) ?_) ?_) ?_)
  ·exact fun _ _ _ h _=>h
  ·exact fun _ _ _ h _=>h
  ·exact fun _ _ _ h _=>h
  ·exact fun _ _ _ h _=>h
  ·exact fun _ _ _ h _=>h
  ·exact fun _ _ _ h _=>h
  ·exact fun _ _ _ h _=>h
  ·exact fun _ _ _ h _=>h
  ·exact fun _ _ _ h _=>h
  ·exact fun _ _ _ h _=>h
  ·exact fun _ _ _ h _=>h
  ·exact fun _ _ _ h _=>h
  ·exact fun _ _ _ h _=>h
  ·exact fun _ _ _ h _=>h
  ·exact fun _ _ _ h _=>h
  ·exact fun _ _ _ h _=>h
  ·exact fun _ _ _ h _=>h
  ·exact fun _ _ _ h _=>h
  ·intro x w w' h hb; obtain ⟨g,e,hg,hc,hf⟩:=h; exact ⟨g,e,hg,wc_keep hb hc,wf_keep hb hc hf⟩
 ·refine swa (upS (upS (upS (upS (upS (upS (upS (upS (upS (upS (upS (upS (upS (upS (upS (upS (upS (upS (upS up0 ?_) ?_) ?_) ?_) ?_) ?_) ?_) ?_) ?_) ?_) ?_) ?_) ?_) ?_) ?_) ?_) ?_) ?_) ?_)
  ·exact fun _ _ ha=>absurd ha (by decide)
  ·exact fun _ _ ha=>absurd ha (by decide)
  ·exact fun _ _ ha=>absurd ha (by decide)
  ·exact fun _ _ ha=>absurd ha (by decide)
  ·exact fun _ _ ha=>absurd ha (by decide)
  ·exact fun _ _ ha=>absurd ha (by decide)
  ·exact fun _ _ ha=>absurd ha (by decide)
  ·exact fun _ _ ha=>absurd ha (by decide)
  ·exact fun _ _ ha=>absurd ha (by decide)
  ·exact fun _ _ ha=>absurd ha (by decide)
  ·exact fun _ _ ha=>absurd ha (by decide)
  ·exact fun _ _ ha=>absurd ha (by decide)
  ·exact fun _ _ ha=>absurd ha (by decide)
  ·exact fun _ _ ha=>absurd ha (by decide)
  ·exact fun _ _ ha=>absurd ha (by decide)
  ·exact fun _ _ ha=>absurd ha (by decide)
  ·exact fun _ _ ha=>absurd ha (by decide)
  ·exact fun _ _ ha=>absurd ha (by decide)
  ·intro x w _ h; obtain ⟨g,rfl,_,hg,_⟩:=h; exact wc_lt hg
 ·refine upS (upS (upS (upS (upS (upS (upS (upS (upS (upS (upS (upS (upS (upS (upS (upS (upS (upS (upS up0 ?_) ?_) ?_) ?_) ?_) ?_) ?_) ?_) ?_) ?_) ?_) ?_) ?_) ?_) ?_) ?_) ?_) ?_) ?_
  all_goals intro v f w' hb hv hB hd
  ·have b2:f.tmps[2]?=some (.int .i64 ((i:Nat):Int)):=(hb 2 (by decide)).trans rfl
   clear hb hv hd
   refine wpOp_step rfl fun K hK=>?_
   go_simp
   exact hK _ _ ⟨_,rfl,Below.refl _ _,rfl,fun h=>absurd h (by decide)⟩
  ·have b5:f.tmps[5]?=some (.pointer (some ⟨w.heap.size+1,0,none⟩)):=(hb 5 (by decide)).trans rfl
   have d0:=got (hv 0 24 rfl) (hd 0 (by kernel_rfl))
   clear hb hv hd
   refine wpOp_step rfl fun K hK=>?_
   go_simp
   exact hK _ _ ⟨_,rfl,Below.refl _ _,rfl,fun h=>absurd h (by decide)⟩
  ·have d1:=got (hv 1 25 rfl) (hd 1 (by kernel_rfl))
   clear hb hv hd
   have c:=tc_at (tc_keep hB K) hi
   refine wpOp_step rfl fun K hK=>?_
   go_simp
   exact hK _ _ ⟨_,rfl,Below.refl _ _,rfl,fun h=>absurd h (by decide)⟩
  ·have b3:f.tmps[3]?=some (.int .i64 ((j:Nat):Int)):=(hb 3 (by decide)).trans rfl
   clear hb hv hd
   refine wpOp_step rfl fun K hK=>?_
   go_simp
   exact hK _ _ ⟨_,rfl,Below.refl _ _,rfl,fun h=>absurd h (by decide)⟩
  ·have b10:f.tmps[10]?=some (.pointer (some ⟨Q,0,none⟩)):=(hb 10 (by decide)).trans rfl
   have d3:=got (hv 3 27 rfl) (hd 3 (by kernel_rfl))
   clear hb hv hd
   refine wpOp_step rfl fun K hK=>?_
   go_simp
   exact hK _ _ ⟨_,rfl,Below.refl _ _,rfl,fun h=>absurd h (by decide)⟩
  ·have d4:=got (hv 4 28 rfl) (hd 4 (by kernel_rfl))
   clear hb hv hd
   have c:=tc_at (k:=m) (tc_keep hB R) hj
   refine wpOp_step rfl fun K hK=>?_
   go_simp
   exact hK _ _ ⟨_,rfl,Below.refl _ _,rfl,fun h=>absurd h (by decide)⟩
  ·have d2:=got (hv 2 26 rfl) (hd 2 (by kernel_rfl))
   have d5:=got (hv 5 29 rfl) (hd 5 (by kernel_rfl))
   clear hb hv hd
   refine wpOp_call rfl Tryz.call32 (args2 (eval_tmp d2) (eval_tmp d5)) (c0 _) ?_
   rintro e5 w5 ⟨rfl,hb5⟩
   exact ⟨_,rfl,_,rfl,hb5,rfl,fun h=>absurd h (by decide)⟩
  ·have b3:f.tmps[3]?=some (.int .i64 ((j:Nat):Int)):=(hb 3 (by decide)).trans rfl
   clear hb hv hd
   refine wpOp_step rfl fun K hK=>?_
   go_simp
   exact hK _ _ ⟨_,rfl,Below.refl _ _,rfl,fun h=>absurd h (by decide)⟩
  ·have b5:f.tmps[5]?=some (.pointer (some ⟨w.heap.size+1,0,none⟩)):=(hb 5 (by decide)).trans rfl
   have d7:=got (hv 7 31 rfl) (hd 7 (by kernel_rfl))
   clear hb hv hd
   refine wpOp_step rfl fun K hK=>?_
   go_simp
   exact hK _ _ ⟨_,rfl,Below.refl _ _,rfl,fun h=>absurd h (by decide)⟩
  ·have d8:=got (hv 8 32 rfl) (hd 8 (by kernel_rfl))
   clear hb hv hd
   have c:=tc_at (tc_keep hB K) hj
   refine wpOp_step rfl fun K hK=>?_
   go_simp
   exact hK _ _ ⟨_,rfl,Below.refl _ _,rfl,fun h=>absurd h (by decide)⟩
  ·have b2:f.tmps[2]?=some (.int .i64 ((i:Nat):Int)):=(hb 2 (by decide)).trans rfl
   clear hb hv hd
   refine wpOp_step rfl fun K hK=>?_
   go_simp
   exact hK _ _ ⟨_,rfl,Below.refl _ _,rfl,fun h=>absurd h (by decide)⟩
  ·have b10:f.tmps[10]?=some (.pointer (some ⟨Q,0,none⟩)):=(hb 10 (by decide)).trans rfl
   have d10:=got (hv 10 34 rfl) (hd 10 (by kernel_rfl))
   clear hb hv hd
   refine wpOp_step rfl fun K hK=>?_
   go_simp
   exact hK _ _ ⟨_,rfl,Below.refl _ _,rfl,fun h=>absurd h (by decide)⟩
  ·have d11:=got (hv 11 35 rfl) (hd 11 (by kernel_rfl))
   clear hb hv hd
   have c:=tc_at (k:=m) (tc_keep hB R) hi
   refine wpOp_step rfl fun K hK=>?_
   go_simp
   exact hK _ _ ⟨_,rfl,Below.refl _ _,rfl,fun h=>absurd h (by decide)⟩
  ·have d9:=got (hv 9 33 rfl) (hd 9 (by kernel_rfl))
   have d12:=got (hv 12 36 rfl) (hd 12 (by kernel_rfl))
   clear hb hv hd
   refine wpOp_call rfl Tryz.call32 (args2 (eval_tmp d9) (eval_tmp d12)) (c1 _) ?_
   rintro e5 w5 ⟨rfl,hb5⟩
   exact ⟨_,rfl,_,rfl,hb5,rfl,fun h=>absurd h (by decide)⟩
  ·have d6:=got (hv 6 30 rfl) (hd 6 (by kernel_rfl))
   have d13:=got (hv 13 37 rfl) (hd 13 (by kernel_rfl))
   clear hb hv hd
   refine wpOp_call rfl Tryz.call131 (args2 (eval_tmp d6) (eval_tmp d13)) (cA _) ?_
   rintro e5 w5 ⟨rfl,hb5⟩
   exact ⟨_,rfl,_,rfl,hb5,rfl,fun h=>absurd h (by decide)⟩
  ·have d14:=got (hv 14 38 rfl) (hd 14 (by kernel_rfl))
   clear hb hv hd
   refine wpOp_step rfl fun K hK=>?_
   go_simp
   exact hK _ _ ⟨_,rfl,Below.refl _ _,rfl,fun h=>absurd h (by decide)⟩
  ·have d15:=got (hv 15 23 rfl) (hd 15 (by kernel_rfl))
   clear hb hv hd
   refine wpOp_step rfl fun K hK=>?_
   go_simp
   exact hK _ _ ⟨_,rfl,Below.refl _ _,rfl,fun h=>absurd h (by decide)⟩
  ·have d15:=got (hv 15 23 rfl) (hd 15 (by kernel_rfl))
   clear hb hv hd
   refine wpOp_step rfl fun K hK=>?_
   go_simp
   exact hK _ _ ⟨_,rfl,Below.refl _ _,rfl,fun h=>absurd h (by decide)⟩
  ·clear hb hv hd
   refine wpOp_step rfl fun K hK=>?_
   go_simp
   exact hK _ _ ⟨_,rfl,b_alloc (Below.refl _ _),⟨_,rfl,hB.size,by simp [WC,go_sem],by simp [WF,go_sem]⟩,fun _=>Nat.le_refl _⟩
 ·intro v w' hB hF hD
  have F0:v 0=_:=hF 0 (by simp)
  have F1:v 1=_:=hF 1 (by simp)
  have F2:v 2=_:=hF 2 (by simp)
  have F3:v 3=_:=hF 3 (by simp)
  have F4:v 4=_:=hF 4 (by simp)
  have F5:v 5=_:=hF 5 (by simp)
  have F6:v 6=_:=hF 6 (by simp)
  have F7:v 7=_:=hF 7 (by simp)
  have F8:v 8=_:=hF 8 (by simp)
  have F9:v 9=_:=hF 9 (by simp)
  have F10:v 10=_:=hF 10 (by simp)
  have F11:v 11=_:=hF 11 (by simp)
  have F12:v 12=_:=hF 12 (by simp)
  have F13:v 13=_:=hF 13 (by simp)
  have F14:v 14=_:=hF 14 (by simp)
  have F15:v 15=_:=hF 15 (by simp)
  have F16:v 16=_:=hF 16 (by simp)
  have F17:v 17=_:=hF 17 (by simp)
  have F18:∃ g,(v 18)=.pointer (some ⟨g,0,none⟩)∧y1.heap.size≤g∧WC w' g 0 0∧WF w' g:=hF 18 (by simp)
  clear hF
  obtain ⟨g,e18,p18,v18,f18⟩:=F18
  simp only [frOf,frGo,Nat.zero_add,Nat.reduceAdd,F0,F1,F2,F3,F4,F5,F6,F7,F8,F9,F10,F11,F12,F13,F14,F15,F16,F17,e18]
  have hz:=B.size
  have KK:=Lib.hid (And.intro (wc_mine (h':=sh) (l':=sl) v18) (b_set (p:=⟨g,1,none⟩) (v:=.int .u64 sl) (b_set (p:=⟨g,0,none⟩) (v:=.int .i64 sh) (b_trans B hB) (show _≤g by omega)) (show _≤g by omega)))
  clear F0 F1 F2 F3 F4 F5 F6 F7 F8 F9 F10 F11 F12 F13 F14 F15 F16 F17 e18 hB hD B c0 c1 cA hz p18 K R hi0 hi3 hj0 hj3
  go_step
  go_step
  generalize (w'.setCell ⟨g,0,none⟩ (.int .i64 sh)).setCell ⟨g,1,none⟩ (.int .u64 sl)=y2 at *
  clear v18 f18
  obtain ⟨k2,B⟩:=KK.out
  clear KK
  go_wp2_with fail
  refine (cH _).mono ?_
  rintro e5 w5 ⟨rfl,hb⟩
  replace B:=b_trans B hb
  clear hb k2 cH
  have k3:WC (w5.alloc (Obj.cells #[.int .i64 hh,.int .u64 hl] 96)) w5.heap.size hh hl:=by simp [WC,go_sem]
  replace B:=b_alloc (o:=(Obj.cells #[.int .i64 hh,.int .u64 hl] 96)) B
  go_wp2_with fail
  refine (cI _).mono ?_
  rintro e6 w6 ⟨rfl,hb⟩
  replace B:=b_trans B hb
  clear hb k3 cI
  rcases ho.out with ⟨rfl,ft,rfl,rfl⟩ | ⟨rfl,ft,rfl,rfl⟩ | ⟨rfl,rfl,rfl⟩
  ·have ea:=Lib.hid (fitb_yes ft)
   clear ft ho
   go_wp2_with fail
   refine (fits_any _ ht.out.1 ht.out.2 _).mono ?_
   rintro e7 w7 ⟨rfl,rfl⟩
   rw [ea.out]
   go_wp2
   go_ret2
   exact ⟨rfl,B⟩
  ·have ea:=Lib.hid (fitb_no ft)
   clear ft ho
   go_wp2_with fail
   refine (fits_any _ ht.out.1 ht.out.2 _).mono ?_
   rintro e7 w7 ⟨rfl,rfl⟩
   rw [ea.out]
   go_wp2
   go_ret2
   exact ⟨rfl,B⟩
  ·clear ho
   go_wp2
   go_ret2
   exact ⟨rfl,B⟩
 ·intro v w' hB hF hD
  have F0:v 0=_:=hF 0 (by simp) (by decide)
  have F1:v 1=_:=hF 1 (by simp) (by decide)
  have F2:v 2=_:=hF 2 (by simp) (by decide)
  have F3:v 3=_:=hF 3 (by simp) (by decide)
  have F4:v 4=_:=hF 4 (by simp) (by decide)
  have F5:v 5=_:=hF 5 (by simp) (by decide)
  have F6:v 6=_:=hF 6 (by simp) (by decide)
  have F7:v 7=_:=hF 7 (by simp) (by decide)
  have F8:v 8=_:=hF 8 (by simp) (by decide)
  have F9:v 9=_:=hF 9 (by simp) (by decide)
  have F10:v 10=_:=hF 10 (by simp) (by decide)
  have F11:v 11=_:=hF 11 (by simp) (by decide)
  have F12:v 12=_:=hF 12 (by simp) (by decide)
  have F13:v 13=_:=hF 13 (by simp) (by decide)
  have F14:v 14=_:=hF 14 (by simp) (by decide)
  have F15:v 15=_:=hF 15 (by simp) (by decide)
  have F16:v 16=_:=hF 16 (by simp) (by decide)
  have F18:∃ g,(v 18)=.pointer (some ⟨g,0,none⟩)∧y1.heap.size≤g∧WC w' g 0 0∧WF w' g:=hF 18 (by simp) (by decide)
  clear hF
  obtain ⟨g,e18,p18,v18,f18⟩:=F18
  simp only [frOf,frGo,Nat.zero_add,Nat.reduceAdd,F0,F1,F2,F3,F4,F5,F6,F7,F8,F9,F10,F11,F12,F13,F14,F15,F16,e18]
  have hz:=B.size
  have KK:=Lib.hid (And.intro (wc_mine (h':=sh) (l':=sl) v18) (b_set (p:=⟨g,1,none⟩) (v:=.int .u64 sl) (b_set (p:=⟨g,0,none⟩) (v:=.int .i64 sh) (b_trans B hB) (show _≤g by omega)) (show _≤g by omega)))
  clear F0 F1 F2 F3 F4 F5 F6 F7 F8 F9 F10 F11 F12 F13 F14 F15 F16 e18 hB hD B c0 c1 cA hz p18 K R hi0 hi3 hj0 hj3
  refine wpOp_step rfl (fun K hK=>?_)
  go_simp
  refine hK _ _ ?_
  clear hK K
  refine wpOp_step rfl (fun K hK=>?_)
  go_simp
  refine hK _ _ ?_
  clear hK K
  generalize (w'.setCell ⟨g,0,none⟩ (.int .i64 sh)).setCell ⟨g,1,none⟩ (.int .u64 sl)=y2 at *
  clear v18 f18
  obtain ⟨k2,B⟩:=KK.out
  clear KK
  go_wp2_with fail
  refine (cH _).mono ?_
  rintro e5 w5 ⟨rfl,hb⟩
  replace B:=b_trans B hb
  clear hb k2 cH
  have k3:WC (w5.alloc (Obj.cells #[.int .i64 hh,.int .u64 hl] 96)) w5.heap.size hh hl:=by simp [WC,go_sem]
  replace B:=b_alloc (o:=(Obj.cells #[.int .i64 hh,.int .u64 hl] 96)) B
  go_wp2_with fail
  refine (cI _).mono ?_
  rintro e6 w6 ⟨rfl,hb⟩
  replace B:=b_trans B hb
  clear hb k3 cI
  rcases ho.out with ⟨rfl,ft,rfl,rfl⟩ | ⟨rfl,ft,rfl,rfl⟩ | ⟨rfl,rfl,rfl⟩
  ·have ea:=Lib.hid (fitb_yes ft)
   clear ft ho
   go_wp2_with fail
   refine (fits_any _ ht.out.1 ht.out.2 _).mono ?_
   rintro e7 w7 ⟨rfl,rfl⟩
   rw [ea.out]
   go_wp2
   go_ret2
   exact ⟨rfl,B⟩
  ·have ea:=Lib.hid (fitb_no ft)
   clear ft ho
   go_wp2_with fail
   refine (fits_any _ ht.out.1 ht.out.2 _).mono ?_
   rintro e7 w7 ⟨rfl,rfl⟩
   rw [ea.out]
   go_wp2
   go_ret2
   exact ⟨rfl,B⟩
  ·clear ho
   go_wp2
   go_ret2
   exact ⟨rfl,B⟩
def jT (m k:Nat→Int) (i j:Nat):Int:=evn (k i*m j+k j*m i) 1099511627776
theorem two_bd {a b c d:Int} (ha:FitP a) (hb:FitP b) (hc:FitP c) (hd:FitP d):(a*b).natAbs≤83076749736557242056487941267521536∧(c*d).natAbs≤83076749736557242056487941267521536:=by
 have h:∀ {x y:Int},FitP x→FitP y→(x*y).natAbs≤83076749736557242056487941267521536:=fun {x y} hx hy=>by
  rw [Int.natAbs_mul]
  exact Nat.mul_le_mul (show x.natAbs≤288230376151711744 by omega) (show y.natAbs≤288230376151711744 by omega)
 exact ⟨h ha hb,h hc hd⟩
theorem evn40_bd {z:Int} (h:z.natAbs≤166153499473114484112975882535043072):Fits (evn z 1099511627776):=by
 unfold evn near
 split <;> exact ⟨by omega,by omega⟩
theorem crossed_any (m k:Nat→Int) (i j:Nat) (hi:i<3) (hj:j<3) (hm:F6 m) (hk:∀ i,i<3→FitP (k i)) (w:World) (hp:PL w) :
  Calls Tryz.prog 148 #[sv m,tv (k 0) (k 1) (k 2),.int .i64 ((i:Nat):Int),.int .i64 ((j:Nat):Int)] w (RetV (.tuple #[.int .i64 (nz (jT m k i j)),.int .i64 (ne (jT m k i j))]) w):=by
 have a0:=hk i hi
 have a1:=hk j hj
 have a2:=hm i (by omega)
 have a3:=hm j (by omega)
 obtain ⟨b0,b1⟩:=two_bd a0 a3 a1 a2
 have f0:Fits (k i*m j):=⟨by omega,by omega⟩
 have f1:Fits (k j*m i):=⟨by omega,by omega⟩
 have f2:Fits (k i*m j+k j*m i):=⟨by omega,by omega⟩
 have f3:Fits (jT m k i j):=evn40_bd (by omega)
 have cI:=fun w=>int_any _ _ (jT m k i j) (IsW.mk' f3) w
 refine crossed_go m k i j hi hj _ _ _ _ _ _ _ _ _ _ (nz (jT m k i j)) (ne (jT m k i j)) (fun w hp=>row_ok m 0 0 1 2 (by simp [Row3]) w hp)
  (fun w=>(mul_any (k i) (m j) (by omega) (by omega) (by omega) (by omega) w).mono fun _ _=>retW_det (IsW.mk' f0))
  (fun w=>(mul_any (k j) (m i) (by omega) (by omega) (by omega) (by omega) w).mono fun _ _=>retW_det (IsW.mk' f1))
  (fun w=>(add_any _ _ _ _ _ _ (IsW.mk' f0) (IsW.mk' f1) w).mono fun _ _ h=>retWE_det (IsW.mk' f2) (by rwa [fz_of f2,fe_of f2] at h))
  (fun w=>(half_any _ _ _ 40 (IsW.mk' f2) (by decide) (by decide) w).mono fun _ _ h=>retWE_det (IsW.mk' f3) h)
  cI (Lib.hid ?_) (Lib.hid ?_) w hp
 ·unfold iz
  split
  ·assumption
  ·decide
 ·by_cases c:-9223372036854775808≤jT m k i j∧jT m k i j≤9223372036854775807
  ·rw [(iz_of c).1,(iz_of c).2]
   by_cases d:FitP (jT m k i j)
   ·exact Or.inl ⟨rfl,d,(nz_of d).1,(nz_of d).2⟩
   ·exact Or.inr (Or.inl ⟨rfl,d,(nz_no d).1,(nz_no d).2⟩)
  ·have d:¬ FitP (jT m k i j):=fun d=>c ⟨by omega,by omega⟩
   exact Or.inr (Or.inr ⟨(iz_no c).2,(nz_no d).1,(nz_no d).2⟩)
theorem step1 (P K I J X i j:Nat) (m k:Nat→Int) (t e z:Int) (w:World) (S:SC6 w P m) (kc:TC w K (k 0) (k 1) (k 2)) (ci:IC w I (i:Int)) (cj:IC w J (j:Int)) (hp:PL w) (cx:IC w X z) (fx:IF w X)
  (cC:∀ w,PL w→Calls Tryz.prog 148 #[sv m,tv (k 0) (k 1) (k 2),.int .i64 ((i:Nat):Int),.int .i64 ((j:Nat):Int)] w (RetV (.tuple #[.int .i64 t,.int .i64 e]) w)) :
  Calls Tryz.prog 147 #[.pointer (some ⟨P,0,none⟩),.pointer (some ⟨K,0,none⟩),.pointer (some ⟨I,0,none⟩),.pointer (some ⟨J,0,none⟩),.pointer (some ⟨X,0,none⟩)] w (RetC e ⟨X,0,none⟩ (.int .i64 t) w):=by
 go_enter Tryz.func147,Tryz.ntmps147
 go_wp2_with fail
 refine (cC _ hp).mono ?_
 rintro e5 w5 ⟨rfl,hb⟩
 have fx:=if_keep hb cx fx
 have cx:=ic_keep hb cx
 clear S kc ci cj
 go_wp2
 go_ret
 exact ⟨rfl,w5,hb,rfl⟩
theorem step2 (A C X:Nat) (a b t e z:Int) (w:World) (ca:IC w A a) (cb:IC w C b) (cx:IC w X z) (fx:IF w X)
  (cC:∀ w,Calls Tryz.prog 93 #[.int .i64 a,.int .i64 b] w (RetV (.tuple #[.int .i64 t,.int .i64 e]) w)) :
  Calls Tryz.prog 149 #[.pointer (some ⟨A,0,none⟩),.pointer (some ⟨C,0,none⟩),.pointer (some ⟨X,0,none⟩)] w (RetC e ⟨X,0,none⟩ (.int .i64 t) w):=by
 go_enter Tryz.func149,Tryz.ntmps149
 go_wp2_with fail
 refine (cC _).mono ?_
 rintro e5 w5 ⟨rfl,hb⟩
 have fx:=if_keep hb cx fx
 have cx:=ic_keep hb cx
 clear ca cb
 go_wp2
 go_ret
 exact ⟨rfl,w5,hb,rfl⟩
theorem step4 (A C X:Nat) (a b t e z:Int) (w:World) (ca:IC w A a) (cb:IC w C b) (cx:IC w X z) (fx:IF w X)
  (cC:∀ w,Calls Tryz.prog 146 #[.int .i64 a,.int .i64 b] w (RetV (.tuple #[.int .i64 t,.int .i64 e]) w)) :
  Calls Tryz.prog 151 #[.pointer (some ⟨A,0,none⟩),.pointer (some ⟨C,0,none⟩),.pointer (some ⟨X,0,none⟩)] w (RetC e ⟨X,0,none⟩ (.int .i64 t) w):=by
 go_enter Tryz.func151,Tryz.ntmps151
 go_wp2_with fail
 refine (cC _).mono ?_
 rintro e5 w5 ⟨rfl,hb⟩
 have fx:=if_keep hb cx fx
 have cx:=ic_keep hb cx
 clear ca cb
 go_wp2
 go_ret
 exact ⟨rfl,w5,hb,rfl⟩
theorem step5 (A C X:Nat) (a b t e z:Int) (w:World) (ca:IC w A a) (cb:IC w C b) (cx:IC w X z) (fx:IF w X)
  (cC:∀ w,Calls Tryz.prog 106 #[.int .i64 a,.int .i64 b] w (RetV (.tuple #[.int .i64 t,.int .i64 e]) w)) :
  Calls Tryz.prog 152 #[.pointer (some ⟨A,0,none⟩),.pointer (some ⟨C,0,none⟩),.pointer (some ⟨X,0,none⟩)] w (RetC e ⟨X,0,none⟩ (.int .i64 t) w):=by
 go_enter Tryz.func152,Tryz.ntmps152
 go_wp2_with fail
 refine (cC _).mono ?_
 rintro e5 w5 ⟨rfl,hb⟩
 have fx:=if_keep hb cx fx
 have cx:=ic_keep hb cx
 clear ca cb
 go_wp2
 go_ret
 exact ⟨rfl,w5,hb,rfl⟩
theorem step3 (K I J X i j:Nat) (k:Nat→Int) (hi:i<3) (hj:j<3) (t e z:Int) (w:World) (kc:TC w K (k 0) (k 1) (k 2)) (ci:IC w I (i:Int)) (cj:IC w J (j:Int)) (cx:IC w X z) (fx:IF w X)
  (cC:∀ w,Calls Tryz.prog 146 #[.int .i64 (k i),.int .i64 (k j)] w (RetV (.tuple #[.int .i64 t,.int .i64 e]) w)) :
  Calls Tryz.prog 150 #[.pointer (some ⟨K,0,none⟩),.pointer (some ⟨I,0,none⟩),.pointer (some ⟨J,0,none⟩),.pointer (some ⟨X,0,none⟩)] w (RetC e ⟨X,0,none⟩ (.int .i64 t) w):=by
 have hi0:(0:Int)≤(i:Int):=by omega
 have hi3:(i:Int)<3:=by omega
 have hj0:(0:Int)≤(j:Int):=by omega
 have hj3:(j:Int)<3:=by omega
 go_enter Tryz.func150,Tryz.ntmps150
 go_wp2
 refine region_late [6,7,8,9,10,11,12,5,13,14] 9 (fun i_ X_ U_=>match i_ with | 0=>X_=.int .i64 ((i:Nat):Int) | 1=>X_=.pointer (some ⟨K,i,none⟩) | 2=>X_=.int .i64 (k i) | 3=>X_=.int .i64 ((j:Nat):Int) | 4=>X_=.pointer (some ⟨K,j,none⟩) | 5=>X_=.int .i64 (k j) | 6=>X_=.tuple #[.int .i64 t,.int .i64 e] | 7=>X_=.tuple #[.int .i64 t,.int .i64 e] | 8=>X_=.int .i64 t | 9=>X_=.int .i64 e | _=>True) (fun i_=>false) (by kernel_rfl) (by kernel_rfl) (by kernel_rfl) (by kernel_rfl) ?_ (fun i x w hi ha h=>by cases ha) ?_ ?_ ?_
 ·refine swp (upS (upS (upS (upS (upS (upS (upS (upS (upS (upS up0 ?_) ?_) ?_) ?_) ?_) ?_) ?_) ?_) ?_) ?_)
  all_goals exact fun _ _ _ h _=>h
 ·refine upS (upS (upS (upS (upS (upS (upS (upS (upS (upS up0 ?_) ?_) ?_) ?_) ?_) ?_) ?_) ?_) ?_) ?_
  all_goals intro v f w' hb hv hB hd
  ·have b1:f.tmps[1]?=some (.pointer (some ⟨I,0,none⟩)):=(hb 1 (by decide)).trans rfl
   clear hb hv hd
   have c:=ic_keep hB ci
   refine wpOp_step rfl fun K hK=>?_
   go_simp
   exact hK _ _ ⟨_,rfl,Below.refl _ _,rfl,fun h=>absurd h (by decide)⟩
  ·have b0:f.tmps[0]?=some (.pointer (some ⟨K,0,none⟩)):=(hb 0 (by decide)).trans rfl
   have d0:=got (hv 0 6 rfl) (hd 0 (by kernel_rfl))
   clear hb hv hd
   refine wpOp_step rfl fun K hK=>?_
   go_simp
   exact hK _ _ ⟨_,rfl,Below.refl _ _,rfl,fun h=>absurd h (by decide)⟩
  ·have d1:=got (hv 1 7 rfl) (hd 1 (by kernel_rfl))
   clear hb hv hd
   have c:=tc_at (tc_keep hB kc) hi
   refine wpOp_step rfl fun K hK=>?_
   go_simp
   exact hK _ _ ⟨_,rfl,Below.refl _ _,rfl,fun h=>absurd h (by decide)⟩
  ·have b2:f.tmps[2]?=some (.pointer (some ⟨J,0,none⟩)):=(hb 2 (by decide)).trans rfl
   clear hb hv hd
   have c:=ic_keep hB cj
   refine wpOp_step rfl fun K hK=>?_
   go_simp
   exact hK _ _ ⟨_,rfl,Below.refl _ _,rfl,fun h=>absurd h (by decide)⟩
  ·have b0:f.tmps[0]?=some (.pointer (some ⟨K,0,none⟩)):=(hb 0 (by decide)).trans rfl
   have d3:=got (hv 3 9 rfl) (hd 3 (by kernel_rfl))
   clear hb hv hd
   refine wpOp_step rfl fun K hK=>?_
   go_simp
   exact hK _ _ ⟨_,rfl,Below.refl _ _,rfl,fun h=>absurd h (by decide)⟩
  ·have d4:=got (hv 4 10 rfl) (hd 4 (by kernel_rfl))
   clear hb hv hd
   have c:=tc_at (tc_keep hB kc) hj
   refine wpOp_step rfl fun K hK=>?_
   go_simp
   exact hK _ _ ⟨_,rfl,Below.refl _ _,rfl,fun h=>absurd h (by decide)⟩
  ·have d2:=got (hv 2 8 rfl) (hd 2 (by kernel_rfl))
   have d5:=got (hv 5 11 rfl) (hd 5 (by kernel_rfl))
   clear hb hv hd
   refine wpOp_call rfl Tryz.call146 (args2 (eval_tmp d2) (eval_tmp d5)) (cC _) ?_
   rintro e5 w5 ⟨rfl,hb5⟩
   exact ⟨_,rfl,_,rfl,hb5,rfl,fun h=>absurd h (by decide)⟩
  ·have d6:=got (hv 6 12 rfl) (hd 6 (by kernel_rfl))
   clear hb hv hd
   refine wpOp_step rfl fun K hK=>?_
   go_simp
   exact hK _ _ ⟨_,rfl,Below.refl _ _,rfl,fun h=>absurd h (by decide)⟩
  ·have d7:=got (hv 7 5 rfl) (hd 7 (by kernel_rfl))
   clear hb hv hd
   refine wpOp_step rfl fun K hK=>?_
   go_simp
   exact hK _ _ ⟨_,rfl,Below.refl _ _,rfl,fun h=>absurd h (by decide)⟩
  ·have d7:=got (hv 7 5 rfl) (hd 7 (by kernel_rfl))
   clear hb hv hd
   refine wpOp_step rfl fun K hK=>?_
   go_simp
   exact hK _ _ ⟨_,rfl,Below.refl _ _,rfl,fun h=>absurd h (by decide)⟩
 ·intro v w' hB hF hD
  have F0:v 0=_:=hF 0 (by simp)
  have F1:v 1=_:=hF 1 (by simp)
  have F2:v 2=_:=hF 2 (by simp)
  have F3:v 3=_:=hF 3 (by simp)
  have F4:v 4=_:=hF 4 (by simp)
  have F5:v 5=_:=hF 5 (by simp)
  have F6:v 6=_:=hF 6 (by simp)
  have F7:v 7=_:=hF 7 (by simp)
  have F8:v 8=_:=hF 8 (by simp)
  have F9:v 9=_:=hF 9 (by simp)
  clear hF
  simp only [frOf,frGo,Nat.zero_add,Nat.reduceAdd,F0,F1,F2,F3,F4,F5,F6,F7,F8,F9]
  clear F0 F1 F2 F3 F4 F5 F6 F7 F8 F9 hD cC kc ci cj hi0 hi3 hj0 hj3
  replace fx:=if_keep hB cx fx
  replace cx:=ic_keep hB cx
  go_wp2
  go_ret
  exact ⟨rfl,w',hB,rfl⟩
 ·intro v w' hB hF hD
  have F0:v 0=_:=hF 0 (by simp) (by decide)
  have F1:v 1=_:=hF 1 (by simp) (by decide)
  have F2:v 2=_:=hF 2 (by simp) (by decide)
  have F3:v 3=_:=hF 3 (by simp) (by decide)
  have F4:v 4=_:=hF 4 (by simp) (by decide)
  have F5:v 5=_:=hF 5 (by simp) (by decide)
  have F6:v 6=_:=hF 6 (by simp) (by decide)
  have F7:v 7=_:=hF 7 (by simp) (by decide)
  have F8:v 8=_:=hF 8 (by simp) (by decide)
  clear hF
  simp only [frOf,frGo,Nat.zero_add,Nat.reduceAdd,F0,F1,F2,F3,F4,F5,F6,F7,F8]
  clear F0 F1 F2 F3 F4 F5 F6 F7 F8 hD cC kc ci cj hi0 hi3 hj0 hj3
  replace fx:=if_keep hB cx fx
  replace cx:=ic_keep hB cx
  refine wpOp_step rfl (fun K hK=>?_)
  go_simp
  refine hK _ _ ?_
  clear hK K
  refine wpOp_step rfl (fun K hK=>?_)
  go_simp
  refine hK _ _ ?_
  clear hK K
  go_wp2
  go_ret
  exact ⟨rfl,w',hB,rfl⟩
theorem stepS (A C X:Nat) (a0 a1 a2 y d0 d1 d2 e z0 z1 z2:Int) (w:World) (ca:TC w A a0 a1 a2) (cb:IC w C y) (cx:TC w X z0 z1 z2) (fx:TF w X)
  (cC:∀ w,Calls Tryz.prog 112 #[tv a0 a1 a2,.int .i64 y] w (RetV (.tuple #[tv d0 d1 d2,.int .i64 e]) w)) :
  Calls Tryz.prog 111 #[.pointer (some ⟨A,0,none⟩),.pointer (some ⟨C,0,none⟩),.pointer (some ⟨X,0,none⟩)] w (RetT e X d0 d1 d2 w):=by
 go_enter Tryz.func111,Tryz.ntmps111
 go_wp2_with fail
 refine (cC _).mono ?_
 rintro e5 w5 ⟨rfl,hb⟩
 have fx:=tf_keep hb cx fx
 have cx:=tc_keep hb cx
 clear ca cb
 go_wp2
 go_ret
 exact ⟨rfl,w5,hb,rfl⟩
theorem stepA (A C X:Nat) (a0 a1 a2 b0 b1 b2 d0 d1 d2 e z0 z1 z2:Int) (w:World) (ca:TC w A a0 a1 a2) (cb:TC w C b0 b1 b2) (cx:TC w X z0 z1 z2) (fx:TF w X)
  (cC:∀ w,Calls Tryz.prog 96 #[tv a0 a1 a2,tv b0 b1 b2] w (RetV (.tuple #[tv d0 d1 d2,.int .i64 e]) w)) :
  Calls Tryz.prog 113 #[.pointer (some ⟨A,0,none⟩),.pointer (some ⟨C,0,none⟩),.pointer (some ⟨X,0,none⟩)] w (RetT e X d0 d1 d2 w):=by
 go_enter Tryz.func113,Tryz.ntmps113
 go_wp2_with fail
 refine (cC _).mono ?_
 rintro e5 w5 ⟨rfl,hb⟩
 have fx:=tf_keep hb cx fx
 have cx:=tc_keep hb cx
 clear ca cb
 go_wp2
 go_ret
 exact ⟨rfl,w5,hb,rfl⟩
end Go.Proofs.YthnofhjgfhapiaaGreatDoor
namespace Go.Proofs.YthnofhjgfhapiaaGreatDoor
open Go.RowKit Go.Shelf
abbrev GC (w:World) (G P K S I J A T L Q U X:Nat):Prop:=w.cell? ⟨G,0,none⟩=some (.func (.func 147) #[] #[.pointer (some ⟨P,0,none⟩),.pointer (some ⟨K,0,none⟩),.pointer (some ⟨I,0,none⟩),.pointer (some ⟨J,0,none⟩),.pointer (some ⟨T,0,none⟩)])∧w.cell? ⟨G,1,none⟩=some (.func (.func 149) #[] #[.pointer (some ⟨A,0,none⟩),.pointer (some ⟨T,0,none⟩),.pointer (some ⟨L,0,none⟩)])∧w.cell? ⟨G,2,none⟩=some (.func (.func 150) #[] #[.pointer (some ⟨K,0,none⟩),.pointer (some ⟨I,0,none⟩),.pointer (some ⟨J,0,none⟩),.pointer (some ⟨Q,0,none⟩)])∧w.cell? ⟨G,3,none⟩=some (.func (.func 151) #[] #[.pointer (some ⟨Q,0,none⟩),.pointer (some ⟨S,0,none⟩),.pointer (some ⟨U,0,none⟩)])∧w.cell? ⟨G,4,none⟩=some (.func (.func 152) #[] #[.pointer (some ⟨L,0,none⟩),.pointer (some ⟨U,0,none⟩),.pointer (some ⟨X,0,none⟩)])
abbrev GD (w:World) (G X K Y D N:Nat):Prop:=w.cell? ⟨G,0,none⟩=some (.func (.func 111) #[] #[.pointer (some ⟨K,0,none⟩),.pointer (some ⟨Y,0,none⟩),.pointer (some ⟨D,0,none⟩)])∧w.cell? ⟨G,1,none⟩=some (.func (.func 113) #[] #[.pointer (some ⟨X,0,none⟩),.pointer (some ⟨D,0,none⟩),.pointer (some ⟨N,0,none⟩)])
theorem gc_keep {w w':World} (hb:Below w.heap.size w w') {G P K S I J A T L Q U X:Nat} (h:GC w G P K S I J A T L Q U X):GC w' G P K S I J A T L Q U X:=⟨cell_keep hb h.1,cell_keep hb h.2.1,cell_keep hb h.2.2.1,cell_keep hb h.2.2.2.1,cell_keep hb h.2.2.2.2⟩
theorem gd_keep {w w':World} (hb:Below w.heap.size w w') {G X K Y D N:Nat} (h:GD w G X K Y D N):GD w' G X K Y D N:=⟨cell_keep hb h.1,cell_keep hb h.2⟩
theorem gc_set {w:World} {G P K S I J A T L Q U X b o:Nat} {v:Value} (h:GC w G P K S I J A T L Q U X) (n:b≠G):GC (w.setCell ⟨b,o,none⟩ v) G P K S I J A T L Q U X:=by
 obtain ⟨h0,h1,h2,h3,h4⟩:=h
 refine ⟨?_,?_,?_,?_,?_⟩
 all_goals rw [World.cell?_setCell_far _ _ _ _ n]; assumption
theorem gd_set {w:World} {G X K Y D N b o:Nat} {v:Value} (h:GD w G X K Y D N) (n:b≠G):GD (w.setCell ⟨b,o,none⟩ v) G X K Y D N:=by
 obtain ⟨h0,h1⟩:=h
 refine ⟨?_,?_⟩
 all_goals rw [World.cell?_setCell_far _ _ _ _ n]; assumption
def Ran (A:Prop) (J F:World→Prop) (e:Ending) (w:World):Prop:=(e=.returned (.int .i64 0)∧A∧J w)∨(e=.returned (.int .i64 3)∧¬ A∧F w)
theorem ran_all {A:Prop} {J F:World→Prop} {w:World} (a:A) (j:J w):Ran A J F (.returned (.int .i64 0)) w:=Or.inl ⟨rfl,a,j⟩
theorem ran_no {A:Prop} {J F:World→Prop} {w:World} (a:¬ A) (j:F w):Ran A J F (.returned (.int .i64 3)) w:=Or.inr ⟨rfl,a,j⟩
def Ran2 (a b:Int) (F J:World→Prop) (e:Ending) (w:World):Prop:=(¬ a=0∧e=.returned (.int .i64 a)∧F w)∨(a=0∧e=.returned (.int .i64 b)∧J w)
theorem ran2_no {a b:Int} {F J:World→Prop} {w:World} (n:¬ a=0) (j:F w):Ran2 a b F J (.returned (.int .i64 a)) w:=Or.inl ⟨n,rfl,j⟩
theorem ran2_yes {b:Int} {F J:World→Prop} {w:World} (j:J w):Ran2 0 b F J (.returned (.int .i64 b)) w:=Or.inr ⟨rfl,rfl,j⟩
theorem turn5 (G P K S I J A T L Q U X:Nat) (e0 e1 e2 e3 e4:Int) (J0 J1 J2 J3 J4 J5 JF:World→Prop)
  (s0:∀ w,J0 w→GC w G P K S I J A T L Q U X) (c0:∀ w,J0 w→Calls Tryz.prog 147 #[.pointer (some ⟨P,0,none⟩),.pointer (some ⟨K,0,none⟩),.pointer (some ⟨I,0,none⟩),.pointer (some ⟨J,0,none⟩),.pointer (some ⟨T,0,none⟩)] w (fun e w'=>e=.returned (.int .i64 e0)∧J1 w'))
  (s1:∀ w,J1 w→GC w G P K S I J A T L Q U X) (c1:∀ w,J1 w→Calls Tryz.prog 149 #[.pointer (some ⟨A,0,none⟩),.pointer (some ⟨T,0,none⟩),.pointer (some ⟨L,0,none⟩)] w (fun e w'=>e=.returned (.int .i64 e1)∧J2 w'))
  (s2:∀ w,J2 w→GC w G P K S I J A T L Q U X) (c2:∀ w,J2 w→Calls Tryz.prog 150 #[.pointer (some ⟨K,0,none⟩),.pointer (some ⟨I,0,none⟩),.pointer (some ⟨J,0,none⟩),.pointer (some ⟨Q,0,none⟩)] w (fun e w'=>e=.returned (.int .i64 e2)∧J3 w'))
  (s3:∀ w,J3 w→GC w G P K S I J A T L Q U X) (c3:∀ w,J3 w→Calls Tryz.prog 151 #[.pointer (some ⟨Q,0,none⟩),.pointer (some ⟨S,0,none⟩),.pointer (some ⟨U,0,none⟩)] w (fun e w'=>e=.returned (.int .i64 e3)∧J4 w'))
  (s4:∀ w,J4 w→GC w G P K S I J A T L Q U X) (c4:∀ w,J4 w→Calls Tryz.prog 152 #[.pointer (some ⟨L,0,none⟩),.pointer (some ⟨U,0,none⟩),.pointer (some ⟨X,0,none⟩)] w (fun e w'=>e=.returned (.int .i64 e4)∧J5 w'))
  (q0:e0=0∨e0=3) (f0:¬ e0=0→∀ w,J1 w→JF w) (q1:e1=0∨e1=3) (f1:¬ e1=0→∀ w,J2 w→JF w) (q2:e2=0∨e2=3) (f2:¬ e2=0→∀ w,J3 w→JF w) (q3:e3=0∨e3=3) (f3:¬ e3=0→∀ w,J4 w→JF w) (q4:e4=0∨e4=3) (f4:¬ e4=0→∀ w,J5 w→JF w) (w:World) (j:J0 w) :
  Calls Tryz.prog 110 #[.slice (some ⟨G,0,none⟩) 5 5] w (Ran (e0=0∧e1=0∧e2=0∧e3=0∧e4=0) J5 JF):=by
 have H0:=Lib.hid (And.intro s0 (And.intro c0 f0))
 have H1:=Lib.hid (And.intro s1 (And.intro c1 f1))
 have H2:=Lib.hid (And.intro s2 (And.intro c2 f2))
 have H3:=Lib.hid (And.intro s3 (And.intro c3 f3))
 have H4:=Lib.hid (And.intro s4 (And.intro c4 f4))
 clear s0 c0 f0 s1 c1 f1 s2 c2 f2 s3 c3 f3 s4 c4 f4
 go_enter Tryz.func110,Tryz.ntmps110
 go_wp2
 refine wp_loop_rounds 6 ?_
 rw [rounds_succ]
 have S:=H0.out.1 _ j
 go_wp2_with fail
 refine (H0.out.2.1 _ j).mono ?_
 clear S j
 rintro e w1 ⟨rfl,j⟩
 rcases q0 with rfl | rfl
 rotate_left
 ·go_wp2
  go_ret
  exact ran_no (by simp) (H0.out.2.2 (by decide) _ j)
 clear H0
 go_wp2
 rw [rounds_succ]
 have S:=H1.out.1 _ j
 go_wp2_with fail
 refine (H1.out.2.1 _ j).mono ?_
 clear S j
 rintro e w2 ⟨rfl,j⟩
 rcases q1 with rfl | rfl
 rotate_left
 ·go_wp2
  go_ret
  exact ran_no (by simp) (H1.out.2.2 (by decide) _ j)
 clear H1
 go_wp2
 rw [rounds_succ]
 have S:=H2.out.1 _ j
 go_wp2_with fail
 refine (H2.out.2.1 _ j).mono ?_
 clear S j
 rintro e w3 ⟨rfl,j⟩
 rcases q2 with rfl | rfl
 rotate_left
 ·go_wp2
  go_ret
  exact ran_no (by simp) (H2.out.2.2 (by decide) _ j)
 clear H2
 go_wp2
 rw [rounds_succ]
 have S:=H3.out.1 _ j
 go_wp2_with fail
 refine (H3.out.2.1 _ j).mono ?_
 clear S j
 rintro e w4 ⟨rfl,j⟩
 rcases q3 with rfl | rfl
 rotate_left
 ·go_wp2
  go_ret
  exact ran_no (by simp) (H3.out.2.2 (by decide) _ j)
 clear H3
 go_wp2
 rw [rounds_succ]
 have S:=H4.out.1 _ j
 go_wp2_with fail
 refine (H4.out.2.1 _ j).mono ?_
 clear S j
 rintro e w5 ⟨rfl,j⟩
 rcases q4 with rfl | rfl
 rotate_left
 ·go_wp2
  go_ret
  exact ran_no (by simp) (H4.out.2.2 (by decide) _ j)
 clear H4
 go_wp2
 rw [rounds_succ]
 go_wp2
 go_ret
 exact ran_all (by simp) j
theorem turn2 (G X K Y D N:Nat) (e0 e1:Int) (J0 J1 J2:World→Prop) (s0:∀ w,J0 w→GD w G X K Y D N) (s1:∀ w,J1 w→GD w G X K Y D N)
  (c0:∀ w,J0 w→Calls Tryz.prog 111 #[.pointer (some ⟨K,0,none⟩),.pointer (some ⟨Y,0,none⟩),.pointer (some ⟨D,0,none⟩)] w (fun e w'=>e=.returned (.int .i64 e0)∧J1 w'))
  (c1:e0=0→∀ w,J1 w→Calls Tryz.prog 113 #[.pointer (some ⟨X,0,none⟩),.pointer (some ⟨D,0,none⟩),.pointer (some ⟨N,0,none⟩)] w (fun e w'=>e=.returned (.int .i64 e1)∧J2 w')) (w:World) (j:J0 w) :
  Calls Tryz.prog 110 #[.slice (some ⟨G,0,none⟩) 2 2] w (Ran2 e0 e1 J1 J2):=by
 have H0:=Lib.hid (And.intro s0 c0)
 have H1:=Lib.hid (And.intro s1 c1)
 clear s0 c0 s1 c1
 go_enter Tryz.func110,Tryz.ntmps110
 go_wp2
 refine wp_loop_rounds 3 ?_
 rw [rounds_succ]
 have S:=H0.out.1 _ j
 go_wp2_with fail
 refine (H0.out.2 _ j).mono ?_
 clear S j H0
 rintro e w1 ⟨rfl,j⟩
 by_cases k:e0=0
 rotate_left
 ·have k1:(e0 != 0)=true:=by simpa using k
  have K:=Lib.hid k
  clear k
  go_wp2
  go_ret
  exact ran2_no K.out j
 subst k
 go_wp2
 rw [rounds_succ]
 have S:=H1.out.1 _ j
 go_wp2_with fail
 refine (H1.out.2 (by simp) _ j).mono ?_
 clear S j H1
 rintro e w2 ⟨rfl,j⟩
 by_cases k:e1=0
 rotate_left
 ·have k1:(e1 != 0)=true:=by simpa using k
  clear k
  go_wp2
  go_ret
  exact ran2_yes j
 subst k
 go_wp2
 rw [rounds_succ]
 go_wp2
 go_ret
 exact ran2_yes j
end Go.Proofs.YthnofhjgfhapiaaGreatDoor

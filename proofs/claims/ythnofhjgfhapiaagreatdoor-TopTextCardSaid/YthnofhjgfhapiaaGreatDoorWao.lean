import Derived.Test.YthnofhjgfhapiaaGreatDoorWam
import Derived.Test.YthnofhjgfhapiaaGreatDoorWan
import Derived.Test.YthnofhjgfhapiaaGreatDoorWak
import Derived.Test.YthnofhjgfhapiaaGreatDoorWae
import Derived.Test.YthnofhjgfhapiaaGreatDoorWaa
import Derived.Test.YthnofhjgfhapiaaGreatDoorWaf
import Derived.Test.YthnofhjgfhapiaaGreatDoorWab
import Derived.Test.YthnofhjgfhapiaaGreatDoorWag
import Derived.Test.YthnofhjgfhapiaaGreatDoorWac
import Derived.Test.YthnofhjgfhapiaaGreatDoorWai
import Derived.Test.YthnofhjgfhapiaaGreatDoorWal
set_option maxHeartbeats 8000000
set_option maxRecDepth 10000
namespace Go.Proofs.YthnofhjgfhapiaaGreatDoor
open Go.RowKit Go.Shelf Go.Joins
theorem sc6s {w:World} {g b:Nat} {m z:Nat→Int} (h:SC w b m) (n:g≠b):SC ((((((w.setCell ⟨g,0,none⟩ (.int .i64 (z 0))).setCell ⟨g,1,none⟩ (.int .i64 (z 1))).setCell ⟨g,2,none⟩ (.int .i64 (z 2))).setCell ⟨g,3,none⟩ (.int .i64 (z 3))).setCell ⟨g,4,none⟩ (.int .i64 (z 4))).setCell ⟨g,5,none⟩ (.int .i64 (z 5))) b m:=sc_set (sc_set (sc_set (sc_set (sc_set (sc_set h n) n) n) n) n) n
theorem sf6s {w:World} {g b:Nat} {z:Nat→Int} (h:SF w g):SF ((((((w.setCell ⟨b,0,none⟩ (.int .i64 (z 0))).setCell ⟨b,1,none⟩ (.int .i64 (z 1))).setCell ⟨b,2,none⟩ (.int .i64 (z 2))).setCell ⟨b,3,none⟩ (.int .i64 (z 3))).setCell ⟨b,4,none⟩ (.int .i64 (z 4))).setCell ⟨b,5,none⟩ (.int .i64 (z 5))) g:=sf_set (sf_set (sf_set (sf_set (sf_set (sf_set h)))))
theorem bb_set6 {g:Nat} {w y:World} {z:Nat→Int} (B:Below w.heap.size w y) (h:w.heap.size≤g):Below w.heap.size w ((((((y.setCell ⟨g,0,none⟩ (.int .i64 (z 0))).setCell ⟨g,1,none⟩ (.int .i64 (z 1))).setCell ⟨g,2,none⟩ (.int .i64 (z 2))).setCell ⟨g,3,none⟩ (.int .i64 (z 3))).setCell ⟨g,4,none⟩ (.int .i64 (z 4))).setCell ⟨g,5,none⟩ (.int .i64 (z 5))):=b_set (b_set (b_set (b_set (b_set (b_set B h) h) h) h) h) h
theorem tamed_go (b fb gb:Nat) (hl:Value) (x:Nat→Int) (m s:Int) (a u:Nat→Int) (p z:Nat→Int) (cT:∀ w,PL w→Calls Tryz.prog 100 #[sv p,tv (x 11) (x 12) (x 13),tv (x 14) (x 15) (x 16)] w (RetV (.tuple #[sv z,.int .i64 0]) w)) (w:World) (h:CB w b fb gb hl x m s a u) (hp:PL w) :
  Calls Tryz.prog 72 #[.pointer (some ⟨b,0,none⟩),sv p] w (RetV (sv z) w):=by
 have kA:SC ((w.alloc (Obj.cells #[.int .i64 (p 0),.int .i64 (p 1),.int .i64 (p 2),.int .i64 (p 3),.int .i64 (p 4),.int .i64 (p 5)] 42)).alloc (Obj.cells #[.int .i64 0,.int .i64 0,.int .i64 0,.int .i64 0,.int .i64 0,.int .i64 0] 42)) w.heap.size p:=sc_alloc (sc_new (m:=p) rfl)
 have kR:SC ((w.alloc (Obj.cells #[.int .i64 (p 0),.int .i64 (p 1),.int .i64 (p 2),.int .i64 (p 3),.int .i64 (p 4),.int .i64 (p 5)] 42)).alloc (Obj.cells #[.int .i64 0,.int .i64 0,.int .i64 0,.int .i64 0,.int .i64 0,.int .i64 0] 42)) (w.heap.size+1) (fun _=>0):=sc_new (m:=fun _=>0) (by simp)
 have fR:SF ((w.alloc (Obj.cells #[.int .i64 (p 0),.int .i64 (p 1),.int .i64 (p 2),.int .i64 (p 3),.int .i64 (p 4),.int .i64 (p 5)] 42)).alloc (Obj.cells #[.int .i64 0,.int .i64 0,.int .i64 0,.int .i64 0,.int .i64 0,.int .i64 0] 42)) (w.heap.size+1):=sf_new (by simp)
 have B:Below w.heap.size w ((w.alloc (Obj.cells #[.int .i64 (p 0),.int .i64 (p 1),.int .i64 (p 2),.int .i64 (p 3),.int .i64 (p 4),.int .i64 (p 5)] 42)).alloc (Obj.cells #[.int .i64 0,.int .i64 0,.int .i64 0,.int .i64 0,.int .i64 0,.int .i64 0] 42)):=b_alloc (b_alloc (Below.refl _ _))
 replace h:=row_keep B h
 replace hp:=pl_keep B hp
 have fRk:∀ w',Below ((w.alloc (Obj.cells #[.int .i64 (p 0),.int .i64 (p 1),.int .i64 (p 2),.int .i64 (p 3),.int .i64 (p 4),.int .i64 (p 5)] 42)).alloc (Obj.cells #[.int .i64 0,.int .i64 0,.int .i64 0,.int .i64 0,.int .i64 0,.int .i64 0] 42)).heap.size ((w.alloc (Obj.cells #[.int .i64 (p 0),.int .i64 (p 1),.int .i64 (p 2),.int .i64 (p 3),.int .i64 (p 4),.int .i64 (p 5)] 42)).alloc (Obj.cells #[.int .i64 0,.int .i64 0,.int .i64 0,.int .i64 0,.int .i64 0,.int .i64 0] 42)) w'→SF w' (w.heap.size+1):=fun w' hb=>sf_keep hb kR fR
 go_enter Tryz.func72,Tryz.ntmps72
 go_wp2
 generalize ((w.alloc (Obj.cells #[.int .i64 (p 0),.int .i64 (p 1),.int .i64 (p 2),.int .i64 (p 3),.int .i64 (p 4),.int .i64 (p 5)] 42)).alloc (Obj.cells #[.int .i64 0,.int .i64 0,.int .i64 0,.int .i64 0,.int .i64 0,.int .i64 0] 42))=y0 at *
 refine region_late [8,9,10,11,12,13,14,15,16,17,18,19,7,20,21,5] 14 (fun i_ X_ U_=>match i_ with | 0=>X_=sv p | 1=>X_=.pointer (some ⟨b,0,none⟩) | 2=>X_=.pointer (some ⟨b,0,none⟩) | 3=>X_=.pointer (some ⟨b,0,none⟩) | 4=>X_=.pointer (some ⟨b,11,none⟩) | 5=>X_=tv (x 11) (x 12) (x 13) | 6=>X_=.pointer (some ⟨b,0,none⟩) | 7=>X_=.pointer (some ⟨b,0,none⟩) | 8=>X_=.pointer (some ⟨b,0,none⟩) | 9=>X_=.pointer (some ⟨b,14,none⟩) | 10=>X_=tv (x 14) (x 15) (x 16) | 11=>X_=.tuple #[sv z,.int .i64 0] | 12=>X_=.tuple #[sv z,.int .i64 0] | 13=>X_=sv z | 14=>X_=.int .i64 0 | 15=>∃ g,X_=.pointer (some ⟨g,0,none⟩)∧y0.heap.size≤g∧SC U_ g (fun _=>0)∧SF U_ g | _=>True) (fun i_=>i_ == 15) (by kernel_rfl) (by kernel_rfl) (by kernel_rfl) (by kernel_rfl) ?_ ?_ ?_ ?_ ?_
 ·refine swp (upS (upS (upS (upS (upS (upS (upS (upS (upS (upS (upS (upS (upS (upS (upS (upS up0 ?_) ?_) ?_) ?_) ?_) ?_) ?_) ?_) ?_) ?_) ?_) ?_) ?_) ?_) ?_) ?_)
  ·exact fun _ _ _ h _=>h
  ·exact fun _ _ _ h _=>h
  ·exact fun _ _ _ h _=>h
  ·exact fun _ _ _ h _=>h
  ·exact fun _ _ _ h _=>h
  ·exact fun _ _ _ h _=>h
  ·exact fun _ _ _ h _=>h
  ·exact fun _ _ _ h _=>h
  ·exact fun _ _ _ h _=>h
  ·exact fun _ _ _ h _=>h
  ·exact fun _ _ _ h _=>h
  ·exact fun _ _ _ h _=>h
  ·exact fun _ _ _ h _=>h
  ·exact fun _ _ _ h _=>h
  ·exact fun _ _ _ h _=>h
  ·intro x w w' h hb; obtain ⟨g,e,hg,hc,hf⟩:=h; exact ⟨g,e,hg,sc_keep hb hc,sf_keep hb hc hf⟩
 ·refine swa (upS (upS (upS (upS (upS (upS (upS (upS (upS (upS (upS (upS (upS (upS (upS (upS up0 ?_) ?_) ?_) ?_) ?_) ?_) ?_) ?_) ?_) ?_) ?_) ?_) ?_) ?_) ?_) ?_)
  ·exact fun _ _ ha=>absurd ha (by decide)
  ·exact fun _ _ ha=>absurd ha (by decide)
  ·exact fun _ _ ha=>absurd ha (by decide)
  ·exact fun _ _ ha=>absurd ha (by decide)
  ·exact fun _ _ ha=>absurd ha (by decide)
  ·exact fun _ _ ha=>absurd ha (by decide)
  ·exact fun _ _ ha=>absurd ha (by decide)
  ·exact fun _ _ ha=>absurd ha (by decide)
  ·exact fun _ _ ha=>absurd ha (by decide)
  ·exact fun _ _ ha=>absurd ha (by decide)
  ·exact fun _ _ ha=>absurd ha (by decide)
  ·exact fun _ _ ha=>absurd ha (by decide)
  ·exact fun _ _ ha=>absurd ha (by decide)
  ·exact fun _ _ ha=>absurd ha (by decide)
  ·exact fun _ _ ha=>absurd ha (by decide)
  ·intro x w _ h; obtain ⟨g,rfl,_,hg,_⟩:=h; exact sc_lt hg
 ·refine upS (upS (upS (upS (upS (upS (upS (upS (upS (upS (upS (upS (upS (upS (upS (upS up0 ?_) ?_) ?_) ?_) ?_) ?_) ?_) ?_) ?_) ?_) ?_) ?_) ?_) ?_) ?_) ?_
  all_goals intro v f w' hb hv hB hd
  ·have b3:f.tmps[3]?=some (.pointer (some ⟨w.heap.size,0,none⟩)):=(hb 3 (by decide)).trans rfl
   clear hb hv hd
   have c:=sc_six (sc_keep hB kA)
   refine wpOp_step rfl fun K hK=>?_
   go_simp
   exact hK _ _ ⟨_,rfl,Below.refl _ _,rfl,fun h=>absurd h (by decide)⟩
  ·have b0:f.tmps[0]?=some (.pointer (some ⟨b,0,none⟩)):=(hb 0 (by decide)).trans rfl
   clear hb hv hd
   refine wpOp_step rfl fun K hK=>?_
   go_simp
   exact hK _ _ ⟨_,rfl,Below.refl _ _,rfl,fun h=>absurd h (by decide)⟩
  ·have d1:=got (hv 1 9 rfl) (hd 1 (by kernel_rfl))
   clear hb hv hd
   refine wpOp_step rfl fun K hK=>?_
   go_simp
   exact hK _ _ ⟨_,rfl,Below.refl _ _,rfl,fun h=>absurd h (by decide)⟩
  ·have d2:=got (hv 2 10 rfl) (hd 2 (by kernel_rfl))
   clear hb hv hd
   refine wpOp_step rfl fun K hK=>?_
   go_simp
   exact hK _ _ ⟨_,rfl,Below.refl _ _,rfl,fun h=>absurd h (by decide)⟩
  ·have d3:=got (hv 3 11 rfl) (hd 3 (by kernel_rfl))
   clear hb hv hd
   refine wpOp_step rfl fun K hK=>?_
   go_simp
   exact hK _ _ ⟨_,rfl,Below.refl _ _,rfl,fun h=>absurd h (by decide)⟩
  ·have d4:=got (hv 4 12 rfl) (hd 4 (by kernel_rfl))
   clear hb hv hd
   have c:=cb_fl (row_keep hB h)
   refine wpOp_step rfl fun K hK=>?_
   go_simp
   exact hK _ _ ⟨_,rfl,Below.refl _ _,rfl,fun h=>absurd h (by decide)⟩
  ·have b0:f.tmps[0]?=some (.pointer (some ⟨b,0,none⟩)):=(hb 0 (by decide)).trans rfl
   clear hb hv hd
   refine wpOp_step rfl fun K hK=>?_
   go_simp
   exact hK _ _ ⟨_,rfl,Below.refl _ _,rfl,fun h=>absurd h (by decide)⟩
  ·have d6:=got (hv 6 14 rfl) (hd 6 (by kernel_rfl))
   clear hb hv hd
   refine wpOp_step rfl fun K hK=>?_
   go_simp
   exact hK _ _ ⟨_,rfl,Below.refl _ _,rfl,fun h=>absurd h (by decide)⟩
  ·have d7:=got (hv 7 15 rfl) (hd 7 (by kernel_rfl))
   clear hb hv hd
   refine wpOp_step rfl fun K hK=>?_
   go_simp
   exact hK _ _ ⟨_,rfl,Below.refl _ _,rfl,fun h=>absurd h (by decide)⟩
  ·have d8:=got (hv 8 16 rfl) (hd 8 (by kernel_rfl))
   clear hb hv hd
   refine wpOp_step rfl fun K hK=>?_
   go_simp
   exact hK _ _ ⟨_,rfl,Below.refl _ _,rfl,fun h=>absurd h (by decide)⟩
  ·have d9:=got (hv 9 17 rfl) (hd 9 (by kernel_rfl))
   clear hb hv hd
   have c:=cb_ce (row_keep hB h)
   refine wpOp_step rfl fun K hK=>?_
   go_simp
   exact hK _ _ ⟨_,rfl,Below.refl _ _,rfl,fun h=>absurd h (by decide)⟩
  ·have d0:=got (hv 0 8 rfl) (hd 0 (by kernel_rfl))
   have d5:=got (hv 5 13 rfl) (hd 5 (by kernel_rfl))
   have d10:=got (hv 10 18 rfl) (hd 10 (by kernel_rfl))
   clear hb hv hd
   refine wpOp_call rfl Tryz.call100 (args3 (eval_tmp d0) (eval_tmp d5) (eval_tmp d10)) (cT _ (pl_keep hB hp)) ?_
   rintro e5 w5 ⟨rfl,hb5⟩
   exact ⟨_,rfl,_,rfl,hb5,rfl,fun h=>absurd h (by decide)⟩
  ·have d11:=got (hv 11 19 rfl) (hd 11 (by kernel_rfl))
   clear hb hv hd
   refine wpOp_step rfl fun K hK=>?_
   go_simp
   exact hK _ _ ⟨_,rfl,Below.refl _ _,rfl,fun h=>absurd h (by decide)⟩
  ·have d12:=got (hv 12 7 rfl) (hd 12 (by kernel_rfl))
   clear hb hv hd
   refine wpOp_step rfl fun K hK=>?_
   go_simp
   exact hK _ _ ⟨_,rfl,Below.refl _ _,rfl,fun h=>absurd h (by decide)⟩
  ·have d12:=got (hv 12 7 rfl) (hd 12 (by kernel_rfl))
   clear hb hv hd
   refine wpOp_step rfl fun K hK=>?_
   go_simp
   exact hK _ _ ⟨_,rfl,Below.refl _ _,rfl,fun h=>absurd h (by decide)⟩
  ·clear hb hv hd
   refine wpOp_step rfl fun K hK=>?_
   go_simp
   exact hK _ _ ⟨_,rfl,b_alloc (Below.refl _ _),⟨_,rfl,hB.size,sc_new (m:=fun _=>0) rfl,sf_new rfl⟩,fun _=>Nat.le_refl _⟩
 ·intro v w' hB hF hD
  have F0:v 0=_:=hF 0 (by simp)
  have F1:v 1=_:=hF 1 (by simp)
  have F2:v 2=_:=hF 2 (by simp)
  have F3:v 3=_:=hF 3 (by simp)
  have F4:v 4=_:=hF 4 (by simp)
  have F5:v 5=_:=hF 5 (by simp)
  have F6:v 6=_:=hF 6 (by simp)
  have F7:v 7=_:=hF 7 (by simp)
  have F8:v 8=_:=hF 8 (by simp)
  have F9:v 9=_:=hF 9 (by simp)
  have F10:v 10=_:=hF 10 (by simp)
  have F11:v 11=_:=hF 11 (by simp)
  have F12:v 12=_:=hF 12 (by simp)
  have F13:v 13=_:=hF 13 (by simp)
  have F14:v 14=_:=hF 14 (by simp)
  have F15:∃ g,(v 15)=.pointer (some ⟨g,0,none⟩)∧y0.heap.size≤g∧SC w' g (fun _=>0)∧SF w' g:=hF 15 (by simp)
  clear hF
  obtain ⟨g,e9,p9,v9,q9⟩:=F15
  simp only [frOf,frGo,Nat.zero_add,Nat.reduceAdd,F0,F1,F2,F3,F4,F5,F6,F7,F8,F9,F10,F11,F12,F13,F14,e9]
  have lr:=sc_lt kR
  replace B:=b_trans B hB
  replace kR:=sc_keep hB kR
  clear F0 F1 F2 F3 F4 F5 F6 F7 F8 F9 F10 F11 F12 F13 F14 hD kA hp h e9 cT
  have fR':=fRk _ hB
  clear hB fRk
  have gR:g≠w.heap.size+1:=by omega
  have wg:w.heap.size≤g:=by omega
  have kG:=sc_six (sc_whole (m':=z) v9)
  have kR6:=sc_six (sc6s (z:=z) kR gR)
  have fR6:=sf_six (sf6s (b:=g) (z:=z) fR')
  have B9:=bb_set6 (z:=z) B wg
  have v6:=sc_six v9
  have q6:=sf_six q9
  clear kR fR' v9 q9
  go_wp2_with (with_reducible refine stop_at (some 22) rfl ?_)
  generalize ((((((w'.setCell ⟨g,0,none⟩ (.int .i64 (z 0))).setCell ⟨g,1,none⟩ (.int .i64 (z 1))).setCell ⟨g,2,none⟩ (.int .i64 (z 2))).setCell ⟨g,3,none⟩ (.int .i64 (z 3))).setCell ⟨g,4,none⟩ (.int .i64 (z 4))).setCell ⟨g,5,none⟩ (.int .i64 (z 5)))=yb at *
  refine unstop ?_
  clear v6 q6
  go_wp2
  obtain ⟨r0,r1,r2,r3,r4,r5⟩:=kR6
  refine bodyPost_ret (v:=sv z) (by simp [results,Tryz.results72,go_sem,r0,r1,r2,r3,r4,r5]) rfl ⟨rfl,?_⟩
  exact bb_set B9 (by omega)
 ·intro v w' hB hF hD
  have F0:v 0=_:=hF 0 (by simp) (by decide)
  have F1:v 1=_:=hF 1 (by simp) (by decide)
  have F2:v 2=_:=hF 2 (by simp) (by decide)
  have F3:v 3=_:=hF 3 (by simp) (by decide)
  have F4:v 4=_:=hF 4 (by simp) (by decide)
  have F5:v 5=_:=hF 5 (by simp) (by decide)
  have F6:v 6=_:=hF 6 (by simp) (by decide)
  have F7:v 7=_:=hF 7 (by simp) (by decide)
  have F8:v 8=_:=hF 8 (by simp) (by decide)
  have F9:v 9=_:=hF 9 (by simp) (by decide)
  have F10:v 10=_:=hF 10 (by simp) (by decide)
  have F11:v 11=_:=hF 11 (by simp) (by decide)
  have F12:v 12=_:=hF 12 (by simp) (by decide)
  have F13:v 13=_:=hF 13 (by simp) (by decide)
  have F15:∃ g,(v 15)=.pointer (some ⟨g,0,none⟩)∧y0.heap.size≤g∧SC w' g (fun _=>0)∧SF w' g:=hF 15 (by simp) (by decide)
  clear hF
  obtain ⟨g,e9,p9,v9,q9⟩:=F15
  simp only [frOf,frGo,Nat.zero_add,Nat.reduceAdd,F0,F1,F2,F3,F4,F5,F6,F7,F8,F9,F10,F11,F12,F13,e9]
  have lr:=sc_lt kR
  replace B:=b_trans B hB
  replace kR:=sc_keep hB kR
  clear F0 F1 F2 F3 F4 F5 F6 F7 F8 F9 F10 F11 F12 F13 hD kA hp h e9 cT
  have fR':=fRk _ hB
  clear hB fRk
  have gR:g≠w.heap.size+1:=by omega
  have wg:w.heap.size≤g:=by omega
  have kG:=sc_six (sc_whole (m':=z) v9)
  have kR6:=sc_six (sc6s (z:=z) kR gR)
  have fR6:=sf_six (sf6s (b:=g) (z:=z) fR')
  have B9:=bb_set6 (z:=z) B wg
  have v6:=sc_six v9
  have q6:=sf_six q9
  clear kR fR' v9 q9
  refine wpOp_step rfl (fun K hK=>?_)
  go_simp
  refine hK _ _ ?_
  clear hK K
  refine wpOp_step rfl (fun K hK=>?_)
  go_simp
  refine hK _ _ ?_
  clear hK K
  go_wp2_with (with_reducible refine stop_at (some 22) rfl ?_)
  generalize ((((((w'.setCell ⟨g,0,none⟩ (.int .i64 (z 0))).setCell ⟨g,1,none⟩ (.int .i64 (z 1))).setCell ⟨g,2,none⟩ (.int .i64 (z 2))).setCell ⟨g,3,none⟩ (.int .i64 (z 3))).setCell ⟨g,4,none⟩ (.int .i64 (z 4))).setCell ⟨g,5,none⟩ (.int .i64 (z 5)))=yb at *
  refine unstop ?_
  clear v6 q6
  go_wp2
  obtain ⟨r0,r1,r2,r3,r4,r5⟩:=kR6
  refine bodyPost_ret (v:=sv z) (by simp [results,Tryz.results72,go_sem,r0,r1,r2,r3,r4,r5]) rfl ⟨rfl,?_⟩
  exact bb_set B9 (by omega)
theorem but_set6 {w:World} {g:Nat} {v0 v1 v2 v3 v4 v5:Value}:But g w ((((((w.setCell ⟨g,0,none⟩ v0).setCell ⟨g,1,none⟩ v1).setCell ⟨g,2,none⟩ v2).setCell ⟨g,3,none⟩ v3).setCell ⟨g,4,none⟩ v4).setCell ⟨g,5,none⟩ v5):=but_trans (but_trans (but_trans (but_trans (but_trans but_set but_set) but_set) but_set) but_set) but_set
theorem but_new {b g:Nat} {w y z:World} (B:But b w y) (hg:w.heap.size≤g) (K:But g y z):But b w z :=
 ⟨K.os.trans B.os,K.tape.trans B.tape,K.output.trans B.output,Nat.le_trans B.size K.size,fun k hk hb=>(K.block k (Nat.lt_of_lt_of_le hk B.size) (by omega)).trans (B.block k hk hb)⟩
theorem moveOn_go (b fb gb:Nat) (hl:Value) (x:Nat→Int) (m s:Int) (a u:Nat→Int) (l r t e n:Int) (q:Bool) (z k d p y a' u':Nat→Int) (hA:Hid ((e=0→a'=k)∧(¬ e=0→a'=a))) (hU:Hid ((n=0→u'=y)∧(¬ n=0→u'=u)))
  (cM:∀ w,Calls Tryz.prog 68 #[tv (a 0) (a 1) (a 2),.int .i64 t] w (RetV (.tuple #[tv (z 0) (z 1) (z 2),.int .i64 e]) w))
  (cK:∀ w,Calls Tryz.prog 69 #[tv (z 0) (z 1) (z 2),tv (x 17) (x 18) (x 19)] w (RetV (tv (k 0) (k 1) (k 2)) w))
  (cA:∀ w,FR w fb x l r→Calls Tryz.prog 71 #[.pointer (some ⟨fb,0,none⟩),.bool q] w (RetV (tv (d 0) (d 1) (d 2)) w))
  (cO:∀ w,ML w→PL w→Calls Tryz.prog 70 #[sv u,tv (d 0) (d 1) (d 2)] w (RetV (.tuple #[sv p,.int .i64 n]) w))
  (cT:∀ (a:Nat→Int) w,CB w b fb gb hl x m s a u→PL w→Calls Tryz.prog 72 #[.pointer (some ⟨b,0,none⟩),sv p] w (RetV (sv y) w))
  (w:World) (h:CB w b fb gb hl x m s a u) (fr:FR w fb x l r) (T:Tb3 w) (nf:fb≠b) (ub:Up b) :
  Calls Tryz.prog 25 #[.pointer (some ⟨b,0,none⟩),.int .i64 t,.bool q] w fun e_ w'=>e_=.returned (.tuple #[])∧CB w' b fb gb hl x m s a' u'∧But b w w':=by
 have B:=but_refl b w
 have st:=cb_st h
 go_enter Tryz.func25,Tryz.ntmps25
 go_wp2_with fail
 refine (cM _).mono ?_
 rintro e_ y1 ⟨rfl,hb1⟩
 have hb2:=b_alloc (o:=(Obj.cells #[.int .i64 (z 0),.int .i64 (z 1),.int .i64 (z 2)] 25)) (Below.refl y1.heap.size y1)
 replace h:=row_keep hb2 (row_keep hb1 h)
 replace fr:=row_keep hb2 (row_keep hb1 fr)
 replace T:=t3_keep hb2 (t3_keep hb1 T)
 replace B:=but_trans (but_trans B (but_below hb1)) (but_below hb2)
 have kX:TC (y1.alloc (Obj.cells #[.int .i64 (z 0),.int .i64 (z 1),.int .i64 (z 2)] 25)) y1.heap.size (z 0) (z 1) (z 2):=tc_new rfl
 clear st hb1 hb2 cM
 by_cases c:e=0
 subst c
 replace hA:=Lib.hid (hA.out.1 rfl)
 go_wp2
 generalize (y1.alloc (Obj.cells #[.int .i64 (z 0),.int .i64 (z 1),.int .i64 (z 2)] 25))=y2 at *
 generalize y1.heap.size=X at *
 refine region_each [22,23,24,25,26,27,28,29,30,31,32] (fun i_ X_ U_=>match i_ with | 0=>X_=.pointer (some ⟨b,0,none⟩) | 1=>X_=tv (z 0) (z 1) (z 2) | 2=>X_=.pointer (some ⟨b,0,none⟩) | 3=>X_=.pointer (some ⟨b,0,none⟩) | 4=>X_=.pointer (some ⟨b,0,none⟩) | 5=>X_=.pointer (some ⟨b,17,none⟩) | 6=>X_=tv (x 17) (x 18) (x 19) | 7=>X_=tv (k 0) (k 1) (k 2) | 8=>X_=.pointer (some ⟨b,0,none⟩) | 9=>X_=.pointer (some ⟨b,36,none⟩) | 10=>X_=.pointer (some ⟨b,36,none⟩) | _=>True) (fun i_=>false) (by kernel_rfl) (by kernel_rfl) (by kernel_rfl) (by kernel_rfl) (by kernel_rfl) ?_ (fun i x w hi ha h=>by cases ha) ?_ ?_
 ·refine swp (upS (upS (upS (upS (upS (upS (upS (upS (upS (upS (upS up0 ?_) ?_) ?_) ?_) ?_) ?_) ?_) ?_) ?_) ?_) ?_)
  all_goals exact fun _ _ _ h _=>h
 ·refine upS (upS (upS (upS (upS (upS (upS (upS (upS (upS (upS up0 ?_) ?_) ?_) ?_) ?_) ?_) ?_) ?_) ?_) ?_) ?_
  all_goals intro v f w' hb hv hB hd
  ·have b0:f.tmps[0]?=some (.pointer (some ⟨b,0,none⟩)):=(hb 0 (by decide)).trans rfl
   clear hb hv hd
   refine wpOp_step rfl fun K hK=>?_
   go_simp
   exact hK _ _ ⟨_,rfl,Below.refl _ _,rfl,fun h=>absurd h (by decide)⟩
  ·have b6:f.tmps[6]?=some (.pointer (some ⟨X,0,none⟩)):=(hb 6 (by decide)).trans rfl
   clear hb hv hd
   have c:=tc_keep hB kX
   refine wpOp_step rfl fun K hK=>?_
   go_simp
   exact hK _ _ ⟨_,rfl,Below.refl _ _,rfl,fun h=>absurd h (by decide)⟩
  ·have b0:f.tmps[0]?=some (.pointer (some ⟨b,0,none⟩)):=(hb 0 (by decide)).trans rfl
   clear hb hv hd
   refine wpOp_step rfl fun K hK=>?_
   go_simp
   exact hK _ _ ⟨_,rfl,Below.refl _ _,rfl,fun h=>absurd h (by decide)⟩
  ·have d2:=got (hv 2 24 rfl) (hd 2 (by kernel_rfl))
   clear hb hv hd
   refine wpOp_step rfl fun K hK=>?_
   go_simp
   exact hK _ _ ⟨_,rfl,Below.refl _ _,rfl,fun h=>absurd h (by decide)⟩
  ·have d3:=got (hv 3 25 rfl) (hd 3 (by kernel_rfl))
   clear hb hv hd
   refine wpOp_step rfl fun K hK=>?_
   go_simp
   exact hK _ _ ⟨_,rfl,Below.refl _ _,rfl,fun h=>absurd h (by decide)⟩
  ·have d4:=got (hv 4 26 rfl) (hd 4 (by kernel_rfl))
   clear hb hv hd
   refine wpOp_step rfl fun K hK=>?_
   go_simp
   exact hK _ _ ⟨_,rfl,Below.refl _ _,rfl,fun h=>absurd h (by decide)⟩
  ·have d5:=got (hv 5 27 rfl) (hd 5 (by kernel_rfl))
   clear hb hv hd
   have c:=cb_bo (row_keep hB h)
   refine wpOp_step rfl fun K hK=>?_
   go_simp
   exact hK _ _ ⟨_,rfl,Below.refl _ _,rfl,fun h=>absurd h (by decide)⟩
  ·have d1:=got (hv 1 23 rfl) (hd 1 (by kernel_rfl))
   have d6:=got (hv 6 28 rfl) (hd 6 (by kernel_rfl))
   clear hb hv hd
   refine wpOp_call rfl Tryz.call69 (args2 (eval_tmp d1) (eval_tmp d6)) (cK _) ?_
   rintro e5 w5 ⟨rfl,hb5⟩
   exact ⟨_,rfl,_,rfl,hb5,rfl,fun h=>absurd h (by decide)⟩
  ·have d0:=got (hv 0 22 rfl) (hd 0 (by kernel_rfl))
   clear hb hv hd
   refine wpOp_step rfl fun K hK=>?_
   go_simp
   exact hK _ _ ⟨_,rfl,Below.refl _ _,rfl,fun h=>absurd h (by decide)⟩
  ·have d8:=got (hv 8 30 rfl) (hd 8 (by kernel_rfl))
   clear hb hv hd
   refine wpOp_step rfl fun K hK=>?_
   go_simp
   exact hK _ _ ⟨_,rfl,Below.refl _ _,rfl,fun h=>absurd h (by decide)⟩
  ·have d9:=got (hv 9 31 rfl) (hd 9 (by kernel_rfl))
   clear hb hv hd
   refine wpOp_step rfl fun K hK=>?_
   go_simp
   exact hK _ _ ⟨_,rfl,Below.refl _ _,rfl,fun h=>absurd h (by decide)⟩
 intro v w' hB hF hD
 have F0:v 0=_:=hF 0 (by simp)
 have F1:v 1=_:=hF 1 (by simp)
 have F2:v 2=_:=hF 2 (by simp)
 have F3:v 3=_:=hF 3 (by simp)
 have F4:v 4=_:=hF 4 (by simp)
 have F5:v 5=_:=hF 5 (by simp)
 have F6:v 6=_:=hF 6 (by simp)
 have F7:v 7=_:=hF 7 (by simp)
 have F8:v 8=_:=hF 8 (by simp)
 have F9:v 9=_:=hF 9 (by simp)
 have F10:v 10=_:=hF 10 (by simp)
 clear hF
 simp only [frOf,frGo,Nat.zero_add,Nat.reduceAdd,F0,F1,F2,F3,F4,F5,F6,F7,F8,F9,F10]
 replace h:=row_keep hB h
 replace fr:=row_keep hB fr
 replace T:=t3_keep hB T
 replace B:=but_trans B (but_below hB)
 have KK:=Lib.hid (And.intro (cb_putv (v':=k) h) (And.intro (but_row (but_putv (v':=k)) nf fr) (And.intro (t3_but (but_putv (v':=k)) ub T) (but_trans B (but_putv (b:=b) (v':=k))))))
 have st:=cb_st h
 have z36:=cb_fz h 36
 have z37:=cb_fz h 37
 have z38:=cb_fz h 38
 clear F0 F1 F2 F3 F4 F5 F6 F7 F8 F9 F10 hD hB kX h fr T B
 go_wp2
 generalize (((w'.setCell ⟨b,36,none⟩ (.int .i64 (k 0))).setCell ⟨b,37,none⟩ (.int .i64 (k 1))).setCell ⟨b,38,none⟩ (.int .i64 (k 2)))=y5 at *
 obtain ⟨h,fr,T,B⟩:=KK.out
 clear KK st z36 z37 z38 cK
 obtain ⟨a1,ea⟩:∃ a1,k=a1:=⟨_,rfl⟩
 rw [ea] at h hA
 clear ea
 rotate_left
 have c':(e == 0)=false:=by simpa using c
 go_wp2
 generalize (y1.alloc (Obj.cells #[.int .i64 (z 0),.int .i64 (z 1),.int .i64 (z 2)] 25))=y5 at *
 replace hA:=Lib.hid (hA.out.2 c)
 clear c c' cK kX
 obtain ⟨a1,ea⟩:∃ a1,a=a1:=⟨_,rfl⟩
 rw [ea] at h hA
 clear ea
 all_goals
  refine region_late [34,35,36,37,38,39,40,41,42,43,44,45,33,46,47,8] 14 (fun i_ X_ U_=>match i_ with | 0=>X_=.pointer (some ⟨b,0,none⟩) | 1=>X_=.pointer (some ⟨b,0,none⟩) | 2=>X_=.pointer (some ⟨b,36,none⟩) | 3=>X_=.pointer (some ⟨b,39,none⟩) | 4=>X_=sv u | 5=>X_=.pointer (some ⟨b,0,none⟩) | 6=>X_=.pointer (some ⟨b,0,none⟩) | 7=>X_=.pointer (some ⟨b,31,none⟩) | 8=>X_=.pointer (some ⟨fb,0,none⟩) | 9=>X_=.bool q | 10=>X_=tv (d 0) (d 1) (d 2) | 11=>X_=.tuple #[sv p,.int .i64 n] | 12=>X_=.tuple #[sv p,.int .i64 n] | 13=>X_=sv p | 14=>X_=.int .i64 n | 15=>∃ g,X_=.pointer (some ⟨g,0,none⟩)∧y5.heap.size≤g∧SC U_ g (fun _=>0)∧SF U_ g | _=>True) (fun i_=>i_ == 15) (by kernel_rfl) (by kernel_rfl) (by kernel_rfl) (by kernel_rfl) ?_ ?_ ?_ ?_ ?_
  ·refine swp (upS (upS (upS (upS (upS (upS (upS (upS (upS (upS (upS (upS (upS (upS (upS (upS up0 ?_) ?_) ?_) ?_) ?_) ?_) ?_) ?_) ?_) ?_) ?_) ?_) ?_) ?_) ?_) ?_)
   ·exact fun _ _ _ h _=>h
   ·exact fun _ _ _ h _=>h
   ·exact fun _ _ _ h _=>h
   ·exact fun _ _ _ h _=>h
   ·exact fun _ _ _ h _=>h
   ·exact fun _ _ _ h _=>h
   ·exact fun _ _ _ h _=>h
   ·exact fun _ _ _ h _=>h
   ·exact fun _ _ _ h _=>h
   ·exact fun _ _ _ h _=>h
   ·exact fun _ _ _ h _=>h
   ·exact fun _ _ _ h _=>h
   ·exact fun _ _ _ h _=>h
   ·exact fun _ _ _ h _=>h
   ·exact fun _ _ _ h _=>h
   ·intro x w w' h hb; obtain ⟨g,e,hg,hc,hf⟩:=h; exact ⟨g,e,hg,sc_keep hb hc,sf_keep hb hc hf⟩
  ·refine swa (upS (upS (upS (upS (upS (upS (upS (upS (upS (upS (upS (upS (upS (upS (upS (upS up0 ?_) ?_) ?_) ?_) ?_) ?_) ?_) ?_) ?_) ?_) ?_) ?_) ?_) ?_) ?_) ?_)
   ·exact fun _ _ ha=>absurd ha (by decide)
   ·exact fun _ _ ha=>absurd ha (by decide)
   ·exact fun _ _ ha=>absurd ha (by decide)
   ·exact fun _ _ ha=>absurd ha (by decide)
   ·exact fun _ _ ha=>absurd ha (by decide)
   ·exact fun _ _ ha=>absurd ha (by decide)
   ·exact fun _ _ ha=>absurd ha (by decide)
   ·exact fun _ _ ha=>absurd ha (by decide)
   ·exact fun _ _ ha=>absurd ha (by decide)
   ·exact fun _ _ ha=>absurd ha (by decide)
   ·exact fun _ _ ha=>absurd ha (by decide)
   ·exact fun _ _ ha=>absurd ha (by decide)
   ·exact fun _ _ ha=>absurd ha (by decide)
   ·exact fun _ _ ha=>absurd ha (by decide)
   ·exact fun _ _ ha=>absurd ha (by decide)
   ·intro x w _ h; obtain ⟨g,rfl,_,hg,_⟩:=h; exact sc_lt hg
  ·refine upS (upS (upS (upS (upS (upS (upS (upS (upS (upS (upS (upS (upS (upS (upS (upS up0 ?_) ?_) ?_) ?_) ?_) ?_) ?_) ?_) ?_) ?_) ?_) ?_) ?_) ?_) ?_) ?_
   all_goals intro v f w' hb hv hB hd
   ·have b0:f.tmps[0]?=some (.pointer (some ⟨b,0,none⟩)):=(hb 0 (by decide)).trans rfl
    clear hb hv hd
    refine wpOp_step rfl fun K hK=>?_
    go_simp
    exact hK _ _ ⟨_,rfl,Below.refl _ _,rfl,fun h=>absurd h (by decide)⟩
   ·have d0:=got (hv 0 34 rfl) (hd 0 (by kernel_rfl))
    clear hb hv hd
    refine wpOp_step rfl fun K hK=>?_
    go_simp
    exact hK _ _ ⟨_,rfl,Below.refl _ _,rfl,fun h=>absurd h (by decide)⟩
   ·have d1:=got (hv 1 35 rfl) (hd 1 (by kernel_rfl))
    clear hb hv hd
    refine wpOp_step rfl fun K hK=>?_
    go_simp
    exact hK _ _ ⟨_,rfl,Below.refl _ _,rfl,fun h=>absurd h (by decide)⟩
   ·have d2:=got (hv 2 36 rfl) (hd 2 (by kernel_rfl))
    clear hb hv hd
    refine wpOp_step rfl fun K hK=>?_
    go_simp
    exact hK _ _ ⟨_,rfl,Below.refl _ _,rfl,fun h=>absurd h (by decide)⟩
   ·have d3:=got (hv 3 37 rfl) (hd 3 (by kernel_rfl))
    clear hb hv hd
    have c:=cb_db (row_keep hB h)
    refine wpOp_step rfl fun K hK=>?_
    go_simp
    exact hK _ _ ⟨_,rfl,Below.refl _ _,rfl,fun h=>absurd h (by decide)⟩
   ·have b0:f.tmps[0]?=some (.pointer (some ⟨b,0,none⟩)):=(hb 0 (by decide)).trans rfl
    clear hb hv hd
    refine wpOp_step rfl fun K hK=>?_
    go_simp
    exact hK _ _ ⟨_,rfl,Below.refl _ _,rfl,fun h=>absurd h (by decide)⟩
   ·have d5:=got (hv 5 39 rfl) (hd 5 (by kernel_rfl))
    clear hb hv hd
    refine wpOp_step rfl fun K hK=>?_
    go_simp
    exact hK _ _ ⟨_,rfl,Below.refl _ _,rfl,fun h=>absurd h (by decide)⟩
   ·have d6:=got (hv 6 40 rfl) (hd 6 (by kernel_rfl))
    clear hb hv hd
    refine wpOp_step rfl fun K hK=>?_
    go_simp
    exact hK _ _ ⟨_,rfl,Below.refl _ _,rfl,fun h=>absurd h (by decide)⟩
   ·have d7:=got (hv 7 41 rfl) (hd 7 (by kernel_rfl))
    clear hb hv hd
    have c:=cb_fe (row_keep hB h)
    refine wpOp_step rfl fun K hK=>?_
    go_simp
    exact hK _ _ ⟨_,rfl,Below.refl _ _,rfl,fun h=>absurd h (by decide)⟩
   ·have b2:f.tmps[2]?=some (.bool q):=(hb 2 (by decide)).trans rfl
    clear hb hv hd
    refine wpOp_step rfl fun K hK=>?_
    go_simp
    exact hK _ _ ⟨_,rfl,Below.refl _ _,rfl,fun h=>absurd h (by decide)⟩
   ·have d8:=got (hv 8 42 rfl) (hd 8 (by kernel_rfl))
    have d9:=got (hv 9 43 rfl) (hd 9 (by kernel_rfl))
    clear hb hv hd
    refine wpOp_call rfl Tryz.call71 (args2 (eval_tmp d8) (eval_tmp d9)) (cA _ (row_keep hB fr)) ?_
    rintro e5 w5 ⟨rfl,hb5⟩
    exact ⟨_,rfl,_,rfl,hb5,rfl,fun h=>absurd h (by decide)⟩
   ·have d4:=got (hv 4 38 rfl) (hd 4 (by kernel_rfl))
    have d10:=got (hv 10 44 rfl) (hd 10 (by kernel_rfl))
    clear hb hv hd
    refine wpOp_call rfl Tryz.call70 (args2 (eval_tmp d4) (eval_tmp d10)) (cO _ (t3_keep hB T).2.1 (t3_keep hB T).1) ?_
    rintro e5 w5 ⟨rfl,hb5⟩
    exact ⟨_,rfl,_,rfl,hb5,rfl,fun h=>absurd h (by decide)⟩
   ·have d11:=got (hv 11 45 rfl) (hd 11 (by kernel_rfl))
    clear hb hv hd
    refine wpOp_step rfl fun K hK=>?_
    go_simp
    exact hK _ _ ⟨_,rfl,Below.refl _ _,rfl,fun h=>absurd h (by decide)⟩
   ·have d12:=got (hv 12 33 rfl) (hd 12 (by kernel_rfl))
    clear hb hv hd
    refine wpOp_step rfl fun K hK=>?_
    go_simp
    exact hK _ _ ⟨_,rfl,Below.refl _ _,rfl,fun h=>absurd h (by decide)⟩
   ·have d12:=got (hv 12 33 rfl) (hd 12 (by kernel_rfl))
    clear hb hv hd
    refine wpOp_step rfl fun K hK=>?_
    go_simp
    exact hK _ _ ⟨_,rfl,Below.refl _ _,rfl,fun h=>absurd h (by decide)⟩
   ·clear hb hv hd
    refine wpOp_step rfl fun K hK=>?_
    go_simp
    exact hK _ _ ⟨_,rfl,b_alloc (Below.refl _ _),⟨_,rfl,hB.size,sc_new (m:=fun _=>0) rfl,sf_new rfl⟩,fun _=>Nat.le_refl _⟩
  ·intro v w' hB hF hD
   have F0:v 0=_:=hF 0 (by simp)
   have F1:v 1=_:=hF 1 (by simp)
   have F2:v 2=_:=hF 2 (by simp)
   have F3:v 3=_:=hF 3 (by simp)
   have F4:v 4=_:=hF 4 (by simp)
   have F5:v 5=_:=hF 5 (by simp)
   have F6:v 6=_:=hF 6 (by simp)
   have F7:v 7=_:=hF 7 (by simp)
   have F8:v 8=_:=hF 8 (by simp)
   have F9:v 9=_:=hF 9 (by simp)
   have F10:v 10=_:=hF 10 (by simp)
   have F11:v 11=_:=hF 11 (by simp)
   have F12:v 12=_:=hF 12 (by simp)
   have F13:v 13=_:=hF 13 (by simp)
   have F14:v 14=_:=hF 14 (by simp)
   have F15:∃ g,(v 15)=.pointer (some ⟨g,0,none⟩)∧y5.heap.size≤g∧SC w' g (fun _=>0)∧SF w' g:=hF 15 (by simp)
   clear hF
   obtain ⟨g,e9,p9,v9,q9⟩:=F15
   simp only [frOf,frGo,Nat.zero_add,Nat.reduceAdd,F0,F1,F2,F3,F4,F5,F6,F7,F8,F9,F10,F11,F12,F13,F14,e9]
   have lb:=cb_lt h
   have sz:=B.size
   replace h:=row_keep hB h
   replace T:=t3_keep hB T
   replace B:=but_trans B (but_below hB)
   clear F0 F1 F2 F3 F4 F5 F6 F7 F8 F9 F10 F11 F12 F13 F14 hD hB fr e9 cA cO
   have gn:b≠g:=by omega
   have gw:w.heap.size≤g:=by omega
   have KK:=Lib.hid (And.intro (sc_six (sc_whole (m':=p) v9)) (And.intro (but_row but_set6 gn h) (And.intro (t3_but but_set6 (up_le ub (Nat.le_of_lt (Nat.lt_of_lt_of_le lb p9))) T) (but_new B gw but_set6))):SC6 ((((((w'.setCell ⟨g,0,none⟩ (.int .i64 (p 0))).setCell ⟨g,1,none⟩ (.int .i64 (p 1))).setCell ⟨g,2,none⟩ (.int .i64 (p 2))).setCell ⟨g,3,none⟩ (.int .i64 (p 3))).setCell ⟨g,4,none⟩ (.int .i64 (p 4))).setCell ⟨g,5,none⟩ (.int .i64 (p 5))) g p∧CB ((((((w'.setCell ⟨g,0,none⟩ (.int .i64 (p 0))).setCell ⟨g,1,none⟩ (.int .i64 (p 1))).setCell ⟨g,2,none⟩ (.int .i64 (p 2))).setCell ⟨g,3,none⟩ (.int .i64 (p 3))).setCell ⟨g,4,none⟩ (.int .i64 (p 4))).setCell ⟨g,5,none⟩ (.int .i64 (p 5))) b fb gb hl x m s a1 u∧Tb3 ((((((w'.setCell ⟨g,0,none⟩ (.int .i64 (p 0))).setCell ⟨g,1,none⟩ (.int .i64 (p 1))).setCell ⟨g,2,none⟩ (.int .i64 (p 2))).setCell ⟨g,3,none⟩ (.int .i64 (p 3))).setCell ⟨g,4,none⟩ (.int .i64 (p 4))).setCell ⟨g,5,none⟩ (.int .i64 (p 5)))∧But b w ((((((w'.setCell ⟨g,0,none⟩ (.int .i64 (p 0))).setCell ⟨g,1,none⟩ (.int .i64 (p 1))).setCell ⟨g,2,none⟩ (.int .i64 (p 2))).setCell ⟨g,3,none⟩ (.int .i64 (p 3))).setCell ⟨g,4,none⟩ (.int .i64 (p 4))).setCell ⟨g,5,none⟩ (.int .i64 (p 5))))
   have v6:=sc_six v9
   have q6:=sf_six q9
   clear v9 q9 h T B lb p9
   by_cases c2:n=0
   ·subst c2
    replace hU:=Lib.hid (hU.out.1 rfl)
    go_wp2_with fail
    generalize ((((((w'.setCell ⟨g,0,none⟩ (.int .i64 (p 0))).setCell ⟨g,1,none⟩ (.int .i64 (p 1))).setCell ⟨g,2,none⟩ (.int .i64 (p 2))).setCell ⟨g,3,none⟩ (.int .i64 (p 3))).setCell ⟨g,4,none⟩ (.int .i64 (p 4))).setCell ⟨g,5,none⟩ (.int .i64 (p 5)))=y7 at *
    obtain ⟨kG,h,T,B⟩:=KK.out
    clear KK v6 q6
    refine (cT _ _ h T.1).mono ?_
    rintro e_ y8 ⟨rfl,hb8⟩
    replace h:=row_keep hb8 h
    replace B:=but_trans B (but_below hb8)
    clear hb8 T cT kG
    have db:=cb_db h
    have z39:=cb_fz h 39
    have z40:=cb_fz h 40
    have z41:=cb_fz h 41
    have z42:=cb_fz h 42
    have z43:=cb_fz h 43
    have z44:=cb_fz h 44
    go_wp2
    go_end0
    exact ⟨rfl,by rw [hA.out,hU.out]; exact cb_putu h,but_trans B but_putu⟩
   ·have c':(n == 0)=false:=by simpa using c2
    go_wp2
    go_end0
    generalize ((((((w'.setCell ⟨g,0,none⟩ (.int .i64 (p 0))).setCell ⟨g,1,none⟩ (.int .i64 (p 1))).setCell ⟨g,2,none⟩ (.int .i64 (p 2))).setCell ⟨g,3,none⟩ (.int .i64 (p 3))).setCell ⟨g,4,none⟩ (.int .i64 (p 4))).setCell ⟨g,5,none⟩ (.int .i64 (p 5)))=y7 at *
    obtain ⟨kG,h,T,B⟩:=KK.out
    exact ⟨rfl,by rw [hA.out,hU.out.2 c2]; exact h,B⟩
  ·intro v w' hB hF hD
   have F0:v 0=_:=hF 0 (by simp) (by decide)
   have F1:v 1=_:=hF 1 (by simp) (by decide)
   have F2:v 2=_:=hF 2 (by simp) (by decide)
   have F3:v 3=_:=hF 3 (by simp) (by decide)
   have F4:v 4=_:=hF 4 (by simp) (by decide)
   have F5:v 5=_:=hF 5 (by simp) (by decide)
   have F6:v 6=_:=hF 6 (by simp) (by decide)
   have F7:v 7=_:=hF 7 (by simp) (by decide)
   have F8:v 8=_:=hF 8 (by simp) (by decide)
   have F9:v 9=_:=hF 9 (by simp) (by decide)
   have F10:v 10=_:=hF 10 (by simp) (by decide)
   have F11:v 11=_:=hF 11 (by simp) (by decide)
   have F12:v 12=_:=hF 12 (by simp) (by decide)
   have F13:v 13=_:=hF 13 (by simp) (by decide)
   have F15:∃ g,(v 15)=.pointer (some ⟨g,0,none⟩)∧y5.heap.size≤g∧SC w' g (fun _=>0)∧SF w' g:=hF 15 (by simp) (by decide)
   clear hF
   obtain ⟨g,e9,p9,v9,q9⟩:=F15
   simp only [frOf,frGo,Nat.zero_add,Nat.reduceAdd,F0,F1,F2,F3,F4,F5,F6,F7,F8,F9,F10,F11,F12,F13,e9]
   have lb:=cb_lt h
   have sz:=B.size
   replace h:=row_keep hB h
   replace T:=t3_keep hB T
   replace B:=but_trans B (but_below hB)
   clear F0 F1 F2 F3 F4 F5 F6 F7 F8 F9 F10 F11 F12 F13 hD hB fr e9 cA cO
   have gn:b≠g:=by omega
   have gw:w.heap.size≤g:=by omega
   have KK:=Lib.hid (And.intro (sc_six (sc_whole (m':=p) v9)) (And.intro (but_row but_set6 gn h) (And.intro (t3_but but_set6 (up_le ub (Nat.le_of_lt (Nat.lt_of_lt_of_le lb p9))) T) (but_new B gw but_set6))):SC6 ((((((w'.setCell ⟨g,0,none⟩ (.int .i64 (p 0))).setCell ⟨g,1,none⟩ (.int .i64 (p 1))).setCell ⟨g,2,none⟩ (.int .i64 (p 2))).setCell ⟨g,3,none⟩ (.int .i64 (p 3))).setCell ⟨g,4,none⟩ (.int .i64 (p 4))).setCell ⟨g,5,none⟩ (.int .i64 (p 5))) g p∧CB ((((((w'.setCell ⟨g,0,none⟩ (.int .i64 (p 0))).setCell ⟨g,1,none⟩ (.int .i64 (p 1))).setCell ⟨g,2,none⟩ (.int .i64 (p 2))).setCell ⟨g,3,none⟩ (.int .i64 (p 3))).setCell ⟨g,4,none⟩ (.int .i64 (p 4))).setCell ⟨g,5,none⟩ (.int .i64 (p 5))) b fb gb hl x m s a1 u∧Tb3 ((((((w'.setCell ⟨g,0,none⟩ (.int .i64 (p 0))).setCell ⟨g,1,none⟩ (.int .i64 (p 1))).setCell ⟨g,2,none⟩ (.int .i64 (p 2))).setCell ⟨g,3,none⟩ (.int .i64 (p 3))).setCell ⟨g,4,none⟩ (.int .i64 (p 4))).setCell ⟨g,5,none⟩ (.int .i64 (p 5)))∧But b w ((((((w'.setCell ⟨g,0,none⟩ (.int .i64 (p 0))).setCell ⟨g,1,none⟩ (.int .i64 (p 1))).setCell ⟨g,2,none⟩ (.int .i64 (p 2))).setCell ⟨g,3,none⟩ (.int .i64 (p 3))).setCell ⟨g,4,none⟩ (.int .i64 (p 4))).setCell ⟨g,5,none⟩ (.int .i64 (p 5))))
   have v6:=sc_six v9
   have q6:=sf_six q9
   clear v9 q9 h T B lb p9
   by_cases c2:n=0
   ·subst c2
    replace hU:=Lib.hid (hU.out.1 rfl)
    refine wpOp_step rfl (fun K hK=>?_)
    go_simp
    refine hK _ _ ?_
    clear hK K
    refine wpOp_step rfl (fun K hK=>?_)
    go_simp
    refine hK _ _ ?_
    clear hK K
    go_wp2_with fail
    generalize ((((((w'.setCell ⟨g,0,none⟩ (.int .i64 (p 0))).setCell ⟨g,1,none⟩ (.int .i64 (p 1))).setCell ⟨g,2,none⟩ (.int .i64 (p 2))).setCell ⟨g,3,none⟩ (.int .i64 (p 3))).setCell ⟨g,4,none⟩ (.int .i64 (p 4))).setCell ⟨g,5,none⟩ (.int .i64 (p 5)))=y7 at *
    obtain ⟨kG,h,T,B⟩:=KK.out
    clear KK v6 q6
    refine (cT _ _ h T.1).mono ?_
    rintro e_ y8 ⟨rfl,hb8⟩
    replace h:=row_keep hb8 h
    replace B:=but_trans B (but_below hb8)
    clear hb8 T cT kG
    have db:=cb_db h
    have z39:=cb_fz h 39
    have z40:=cb_fz h 40
    have z41:=cb_fz h 41
    have z42:=cb_fz h 42
    have z43:=cb_fz h 43
    have z44:=cb_fz h 44
    go_wp2
    go_end0
    exact ⟨rfl,by rw [hA.out,hU.out]; exact cb_putu h,but_trans B but_putu⟩
   ·have c':(n == 0)=false:=by simpa using c2
    refine wpOp_step rfl (fun K hK=>?_)
    go_simp
    refine hK _ _ ?_
    clear hK K
    refine wpOp_step rfl (fun K hK=>?_)
    go_simp
    refine hK _ _ ?_
    clear hK K
    go_wp2
    go_end0
    generalize ((((((w'.setCell ⟨g,0,none⟩ (.int .i64 (p 0))).setCell ⟨g,1,none⟩ (.int .i64 (p 1))).setCell ⟨g,2,none⟩ (.int .i64 (p 2))).setCell ⟨g,3,none⟩ (.int .i64 (p 3))).setCell ⟨g,4,none⟩ (.int .i64 (p 4))).setCell ⟨g,5,none⟩ (.int .i64 (p 5)))=y7 at *
    obtain ⟨kG,h,T,B⟩:=KK.out
    exact ⟨rfl,by rw [hA.out,hU.out.2 c2]; exact h,B⟩
end Go.Proofs.YthnofhjgfhapiaaGreatDoor

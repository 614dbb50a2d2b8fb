import Derived.Deep.QuietTactic
import Derived.BigQuiet
import Derived.Laws.AppendOwn
import Derived.OwnWalk
import Derived.Lib.SmallJoins
import Derived.StillTactics
import Derived.Laws.Pointers
import Derived.Deep.RegionHeld3
import Derived.RowKit3
import Derived.Lib.Hide
import Derived.Lib.QuietBelow
import Derived.Laws.Bits64b
import Derived.Test.YtmcchknilnejgaaGreatDoorProg
import Derived.Shelf.Spec.BitsCarry
import Derived.Shelf.Bits.Mul64
import Derived.WalkKit
import Derived.WalkSpells
import Derived.Orders
import Derived.RegionTactic
import Derived.Below
import Derived.Test.YtmcchknilnejgaaGreatDoorSaf
import Derived.Test.YtmcchknilnejgaaGreatDoorKag
import Derived.Test.YtmcchknilnejgaaGreatDoorSae
import Derived.Test.YtmcchknilnejgaaGreatDoorSad
import Derived.Test.YtmcchknilnejgaaGreatDoorSac
import Derived.Test.YtmcchknilnejgaaGreatDoorKab
import Derived.Test.YtmcchknilnejgaaGreatDoorKaa
import Derived.Test.YtmcchknilnejgaaGreatDoorKae
import Derived.Maps.AppendAt
import Derived.Laws.OwnMore
import Derived.Deep.AppendLies
import Derived.Deep.WholeRow
import Derived.Test.YtmcchknilnejgaaGreatDoorSaa
import Derived.Test.YtmcchknilnejgaaGreatDoorKah
import Derived.Test.YtmcchknilnejgaaGreatDoorKat
import Derived.Test.YtmcchknilnejgaaGreatDoorKaf
import Derived.Test.YtmcchknilnejgaaGreatDoorSap
import Derived.Test.YtmcchknilnejgaaGreatDoorSag
import Derived.Test.YtmcchknilnejgaaGreatDoorKak
import Derived.Test.YtmcchknilnejgaaGreatDoorKap
set_option maxHeartbeats 4000000
set_option maxRecDepth 10000
namespace Go.Proofs.YtmcchknilnejgaaGreatDoor
open Go.RowKit Go.Shelf Go.Joins
def qd (x y:Int):Int:=if y<0 then -x / -y else x / y
theorem div_big (va vb:Value) (x y:Int) (w:World) (hx:BG w va x) (hy:BG w vb y) (y0:y≠0) (tx:Tiny x) (ty:Tiny y) :
  Calls Tryz.prog 60 #[va,vb] w (RetB (qd x y) w):=by
 obtain ⟨n1,aa,ka,ca,rfl⟩:=bg_form hx
 obtain ⟨n2,ab,b,cb,e,_,db,nb,lb,hz,_,_⟩:=bg_open hy
 subst e
 have ng:=(sgn_neg db nb lb).1
 rw [← hz] at ng
 clear db nb lb hz
 generalize b.length=kb at *
 cases n2
 ·have yp:¬ y<0:=fun h=>by have:=ng.1 h; cases this
  unfold qd
  rw [if_neg yp]
  go_enter Tryz.func60,Tryz.ntmps60
  go_wp2_with fail
  have B1:Below w.heap.size w (((w.alloc (Obj.cells #[.bool n1,.slice aa ka ca] 122)).alloc (Obj.cells #[.bool false,.slice ab kb cb] 122)).alloc (Obj.cells #[.bool false,.slice none 0 0] 122)):=b_alloc (b_alloc (b_alloc (Below.refl _ _)))
  have k1:BC (((w.alloc (Obj.cells #[.bool n1,.slice aa ka ca] 122)).alloc (Obj.cells #[.bool false,.slice ab kb cb] 122)).alloc (Obj.cells #[.bool false,.slice none 0 0] 122)) w.heap.size n1 (.slice aa ka ca):=by simp [BC,go_sem,World.cell?_alloc_past]
  have k2:BC (((w.alloc (Obj.cells #[.bool n1,.slice aa ka ca] 122)).alloc (Obj.cells #[.bool false,.slice ab kb cb] 122)).alloc (Obj.cells #[.bool false,.slice none 0 0] 122)) (w.heap.size+1) false (.slice ab kb cb):=by simp [BC,go_sem,World.cell?_alloc_past]
  have r1:BV (((w.alloc (Obj.cells #[.bool n1,.slice aa ka ca] 122)).alloc (Obj.cells #[.bool false,.slice ab kb cb] 122)).alloc (Obj.cells #[.bool false,.slice none 0 0] 122)) (w.heap.size+1+1):=bv_new _ _ _ _ (by simp)
  have g1:=bg_keep hx B1
  have g2:=bg_keep hy B1
  clear hx hy
  refine (down_big _ _ x y _ g1 g2 (by omega) tx ty).mono ?_
  rintro e w2 ⟨bv,rfl,hR,hb2⟩
  obtain ⟨n9,a9,k9,c9,rfl⟩:=bg_form hR
  have r2:=bv_keep hb2 r1
  obtain ⟨n',a',k',c'',r3,f3⟩:=bv_use r2
  have B3:Below w.heap.size w w2:=b_trans B1 hb2
  have HB:=Lib.hid (And.intro r2 hR)
  clear hb2 hR r2
  go_wp2
  exact bodyPost_ret (v:=.agg #[.bool n9,.slice a9 k9 c9]) (by simp [results,Tryz.results60,go_sem,r3]) rfl ⟨_,rfl,bg_store HB.out.1 HB.out.2,b_set (b_set B3 (by simp; omega)) (by simp; omega)⟩
 ·have yn:y<0:=ng.2 rfl
  unfold qd
  rw [if_pos yn]
  go_enter Tryz.func60,Tryz.ntmps60
  go_wp2_with fail
  have B1:Below w.heap.size w (((w.alloc (Obj.cells #[.bool n1,.slice aa ka ca] 122)).alloc (Obj.cells #[.bool true,.slice ab kb cb] 122)).alloc (Obj.cells #[.bool false,.slice none 0 0] 122)):=b_alloc (b_alloc (b_alloc (Below.refl _ _)))
  have k1:BC (((w.alloc (Obj.cells #[.bool n1,.slice aa ka ca] 122)).alloc (Obj.cells #[.bool true,.slice ab kb cb] 122)).alloc (Obj.cells #[.bool false,.slice none 0 0] 122)) w.heap.size n1 (.slice aa ka ca):=by simp [BC,go_sem,World.cell?_alloc_past]
  have k2:BC (((w.alloc (Obj.cells #[.bool n1,.slice aa ka ca] 122)).alloc (Obj.cells #[.bool true,.slice ab kb cb] 122)).alloc (Obj.cells #[.bool false,.slice none 0 0] 122)) (w.heap.size+1) true (.slice ab kb cb):=by simp [BC,go_sem,World.cell?_alloc_past]
  have r1:BV (((w.alloc (Obj.cells #[.bool n1,.slice aa ka ca] 122)).alloc (Obj.cells #[.bool true,.slice ab kb cb] 122)).alloc (Obj.cells #[.bool false,.slice none 0 0] 122)) (w.heap.size+1+1):=bv_new _ _ _ _ (by simp)
  have g1:=bg_keep hx B1
  have g2:=bg_keep hy B1
  clear hx hy
  generalize (((w.alloc (Obj.cells #[.bool n1,.slice aa ka ca] 122)).alloc (Obj.cells #[.bool true,.slice ab kb cb] 122)).alloc (Obj.cells #[.bool false,.slice none 0 0] 122))=W0 at *
  refine region_each [7,8,9,10,11] (fun i X_ U_=>match i with | 0=>X_=.agg #[.bool n1,.slice aa ka ca] | 1=>BG U_ X_ (-x) | 2=>X_=.agg #[.bool true,.slice ab kb cb] | 3=>BG U_ X_ (-y) | 4=>BG U_ X_ (-x / -y) | _=>True) (fun i=>false) (by kernel_rfl) (by kernel_rfl) (by kernel_rfl) (by kernel_rfl) (by kernel_rfl) ?_ ?_ ?_ ?_
  ·intro i x w w' hi h hb
   match i,hi with
   | 0,_=>exact h
   | 1,_=>exact bg_keep h hb
   | 2,_=>exact h
   | 3,_=>exact bg_keep h hb
   | 4,_=>exact bg_keep h hb
   | k+5,hk=>exact absurd hk (by simp)
  ·intro i x w hi ha h
   cases ha
  ·intro i hi v f w' hb hv hB hd
   match i,hi with
   | 0,_ =>
    have b2:f.tmps[2]?=some (.pointer (some ⟨w.heap.size,0,none⟩)):=(hb 2 (by decide)).trans rfl
    clear hb hv hd
    have c:=bc_keep hB k1
    refine wpOp_step rfl (fun K hK=>?_)
    go_simp
    exact hK _ _ ⟨_,rfl,Below.refl _ _,rfl,fun h=>absurd h (by decide)⟩
   | 1,_ =>
    have h0:(v 0)=.agg #[.bool n1,.slice aa ka ca]:=hd 0 (by kernel_rfl)
    have d0:f.tmps[7]?=some (.agg #[.bool n1,.slice aa ka ca]):=(hv 0 7 rfl).trans (congrArg some h0)
    clear h0
    clear hb hv hd
    refine wpOp_step rfl (fun K hK=>?_)
    go_simp
    refine (turn_any _ x _ (bg_keep g1 hB)).mono ?_
    rintro e w5 ⟨v5,rfl,h5,hb5⟩
    exact hK _ _ ⟨_,rfl,hb5,h5,fun h=>absurd h (by decide)⟩
   | 2,_ =>
    have b3:f.tmps[3]?=some (.pointer (some ⟨w.heap.size+1,0,none⟩)):=(hb 3 (by decide)).trans rfl
    clear hb hv hd
    have c:=bc_keep hB k2
    refine wpOp_step rfl (fun K hK=>?_)
    go_simp
    exact hK _ _ ⟨_,rfl,Below.refl _ _,rfl,fun h=>absurd h (by decide)⟩
   | 3,_ =>
    have h2:(v 2)=.agg #[.bool true,.slice ab kb cb]:=hd 2 (by kernel_rfl)
    have d2:f.tmps[9]?=some (.agg #[.bool true,.slice ab kb cb]):=(hv 2 9 rfl).trans (congrArg some h2)
    clear h2
    clear hb hv hd
    refine wpOp_step rfl (fun K hK=>?_)
    go_simp
    refine (turn_any _ y _ (bg_keep g2 hB)).mono ?_
    rintro e w5 ⟨v5,rfl,h5,hb5⟩
    exact hK _ _ ⟨_,rfl,hb5,h5,fun h=>absurd h (by decide)⟩
   | 4,_ =>
    have h1:BG w' (v 1) (-x):=hd 1 (by kernel_rfl)
    have d1:f.tmps[8]?=some (v 1):=hv 1 8 rfl
    have h3:BG w' (v 3) (-y):=hd 3 (by kernel_rfl)
    have d3:f.tmps[10]?=some (v 3):=hv 3 10 rfl
    clear hb hv hd
    refine wpOp_step rfl (fun K hK=>?_)
    go_simp
    refine (down_big _ _ (-x) (-y) _ h1 h3 (by omega) (tiny_neg tx) (tiny_neg ty)).mono ?_
    rintro e w5 ⟨v5,rfl,h5,hb5⟩
    exact hK _ _ ⟨_,rfl,hb5,h5,fun h=>absurd h (by decide)⟩
   | k+5,hk=>exact absurd hk (by simp)
  ·intro v w' hB hF hD
   have F0:(v 0)=.agg #[.bool n1,.slice aa ka ca]:=hF 0 (by simp)
   have F1:BG w' (v 1) (-x):=hF 1 (by simp)
   have F2:(v 2)=.agg #[.bool true,.slice ab kb cb]:=hF 2 (by simp)
   have F3:BG w' (v 3) (-y):=hF 3 (by simp)
   have F4:BG w' (v 4) (-x / -y):=hF 4 (by simp)
   clear hF
   obtain ⟨n1_,a1_,k1_,c1_,e1⟩:=bg_form F1
   obtain ⟨n3_,a3_,k3_,c3_,e3⟩:=bg_form F3
   obtain ⟨n4_,a4_,k4_,c4_,e4⟩:=bg_form F4
   rw [e4] at F4
   simp only [frOf,frGo,Nat.zero_add,Nat.reduceAdd,F0,e1,F2,e3,e4]
   have r9:=bv_keep hB r1
   have B9:=b_trans B1 hB
   obtain ⟨n'',a'',k'',c'',r8,f8⟩:=bv_use r9
   have HB:=Lib.hid (And.intro r9 F4)
   clear hB hD r9 F0 F1 F2 F3 F4
   go_wp2
   exact bodyPost_ret (v:=.agg #[.bool n4_,.slice a4_ k4_ c4_]) (by simp [results,Tryz.results60,go_sem,r8]) rfl ⟨_,rfl,bg_store HB.out.1 HB.out.2,b_set (b_set B9 (by simp; omega)) (by simp; omega)⟩
end Go.Proofs.YtmcchknilnejgaaGreatDoor
namespace Go.Proofs.YtmcchknilnejgaaGreatDoor
open Go.RowKit Go.Shelf Go.Joins
theorem lt_le {z:Nat→Int}:∀ {n k:Nat},k<n→lt z n≤z k
 | 0,_,h=>absurd h (Nat.not_lt_zero _)
 | n+1,k,h=>by
  rw [lt]
  by_cases c:k=n
  ·subst c
   split <;> omega
  ·have:=lt_le (z:=z) (n:=n) (k:=k) (by omega)
   split <;> omega
theorem lt_one {z:Nat→Int}:∀ (n:Nat),lt z n=z 0∨∃ k,k<n∧lt z n=z k
 | 0=>Or.inl rfl
 | n+1=>by
  rw [lt]
  by_cases c:z n<lt z n
  ·rw [if_pos c]
   exact Or.inr ⟨n,by omega,rfl⟩
  ·rw [if_neg c]
   rcases lt_one (z:=z) n with h | ⟨k,hk,h⟩
   ·exact Or.inl h
   ·exact Or.inr ⟨k,by omega,h⟩
theorem lt_good {z:Nat→Int} {n:Nat} (h:0<n) (a:ag z n=true):90528≤lt z n∧lt z n≤430515:=by
 rcases lt_one (z:=z) n with e | ⟨k,hk,e⟩
 ·rw [e]; exact gd_range (ag_at a h)
 ·rw [e]; exact gd_range (ag_at a hk)
theorem m_none (z:Nat→Int):mv z 0=0∧me z 0=4:=⟨rfl,rfl⟩
theorem quot {m n r s:Int} (h:m*n+r=s) (r0:0≤r) (r1:r<n):s / n=m:=by
 have hn:n≠0:=by omega
 rw [← h,Int.add_comm,Int.add_mul_ediv_right _ _ hn,Int.ediv_eq_zero_of_lt r0 r1,Int.zero_add]
end Go.Proofs.YtmcchknilnejgaaGreatDoor
namespace Go.Proofs.YtmcchknilnejgaaGreatDoor
open Go.RowKit Go.Shelf Go.Joins
theorem od_sum (z:Nat→Int) (l:Int):∀ n:Nat,l*n+od z l n=sm z n
 | 0=>by simp [od,sm]
 | n+1=>by
  have h:=od_sum z l n
  rw [od,sm,← h,Int.natCast_add,Int.natCast_one,Int.mul_add,Int.mul_one]
  omega
theorem od_range {z:Nat→Int} {l:Int} (l0:0≤l):∀ {n:Nat},ag z n=true→(∀ k,k<n→l≤z k)→0≤od z l n∧od z l n≤430515*(n:Int)
 | 0,_,_=>⟨Int.le_refl _,Int.le_refl _⟩
 | n+1,a,h=>by
  have g:=gd_range (ag_at a (Nat.lt_succ_self n))
  rw [ag,Bool.and_eq_true] at a
  have:=od_range l0 a.1 (fun k hk=>h k (by omega))
  have:=h n (by omega)
  rw [od]
  omega
theorem rmean_any (B:Nat) (z:Nat→Int) (sa:Option Addr) (len cap:Nat) (hm:len≤1000000) (w:World) (hc:IS w B sa len z) :
  Calls Tryz.prog 25 #[.slice sa len cap] w (RetV (.tuple #[.int .i64 (mv z len),.int .i64 (me z len)]) w):=by
 rcases Nat.eq_zero_or_pos len with rfl | hn
 ·rw [(m_none z).1,(m_none z).2]
  clear hc
  go_enter Tryz.func25,Tryz.ntmps25
  go_wp2
  go_ret2
  exact ⟨rfl,Below.refl _ _⟩
 ·obtain ⟨gb,off,rfl,-,c0⟩:=hc 0 hn
  replace c0:w.cell? ⟨gb,off,none⟩=some (.int .i64 (z 0)):=c0
  have hn0:¬ (len:Int)=0:=by omega
  have hn1:((len:Int) == 0)=false:=by simpa using hn0
  have hnp:(0:Int)<len:=by omega
  have hcells:∀ k,k<len→w.cell? ⟨gb,off+k,none⟩=some (.int .i64 (z k)):=fun k hk=>by
   obtain ⟨g2,o2,e,_,c⟩:=hc k hk
   injection e with e
   injection e with e1 e2
   subst e1
   subst e2
   exact c
  clear hc
  have E0:=Below.refl w.heap.size w
  go_enter Tryz.func25,Tryz.ntmps25
  go_wp2
  go_loopw [4,5] (fun sv iv wr=>∃ k:Nat,k≤len∧iv=.int .i64 k∧sv=.int .i64 (lt z k)∧ag z k=true∧Below w.heap.size w wr) (fun _ iv _=>len - (intOf iv).toNat)
  case atStart=>exact ⟨0,Nat.zero_le _,rfl,rfl,rfl,E0⟩
  case round =>
   clear E0 c0
   obtain ⟨k,hk,rfl,rfl,ha,E⟩:=hrel
   by_cases hlt:k<len
   ·have ck:=cell_keep E (hcells k hlt)
    have hlk:(k:Int)<len:=by omega
    have hk0:(0:Int)≤k:=by omega
    have cg:=rgood_any (z k)
    have ws:IntKind.i64.wrap ((k:Int)+1)=(k:Int)+1:=by rw [IntKind.wrap_i64]; omega
    cases g:gd (z k)
    ·have hb:=m_bad (ag_not hlt g)
     rw [g] at cg
     have HB:=Lib.hid hb
     clear hb g ha hcells
     generalize mv z len=mm at *
     generalize me z len=ee at *
     generalize z k=v at *
     generalize lt z k=s at *
     go_wp2_with fail
     refine (cg _).mono ?_
     rintro e y0 ⟨rfl,hb⟩
     replace E:=b_trans E hb
     clear hb cg ck
     obtain ⟨rfl,rfl⟩:=HB.out
     go_wp2
     exact bodyPost_ret (v:=.tuple #[.int .i64 0,.int .i64 2]) (by simp [results,Tryz.results25,go_sem]) rfl ⟨rfl,E⟩
    ·have e0:=Lib.hid (ag_yes ha g)
     rw [g] at cg
     by_cases d:z k<lt z k
     ·have e1:Hid (lt z (k+1)=z k):=Lib.hid (by rw [lt,if_pos d])
      have HCS:=Lib.hid hcells
      clear g ha hcells
      generalize z k=v at *
      generalize lt z k=s at *
      go_wp2_with fail
      refine (cg _).mono ?_
      rintro e y0 ⟨rfl,hb⟩
      replace E:=b_trans E hb
      replace ck:=cell_keep hb ck
      clear hb cg
      go_wp2
      refine ⟨⟨k+1,by omega,rfl,by rw [e1.out],e0.out,E⟩,?_⟩
      simp only [intOf]
      omega
     ·have e1:Hid (lt z (k+1)=lt z k):=Lib.hid (by rw [lt,if_neg d])
      have HCS:=Lib.hid hcells
      clear g ha hcells
      generalize z k=v at *
      generalize lt z k=s at *
      go_wp2_with fail
      refine (cg _).mono ?_
      rintro e y0 ⟨rfl,hb⟩
      replace E:=b_trans E hb
      replace ck:=cell_keep hb ck
      clear hb cg
      go_wp2
      refine ⟨⟨k+1,by omega,rfl,by rw [e1.out],e0.out,E⟩,?_⟩
      simp only [intOf]
      omega
   ·have hlk:¬ (k:Int)<len:=by omega
    have e:k=len:=by omega
    subst e
    have lg:=lt_good hn ha
    have HL:Hid (∀ j,j<k→lt z k≤z j):=Lib.hid (fun j hj=>lt_le hj)
    have HA:=Lib.hid ha
    have HM:=Lib.hid (m_ok hn ha)
    have HO:=Lib.hid (od_sum z (lt z k) k)
    have HR:=Lib.hid (od_range (by omega) ha HL.out)
    have HCS:=Lib.hid hcells
    clear hlt hk ha hcells
    generalize mv z k=mm at *
    generalize me z k=ee at *
    generalize lt z k=L at *
    go_wp2
    clear hlk
    go_loopw [6,7] (fun sv iv wr=>∃ j:Nat,j≤k∧iv=.int .i64 j∧sv=.int .i64 (od z L j)∧Below w.heap.size w wr) (fun _ iv _=>k - (intOf iv).toNat)
    case atStart=>exact ⟨0,Nat.zero_le _,rfl,rfl,E⟩
    case round =>
     clear E
     obtain ⟨j,hj,rfl,rfl,E⟩:=hrel
     by_cases hlt:j<k
     ·have ck:=cell_keep E (HCS.out j hlt)
      have hlj:(j:Int)<k:=by omega
      have hj0:(0:Int)≤j:=by omega
      have aj:ag z j=true:=ag_of fun i hi=>ag_at HA.out (by omega)
      have gr:=gd_range (ag_at HA.out hlt)
      have r0:=od_range (l:=L) (by omega) aj (fun i hi=>HL.out i (by omega))
      have e1:Hid (od z L (j+1)=od z L j+z j - L):=Lib.hid rfl
      have ws:IntKind.i64.wrap ((j:Int)+1)=(j:Int)+1:=by rw [IntKind.wrap_i64]; omega
      clear aj
      generalize od z L j=o at *
      generalize z j=v at *
      have w1:IntKind.i64.wrap (o+v)=o+v:=by rw [IntKind.wrap_i64]; omega
      have w2:IntKind.i64.wrap (o+v - L)=o+v - L:=by rw [IntKind.wrap_i64]; omega
      go_wp2
      refine ⟨⟨j+1,by omega,rfl,by rw [e1.out],E⟩,?_⟩
      simp only [intOf]
      omega
     ·have hlj:¬ (j:Int)<k:=by omega
      have e:j=k:=by omega
      subst e
      have r0:=HR.out
      have HO2:=HO
      clear hlt hj HCS HL HA HR HO
      generalize od z L j=o at *
      generalize sm z j=S at *
      go_wp2
      clear hlj
      go_loopw [6,8] (fun sv nv wr=>∃ o2 n2:Int,sv=.int .i64 o2∧nv=.int .i64 n2∧0≤o2∧0≤n2∧o2+n2≤1000000000000∧n2*j+o2=S∧Below w.heap.size w wr) (fun sv _ _=>(intOf sv).toNat)
      case atStart=>exact ⟨o,L,rfl,rfl,by omega,by omega,by omega,HO2.out,E⟩
      case round =>
       clear E HO2 r0
       obtain ⟨o2,n2,rfl,rfl,h0,h1,h2,h3,E⟩:=hrel
       have H3:=Lib.hid h3
       clear h3
       by_cases hq:(j:Int)≤o2
       ·have ws:IntKind.i64.wrap (n2+1)=n2+1:=by rw [IntKind.wrap_i64]; omega
        have w2:IntKind.i64.wrap (o2 - (j:Int))=o2 - (j:Int):=by rw [IntKind.wrap_i64]; omega
        go_wp2
        refine ⟨⟨o2 - j,n2+1,rfl,rfl,by omega,by omega,by omega,?_,E⟩,?_⟩
        ·have:=H3.out
         rw [Int.add_mul,Int.one_mul]
         omega
        ·simp only [intOf]
         omega
       ·have hq1:¬ (j:Int)≤o2:=hq
        have:=quot H3.out h0 (by omega)
        obtain ⟨e1,e2⟩:=HM.out
        rw [this] at e1
        subst e1
        subst e2
        clear this H3 HM
        go_wp2
        exact bodyPost_ret (v:=.tuple #[.int .i64 mm,.int .i64 0]) (by simp [results,Tryz.results25,go_sem]) rfl ⟨rfl,E⟩
end Go.Proofs.YtmcchknilnejgaaGreatDoor
namespace Go.Proofs.YtmcchknilnejgaaGreatDoor
open Go.RowKit Go.Shelf Go.Joins
theorem rpower_40 (w:World):Calls Tryz.prog 55 #[.int .i64 40] w (RetB 1099511627776 w):=by
 have:=power_any 40 (by decide) w
 rwa [show (2:Int) ^ 40=1099511627776 by decide] at this
def RetTab (w:World) (e:Ending) (w':World):Prop:=∃ b,e=.returned (.slice (some ⟨b,0,none⟩) 47 47)∧(∀ k,k<47→w'.cell? ⟨b,k,none⟩=some (.int .i64 (tb k)))∧Below w.heap.size w w'
theorem tbl_cells (k:Nat) (h:k<47):(tbl.map fun n=>Value.int .i64 n).toArray[k]?=some (.int .i64 (tb k)):=by
 have hl:k<tbl.length:=h
 simp [tb,hl]
theorem rtable_any (w:World):Calls Tryz.prog 58 #[] w (RetTab w):=by
 have hc:∀ k,k<47→(w.alloc (Obj.cells (tbl.map fun n=>Value.int .i64 n).toArray 2)).cell? ⟨w.heap.size,k,none⟩=some (.int .i64 (tb k)):=fun k hk=>by
  rw [cell_of_row _ _ k _ _ _ (heap_alloc_last w _)]
  exact tbl_cells k hk
 have HC:=Lib.hid hc
 clear hc
 go_enter Tryz.func58,Tryz.ntmps58
 go_wp2
 go_ret
 exact ⟨_,rfl,HC.out,b_alloc (Below.refl _ _)⟩
theorem rheight_any (i:Nat) (hi:i≤46) (w:World):Calls Tryz.prog 61 #[.int .i64 i] w (RetV (.int .i64 (ht i)) w):=by
 have w1:IntKind.i64.wrap (256*(i:Int))=256*(i:Int):=by rw [IntKind.wrap_i64]; omega
 have w2:IntKind.i64.wrap (256*(i:Int) - 512)=256*(i:Int) - 512:=by rw [IntKind.wrap_i64]; omega
 have w3:IntKind.i64.wrap ((256*(i:Int) - 512)*1099511627776)=ht i:=by unfold ht; rw [IntKind.wrap_i64]; omega
 go_enter Tryz.func61,Tryz.ntmps61
 go_wp2
 go_ret
 exact ⟨rfl,Below.refl _ _⟩
theorem raltitude_bad (p:Int) (g:gd p=false) (w:World):Calls Tryz.prog 26 #[.int .i64 p] w (RetV (.tuple #[.int .i64 0,.int .i64 2]) w):=by
 have cg:=rgood_any p
 rw [g] at cg
 clear g
 go_enter Tryz.func26,Tryz.ntmps26
 go_wp2_with fail
 refine (cg _).mono ?_
 rintro e y0 ⟨rfl,E⟩
 clear cg
 go_wp2
 go_ret2
 exact ⟨rfl,E⟩
theorem raltitude_ok (p:Int) (g:gd p=true) (w:World):Calls Tryz.prog 26 #[.int .i64 p] w (RetV (.tuple #[.int .i64 (al p),.int .i64 0]) w):=by
 have cg:=rgood_any p
 rw [g] at cg
 have gr:=gd_range g
 go_enter Tryz.func26,Tryz.ntmps26
 go_wp2_with fail
 refine (cg _).mono ?_
 rintro e y0 ⟨rfl,E⟩
 clear cg
 go_wp2_with fail
 refine (rtable_any _).mono ?_
 rintro e y1 ⟨b,rfl,hc,hb⟩
 replace E:=b_trans E hb
 clear hb
 go_wp2
 go_loopw [5,6] (fun lv iv wr=>∃ k:Nat,k≤47∧iv=.int .i64 k∧lv=.int .i64 (lat p (k - 1):Nat)∧Below y1.heap.size y1 wr) (fun _ iv _=>47 - (intOf iv).toNat)
 case atStart=>exact ⟨0,Nat.zero_le _,rfl,rfl,Below.refl _ _⟩
 case round =>
  obtain ⟨k,hk,rfl,rfl,hb⟩:=hrel
  by_cases hlt:k<47
  ·have c0:=cell_keep hb (hc k hlt)
   have hlk:(k:Int)<47:=by omega
   have hk0:(0:Int)≤k:=by omega
   have ws:IntKind.i64.wrap ((k:Int)+1)=(k:Int)+1:=by rw [IntKind.wrap_i64]; omega
   have hk2:k+1≤47:=by omega
   by_cases c:p≤tb k
   ·have e1:Hid (lat p k=k):=Lib.hid (by
     cases k with
     | zero=>rfl
     | succ j=>exact lat_yes c)
    generalize tb k=t at *
    generalize lat p (k - 1)=m at *
    clear g hc gr E
    go_wp2
    refine ⟨⟨k+1,hk2,rfl,by rw [Nat.add_sub_cancel,e1.out],hb⟩,?_⟩
    simp only [intOf]
    omega
   ·have e1:Hid (lat p k=lat p (k - 1)):=Lib.hid (by
     cases k with
     | zero=>exact absurd gr.2 c
     | succ j=>exact lat_no c)
    generalize tb k=t at *
    obtain ⟨m,hm⟩:∃ m,lat p (k - 1)=m:=⟨_,rfl⟩
    rw [hm] at e1
    rw [hm]
    clear g hc gr hm E
    go_wp2
    refine ⟨⟨k+1,hk2,rfl,by rw [Nat.add_sub_cancel,e1.out],hb⟩,?_⟩
    simp only [intOf]
    omega
  ·have hlk:¬ (k:Int)<47:=by omega
   have e:k=47:=by omega
   subst e
   replace E:=b_trans E hb
   obtain ⟨u0,u1,u2⟩:=un_spec g
   have q0:=cell_keep hb (hc (un p) (by omega))
   have q1:=cell_keep hb (hc (un p+1) (by omega))
   obtain ⟨d0,d1,d2⟩:=dn_wd g
   have pr:=pt_range g
   have r0:=tb_range (i:=un p) (by omega)
   have r1:=tb_range (i:=un p+1) (by omega)
   have ch:=rheight_any (un p) (by omega)
   have eal:=Lib.hid (show al p=ht (un p)+pt p from rfl)
   have hh:ht (un p)=-562949953421312+281474976710656*(un p:Int):=rfl
   have hq:Hid (qd (256*dn p*1099511627776) (wd p)=pt p):=Lib.hid (by
    unfold qd pt
    rw [if_neg (by omega),show 256*dn p*1099511627776=281474976710656*dn p by omega])
   have wd1:IntKind.i64.wrap (tb (un p) - p)=dn p:=by unfold dn; rw [IntKind.wrap_i64]; omega
   have wd2:IntKind.i64.wrap (tb (un p) - tb (un p+1))=wd p:=by unfold wd; rw [IntKind.wrap_i64]; omega
   have wd3:IntKind.i64.wrap (256*dn p)=256*dn p:=by rw [IntKind.wrap_i64]; omega
   have wd6:IntKind.i64.wrap (ht (un p)+pt p)=ht (un p)+pt p:=by rw [IntKind.wrap_i64]; omega
   have hI:∀ v w,BG w v (pt p)→Calls Tryz.prog 52 #[v] w (RetV (.tuple #[.int .i64 (pt p),.int .i64 0]) w):=fun v w h=>by
    have:=int_big v (pt p) w h ⟨by omega,by omega⟩
    rwa [(iz_of ⟨by omega,by omega⟩).1,(iz_of ⟨by omega,by omega⟩).2] at this
   have su:Small (256*dn p):=small_of (by omega) (by omega)
   have tU:Tiny (256*dn p*1099511627776):=⟨by omega,by omega⟩
   have tv:Tiny (wd p):=⟨by omega,by omega⟩
   have nv:wd p≠0:=by omega
   have uu0:-9223372036854775808≤256*dn p:=by omega
   have uu1:256*dn p≤9223372036854775807:=by omega
   have v0:-9223372036854775808≤wd p:=by omega
   have v1:wd p≤9223372036854775807:=by omega
   have k0:(0:Int)≤(un p:Int)+1:=by omega
   have k1:(un p:Int)+1<47:=by omega
   have k2:(un p:Int)<47:=by omega
   have k3:(0:Int)≤(un p:Int):=by omega
   have ws:IntKind.i64.wrap ((un p:Int)+1)=(un p:Int)+1:=by rw [IntKind.wrap_i64]; omega
   have hn:((un p:Int)+1).toNat=un p+1:=by omega
   have hi:lat p (47 - 1)=un p:=rfl
   rw [hi]
   clear hi hc hlt hk g u0 u1 u2 d0 d1 d2 pr r0 r1 hh gr hb
   generalize ht (un p)=H at *
   generalize pt p=fp at *
   generalize dn p=d at *
   generalize wd p=wv at *
   generalize tb (un p+1)=t1 at *
   generalize tb (un p)=t0 at *
   generalize un p=i at *
   have ou:=of_big (256*d) uu0 uu1
   have ov:=of_big wv v0 v1
   have B0:=E
   go_wp2_with fail
   refine (ou _).mono ?_
   rintro e w1 ⟨v1,rfl,g1,hb9⟩
   obtain ⟨n1,a1,k1,c1,rfl⟩:=bg_form g1
   replace B0:=b_trans B0 hb9
   replace q0:=cell_keep hb9 q0
   replace q1:=cell_keep hb9 q1
   clear hb9 ou
   go_wp2_with fail
   refine (rpower_40 _).mono ?_
   rintro e w2 ⟨v2,rfl,g2,hb9⟩
   obtain ⟨n2,a2,k2,c2,rfl⟩:=bg_form g2
   replace g1:=bg_keep g1 hb9
   replace B0:=b_trans B0 hb9
   replace q0:=cell_keep hb9 q0
   replace q1:=cell_keep hb9 q1
   clear hb9
   go_wp2_with fail
   refine (mul_big _ _ (256*d) 1099511627776 _ g1 g2 su (small_of (by decide) (by decide))).mono ?_
   rintro e w3 ⟨v3,rfl,g3,hb9⟩
   obtain ⟨n3,a3,k3,c3,rfl⟩:=bg_form g3
   replace B0:=b_trans B0 hb9
   replace q0:=cell_keep hb9 q0
   replace q1:=cell_keep hb9 q1
   clear hb9 g1 g2
   have kg:BG (w3.alloc (Obj.cells #[.bool n3,.slice a3 k3 c3] 122)) (.agg #[.bool n3,.slice a3 k3 c3]) (256*d*1099511627776):=bg_keep g3 (b_alloc (Below.refl _ _))
   have kc:BC (w3.alloc (Obj.cells #[.bool n3,.slice a3 k3 c3] 122)) w3.heap.size n3 (.slice a3 k3 c3):=by simp [BC,go_sem]
   replace q0:=cell_keep (b_alloc (o:=(Obj.cells #[.bool n3,.slice a3 k3 c3] 122)) (Below.refl w3.heap.size w3)) q0
   replace q1:=cell_keep (b_alloc (o:=(Obj.cells #[.bool n3,.slice a3 k3 c3] 122)) (Below.refl w3.heap.size w3)) q1
   replace B0:=b_alloc (o:=(Obj.cells #[.bool n3,.slice a3 k3 c3] 122)) B0
   clear g3 E
   go_wp2
   refine region_late [38,39,40,41,42,43,44,45,46,47,48,49,50,51,37,52,53] 16 (fun i_ X_ U_=>match i_ with | 0=>X_=.agg #[.bool n3,.slice a3 k3 c3] | 1=>X_=.slice (some ⟨b,0,none⟩) 47 47 | 2=>X_=.int .i64 i | 3=>X_=.pointer (some ⟨b,i,none⟩) | 4=>X_=.int .i64 t0 | 5=>X_=.slice (some ⟨b,0,none⟩) 47 47 | 6=>X_=.int .i64 i | 7=>X_=.int .i64 ((i:Int)+1) | 8=>X_=.pointer (some ⟨b,i+1,none⟩) | 9=>X_=.int .i64 t1 | 10=>X_=.int .i64 wv | 11=>BG U_ X_ (wv) | 12=>BG U_ X_ (fp) | 13=>X_=.tuple #[.int .i64 fp,.int .i64 0] | 14=>X_=.tuple #[.int .i64 fp,.int .i64 0] | 15=>X_=.int .i64 fp | 16=>X_=.int .i64 0 | _=>True) (fun i_=>false) (by kernel_rfl) (by kernel_rfl) (by kernel_rfl) (by kernel_rfl) ?_ (fun i x w hi ha h=>by cases ha) ?_ ?_ ?_
   ·refine swp (upS (upS (upS (upS (upS (upS (upS (upS (upS (upS (upS (upS (upS (upS (upS (upS (upS up0 ?_) ?_) ?_) ?_) ?_) ?_) ?_) ?_) ?_) ?_) ?_) ?_) ?_) ?_) ?_) ?_) ?_)
    ·exact fun _ _ _ h _=>h
    ·exact fun _ _ _ h _=>h
    ·exact fun _ _ _ h _=>h
    ·exact fun _ _ _ h _=>h
    ·exact fun _ _ _ h _=>h
    ·exact fun _ _ _ h _=>h
    ·exact fun _ _ _ h _=>h
    ·exact fun _ _ _ h _=>h
    ·exact fun _ _ _ h _=>h
    ·exact fun _ _ _ h _=>h
    ·exact fun _ _ _ h _=>h
    ·intro x w w' h hb; exact bg_keep h hb
    ·intro x w w' h hb; exact bg_keep h hb
    ·exact fun _ _ _ h _=>h
    ·exact fun _ _ _ h _=>h
    ·exact fun _ _ _ h _=>h
    ·exact fun _ _ _ h _=>h
   ·refine upS (upS (upS (upS (upS (upS (upS (upS (upS (upS (upS (upS (upS (upS (upS (upS (upS up0 ?_) ?_) ?_) ?_) ?_) ?_) ?_) ?_) ?_) ?_) ?_) ?_) ?_) ?_) ?_) ?_) ?_
    all_goals intro v f w' hb hv hB hd
    ·have b7:f.tmps[7]?=some (.pointer (some ⟨w3.heap.size,0,none⟩)):=(hb 7 (by decide)).trans rfl
     clear hb hv hd
     have c_:=bc_keep hB kc
     refine wpOp_step rfl fun K hK=>?_
     go_simp
     exact hK _ _ ⟨_,rfl,Below.refl _ _,rfl,fun h=>absurd h (by decide)⟩
    ·have b4:f.tmps[4]?=some (.slice (some ⟨b,0,none⟩) 47 47):=(hb 4 (by decide)).trans rfl
     clear hb hv hd
     refine wpOp_step rfl fun K hK=>?_
     go_simp
     exact hK _ _ ⟨_,rfl,Below.refl _ _,rfl,fun h=>absurd h (by decide)⟩
    ·have b5:f.tmps[5]?=some (.int .i64 i):=(hb 5 (by decide)).trans rfl
     clear hb hv hd
     refine wpOp_step rfl fun K hK=>?_
     go_simp
     exact hK _ _ ⟨_,rfl,Below.refl _ _,rfl,fun h=>absurd h (by decide)⟩
    ·have d1:=got (hv 1 39 rfl) (hd 1 (by kernel_rfl))
     have d2:=got (hv 2 40 rfl) (hd 2 (by kernel_rfl))
     clear hb hv hd
     refine wpOp_step rfl fun K hK=>?_
     go_simp
     exact hK _ _ ⟨_,rfl,Below.refl _ _,rfl,fun h=>absurd h (by decide)⟩
    ·have d3:=got (hv 3 41 rfl) (hd 3 (by kernel_rfl))
     clear hb hv hd
     have c_:=cell_keep hB q0
     refine wpOp_step rfl fun K hK=>?_
     go_simp
     exact hK _ _ ⟨_,rfl,Below.refl _ _,rfl,fun h=>absurd h (by decide)⟩
    ·have b4:f.tmps[4]?=some (.slice (some ⟨b,0,none⟩) 47 47):=(hb 4 (by decide)).trans rfl
     clear hb hv hd
     refine wpOp_step rfl fun K hK=>?_
     go_simp
     exact hK _ _ ⟨_,rfl,Below.refl _ _,rfl,fun h=>absurd h (by decide)⟩
    ·have b5:f.tmps[5]?=some (.int .i64 i):=(hb 5 (by decide)).trans rfl
     clear hb hv hd
     refine wpOp_step rfl fun K hK=>?_
     go_simp
     exact hK _ _ ⟨_,rfl,Below.refl _ _,rfl,fun h=>absurd h (by decide)⟩
    ·have d6:=got (hv 6 44 rfl) (hd 6 (by kernel_rfl))
     clear hb hv hd
     refine wpOp_step rfl fun K hK=>?_
     go_simp
     exact hK _ _ ⟨_,rfl,Below.refl _ _,rfl,fun h=>absurd h (by decide)⟩
    ·have d5:=got (hv 5 43 rfl) (hd 5 (by kernel_rfl))
     have d7:=got (hv 7 45 rfl) (hd 7 (by kernel_rfl))
     clear hb hv hd
     refine wpOp_step rfl fun K hK=>?_
     go_simp
     exact hK _ _ ⟨_,rfl,Below.refl _ _,rfl,fun h=>absurd h (by decide)⟩
    ·have d8:=got (hv 8 46 rfl) (hd 8 (by kernel_rfl))
     clear hb hv hd
     have c_:=cell_keep hB q1
     refine wpOp_step rfl fun K hK=>?_
     go_simp
     exact hK _ _ ⟨_,rfl,Below.refl _ _,rfl,fun h=>absurd h (by decide)⟩
    ·have d4:=got (hv 4 42 rfl) (hd 4 (by kernel_rfl))
     have d9:=got (hv 9 47 rfl) (hd 9 (by kernel_rfl))
     clear hb hv hd
     refine wpOp_step rfl fun K hK=>?_
     go_simp
     exact hK _ _ ⟨_,rfl,Below.refl _ _,rfl,fun h=>absurd h (by decide)⟩
    ·have d10:=got (hv 10 48 rfl) (hd 10 (by kernel_rfl))
     clear hb hv hd
     refine wpOp_call rfl Tryz.call54 (args1 (eval_tmp d10)) (ov _) ?_
     rintro e w5 ⟨v5,rfl,h5,hb5⟩
     exact ⟨_,rfl,_,rfl,hb5,h5,fun h=>absurd h (by decide)⟩
    ·have d0:=got (hv 0 38 rfl) (hd 0 (by kernel_rfl))
     have h11:BG w' (v 11) (wv):=hd 11 (by kernel_rfl)
     have d11:f.tmps[49]?=some (v 11):=hv 11 49 rfl
     clear hb hv hd
     refine wpOp_call rfl Tryz.call60 (args2 (eval_tmp d0) (eval_tmp d11)) (div_big _ _ (256*d*1099511627776) wv _ (bg_keep kg hB) h11 nv tU tv) ?_
     rintro e w5 ⟨v5,rfl,h5,hb5⟩
     exact ⟨_,rfl,_,rfl,hb5,by rwa [hq.out] at h5,fun h=>absurd h (by decide)⟩
    ·have h12:BG w' (v 12) (fp):=hd 12 (by kernel_rfl)
     have d12:f.tmps[50]?=some (v 12):=hv 12 50 rfl
     clear hb hv hd
     refine wpOp_call rfl Tryz.call52 (args1 (eval_tmp d12)) (hI _ _ h12) ?_
     rintro e5 w5 ⟨rfl,hb5⟩
     exact ⟨_,rfl,_,rfl,hb5,rfl,fun h=>absurd h (by decide)⟩
    ·have d13:=got (hv 13 51 rfl) (hd 13 (by kernel_rfl))
     clear hb hv hd
     refine wpOp_step rfl fun K hK=>?_
     go_simp
     exact hK _ _ ⟨_,rfl,Below.refl _ _,rfl,fun h=>absurd h (by decide)⟩
    ·have d14:=got (hv 14 37 rfl) (hd 14 (by kernel_rfl))
     clear hb hv hd
     refine wpOp_step rfl fun K hK=>?_
     go_simp
     exact hK _ _ ⟨_,rfl,Below.refl _ _,rfl,fun h=>absurd h (by decide)⟩
    ·have d14:=got (hv 14 37 rfl) (hd 14 (by kernel_rfl))
     clear hb hv hd
     refine wpOp_step rfl fun K hK=>?_
     go_simp
     exact hK _ _ ⟨_,rfl,Below.refl _ _,rfl,fun h=>absurd h (by decide)⟩
   ·intro v w' hB hF hD
    have F0:v 0=_:=hF 0 (by simp)
    have F1:v 1=_:=hF 1 (by simp)
    have F2:v 2=_:=hF 2 (by simp)
    have F3:v 3=_:=hF 3 (by simp)
    have F4:v 4=_:=hF 4 (by simp)
    have F5:v 5=_:=hF 5 (by simp)
    have F6:v 6=_:=hF 6 (by simp)
    have F7:v 7=_:=hF 7 (by simp)
    have F8:v 8=_:=hF 8 (by simp)
    have F9:v 9=_:=hF 9 (by simp)
    have F10:v 10=_:=hF 10 (by simp)
    have F11:BG w' (v 11) (wv):=hF 11 (by simp)
    have F12:BG w' (v 12) (fp):=hF 12 (by simp)
    have F13:v 13=_:=hF 13 (by simp)
    have F14:v 14=_:=hF 14 (by simp)
    have F15:v 15=_:=hF 15 (by simp)
    have F16:v 16=_:=hF 16 (by simp)
    clear hF
    obtain ⟨n11_,a11_,k11_,c11_,e11⟩:=bg_form F11
    obtain ⟨n12_,a12_,k12_,c12_,e12⟩:=bg_form F12
    simp only [frOf,frGo,Nat.zero_add,Nat.reduceAdd,F0,F1,F2,F3,F4,F5,F6,F7,F8,F9,F10,e11,e12,F13,F14,F15,F16]
    replace B0:=b_trans B0 hB
    clear hB hD F0 F1 F2 F3 F4 F5 F6 F7 F8 F9 F10 F11 F12 F13 F14 F15 F16 e11 e12 kg kc ov hq tU tv q0 q1 hI
    go_wp2_with fail
    refine (ch _).mono ?_
    rintro e w9 ⟨rfl,hb⟩
    replace B0:=b_trans B0 hb
    clear hb ch
    go_wp2
    exact bodyPost_ret (v:=.tuple #[.int .i64 (H+fp),.int .i64 0]) (by simp [results,Tryz.results26,go_sem]) rfl ⟨by rw [eal.out],B0⟩
   ·intro v w' hB hF hD
    have F0:v 0=_:=hF 0 (by simp) (by decide)
    have F1:v 1=_:=hF 1 (by simp) (by decide)
    have F2:v 2=_:=hF 2 (by simp) (by decide)
    have F3:v 3=_:=hF 3 (by simp) (by decide)
    have F4:v 4=_:=hF 4 (by simp) (by decide)
    have F5:v 5=_:=hF 5 (by simp) (by decide)
    have F6:v 6=_:=hF 6 (by simp) (by decide)
    have F7:v 7=_:=hF 7 (by simp) (by decide)
    have F8:v 8=_:=hF 8 (by simp) (by decide)
    have F9:v 9=_:=hF 9 (by simp) (by decide)
    have F10:v 10=_:=hF 10 (by simp) (by decide)
    have F11:BG w' (v 11) (wv):=hF 11 (by simp) (by decide)
    have F12:BG w' (v 12) (fp):=hF 12 (by simp) (by decide)
    have F13:v 13=_:=hF 13 (by simp) (by decide)
    have F14:v 14=_:=hF 14 (by simp) (by decide)
    have F15:v 15=_:=hF 15 (by simp) (by decide)
    clear hF
    obtain ⟨n11_,a11_,k11_,c11_,e11⟩:=bg_form F11
    obtain ⟨n12_,a12_,k12_,c12_,e12⟩:=bg_form F12
    simp only [frOf,frGo,Nat.zero_add,Nat.reduceAdd,F0,F1,F2,F3,F4,F5,F6,F7,F8,F9,F10,e11,e12,F13,F14,F15]
    replace B0:=b_trans B0 hB
    clear hB hD F0 F1 F2 F3 F4 F5 F6 F7 F8 F9 F10 F11 F12 F13 F14 F15 e11 e12 kg kc ov hq tU tv q0 q1 hI
    refine wpOp_step rfl (fun K hK=>?_)
    go_simp
    refine hK _ _ ?_
    clear hK K
    refine wpOp_step rfl (fun K hK=>?_)
    go_simp
    refine hK _ _ ?_
    clear hK K
    go_wp2_with fail
    refine (ch _).mono ?_
    rintro e w9 ⟨rfl,hb⟩
    replace B0:=b_trans B0 hb
    clear hb ch
    go_wp2
    exact bodyPost_ret (v:=.tuple #[.int .i64 (H+fp),.int .i64 0]) (by simp [results,Tryz.results26,go_sem]) rfl ⟨by rw [eal.out],B0⟩
theorem raltitude_any (p:Int) (w:World):Calls Tryz.prog 26 #[.int .i64 p] w (RetV (.tuple #[.int .i64 (az p),.int .i64 (ae p)]) w):=by
 cases g:gd p
 ·rw [az_bad g,ae_bad g]
  exact raltitude_bad p g w
 ·rw [az_ok g,ae_ok g]
  exact raltitude_ok p g w
end Go.Proofs.YtmcchknilnejgaaGreatDoor

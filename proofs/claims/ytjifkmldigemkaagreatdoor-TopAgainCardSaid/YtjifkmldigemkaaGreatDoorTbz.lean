import Derived.Orders
import Derived.RegionTactic
import Derived.Below
import Derived.Test.YtjifkmldigemkaaGreatDoorTby
import Derived.Test.YtjifkmldigemkaaGreatDoorTah
import Derived.Test.YtjifkmldigemkaaGreatDoorTbo
import Derived.Test.YtjifkmldigemkaaGreatDoorTaa
import Derived.Test.YtjifkmldigemkaaGreatDoorTat
import Derived.Test.YtjifkmldigemkaaGreatDoorTag
import Derived.Test.YtjifkmldigemkaaGreatDoorTab
import Derived.Test.YtjifkmldigemkaaGreatDoorTae
import Derived.Test.YtjifkmldigemkaaGreatDoorTaf
set_option maxHeartbeats 4000000
set_option maxRecDepth 10000
namespace Go.Proofs.YtjifkmldigemkaaGreatDoor
open Go.RowKit Go.Shelf Go.Joins
end Go.Proofs.YtjifkmldigemkaaGreatDoor
namespace Go.Proofs.YtjifkmldigemkaaGreatDoor
open Go.RowKit Go.Shelf Go.Joins
def od (z:Nat→Int) (l:Int):Nat→Int
 | 0=>0
 | n+1=>od z l n+z n - l
theorem od_sum (z:Nat→Int) (l:Int):∀ n:Nat,l*n+od z l n=sm z n
 | 0=>by simp [od,sm]
 | n+1=>by
  have h:=od_sum z l n
  rw [od,sm,← h,Int.natCast_add,Int.natCast_one,Int.mul_add,Int.mul_one]
  omega
theorem od_range {z:Nat→Int} {l:Int} (l0:0≤l):∀ {n:Nat},ag z n=true→(∀ k,k<n→l≤z k)→0≤od z l n∧od z l n≤430515*(n:Int)
 | 0,_,_=>⟨Int.le_refl _,Int.le_refl _⟩
 | n+1,a,h=>by
  have g:=gd_range (ag_at a (Nat.lt_succ_self n))
  rw [ag,Bool.and_eq_true] at a
  have:=od_range l0 a.1 (fun k hk=>h k (by omega))
  have:=h n (by omega)
  rw [od]
  omega
theorem rmean_any (B:Nat) (z:Nat→Int) (sa:Option Addr) (len cap:Nat) (hm:len≤1000000) (w:World) (hc:IS w B sa len z) :
  Calls Tryz.prog 16 #[.slice sa len cap] w (RetV (.tuple #[.int .i64 (mv z len),.int .i64 (me z len)]) w):=by
 rcases Nat.eq_zero_or_pos len with rfl | hn
 ·rw [(m_none z).1,(m_none z).2]
  clear hc
  go_enter Tryz.func16,Tryz.ntmps16
  go_wp2
  go_ret2
  exact ⟨rfl,Below.refl _ _⟩
 ·obtain ⟨gb,off,rfl,-,c0⟩:=hc 0 hn
  replace c0:w.cell? ⟨gb,off,none⟩=some (.int .i64 (z 0)):=c0
  have hn0:¬ (len:Int)=0:=by omega
  have hn1:((len:Int) == 0)=false:=by simpa using hn0
  have hnp:(0:Int)<len:=by omega
  have hcells:∀ k,k<len→w.cell? ⟨gb,off+k,none⟩=some (.int .i64 (z k)):=fun k hk=>by
   obtain ⟨g2,o2,e,_,c⟩:=hc k hk
   injection e with e
   injection e with e1 e2
   subst e1
   subst e2
   exact c
  clear hc
  have E0:=Below.refl w.heap.size w
  go_enter Tryz.func16,Tryz.ntmps16
  go_wp2
  go_loopw [4,5] (fun sv iv wr=>∃ k:Nat,k≤len∧iv=.int .i64 k∧sv=.int .i64 (lt z k)∧ag z k=true∧Below w.heap.size w wr) (fun _ iv _=>len - (intOf iv).toNat)
  case atStart=>exact ⟨0,Nat.zero_le _,rfl,rfl,rfl,E0⟩
  case round =>
   clear E0 c0
   obtain ⟨k,hk,rfl,rfl,ha,E⟩:=hrel
   by_cases hlt:k<len
   ·have ck:=cell_keep E (hcells k hlt)
    have hlk:(k:Int)<len:=by omega
    have hk0:(0:Int)≤k:=by omega
    have cg:=rgood_any (z k)
    have ws:IntKind.i64.wrap ((k:Int)+1)=(k:Int)+1:=by rw [IntKind.wrap_i64]; omega
    cases g:gd (z k)
    ·have hb:=m_bad (ag_not hlt g)
     rw [g] at cg
     have HB:=Lib.hid hb
     clear hb g ha hcells
     generalize mv z len=mm at *
     generalize me z len=ee at *
     generalize z k=v at *
     generalize lt z k=s at *
     go_wp2_with fail
     refine (cg _).mono ?_
     rintro e y0 ⟨rfl,hb⟩
     replace E:=b_trans E hb
     clear hb cg ck
     obtain ⟨rfl,rfl⟩:=HB.out
     go_wp2
     exact bodyPost_ret (v:=.tuple #[.int .i64 0,.int .i64 2]) (by simp [results,Tryz.results16,go_sem]) rfl ⟨rfl,E⟩
    ·have e0:=Lib.hid (ag_yes ha g)
     rw [g] at cg
     by_cases d:z k<lt z k
     ·have e1:Hid (lt z (k+1)=z k):=Lib.hid (by rw [lt,if_pos d])
      have HCS:=Lib.hid hcells
      clear g ha hcells
      generalize z k=v at *
      generalize lt z k=s at *
      go_wp2_with fail
      refine (cg _).mono ?_
      rintro e y0 ⟨rfl,hb⟩
      replace E:=b_trans E hb
      replace ck:=cell_keep hb ck
      clear hb cg
      go_wp2
      refine ⟨⟨k+1,by omega,rfl,by rw [e1.out],e0.out,E⟩,?_⟩
      simp only [intOf]
      omega
     ·have e1:Hid (lt z (k+1)=lt z k):=Lib.hid (by rw [lt,if_neg d])
      have HCS:=Lib.hid hcells
      clear g ha hcells
      generalize z k=v at *
      generalize lt z k=s at *
      go_wp2_with fail
      refine (cg _).mono ?_
      rintro e y0 ⟨rfl,hb⟩
      replace E:=b_trans E hb
      replace ck:=cell_keep hb ck
      clear hb cg
      go_wp2
      refine ⟨⟨k+1,by omega,rfl,by rw [e1.out],e0.out,E⟩,?_⟩
      simp only [intOf]
      omega
   ·have hlk:¬ (k:Int)<len:=by omega
    have e:k=len:=by omega
    subst e
    have lg:=lt_good hn ha
    have HL:Hid (∀ j,j<k→lt z k≤z j):=Lib.hid (fun j hj=>lt_le hj)
    have HA:=Lib.hid ha
    have HM:=Lib.hid (m_ok hn ha)
    have HO:=Lib.hid (od_sum z (lt z k) k)
    have HR:=Lib.hid (od_range (by omega) ha HL.out)
    have HCS:=Lib.hid hcells
    clear hlt hk ha hcells
    generalize mv z k=mm at *
    generalize me z k=ee at *
    generalize lt z k=L at *
    go_wp2
    clear hlk
    go_loopw [6,7] (fun sv iv wr=>∃ j:Nat,j≤k∧iv=.int .i64 j∧sv=.int .i64 (od z L j)∧Below w.heap.size w wr) (fun _ iv _=>k - (intOf iv).toNat)
    case atStart=>exact ⟨0,Nat.zero_le _,rfl,rfl,E⟩
    case round =>
     clear E
     obtain ⟨j,hj,rfl,rfl,E⟩:=hrel
     by_cases hlt:j<k
     ·have ck:=cell_keep E (HCS.out j hlt)
      have hlj:(j:Int)<k:=by omega
      have hj0:(0:Int)≤j:=by omega
      have aj:ag z j=true:=ag_of fun i hi=>ag_at HA.out (by omega)
      have gr:=gd_range (ag_at HA.out hlt)
      have r0:=od_range (l:=L) (by omega) aj (fun i hi=>HL.out i (by omega))
      have e1:Hid (od z L (j+1)=od z L j+z j - L):=Lib.hid rfl
      have ws:IntKind.i64.wrap ((j:Int)+1)=(j:Int)+1:=by rw [IntKind.wrap_i64]; omega
      clear aj
      generalize od z L j=o at *
      generalize z j=v at *
      have w1:IntKind.i64.wrap (o+v)=o+v:=by rw [IntKind.wrap_i64]; omega
      have w2:IntKind.i64.wrap (o+v - L)=o+v - L:=by rw [IntKind.wrap_i64]; omega
      go_wp2
      refine ⟨⟨j+1,by omega,rfl,by rw [e1.out],E⟩,?_⟩
      simp only [intOf]
      omega
     ·have hlj:¬ (j:Int)<k:=by omega
      have e:j=k:=by omega
      subst e
      have r0:=HR.out
      have HO2:=HO
      clear hlt hj HCS HL HA HR HO
      generalize od z L j=o at *
      generalize sm z j=S at *
      go_wp2
      clear hlj
      go_loopw [6,8] (fun sv nv wr=>∃ o2 n2:Int,sv=.int .i64 o2∧nv=.int .i64 n2∧0≤o2∧0≤n2∧o2+n2≤1000000000000∧n2*j+o2=S∧Below w.heap.size w wr) (fun sv _ _=>(intOf sv).toNat)
      case atStart=>exact ⟨o,L,rfl,rfl,by omega,by omega,by omega,HO2.out,E⟩
      case round =>
       clear E HO2 r0
       obtain ⟨o2,n2,rfl,rfl,h0,h1,h2,h3,E⟩:=hrel
       have H3:=Lib.hid h3
       clear h3
       by_cases hq:(j:Int)≤o2
       ·have ws:IntKind.i64.wrap (n2+1)=n2+1:=by rw [IntKind.wrap_i64]; omega
        have w2:IntKind.i64.wrap (o2 - (j:Int))=o2 - (j:Int):=by rw [IntKind.wrap_i64]; omega
        go_wp2
        refine ⟨⟨o2 - j,n2+1,rfl,rfl,by omega,by omega,by omega,?_,E⟩,?_⟩
        ·have:=H3.out
         rw [Int.add_mul,Int.one_mul]
         omega
        ·simp only [intOf]
         omega
       ·have hq1:¬ (j:Int)≤o2:=hq
        have:=quot H3.out h0 (by omega)
        obtain ⟨e1,e2⟩:=HM.out
        rw [this] at e1
        subst e1
        subst e2
        clear this H3 HM
        go_wp2
        exact bodyPost_ret (v:=.tuple #[.int .i64 mm,.int .i64 0]) (by simp [results,Tryz.results16,go_sem]) rfl ⟨rfl,E⟩
end Go.Proofs.YtjifkmldigemkaaGreatDoor

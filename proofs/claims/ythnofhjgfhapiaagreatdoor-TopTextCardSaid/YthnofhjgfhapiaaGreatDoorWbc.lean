import Derived.Orders
import Derived.RegionTactic
import Derived.Below
import Derived.Test.YthnofhjgfhapiaaGreatDoorWae
import Derived.Test.YthnofhjgfhapiaaGreatDoorWab
import Derived.Test.YthnofhjgfhapiaaGreatDoorWaa
import Derived.Test.YthnofhjgfhapiaaGreatDoorWai
import Derived.Test.YthnofhjgfhapiaaGreatDoorWas
set_option maxHeartbeats 4000000
set_option maxRecDepth 10000
namespace Go.Proofs.YthnofhjgfhapiaaGreatDoor
open Go.RowKit Go.Shelf Go.Joins
theorem through_none (s:Int) (w:World):Calls Tryz.prog 88 #[.int .i64 s,.int .i64 0] w (RetV (.tuple #[.int .i64 0,.int .i64 4]) w):=by
 go_enter Tryz.func88,Tryz.ntmps88
 go_wp2
 go_ret2
 exact ⟨rfl,Below.refl _ _⟩
theorem through_some (s n:Int) (s0:0≤s) (s1:s≤1000000000000) (n0:0<n) (w:World):Calls Tryz.prog 88 #[.int .i64 s,.int .i64 n] w (RetV (.tuple #[.int .i64 (s / n),.int .i64 0]) w):=by
 have hn:¬ n=0:=by omega
 have hq:s.tdiv n=s / n:=Int.tdiv_eq_ediv_of_nonneg s0
 have q0:0≤s / n:=Int.ediv_nonneg s0 (by omega)
 have q1:s / n≤s:=Int.ediv_le_self _ s0
 generalize s / n=q at *
 have hw:IntKind.i64.wrap q=q:=by rw [IntKind.wrap_i64]; omega
 go_enter Tryz.func88,Tryz.ntmps88
 go_wp2
 go_ret2
 exact ⟨rfl,Below.refl _ _⟩
theorem through_any (z:Nat→Int) (n:Nat) (h:ag z n=true) (h1:n≤1000000) (w:World):Calls Tryz.prog 88 #[.int .i64 (sm z n),.int .i64 n] w (RetV (.tuple #[.int .i64 (mv z n),.int .i64 (me z n)]) w):=by
 have r:=sm_range h
 rcases Nat.eq_zero_or_pos n with rfl | hn
 ·exact through_none _ w
 ·rw [(m_ok hn h).1,(m_ok hn h).2]
  exact through_some _ _ (by omega) (by omega) (by omega) w
theorem heap_of (B:Nat) (z:Nat→Int) (sa:Option Addr) (len cap:Nat) (hm:len≤1000000) (w:World) (hc:IS w B sa len z) :
  Calls Tryz.prog 64 #[.slice sa len cap] w (RetV (.tuple #[.int .i64 (mv z len),.int .i64 (me z len)]) w):=by
 go_enter Tryz.func64,Tryz.ntmps64
 go_wp2
 go_loopw [4,9] (fun sv iv wr=>∃ k:Nat,k≤len∧iv=.int .i64 k∧sv=.int .i64 (sm z k)∧ag z k=true∧Below w.heap.size w wr) (fun _ iv _=>len - (intOf iv).toNat)
 case atStart=>exact ⟨0,Nat.zero_le _,rfl,rfl,rfl,Below.refl _ _⟩
 case round =>
  obtain ⟨k,hk,rfl,rfl,ha,E⟩:=hrel
  have r:=sm_range ha
  by_cases hlt:k<len
  ·obtain ⟨gb,off,rfl,-,c0⟩:=hc k hlt
   replace c0:=cell_keep E c0
   have hlk:(k:Int)<len:=by omega
   have hk0:(0:Int)≤k:=by omega
   have cg:=good_any (z k)
   have ws:IntKind.i64.wrap ((k:Int)+1)=(k:Int)+1:=by rw [IntKind.wrap_i64]; omega
   cases g:gd (z k)
   ·have hb:=m_bad (ag_not hlt g)
    rw [g] at cg
    have HB:=Lib.hid hb
    clear hb g r ha hc
    generalize mv z len=mm at *
    generalize me z len=ee at *
    generalize z k=v at *
    generalize sm z k=s at *
    go_wp2_with fail
    refine (cg _).mono ?_
    rintro e y0 ⟨rfl,hb⟩
    replace E:=b_trans E hb
    clear hb cg c0
    obtain ⟨rfl,rfl⟩:=HB.out
    go_wp2
    exact bodyPost_ret (v:=.tuple #[.int .i64 0,.int .i64 2]) (by simp [results,Tryz.results64,go_sem]) rfl ⟨rfl,E⟩
   ·have gr:=gd_range g
    have e0:=Lib.hid (ag_yes ha g)
    have e1:Hid (sm z (k+1)=sm z k+z k):=Lib.hid rfl
    rw [g] at cg
    clear g ha hc
    generalize z k=v at *
    generalize sm z k=s at *
    have wx:IntKind.i64.wrap (s+v)=s+v:=by rw [IntKind.wrap_i64]; omega
    go_wp2_with fail
    refine (cg _).mono ?_
    rintro e y0 ⟨rfl,hb⟩
    replace E:=b_trans E hb
    clear hb cg c0
    go_wp2
    refine ⟨⟨k+1,by omega,rfl,by rw [e1.out],e0.out,E⟩,?_⟩
    simp only [intOf]
    omega
  ·have hlk:¬ (k:Int)<len:=by omega
   have e:k=len:=by omega
   subst e
   have ct:=through_any z k ha hm
   clear hlt hk hc ha r
   go_wp2_with fail
   refine (ct _).mono ?_
   rintro e y0 ⟨rfl,hb⟩
   replace E:=b_trans E hb
   clear hb ct
   go_wp2
   exact bodyPost_ret (v:=.tuple #[.int .i64 (mv z k),.int .i64 (me z k)]) (by simp [results,Tryz.results64,go_sem]) rfl ⟨rfl,E⟩
end Go.Proofs.YthnofhjgfhapiaaGreatDoor

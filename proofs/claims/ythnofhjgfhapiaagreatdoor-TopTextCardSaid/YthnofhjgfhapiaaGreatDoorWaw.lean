import Derived.Test.YthnofhjgfhapiaaGreatDoorWal
import Derived.Test.YthnofhjgfhapiaaGreatDoorWaa
import Derived.Test.YthnofhjgfhapiaaGreatDoorWae
import Derived.Test.YthnofhjgfhapiaaGreatDoorWaf
import Derived.Test.YthnofhjgfhapiaaGreatDoorWag
import Derived.Test.YthnofhjgfhapiaaGreatDoorWak
import Derived.Defers
import Derived.Tactics
import Derived.Test.YthnofhjgfhapiaaGreatDoorWau
import Derived.Test.YthnofhjgfhapiaaGreatDoorWax
import Derived.Test.YthnofhjgfhapiaaGreatDoorWay
import Derived.Test.YthnofhjgfhapiaaGreatDoorWbb
import Derived.Test.YthnofhjgfhapiaaGreatDoorWap
import Derived.Test.YthnofhjgfhapiaaGreatDoorWbc
import Derived.Test.YthnofhjgfhapiaaGreatDoorWai
import Derived.Test.YthnofhjgfhapiaaGreatDoorWad
import Derived.Test.YthnofhjgfhapiaaGreatDoorWac
import Derived.Test.YthnofhjgfhapiaaGreatDoorWan
import Derived.Test.YthnofhjgfhapiaaGreatDoorWas
namespace Go.Proofs.YthnofhjgfhapiaaGreatDoor
open Go.RowKit Go.Shelf
theorem retV_same {P:Program} {f:FuncId} {args:Array Value} {w:World} {v:Value} (h:Calls P f args w fun e w'=>e=.returned v∧w=w'):Calls P f args w (RetV v w) :=
 h.mono fun _ _ k=>⟨k.1,k.2 ▸ Below.refl _ _⟩
theorem tmz_sv (m:Nat→Int) (f0 f1 f2 c0 c1 c2 a b c:Int):sv (umk (umk (umk (dgm (tdg (m 0) f0 c0) (tdg (m 3) f1 c1) (tdg (m 5) f2 c2)) 1 (clz (m 1) a)) 2 (clz (m 2) b)) 4 (clz (m 4) c))=sv (tmz m f0 f1 f2 c0 c1 c2 a b c):=by
 simp [sv,umk,tmz,dgm]
theorem sub_i64 {x f:Int} (h:-9223372036854775808≤x - f) (k:x - f≤9223372036854775807):IntKind.i64.wrap (x - f)=x - f:=by
 rw [IntKind.wrap_i64]; omega
theorem tame_ok (m:Nat→Int) (f0 f1 f2 c0 c1 c2 a b c:Int) (hm:I6 m) (h0:FB f0 c0) (h1:FB f1 c1) (h2:FB f2 c2) (R:TR m f0 f1 f2 c0 c1 c2 a b c) (w:World) (hp:PL w) :
  Calls Tryz.prog 100 #[sv m,tv f0 f1 f2,tv c0 c1 c2] w (RetV (.tuple #[sv (tmz m f0 f1 f2 c0 c1 c2 a b c),.int .i64 0]) w):=by
 have d0:=tdg_in (x:=m 0) h0.2.1
 have d1:=tdg_in (x:=m 3) h1.2.1
 have d2:=tdg_in (x:=m 5) h2.2.1
 obtain ⟨ha,hb,hc⟩:=tr_fits h0 h1 h2 R
 have Ra:=R.a
 have Rb:=R.b
 have Rc:=R.c
 rw [Int.mul_comm] at Ra Rb Rc
 have k1:=hm 1 (by decide)
 have k2:=hm 2 (by decide)
 have k4:=hm 4 (by decide)
 obtain ⟨h00,h01,h02⟩:=h0
 obtain ⟨h10,h11,h12⟩:=h1
 obtain ⟨h20,h21,h22⟩:=h2
 rw [← tmz_sv]
 refine tame_go m _ _ _ _ f0 f1 f2 c0 c1 c2 (tdg (m 0) f0 c0) (tdg (m 3) f1 c1) (tdg (m 5) f2 c2) (tdg (m 0) f0 c0 - f0) (tdg (m 3) f1 c1 - f1) (tdg (m 5) f2 c2 - f2) a b c (clz (m 1) a) (clz (m 2) b) (clz (m 4) c) ?_ (fun w=>between_tam _ _ _ _ _ _ _ _ _ w) (fun w k=>diag_any _ _ _ w k) (Lib.hid (sub_i64 (by omega) (by omega))) (Lib.hid (sub_i64 (by omega) (by omega))) (Lib.hid (sub_i64 (by omega) (by omega)))
  (fun w=>mean_of _ _ a (by omega) (by omega) (by omega) (by omega) Ra w) (fun w=>mean_of _ _ b (by omega) (by omega) (by omega) (by omega) Rb w) (fun w=>mean_of _ _ c (by omega) (by omega) (by omega) (by omega) Rc w)
  (fun w=>retV_same (clamp_fix _ _ k1.1 k1.2 (by omega) (by omega) w)) (fun w=>retV_same (clamp_fix _ _ k2.1 k2.2 (by omega) (by omega) w)) (fun w=>retV_same (clamp_fix _ _ k4.1 k4.2 (by omega) (by omega) w))
  (fun w k=>put_ok _ _ _ _ _ (by simp [At9]) w k) (fun w k=>put_ok _ _ _ _ _ (by simp [At9]) w k) (fun w k=>put_ok _ _ _ _ _ (by simp [At9]) w k) w hp
 intro w
 have q:=may_any f0 f1 f2 c0 c1 c2 ⟨by omega,by omega⟩ ⟨by omega,by omega⟩ ⟨by omega,by omega⟩ w
 rwa [mayb_yes ⟨⟨h00,h01,h02⟩,⟨h10,h11,h12⟩,⟨h20,h21,h22⟩⟩] at q
end Go.Proofs.YthnofhjgfhapiaaGreatDoor
namespace Go.Proofs.YthnofhjgfhapiaaGreatDoor
open Go.RowKit Go.Shelf Go.Joins
def tri (a b c:Int):Nat→Int:=fun i=>if i=0 then a else if i=1 then b else c
structure Cn where
 l:Int
 r:Int
 n:Nat
 z:Nat→Int
 g:Int
 m:Int
 s:Int
 v:Nat→Int
 u:Nat→Int
structure Td where
 m:Int
 vd:Bool
 ac:Bool
 rf:Bool
 hl:Bool
 gr:Bool
 al:Int
 sp:Int
 bi:Int
def cn0:Cn:=⟨0,0,0,fun _=>0,0,0,0,fun _=>0,fun _=>0⟩
def cl3 (x v:Nat→Int):Nat→Int:=tri (clz (v 0) (x 17)) (clz (v 1) (x 18)) (clz (v 2) (x 19))
def mok (v:Nat→Int) (t:Int):Prop:=F3 (v 0) (v 1) (v 2)∧FitP t∧FitP (t - v 2)∧FitP (v 0+mvh (v 1) (t - v 2))∧FitP (v 1+mvs (t - v 2))
def mgo (v:Nat→Int) (t:Int):Nat→Int:=tri (v 0+mvh (v 1) (t - v 2)) (v 1+mvs (t - v 2)) (v 2)
open Classical in
noncomputable def mvd (x v:Nat→Int) (t:Int):Nat→Int:=if mok v t then cl3 x (mgo v t) else v
def TRx (x m:Nat→Int) (q:Int × Int × Int):Prop:=TR m (x 11) (x 12) (x 13) (x 14) (x 15) (x 16) q.1 q.2.1 q.2.2
def tmx (x m:Nat→Int) (q:Int × Int × Int):Nat→Int:=tmz m (x 11) (x 12) (x 13) (x 14) (x 15) (x 16) q.1 q.2.1 q.2.2
open Classical in
noncomputable def tmd (x m:Nat→Int):Nat→Int:=if h:∃ q,TRx x m q then tmx x m h.choose else fun _=>0
def adn (x:Nat→Int) (h:Bool):Nat→Int:=if h then tri (x 3) (x 4) (x 5) else tri (x 0) (x 1) (x 2)
noncomputable def spd (x u:Nat→Int) (h:Bool):Nat→Int :=
 if one u (adn x h 0) (adn x h 1) (adn x h 2)=0 then tmd x (onz u (adn x h 0) (adn x h 1) (adn x h 2)) else u
noncomputable def mov (x:Nat→Int) (C:Cn) (t:Int) (h:Bool):Cn:={ C with v:=mvd x C.v t,u:=spd x C.u h }
def tL (x:Nat→Int) (C:Cn) (p:Int):Int:=lz C.g (bd (x 30)) p
def tN (x:Nat→Int) (C:Cn) (p:Int):Int:=ln C.g (bd (x 30)) (x 6) (x 7) p
def tG (x:Nat→Int) (C:Cn) (p:Int):Bool:=nr C.g (bd (x 30)) p
def tY (x:Nat→Int) (C:Cn) (p:Int):Int:=lky (C.v 0) (C.v 1) (C.v 2) C.u (tL x C p) (tN x C p)
def tS (x:Nat→Int) (C:Cn) (p:Int):Int:=lks (C.v 0) (C.v 1) (C.v 2) C.u (tL x C p) (tN x C p)
def tE (x:Nat→Int) (C:Cn) (p:Int):Int:=lke (C.v 0) (C.v 1) (C.v 2) C.u (tL x C p) (tN x C p)
def tK (x:Nat→Int) (C:Cn) (p:Int) (sh:Bool):Nat→Int :=
 tri (goz sh C.u (tS x C p) (x 21) (x 22) (x 23) (x 21) 0) (goz sh C.u (tS x C p) (x 21) (x 22) (x 23) (x 22) 1) (goz sh C.u (tS x C p) (x 21) (x 22) (x 23) (x 23) 2)
def tak (x:Nat→Int) (C:Cn) (p:Int) (sh:Bool):Prop :=
 tE x C p=0∧pas (tY x C p) (tS x C p) (x 20)=true∧goe sh C.u (tS x C p) (x 21) (x 22) (x 23)=0∧jse C.v (tK x C p sh) (tY x C p)=0∧dbe C.u (tK x C p sh) (tS x C p)=0
noncomputable def tkn (x:Nat→Int) (C:Cn) (p:Int) (sh:Bool):Cn :=
 { C with v:=cl3 x (jsz C.v (tK x C p sh) (tY x C p)),u:=tmd x (dbv C.u (tK x C p sh) (tS x C p)) }
open Classical in
noncomputable def tke (x:Nat→Int) (C:Cn) (p:Int) (sh:Bool):Cn × Int:=if tak x C p sh then (tkn x C p sh,1) else (C,2)
def ent (x:Nat→Int) (C:Cn) (p:Int):Cn :=
 { C with n:=C.n+1,z:=more C.z C.n p,v:=tri (az (mv (more C.z C.n p) (C.n+1))) 0 0,u:=dgm (x 8) (x 9) (x 10),g:=sc C.g (mv (more C.z C.n p) (C.n+1)) }
def gat (x:Nat→Int) (C:Cn) (p:Int):Cn × Int:=if C.n+1<16 then ({ C with n:=C.n+1,z:=more C.z C.n p },2) else (ent x C p,0)
def clk2 (x:Nat→Int) (C:Cn) (e:Int):Int × Int:=nxt (C.m,C.s) e (x 28) (x 29)
def trn (x:Nat→Int) (C:Cn) (e:Int):Cn :=
 { C with m:=(clk2 x C e).1,s:=(clk2 x C e).2,n:=if e=0∨e=3∨(sks (clk2 x C e).1=true∧sks C.m=false) then 0 else C.n }
def tel (C:Cn) (ac rf hl gr:Bool):Td :=
 ⟨C.m,vld C.m,ac,rf,hl,gr,if vld C.m then evn (C.v 0) 16777216 else 0,if vld C.m then evn (C.v 1) 16777216 else 0,if vld C.m then evn (C.v 2) 16777216 else 0⟩
def fed (x:Nat→Int) (C:Cn) (a:Int):Cn:={ C with l:=ap x C.l a,r:=ar x C.r a }
noncomputable def mid (x:Nat→Int) (C:Cn) (t:Int) (hl lo b:Bool) (p:Int) (sh:Bool):Cn × Int × Bool × Bool :=
 if lo then (C,3,false,false)
 else if sks C.m then (if b then ((gat x C p).1,(gat x C p).2,false,false) else (C,2,false,false))
 else if b then ((tke x (mov x C t hl) p sh).1,(tke x (mov x C t hl) p sh).2,true,tG x C p) else (mov x C t hl,2,false,false)
def fin (x:Nat→Int) (q:Cn × Int × Bool × Bool) (hl:Bool):Cn × Td :=
 (trn x q.1 q.2.1,tel (trn x q.1 q.2.1) (decide (q.2.1=0∨q.2.1=1)) (q.2.2.1 && decide (q.2.1=2)) hl q.2.2.2)
noncomputable def stp (x:Nat→Int) (C:Cn) (a:Int) (h:Bool) (p:Int) (sh:Bool):Cn × Td :=
 fin x (mid x (fed x C a) (ap x C.l a) (ah x a) (aq x C.r a) (br h p) p sh) (ah x a)
end Go.Proofs.YthnofhjgfhapiaaGreatDoor

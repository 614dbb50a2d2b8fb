import Derived.Defers
import Derived.Tactics
import Derived.Test.YtjifkmldigemkaaGreatDoorTav
import Derived.Test.YtjifkmldigemkaaGreatDoorTaw
import Derived.Test.YtjifkmldigemkaaGreatDoorTax
import Derived.Test.YtjifkmldigemkaaGreatDoorTay
import Derived.Test.YtjifkmldigemkaaGreatDoorTaz
import Derived.Test.YtjifkmldigemkaaGreatDoorTbc
import Derived.Test.YtjifkmldigemkaaGreatDoorTap
import Derived.Test.YtjifkmldigemkaaGreatDoorTat
import Derived.Test.YtjifkmldigemkaaGreatDoorTaq
import Derived.Test.YtjifkmldigemkaaGreatDoorTan
import Derived.Test.YtjifkmldigemkaaGreatDoorTag
import Derived.Test.YtjifkmldigemkaaGreatDoorTad
import Derived.Test.YtjifkmldigemkaaGreatDoorTae
import Derived.Test.YtjifkmldigemkaaGreatDoorTab
import Derived.Test.YtjifkmldigemkaaGreatDoorTah
import Derived.Test.YtjifkmldigemkaaGreatDoorTaf
import Derived.Test.YtjifkmldigemkaaGreatDoorTak
import Derived.Test.YtjifkmldigemkaaGreatDoorTaa
namespace Go.Proofs.YtjifkmldigemkaaGreatDoor
open Go.RowKit Go.Shelf Go.Joins
def tri (a b c:Int):Nat→Int:=fun i=>if i=0 then a else if i=1 then b else c
structure Cn where
 l:Int
 r:Int
 n:Nat
 z:Nat→Int
 g:Int
 m:Int
 s:Int
 v:Nat→Int
 u:Nat→Int
structure Td where
 m:Int
 vd:Bool
 ac:Bool
 rf:Bool
 hl:Bool
 gr:Bool
 al:Int
 sp:Int
 bi:Int
def cn0:Cn:=⟨0,0,0,fun _=>0,0,0,0,fun _=>0,fun _=>0⟩
def cl3 (x v:Nat→Int):Nat→Int:=tri (clz (v 0) (x 17)) (clz (v 1) (x 18)) (clz (v 2) (x 19))
def mok (v:Nat→Int) (t:Int):Prop:=F3 (v 0) (v 1) (v 2)∧FitP t∧FitP (t - v 2)∧FitP (v 0+mvh (v 1) (t - v 2))∧FitP (v 1+mvs (t - v 2))
def mgo (v:Nat→Int) (t:Int):Nat→Int:=tri (v 0+mvh (v 1) (t - v 2)) (v 1+mvs (t - v 2)) (v 2)
open Classical in
noncomputable def mvd (x v:Nat→Int) (t:Int):Nat→Int:=if mok v t then cl3 x (mgo v t) else v
def TRx (x m:Nat→Int) (q:Int × Int × Int):Prop:=TR m (x 11) (x 12) (x 13) (x 14) (x 15) (x 16) q.1 q.2.1 q.2.2
def tmx (x m:Nat→Int) (q:Int × Int × Int):Nat→Int:=tmz m (x 11) (x 12) (x 13) (x 14) (x 15) (x 16) q.1 q.2.1 q.2.2
open Classical in
noncomputable def tmd (x m:Nat→Int):Nat→Int:=if h:∃ q,TRx x m q then tmx x m h.choose else fun _=>0
def adn (x:Nat→Int) (h:Bool):Nat→Int:=if h then tri (x 3) (x 4) (x 5) else tri (x 0) (x 1) (x 2)
noncomputable def spd (x u:Nat→Int) (h:Bool):Nat→Int :=
 if one u (adn x h 0) (adn x h 1) (adn x h 2)=0 then tmd x (onz u (adn x h 0) (adn x h 1) (adn x h 2)) else u
noncomputable def mov (x:Nat→Int) (C:Cn) (t:Int) (h:Bool):Cn:={ C with v:=mvd x C.v t,u:=spd x C.u h }
def tL (x:Nat→Int) (C:Cn) (p:Int):Int:=lz C.g (bd (x 30)) p
def tN (x:Nat→Int) (C:Cn) (p:Int):Int:=ln C.g (bd (x 30)) (x 6) (x 7) p
def tG (x:Nat→Int) (C:Cn) (p:Int):Bool:=nr C.g (bd (x 30)) p
def tY (x:Nat→Int) (C:Cn) (p:Int):Int:=lky (C.v 0) (C.v 1) (C.v 2) C.u (tL x C p) (tN x C p)
def tS (x:Nat→Int) (C:Cn) (p:Int):Int:=lks (C.v 0) (C.v 1) (C.v 2) C.u (tL x C p) (tN x C p)
def tE (x:Nat→Int) (C:Cn) (p:Int):Int:=lke (C.v 0) (C.v 1) (C.v 2) C.u (tL x C p) (tN x C p)
def tK (x:Nat→Int) (C:Cn) (p:Int) (sh:Bool):Nat→Int :=
 tri (goz sh C.u (tS x C p) (x 21) (x 22) (x 23) (x 21) 0) (goz sh C.u (tS x C p) (x 21) (x 22) (x 23) (x 22) 1) (goz sh C.u (tS x C p) (x 21) (x 22) (x 23) (x 23) 2)
def tak (x:Nat→Int) (C:Cn) (p:Int) (sh:Bool):Prop :=
 tE x C p=0∧pas (tY x C p) (tS x C p) (x 20)=true∧goe sh C.u (tS x C p) (x 21) (x 22) (x 23)=0∧jse C.v (tK x C p sh) (tY x C p)=0∧dbe C.u (tK x C p sh) (tS x C p)=0
noncomputable def tkn (x:Nat→Int) (C:Cn) (p:Int) (sh:Bool):Cn :=
 { C with v:=cl3 x (jsz C.v (tK x C p sh) (tY x C p)),u:=tmd x (dbv C.u (tK x C p sh) (tS x C p)) }
open Classical in
noncomputable def tke (x:Nat→Int) (C:Cn) (p:Int) (sh:Bool):Cn × Int:=if tak x C p sh then (tkn x C p sh,1) else (C,2)
def ent (x:Nat→Int) (C:Cn) (p:Int):Cn :=
 { C with n:=C.n+1,z:=more C.z C.n p,v:=tri (az (mv (more C.z C.n p) (C.n+1))) 0 0,u:=dgm (x 8) (x 9) (x 10),g:=sc C.g (mv (more C.z C.n p) (C.n+1)) }
def gat (x:Nat→Int) (C:Cn) (p:Int):Cn × Int:=if C.n+1<16 then ({ C with n:=C.n+1,z:=more C.z C.n p },2) else (ent x C p,0)
def clk2 (x:Nat→Int) (C:Cn) (e:Int):Int × Int:=nxt (C.m,C.s) e (x 28) (x 29)
def trn (x:Nat→Int) (C:Cn) (e:Int):Cn :=
 { C with m:=(clk2 x C e).1,s:=(clk2 x C e).2,n:=if e=0∨e=3∨(sks (clk2 x C e).1=true∧sks C.m=false) then 0 else C.n }
def tel (C:Cn) (ac rf hl gr:Bool):Td :=
 ⟨C.m,vld C.m,ac,rf,hl,gr,if vld C.m then evn (C.v 0) 16777216 else 0,if vld C.m then evn (C.v 1) 16777216 else 0,if vld C.m then evn (C.v 2) 16777216 else 0⟩
def fed (x:Nat→Int) (C:Cn) (a:Int):Cn:={ C with l:=ap x C.l a,r:=ar x C.r a }
noncomputable def mid (x:Nat→Int) (C:Cn) (t:Int) (hl lo b:Bool) (p:Int) (sh:Bool):Cn × Int × Bool × Bool :=
 if lo then (C,3,false,false)
 else if sks C.m then (if b then ((gat x C p).1,(gat x C p).2,false,false) else (C,2,false,false))
 else if b then ((tke x (mov x C t hl) p sh).1,(tke x (mov x C t hl) p sh).2,true,tG x C p) else (mov x C t hl,2,false,false)
def fin (x:Nat→Int) (q:Cn × Int × Bool × Bool) (hl:Bool):Cn × Td :=
 (trn x q.1 q.2.1,tel (trn x q.1 q.2.1) (decide (q.2.1=0∨q.2.1=1)) (q.2.2.1 && decide (q.2.1=2)) hl q.2.2.2)
noncomputable def stp (x:Nat→Int) (C:Cn) (a:Int) (h:Bool) (p:Int) (sh:Bool):Cn × Td :=
 fin x (mid x (fed x C a) (ap x C.l a) (ah x a) (aq x C.r a) (br h p) p sh) (ah x a)
end Go.Proofs.YtjifkmldigemkaaGreatDoor

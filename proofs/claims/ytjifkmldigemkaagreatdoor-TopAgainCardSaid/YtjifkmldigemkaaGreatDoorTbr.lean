import Derived.Laws.AppendOwn
import Derived.OwnWalk
import Derived.Lib.SmallJoins
import Derived.Deep.QuietTactic
import Derived.BigQuiet
import Derived.Test.YtjifkmldigemkaaGreatDoorTbp
import Derived.Test.YtjifkmldigemkaaGreatDoorTag
import Derived.Test.YtjifkmldigemkaaGreatDoorTbq
import Derived.Test.YtjifkmldigemkaaGreatDoorTab
import Derived.Test.YtjifkmldigemkaaGreatDoorTae
import Derived.Test.YtjifkmldigemkaaGreatDoorTaa
set_option maxHeartbeats 4000000
set_option maxRecDepth 10000
namespace Go.Proofs.YtjifkmldigemkaaGreatDoor
open Go.RowKit Go.Shelf Go.Joins
theorem drop_step {a b:List Int} {k:Nat} (ha:k<a.length) (hb:k<b.length) (h:a.getD k 0=b.getD k 0) (e:a.drop (k+1)=b.drop (k+1)):a.drop k=b.drop k:=by
 rw [List.drop_eq_getElem_cons ha,List.drop_eq_getElem_cons hb,e]
 simp [List.getD_eq_getElem?_getD,List.getElem?_eq_getElem ha,List.getElem?_eq_getElem hb] at h
 rw [h]
theorem less_same (va vb:Value) (a b:List Int) (w:World) (ha:DG w va a) (hb:DG w vb b) (da:Dig a) (db:Dig b) (hl:a.length=b.length) (hm:a.length≤1000000) :
  Calls Tryz.prog 206 #[va,vb] w (RetV (.bool (decide (val a<val b))) w):=by
 obtain ⟨aa,ca,rfl,ca1,ca2⟩:=dg_len ha
 obtain ⟨ab,cb,rfl,cb1,cb2⟩:=dg_len hb
 rw [← hl] at hb cb1 ⊢
 have ne:((a.length:Int) != (a.length:Int))=false:=by simp
 have HD:=Lib.hid (And.intro da db)
 have HL:=Lib.hid hl
 clear da db hl
 unfold maxLen at ca2 cb2
 go_enter Tryz.func206,Tryz.ntmps206
 go_wp2
 go_loopw [5] (fun iv wr=>∃ k:Nat,k≤a.length∧iv=.int .i64 ((k:Int) - 1)∧a.drop k=b.drop k∧Below w.heap.size w wr) (fun iv _=>(intOf iv+1).toNat)
 case atStart=>exact ⟨a.length,Nat.le_refl _,rfl,by rw [List.drop_of_length_le (Nat.le_refl _),List.drop_of_length_le (by rw [HL.out]; exact Nat.le_refl _)],Below.refl _ _⟩
 case round =>
  obtain ⟨k,hk,rfl,he,hB⟩:=hrel
  have HE:=Lib.hid he
  clear he
  by_cases c:k=0
  ·subst c
   have e0:decide (val a<val b)=false:=by
    have:=HE.out
    simp at this
    rw [this]; simp
   have E0:=Lib.hid e0
   clear e0
   go_wp2
   go_ret
   exact ⟨by rw [E0.out]; rfl,hB⟩
  ·obtain ⟨j,rfl⟩:∃ j,k=j+1:=⟨k - 1,by omega⟩
   have hj:j<a.length:=by omega
   obtain ⟨ga,ca',e1,_,_,hca⟩:=dg_cell (dg_keep ha hB) j hj
   obtain ⟨gb,cb',e2,_,_,hcb⟩:=dg_cell (dg_keep hb hB) j (by rw [← HL.out]; exact hj)
   simp at e1 e2
   obtain ⟨rfl,rfl⟩:=e1
   obtain ⟨rfl,_,rfl⟩:=e2
   have T1:=Lib.hid (fun h=>val_top HD.out.1 HD.out.2 j HE.out hj (by rw [← HL.out]; exact hj) h)
   have T2:=Lib.hid (fun h=>val_top HD.out.2 HD.out.1 j HE.out.symm (by rw [← HL.out]; exact hj) hj h)
   have T3:=Lib.hid (fun h=>drop_step hj (by rw [← HL.out]; exact hj) h HE.out)
   rw [show (((j+1:Nat):Int) - 1)=(j:Int) by omega]
   clear ha hb
   generalize a.getD j 0=q1 at *
   generalize b.getD j 0=q2 at *
   by_cases q:q1=q2
   ·subst q
    have T4:=Lib.hid (T3.out rfl)
    clear T1 T2 T3
    go_wp2
    go_quiet (fail)
    go_wp2
    go_roundw
    case rel=>exact ⟨j,by omega,rfl,T4.out,hB.trans (below_draws _ _ _)⟩
    case measure=>simp [intOf]
   ·have q3:(q1 != q2)=true:=by simpa using q
    have e0:decide (val a<val b)=decide (q1<q2):=by
     by_cases lt:q1<q2
     ·simp [lt,T1.out lt]
     ·have:=T2.out (show q2<q1 by omega)
      simp [lt]; omega
    rw [e0]
    clear e0 T1 T2 T3 q
    go_wp2
    go_quiet (fail)
    go_wp2
    go_quiet (fail)
    go_wp2
    go_ret
    exact ⟨rfl,(hB.trans (below_draws _ _ _)).trans (below_draws _ _ _)⟩
theorem less_diff (va vb:Value) (a b:List Int) (w:World) (ha:DG w va a) (hb:DG w vb b) (da:Dig a) (na:Norm a) (db:Dig b) (nb:Norm b) (hl:a.length≠b.length) :
  Calls Tryz.prog 206 #[va,vb] w (RetV (.bool (decide (val a<val b))) w):=by
 obtain ⟨aa,ca,rfl,ca1,ca2⟩:=dg_len ha
 obtain ⟨ab,cb,rfl,cb1,cb2⟩:=dg_len hb
 unfold maxLen at ca2 cb2
 have ne:((a.length:Int) != (b.length:Int))=true:=by simp; omega
 have e0:decide (val a<val b)=decide ((a.length:Int)<(b.length:Int)):=by
  by_cases lt:a.length<b.length
  ·have:=len_lt da db nb lt
   simp [lt,this]
  ·have:=len_lt db da na (by omega)
   simp [lt]; omega
 rw [e0]
 clear e0 ha hb da na db nb hl
 go_enter Tryz.func206,Tryz.ntmps206
 go_wp2
 go_ret
 exact ⟨by simp,Below.refl _ _⟩
theorem less_any (va vb:Value) (a b:List Int) (w:World) (ha:DG w va a) (hb:DG w vb b) (da:Dig a) (na:Norm a) (db:Dig b) (nb:Norm b) (hm:a.length≤1000000) :
  Calls Tryz.prog 206 #[va,vb] w (RetV (.bool (decide (val a<val b))) w):=by
 by_cases hl:a.length=b.length
 ·exact less_same va vb a b w ha hb da db hl hm
 ·exact less_diff va vb a b w ha hb da na db nb hl
theorem sum_any (va vb:Value) (a b:List Int) (w:World) (ha:DG w va a) (hb:DG w vb b) (da:Dig a) (db:Dig b) (m:Nat) (ma:a.length≤m) (mb:b.length≤m) (mm:m≤1000000) :
  Calls Tryz.prog 107 #[va,vb] w (RetD (val a+val b) (m+1) w):=by
 obtain ⟨i0,hi,hz0,hz1,hz2⟩:=info_parts Tryz.infoU
 obtain ⟨aa,ca,rfl,ca1,ca2⟩:=dg_len ha
 obtain ⟨ab,cb,rfl,cb1,cb2⟩:=dg_len hb
 unfold maxLen at ca2 cb2
 go_enter Tryz.func107,Tryz.ntmps107
 go_wp2
 go_loopw [5,6,7] (fun v cv iv wr=>∃ (o:List Int) (c:Int),iv=.int .i64 o.length∧cv=.int .u64 c∧0≤c∧c≤1∧o.length≤m+1∧(o.length=m+1→c=0)∧OW wr w.heap.size v o∧Dig o∧val (a.take o.length)+val (b.take o.length)=val o+65536 ^ o.length*c∧Below w.heap.size w wr) (fun _ _ iv _=>m+2 - (intOf iv).toNat)
 case atStart=>exact ⟨[],0,rfl,rfl,by decide,by decide,Nat.zero_le _,fun h=>rfl,ow_start rfl (Nat.le_refl _),dig_nil,by simp [val],b_alloc (Below.refl _ _)⟩
 case round =>
  obtain ⟨o,c,rfl,rfl,c0,c1,ho,hlast,hown,dO,he,hB⟩:=hrel
  have hsz:=hB.size
  have cA:=digit_any _ a o.length wr (dg_keep ha hB) (by omega) (by omega)
  have cB:=digit_any _ b o.length wr (dg_keep hb hB) (by omega) (by omega)
  rw [Int.toNat_natCast] at cA cB
  have ga:=dig_getD da o.length
  have gb:=dig_getD db o.length
  have za:a.length≤o.length→a.getD o.length 0=0:=fun h=>by rw [List.getD_eq_getElem?_getD,List.getElem?_eq_none (by omega)]; rfl
  have zb:b.length≤o.length→b.getD o.length 0=0:=fun h=>by rw [List.getD_eq_getElem?_getD,List.getElem?_eq_none (by omega)]; rfl
  have st:=sum_step da db rfl he c0 c1
  generalize a.getD o.length 0=p at *
  generalize b.getD o.length 0=q at *
  have ST:=Lib.hid st
  have HE:=Lib.hid he
  have Z:=Lib.hid (And.intro za (And.intro zb hlast))
  clear st he za zb hlast
  by_cases stop:a.length≤o.length∧b.length≤o.length∧c=0
  ·obtain ⟨s1,s2,rfl⟩:=stop
   have t1:decide (o.length<a.length)=false:=by simp; omega
   have t2:decide (o.length<b.length)=false:=by simp; omega
   have fin:val o=val a+val b:=by
    have:=HE.out
    rw [val_take_all s1,val_take_all s2] at this
    omega
   have FI:=Lib.hid fin
   clear fin cA cB
   go_wp2
   go_ret
   exact ⟨_,o,rfl,dg_of_owns hown,dO,FI.out,ho,hB⟩
  ·have hm:o.length≤m:=by
    have:=Z.out.2.2
    omega
   have H1:∀ v' w1,World.ownsRow w1 w.heap.size 171 1 v' (o.length+1) (o.map (Value.int .u64) ++ [.int .u64 ((p+q+c) % 65536)])→OW w1 w.heap.size v' (o ++ [(p+q+c) % 65536]):=fun _ _ h=>ow_snoc h
   have H2:=Lib.hid H1
   clear H1
   have ways:(decide (o.length<a.length)=true)∨(decide (o.length<a.length)=false∧decide (o.length<b.length)=true)∨(decide (o.length<a.length)=false∧decide (o.length<b.length)=false∧0<c):=by
    by_cases h1:o.length<a.length
    ·exact Or.inl (by simpa using h1)
    ·by_cases h2:o.length<b.length
     ·exact Or.inr (Or.inl ⟨by simpa using h1,by simpa using h2⟩)
     ·exact Or.inr (Or.inr ⟨by simpa using h1,by simpa using h2,by omega⟩)
   clear stop
   rcases ways with t1 | ⟨t1,t2⟩ | ⟨t1,t2,t3⟩
   all_goals
    go_wp2_with (first
     | (go_at_call_of 106 (Value.slice aa a.length ca); refine cA.mono ?_; rintro e w' ⟨rfl,rfl⟩)
     | (go_at_call_of 106 (Value.slice ab b.length cb); refine cB.mono ?_; rintro e w' ⟨rfl,rfl⟩)
     | (at_builtin; refine wpList_append_own _ rfl _ _ 114 rfl w.heap.size 171 i0 (.int .u64 0) 1 8 Tryz.underlying114 hi hz0 hz1 hz2 rfl (by decide) _ _ _ rfl (World.ownsRow.alloc hown _) ⟨wr.heap.size,0,none⟩ 1 1 [.int .u64 ((p+q+c) % 65536)] rfl rfl ?c1 ?c2 ?c3 ?c4 ?c5 ?_))
    case c1 =>
     intro j u hj
     match j,hj with
     | 0,hj=>simp at hj; subst hj; simp [Addr.add]
    case c2=>intro u hu; simp at hu; subst hu; rfl
    case c3=>unfold maxLen; omega
    case c4=>omega
    case c5=>simp; omega
    intro v' w1 hown' hgrow _
    have R1:=H2.out _ _ hown'
    have R2:Below w.heap.size w w1:=(b_alloc hB).grown hgrow (by simp; omega) (ow_block hown)
    clear hown' hgrow hown H2 cA cB
    go_wp2
    go_roundw
    case rel =>
     refine ⟨o ++ [(p+q+c) % 65536],(p+q+c) / 65536,by simp,rfl,ST.out.2.1,ST.out.2.2,by simp; omega,?_,R1,dig_app dO (dig_one (by omega) (by omega)),by simpa using ST.out.1,R2⟩
     intro h
     simp at h
     have h1:=Z.out.1 (by omega)
     have h2:=Z.out.2.1 (by omega)
     omega
    case measure=>simp [intOf]; omega
theorem wrapB (x:Int):IntKind.u64.wrap x=x % 18446744073709551616:=IntKind.wrap_u64 x
theorem ow_draws {w:World} {base:Nat} {v:Value} {l:List Int} (h:OW w base v l) (n:Nat):OW (w.drewN n) base v l:=h
theorem rest_any (va vb:Value) (a b:List Int) (w:World) (ha:DG w va a) (hb:DG w vb b) (da:Dig a) (db:Dig b) (nb:Norm b) (hle:val b≤val a) (ma:a.length≤1000000) :
  Calls Tryz.prog 207 #[va,vb] w (RetD (val a - val b) a.length w):=by
 obtain ⟨i0,hi,hz0,hz1,hz2⟩:=info_parts Tryz.infoU
 obtain ⟨aa,ca,rfl,ca1,ca2⟩:=dg_len ha
 obtain ⟨ab,cb,rfl,cb1,cb2⟩:=dg_len hb
 unfold maxLen at ca2 cb2
 go_enter Tryz.func207,Tryz.ntmps207
 go_wp2
 go_loopw [5,6,7,8] (fun v cv iv _ wr=>∃ (o:List Int) (c:Int),iv=.int .i64 o.length∧cv=.int .u64 c∧0≤c∧c≤1∧o.length≤a.length∧OW wr w.heap.size v o∧Dig o∧val (a.take o.length) - val (b.take o.length)=val o - 65536 ^ o.length*c∧Below w.heap.size w wr) (fun _ _ iv _ _=>a.length - (intOf iv).toNat)
 case atStart=>exact ⟨[],0,rfl,rfl,by decide,by decide,Nat.zero_le _,ow_start rfl (Nat.le_refl _),dig_nil,by simp [val],b_alloc (Below.refl _ _)⟩
 case round =>
  obtain ⟨o,c,rfl,rfl,c0,c1,ho,hown,dO,he,hB⟩:=hrel
  have hsz:=hB.size
  by_cases hlt:o.length<a.length
  ·obtain ⟨ga,ca',e1,_,_,hca⟩:=dg_cell (dg_keep ha hB) o.length hlt
   simp at e1
   obtain ⟨rfl,rfl⟩:=e1
   have cB:∀ n,Calls Tryz.prog 106 #[.slice ab b.length cb,.int .i64 o.length] (wr.drewN n) fun e w'=>e=.returned (.int .u64 (b.getD o.length 0))∧w'=wr.drewN n:=fun n=>by
    have:=digit_any _ b o.length (wr.drewN n) (dg_keep hb (hB.trans (below_draws _ _ _))) (by omega) (by omega)
    rw [Int.toNat_natCast] at this
    exact this.mono fun _ _ h=>⟨h.1,h.2.symm⟩
   have gA:=dig_getD da o.length
   have gB:=dig_getD db o.length
   have st:=rest_step da db rfl he c0 c1
   clear ha hb he
   generalize a.getD o.length 0=p at *
   generalize b.getD o.length 0=q at *
   have ST:=Lib.hid st
   clear st
   have H1:∀ v' w1,World.ownsRow w1 w.heap.size 171 1 v' (o.length+1) (o.map (Value.int .u64) ++ [.int .u64 ((65536+p - q - c) % 65536)])→OW w1 w.heap.size v' (o ++ [(65536+p - q - c) % 65536]):=fun _ _ h=>ow_snoc h
   have H2:=Lib.hid H1
   clear H1
   have s1:IntKind.u64.wrap (65536+p)=65536+p:=by rw [wrapB]; omega
   have s2:IntKind.u64.wrap (65536+p - q)=65536+p - q:=by rw [wrapB]; omega
   have s3:IntKind.u64.wrap (65536+p - q - c)=65536+p - q - c:=by rw [wrapB]; omega
   go_wp2
   go_quiet ((go_at_call 106; exact Calls.quiet_of_same (cB _)))
   have hown2:=ow_draws hown nq
   have hB2:=hB.trans (below_draws w.heap.size wr nq)
   have hsz2:=hB2.size
   clear s1 s2 s3 cB hown hB
   generalize wr.drewN nq=wd at *
   go_wp2_with (at_builtin; refine wpList_append_own _ rfl _ _ 114 rfl w.heap.size 171 i0 (.int .u64 0) 1 8 Tryz.underlying114 hi hz0 hz1 hz2 rfl (by decide) _ _ _ rfl (World.ownsRow.alloc hown2 _) ⟨wd.heap.size,0,none⟩ 1 1 [.int .u64 ((65536+p - q - c) % 65536)] rfl rfl ?c1 ?c2 ?c3 ?c4 ?c5 ?_)
   case c1 =>
    intro j u hj
    match j,hj with
    | 0,hj=>simp at hj; subst hj; simp [Addr.add]
   case c2=>intro u hu; simp at hu; subst hu; rfl
   case c3=>unfold maxLen; omega
   case c4=>omega
   case c5=>simp; omega
   intro v' w1 hown' hgrow _
   have R1:=H2.out _ _ hown'
   have R2:Below w.heap.size w w1:=(b_alloc hB2).grown hgrow (by simp; omega) (ow_block hown2)
   clear hown' hgrow hown2 H2
   go_wp2
   go_roundw
   case rel=>exact ⟨o ++ [(65536+p - q - c) % 65536],1 - (65536+p - q - c) / 65536,by simp,rfl,ST.out.2.1,ST.out.2.2,by simp; omega,R1,dig_app dO (dig_one (by omega) (by omega)),by simpa using ST.out.1,R2⟩
   case measure=>simp [intOf]; omega
  ·obtain hl:o.length=a.length:=by omega
   have fin:val o=val a - val b:=rest_end da db nb dO hl (by rw [← hl]; exact he) c0 c1 hle
   have FI:=Lib.hid fin
   clear fin he
   go_wp2
   go_ret
   exact ⟨_,o,rfl,dg_of_owns hown,dO,FI.out,ho,hB⟩
end Go.Proofs.YtjifkmldigemkaaGreatDoor

import Derived.OwnWalkIn
import Derived.BigQuiet
import Derived.Test.YtmcchknilnejgaaGreatDoorKbj
import Derived.Test.YtmcchknilnejgaaGreatDoorKax
import Derived.Test.YtmcchknilnejgaaGreatDoorKbi
import Derived.Test.YtmcchknilnejgaaGreatDoorKbd
import Derived.Test.YtmcchknilnejgaaGreatDoorKbf
import Derived.Test.YtmcchknilnejgaaGreatDoorKbg
import Derived.Test.YtmcchknilnejgaaGreatDoorKaa
import Derived.Test.YtmcchknilnejgaaGreatDoorKag
import Derived.Test.YtmcchknilnejgaaGreatDoorKad
import Derived.Test.YtmcchknilnejgaaGreatDoorKab
import Derived.Test.YtmcchknilnejgaaGreatDoorKbh
import Derived.Test.YtmcchknilnejgaaGreatDoorKak
import Derived.Test.YtmcchknilnejgaaGreatDoorKam
import Derived.Test.YtmcchknilnejgaaGreatDoorKaj
import Derived.Test.YtmcchknilnejgaaGreatDoorKbb
import Derived.Test.YtmcchknilnejgaaGreatDoorKau
import Derived.Test.YtmcchknilnejgaaGreatDoorKae
import Derived.Test.YtmcchknilnejgaaGreatDoorKah
set_option maxHeartbeats 16000000
set_option maxRecDepth 20000
namespace Go.Proofs.YtmcchknilnejgaaGreatDoor
open Go.RowKit Go.Shelf Go.Joins
theorem br_br (h:Bool) (p:Int):br (br h p) (bv h p)=br h p:=by
 rcases three h p with e | e | e
 ·rw [e.2.2.2.1,e.2.2.2.2]; simp [br,e.2.1]
 ·rw [e.2.2.2.1]; rfl
 ·rw [e.2.2.1]; rfl
theorem bv_two (h:Bool) (p:Int):(br h p=true→h=true∧bv h p=p)∧(br h p=false→bv h p=0):=by
 rcases three h p with e | e | e
 ·exact ⟨fun _=>⟨e.1,e.2.2.2.2⟩,fun q=>(by rw [e.2.2.2.1] at q; cases q)⟩
 ·exact ⟨fun q=>(by rw [e.2.2.2.1] at q; cases q),fun _=>e.2.2.2.2⟩
 ·exact ⟨fun q=>(by rw [e.2.2.1] at q; cases q),fun _=>e.2.2.2⟩
theorem stp_none (x:Nat→Int) (C:Cn) (a:Int) (h:Bool) (p:Int) (s:Bool):stp x C a (br h p) (bv h p) s=stp x C a h p s:=by
 unfold stp
 rw [br_br]
 by_cases e:br h p=true
 ·rw [(br_gd e).2]
 ·replace e:br h p=false:=by simpa using e
  rw [e]
  unfold mid
  simp
theorem itr_none (x a p:Nat→Int) (h s:Nat→Bool):∀ k,itr x a (fun k=>bv (h k) (p k)) (fun k=>br (h k) (p k)) s k=itr x a p h s k
 | 0=>rfl
 | k+1=>by
  show (stp x (itr x a (fun k=>bv (h k) (p k)) (fun k=>br (h k) (p k)) s k) (a k) (br (h k) (p k)) (bv (h k) (p k)) (s k)).1=(stp x (itr x a p h s k) (a k) (h k) (p k) (s k)).1
  rw [itr_none x a p h s k,stp_none]
theorem otr_none (x a p:Nat→Int) (h s:Nat→Bool):otr x a (fun k=>bv (h k) (p k)) (fun k=>br (h k) (p k)) s=otr x a p h s:=funext fun k=>by
 show (stp x (itr x a (fun k=>bv (h k) (p k)) (fun k=>br (h k) (p k)) s k) (a k) (br (h k) (p k)) (bv (h k) (p k)) (s k)).2=(stp x (itr x a p h s k) (a k) (h k) (p k) (s k)).2
 rw [itr_none,stp_none]
abbrev tkl (a:Int) (h:Bool) (p:Int) (s:Bool):List Value:=[.int .i64 a,.bool h,.int .i64 p,.bool s]
def krow (a p:Nat→Int) (h s:Nat→Bool):Nat→List Value
 | 0=>[]
 | n+1=>krow a p h s n ++ tkl (a n) (h n) (p n) (s n)
theorem krow_len (a p:Nat→Int) (h s:Nat→Bool) (n:Nat):(krow a p h s n).length=n*4:=by
 induction n with
 | zero=>rfl
 | succ n ih=>rw [krow,List.length_append,ih]; simp; omega
theorem krow_at (a p:Nat→Int) (h s:Nat→Bool) (n k i:Nat) (hk:k<n) (hi:i<4):(krow a p h s n)[k*4+i]?=(tkl (a k) (h k) (p k) (s k))[i]?:=by
 induction n with
 | zero=>omega
 | succ n ih =>
  rw [krow]
  by_cases e:k=n
  ·subst e
   rw [List.getElem?_append_right (by rw [krow_len]; omega),krow_len]
   congr 1
   omega
  ·rw [List.getElem?_append_left (by rw [krow_len]; omega)]
   exact ih (by omega)
theorem info_tick:(Tryz.prog.info? 49).map (fun i=>(i.zero,i.size,i.bytes))=some (some (tk 0 false 0 false),4,32):=by kernel_rfl
theorem tk_new (w:World) (a:Int) (h:Bool) (p:Int) (s:Bool) (t:TypeId):∀ j u,(tkl a h p s)[j]?=some u→(w.alloc (Obj.cells #[.int .i64 a,.bool h,.int .i64 p,.bool s] t)).cell? ((⟨w.heap.size,0,none⟩:Addr).add j)=some u:=fun j u hu=>by
 have hadd:(⟨w.heap.size,0,none⟩:Addr).add j=⟨w.heap.size,j,none⟩:=by unfold Addr.add; split <;> simp_all
 rw [hadd,cell_of_row _ _ j _ _ _ (heap_alloc_last w _)]
 simpa using hu
theorem ticks_own {w:World} {B n:Nat} {t:TypeId} {v:Value} {a p:Nat→Int} {h s:Nat→Bool} (o:w.ownsRow B t 4 v n (krow a p h s n)) :
  ∃ sb cap,v=.slice sb n cap∧cap≤9223372036854775807∧n≤cap∧∀ k,k<n→∃ g off,sb=some ⟨g,off,none⟩∧TW w g (off+k*4) (a k) (h k) (p k) (s k):=by
 rcases o.2 with ⟨rfl,rfl⟩ | ⟨g,cap,cur,rfl,hB,hg,hc,hm,hs,ht⟩
 ·exact ⟨none,0,rfl,by decide,Nat.le_refl _,fun k hk=>absurd hk (Nat.not_lt_zero _)⟩
 ·refine ⟨_,cap,rfl,by unfold maxLen at hm; omega,hc,fun k hk=>⟨g,0,rfl,?_⟩⟩
  have add:∀ j,(⟨g,0,none⟩:Addr).add j=⟨g,j,none⟩:=fun j=>by unfold Addr.add; split <;> simp_all
  have C:∀ i u,i<4→(tkl (a k) (h k) (p k) (s k))[i]?=some u→w.cell? ⟨g,k*4+i,none⟩=some u:=fun i u hi hu=>by
   have c:=o.cells rfl _ _ ((krow_at a p h s n k i hk hi).trans hu)
   rwa [add] at c
  rw [Nat.zero_add]
  exact ⟨C 0 _ (by decide) rfl,C 1 _ (by decide) rfl,C 2 _ (by decide) rfl,C 3 _ (by decide) rfl⟩
theorem tr9_cells {w:World} {g n:Nat} {T:Nat→Td} (h:TR9 w g n T) {k:Nat} (hk:k<n):w.cell? ⟨g,k*9,none⟩=some (.int .i64 (T k).m)∧w.cell? ⟨g,k*9+1,none⟩=some (.bool (T k).vd)∧w.cell? ⟨g,k*9+2,none⟩=some (.bool (T k).ac)∧w.cell? ⟨g,k*9+3,none⟩=some (.bool (T k).rf)∧w.cell? ⟨g,k*9+4,none⟩=some (.bool (T k).hl)∧w.cell? ⟨g,k*9+5,none⟩=some (.bool (T k).gr)∧w.cell? ⟨g,k*9+6,none⟩=some (.int .i64 (T k).al)∧w.cell? ⟨g,k*9+7,none⟩=some (.int .i64 (T k).sp)∧w.cell? ⟨g,k*9+8,none⟩=some (.int .i64 (T k).bi) :=
 ⟨h k hk 0 (by decide),h k hk 1 (by decide),h k hk 2 (by decide),h k hk 3 (by decide),h k hk 4 (by decide),h k hk 5 (by decide),h k hk 6 (by decide),h k hk 7 (by decide),h k hk 8 (by decide)⟩
theorem row4 {w:World} {b:Nat} {t:TypeId} {c0 c1 c2 c3:Value} (h:w.heap[b]?=some (.cells #[c0,c1,c2,c3] t (0,0))):w.cell? ⟨b,0,none⟩=some c0∧w.cell? ⟨b,1,none⟩=some c1∧w.cell? ⟨b,2,none⟩=some c2∧w.cell? ⟨b,3,none⟩=some c3:=⟨(cell_of_row _ _ 0 _ _ _ h).trans rfl,(cell_of_row _ _ 1 _ _ _ h).trans rfl,(cell_of_row _ _ 2 _ _ _ h).trans rfl,(cell_of_row _ _ 3 _ _ _ h).trans rfl⟩
theorem channelNone_any (x:Nat→Int) (hx:C64 x) (a p:Nat→Int) (h s:Nat→Bool) (sa:Option Addr) (len cap:Nat) (hm:cap≤9223372036854775807) (hl:len≤cap) (w:World) (hc:∀ k,k<len→∃ g off,sa=some ⟨g,off,none⟩∧TW w g (off+k*4) (a k) (h k) (p k) (s k)) (T:Tb3 w):Calls Tryz.prog 5 #[cv x,.slice sa len cap] w (RetV (.bool true) w):=by
 by_cases hl2:len≤1000
 rotate_left
 ·have h2:(1000:Int)<(len:Int):=by omega
  have E0:Below w.heap.size w (w.alloc (Obj.cells #[.int .i64 (x 0),.int .i64 (x 1),.int .i64 (x 2),.int .i64 (x 3),.int .i64 (x 4),.int .i64 (x 5),.int .i64 (x 6),.int .i64 (x 7),.int .i64 (x 8),.int .i64 (x 9),.int .i64 (x 10),.int .i64 (x 11),.int .i64 (x 12),.int .i64 (x 13),.int .i64 (x 14),.int .i64 (x 15),.int .i64 (x 16),.int .i64 (x 17),.int .i64 (x 18),.int .i64 (x 19),.int .i64 (x 20),.int .i64 (x 21),.int .i64 (x 22),.int .i64 (x 23),.int .i64 (x 24),.int .i64 (x 25),.int .i64 (x 26),.int .i64 (x 27),.int .i64 (x 28),.int .i64 (x 29),.int .i64 (x 30)] 25)):=b_alloc (Below.refl _ _)
  replace T:=t3_keep E0 T
  go_enter Tryz.func5,Tryz.ntmps5
  go_wp2_with fail
  generalize (w.alloc (Obj.cells #[.int .i64 (x 0),.int .i64 (x 1),.int .i64 (x 2),.int .i64 (x 3),.int .i64 (x 4),.int .i64 (x 5),.int .i64 (x 6),.int .i64 (x 7),.int .i64 (x 8),.int .i64 (x 9),.int .i64 (x 10),.int .i64 (x 11),.int .i64 (x 12),.int .i64 (x 13),.int .i64 (x 14),.int .i64 (x 15),.int .i64 (x 16),.int .i64 (x 17),.int .i64 (x 18),.int .i64 (x 19),.int .i64 (x 20),.int .i64 (x 21),.int .i64 (x 22),.int .i64 (x 23),.int .i64 (x 24),.int .i64 (x 25),.int .i64 (x 26),.int .i64 (x 27),.int .i64 (x 28),.int .i64 (x 29),.int .i64 (x 30)] 25))=z0 at *
  refine (fixed_cha _ T).mono ?_
  rintro e_ y9 ⟨rfl,hb9⟩
  go_wp2
  go_ret
  exact ⟨rfl,b_trans E0 hb9⟩
 have h2:¬ (1000:Int)<(len:Int):=by omega
 have cr:CR (w.alloc (Obj.cells #[.int .i64 (x 0),.int .i64 (x 1),.int .i64 (x 2),.int .i64 (x 3),.int .i64 (x 4),.int .i64 (x 5),.int .i64 (x 6),.int .i64 (x 7),.int .i64 (x 8),.int .i64 (x 9),.int .i64 (x 10),.int .i64 (x 11),.int .i64 (x 12),.int .i64 (x 13),.int .i64 (x 14),.int .i64 (x 15),.int .i64 (x 16),.int .i64 (x 17),.int .i64 (x 18),.int .i64 (x 19),.int .i64 (x 20),.int .i64 (x 21),.int .i64 (x 22),.int .i64 (x 23),.int .i64 (x 24),.int .i64 (x 25),.int .i64 (x 26),.int .i64 (x 27),.int .i64 (x 28),.int .i64 (x 29),.int .i64 (x 30)] 25)) w.heap.size x:=cr_new
 have E0:Below w.heap.size w (w.alloc (Obj.cells #[.int .i64 (x 0),.int .i64 (x 1),.int .i64 (x 2),.int .i64 (x 3),.int .i64 (x 4),.int .i64 (x 5),.int .i64 (x 6),.int .i64 (x 7),.int .i64 (x 8),.int .i64 (x 9),.int .i64 (x 10),.int .i64 (x 11),.int .i64 (x 12),.int .i64 (x 13),.int .i64 (x 14),.int .i64 (x 15),.int .i64 (x 16),.int .i64 (x 17),.int .i64 (x 18),.int .i64 (x 19),.int .i64 (x 20),.int .i64 (x 21),.int .i64 (x 22),.int .i64 (x 23),.int .i64 (x 24),.int .i64 (x 25),.int .i64 (x 26),.int .i64 (x 27),.int .i64 (x 28),.int .i64 (x 29),.int .i64 (x 30)] 25)):=b_alloc (Below.refl _ _)
 replace T:=t3_keep E0 T
 obtain ⟨i0,hi,hz0,hz1,hz2⟩:=info_parts info_tick
 go_enter Tryz.func5,Tryz.ntmps5
 go_wp2
 generalize (w.alloc (Obj.cells #[.int .i64 (x 0),.int .i64 (x 1),.int .i64 (x 2),.int .i64 (x 3),.int .i64 (x 4),.int .i64 (x 5),.int .i64 (x 6),.int .i64 (x 7),.int .i64 (x 8),.int .i64 (x 9),.int .i64 (x 10),.int .i64 (x 11),.int .i64 (x 12),.int .i64 (x 13),.int .i64 (x 14),.int .i64 (x 15),.int .i64 (x 16),.int .i64 (x 17),.int .i64 (x 18),.int .i64 (x 19),.int .i64 (x 20),.int .i64 (x 21),.int .i64 (x 22),.int .i64 (x 23),.int .i64 (x 24),.int .i64 (x 25),.int .i64 (x 26),.int .i64 (x 27),.int .i64 (x 28),.int .i64 (x 29),.int .i64 (x 30)] 25))=z0 at *
 clear h2
 replace cr:=Lib.hid cr
 replace E0:=Lib.hid E0
 replace T:=Lib.hid T
 go_loopw [5,21] (fun tv_ iv wr=>∃ (k:Nat) (ov:Value),k≤len∧iv=.int .i64 k∧tv_=ov∧Hid (wr.ownsRow z0.heap.size 49 4 ov k (krow a (fun k=>bv (h k) (p k)) (fun k=>br (h k) (p k)) s k))∧Hid (Below z0.heap.size z0 wr)) (fun _ iv _=>len - (intOf iv).toNat)
 case atStart=>exact ⟨0,_,Nat.zero_le _,rfl,rfl,Lib.hid ⟨rfl,Or.inl ⟨rfl,rfl⟩⟩,Lib.hid (Below.refl _ _)⟩
 case round =>
  obtain ⟨k,ov,hk,rfl,rfl,HO,HE⟩:=hrel
  by_cases hlt:k<len
  ·obtain ⟨gs,off,rfl,tw⟩:=hc k hlt
   have gl:gs<w.heap.size:=World.block_lt_of_cell? w _ tw.1
   replace tw:=tw_keep (b_trans E0.out HE.out) tw
   have hlk:(k:Int)<len:=by omega
   have hk0:(0:Int)≤k:=by omega
   have hk1:(0:Int)≤(k:Int)+1:=by omega
   have hk2:(k:Int)+1≤cap:=by omega
   have ws:IntKind.i64.wrap ((k:Int)+1)=(k:Int)+1:=by rw [IntKind.wrap_i64]; omega
   have tn:((k:Int)+1).toNat=k+1:=by omega
   have cb:=rbrings_any (a k) (h k) (p k) (s k)
   have eK:Hid (krow a (fun k=>bv (h k) (p k)) (fun k=>br (h k) (p k)) s (k+1)=krow a (fun k=>bv (h k) (p k)) (fun k=>br (h k) (p k)) s k ++ tkl (a k) (br (h k) (p k)) (bv (h k) (p k)) (s k)):=Lib.hid rfl
   have hq:=Lib.hid (bv_two (h k) (p k))
   generalize krow a (fun k=>bv (h k) (p k)) (fun k=>br (h k) (p k)) s k=xs at *
   have ZB:Below wr.heap.size wr (wr.alloc (Obj.cells #[.int .i64 (a k),.bool (h k),.int .i64 (p k),.bool (s k)] 49)):=b_alloc (Below.refl _ _)
   have lW:=HE.out.size
   have kT:(wr.alloc (Obj.cells #[.int .i64 (a k),.bool (h k),.int .i64 (p k),.bool (s k)] 49)).heap[wr.heap.size]?=some (.cells #[.int .i64 (a k),.bool (h k),.int .i64 (p k),.bool (s k)] 49 (0,0)):=heap_alloc_last _ _
   have nV0:=Lib.hid (fun q hq=>Nat.ne_of_lt (HO.out.lt q hq).2)
   replace HO:=Lib.hid (own_chs (S:=fun _=>False) (chs_below ZB) (fun _ _ q=>q) HO.out)
   replace HE:=Lib.hid (b_trans HE.out ZB)
   clear ZB
   obtain ⟨t0,t1,t2,t3⟩:=tw
   replace hlt:=Lib.hid hlt
   go_wp2_with fail
   generalize wr.alloc (Obj.cells #[.int .i64 (a k),.bool (h k),.int .i64 (p k),.bool (s k)] 49)=y1 at *
   generalize wr.heap.size=V at *
   clear t0 t1 t2 t3
   refine (cb _).mono ?_
   rintro e_ y2 ⟨rfl,hb2⟩
   clear cb
   replace kT:=row_keep hb2 kT
   replace HO:=Lib.hid (own_chs (S:=fun _=>False) (chs_below hb2) (fun _ _ q=>q) HO.out)
   replace HE:=Lib.hid (b_trans HE.out hb2)
   clear hb2
   generalize br (h k) (p k)=bb at *
   generalize bv (h k) (p k)=pp at *
   generalize h k=hh at *
   generalize p k=p9 at *
   cases bb
   ·obtain rfl:=hq.out.2 rfl
    obtain ⟨t0,t1,t2,t3⟩:=row4 kT
    have f1:=frozen_of_row _ _ 1 _ _ kT
    have f2:=frozen_of_row _ _ 2 _ _ kT
    have kT2:((y2.setCell ⟨V,1,none⟩ (.bool false)).setCell ⟨V,2,none⟩ (.int .i64 0)).heap[V]?=some (.cells #[.int .i64 (a k),.bool false,.int .i64 0,.bool (s k)] 49 (0,0)):=(heap_setCell_same _ V 2 _ _ _ ((heap_setCell_same _ V 1 _ _ _ kT).trans rfl)).trans rfl
    obtain ⟨r0,r1,r2,r3⟩:=row4 kT2
    have kb:But V y2 ((y2.setCell ⟨V,1,none⟩ (.bool false)).setCell ⟨V,2,none⟩ (.int .i64 0)):=but_trans but_set but_set
    have lV:=(Array.getElem?_eq_some_iff.1 kT).1
    have nV:=nV0.out
    replace HO:=Lib.hid (own_chs (S:=fun q=>q=V) (chs_of_but kb rfl) nV HO.out)
    replace HE:=Lib.hid (below_but HE.out lW kb)
    clear hq kT kT2 kb nV
    go_wp2_with (with_reducible refine stop_at (some 37) rfl ?_)
    have hz:((y2.setCell ⟨V,1,none⟩ (.bool false)).setCell ⟨V,2,none⟩ (.int .i64 0)).heap.size=y2.heap.size:=by simp
    generalize ((y2.setCell ⟨V,1,none⟩ (.bool false)).setCell ⟨V,2,none⟩ (.int .i64 0))=y3 at *
    rw [← hz]
    clear hz f1 f2 t0 t1 t2 t3 r0 r1 r2 r3
    refine unstop ?_
    refine wpList_append_own _ rfl (.tmp 34) (.tmp 36) 26 rfl z0.heap.size 49 i0 (tk 0 false 0 false) 4 32 Tryz.underlying26 hi hz0 hz1 hz2 rfl (by decide) _ _ _ rfl (HO.out.alloc _) ⟨y3.heap.size,0,none⟩ 1 1 (tkl (a k) false 0 (s k)) rfl rfl (tk_new _ _ _ _ _ _) (fun u hu=>by simp at hu; rcases hu with rfl | rfl | rfl | rfl <;> rfl) (by unfold maxLen; have:=hlt.out; omega) (by have:=hlt.out; omega) (by have:=HE.out.size; simp; omega) ?_
    intro v5 y5 ho hg _
    have HE5:=Lib.hid (below_grown (b_alloc HE.out) hg (fun q hq=>(HO.out.lt q hq).1))
    have HO5:=Lib.hid ho
    clear ho hg HO HE
    go_wp2
    refine ⟨⟨k+1,v5,by have:=hlt.out; omega,by go_num,rfl,by rw [eK.out]; exact HO5,HE5⟩,?_⟩
    simp only [intOf]
    have:=hlt.out
    omega
   ·obtain ⟨rfl,rfl⟩:=hq.out.1 rfl
    obtain ⟨t0,t1,t2,t3⟩:=row4 kT
    clear hq kT
    go_wp2_with (with_reducible refine stop_at (some 37) rfl ?_)
    refine unstop ?_
    refine wpList_append_own _ rfl (.tmp 34) (.tmp 36) 26 rfl z0.heap.size 49 i0 (tk 0 false 0 false) 4 32 Tryz.underlying26 hi hz0 hz1 hz2 rfl (by decide) _ _ _ rfl (HO.out.alloc _) ⟨y2.heap.size,0,none⟩ 1 1 (tkl (a k) true pp (s k)) rfl rfl (tk_new _ _ _ _ _ _) (fun u hu=>by simp at hu; rcases hu with rfl | rfl | rfl | rfl <;> rfl) (by unfold maxLen; have:=hlt.out; omega) (by have:=hlt.out; omega) (by have:=HE.out.size; simp; omega) ?_
    intro v5 y5 ho hg _
    have HE5:=Lib.hid (below_grown (b_alloc HE.out) hg (fun q hq=>(HO.out.lt q hq).1))
    have HO5:=Lib.hid ho
    clear ho hg HO HE
    go_wp2
    refine ⟨⟨k+1,v5,by have:=hlt.out; omega,by go_num,rfl,by rw [eK.out]; exact HO5,HE5⟩,?_⟩
    simp only [intOf]
    have:=hlt.out
    omega
  ·have hlk:¬ (k:Int)<len:=by omega
   obtain rfl:k=len:=by omega
   obtain ⟨sb,cap2,rfl,m2,l2,hc2⟩:=ticks_own HO.out
   replace hc2:=Lib.hid hc2
   clear HO hlt hk
   have hcA:∀ j,j<k→∃ g off,sa=some ⟨g,off,none⟩∧TW wr g (off+j*4) (a j) (h j) (p j) (s j):=fun j hj=>by
    obtain ⟨g,off,e,t⟩:=hc j hj
    exact ⟨g,off,e,tw_keep (b_trans E0.out HE.out) t⟩
   replace hcA:=Lib.hid hcA
   have T1:=t3_keep HE.out T.out
   have cr1:=cr_keep HE.out cr.out
   clear T
   go_wp2_with (with_reducible refine stop_at (some 40) rfl ?_)
   refine unstop ?_
   refine wpList_load_row rfl 25 (.tmp 2) rfl w.heap.size rfl 25 _ (0,0) _ cr1 Tryz.underlying25 rfl (by kernel_rfl) ?_
   go_wp2_with fail
   by_cases ck:cks x=0
   rotate_left
   ·refine (chrun_bad x hx ck _ _).mono ?_
    rintro e_ y1 ⟨rfl,hb1⟩
    replace cr1:=cr_keep hb1 cr1
    have T2:=t3_keep hb1 T1
    go_wp2_with (with_reducible refine stop_at (some 46) rfl ?_)
    refine unstop ?_
    refine wpList_load_row rfl 25 (.tmp 2) rfl w.heap.size rfl 25 _ (0,0) _ cr1 Tryz.underlying25 rfl (by kernel_rfl) ?_
    go_wp2_with fail
    refine (chrun_bad x hx ck _ _).mono ?_
    rintro e_ y2 ⟨rfl,hb2⟩
    replace T2:=t3_keep hb2 T2
    go_wp2
    go_loopw [63] (fun iv wq=>iv=.int .i64 0∧wq=y2) (fun _ _=>0)
    case atStart=>exact ⟨rfl,rfl⟩
    case round =>
     obtain ⟨rfl,rfl⟩:=hrel
     go_wp2_with fail
     refine (fixed_cha _ T2).mono ?_
     rintro e_ y9 ⟨rfl,hb9⟩
     go_wp2
     go_ret
     exact ⟨rfl,b_trans (b_trans (b_trans (b_trans E0.out HE.out) hb1) hb2) hb9⟩
   refine (chrun_ok x hx ck a p h s sa k cap hm hl (by omega) _ hcA.out T1).mono ?_
   rintro e_ y1 ⟨g1,rfl,R1,hb1⟩
   replace cr1:=cr_keep hb1 cr1
   have T2:=t3_keep hb1 T1
   replace R1:=Lib.hid R1
   go_wp2_with (with_reducible refine stop_at (some 46) rfl ?_)
   refine unstop ?_
   refine wpList_load_row rfl 25 (.tmp 2) rfl w.heap.size rfl 25 _ (0,0) _ cr1 Tryz.underlying25 rfl (by kernel_rfl) ?_
   go_wp2_with fail
   refine (chrun_ok x hx ck a (fun k=>bv (h k) (p k)) (fun k=>br (h k) (p k)) s sb k cap2 m2 l2 (by omega) _ (fun j hj=>by
   obtain ⟨g,off,e,t⟩:=hc2.out j hj
   exact ⟨g,off,e,tw_keep hb1 t⟩) T2).mono ?_
   rintro e_ y2 ⟨g2,rfl,R2,hb2⟩
   rw [otr_none] at R2
   have R1':=tr9_keep hb2 R1.out
   have T3:=Lib.hid (t3_keep hb2 T2)
   have E3:=Lib.hid (b_trans (b_trans (b_trans E0.out HE.out) hb1) hb2)
   have tws:=tw_otr hx ck a p h s
   obtain ⟨O,hO⟩:∃ O,otr x a p h s=O:=⟨_,rfl⟩
   rw [hO] at R1' R2 tws
   clear hO
   replace R1':=Lib.hid R1'
   replace R2:=Lib.hid R2
   replace tws:=Lib.hid tws
   clear R1 hb1 hb2 T1 T2 cr1 hcA hc2 E0 HE cr
   go_wp2
   go_loopw [63] (fun iv wq=>∃ j:Nat,j≤k∧iv=.int .i64 j∧Hid (Below y2.heap.size y2 wq)) (fun iv _=>k - (intOf iv).toNat)
   case atStart=>exact ⟨0,Nat.zero_le _,rfl,Lib.hid (Below.refl _ _)⟩
   case round =>
    obtain ⟨j,hj,rfl,HQ⟩:=hrel
    by_cases jl:j<k
    ·have jlk:(j:Int)<k:=by omega
     have j0:(0:Int)≤j:=by omega
     have ws:IntKind.i64.wrap ((j:Int)+1)=(j:Int)+1:=by rw [IntKind.wrap_i64]; omega
     have t:=tws.out j
     have te:=fun w=>td_eq_self (m:=(O j).m) (vd:=(O j).vd) (ac:=(O j).ac) (rf:=(O j).rf) (ho:=(O j).hl) (gr:=(O j).gr) (al:=(O j).al) (sp:=(O j).sp) (bi:=(O j).bi) t.m t.a t.s t.b w
     obtain ⟨c0,c1,c2,c3,c4,c5,c6,c7,c8⟩:=tr9_cells (tr9_keep HQ.out R1'.out) jl
     obtain ⟨d0,d1,d2,d3,d4,d5,d6,d7,d8⟩:=tr9_cells (tr9_keep HQ.out R2.out) jl
     replace jl:=Lib.hid jl
     clear t
     generalize O j=Oj at *
     replace c0:=cell_regrown c0
     replace c1:=cell_regrown c1
     replace c2:=cell_regrown c2
     replace c3:=cell_regrown c3
     replace c4:=cell_regrown c4
     replace c5:=cell_regrown c5
     replace c6:=cell_regrown c6
     replace c7:=cell_regrown c7
     replace c8:=cell_regrown c8
     replace d0:=cell_regrown d0
     replace d1:=cell_regrown d1
     replace d2:=cell_regrown d2
     replace d3:=cell_regrown d3
     replace d4:=cell_regrown d4
     replace d5:=cell_regrown d5
     replace d6:=cell_regrown d6
     replace d7:=cell_regrown d7
     replace d8:=cell_regrown d8
     go_wp2
     refine wp_region_quiet_below (by kernel_rfl) (by kernel_rfl) ?_
     repeat (first | go_big_quiet_skip | (go_big_quiet_want; go_big_quiet_op; first | go_big_quiet_on))
     refine wpQuiet_nil ?_
     intro _ hw'
     obtain ⟨⟨dq,osq⟩,hw''⟩:=hw'
     subst hw''
     have S3:=Lib.hid (b_trans HQ.out (below_regrown _ dq osq))
     clear HQ c0 d0 c1 d1 c2 d2 c3 d3 c4 d4 c5 d5 c6 d6 c7 d7 c8 d8
     generalize Sort.grow (redrawn _ dq) osq=y8 at *
     go_wp2
     refine ⟨⟨j+1,by have:=jl.out; omega,by go_num,S3⟩,?_⟩
     simp only [intOf]
     have:=jl.out
     omega
    ·have jlk:¬ (j:Int)<k:=by omega
     have T4:=t3_keep HQ.out T3.out
     go_wp2_with fail
     refine (fixed_cha _ T4).mono ?_
     rintro e_ y9 ⟨rfl,hb9⟩
     go_wp2
     go_ret
     exact ⟨rfl,b_trans (b_trans E3.out HQ.out) hb9⟩
end Go.Proofs.YtmcchknilnejgaaGreatDoor

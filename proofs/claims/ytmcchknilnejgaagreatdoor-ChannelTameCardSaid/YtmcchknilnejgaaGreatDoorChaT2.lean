import Derived.DeepKeys
import Derived.Lib.SmallJoins
import Derived.Deep.WholeRow
import Derived.StillTactics
import Derived.Laws.Pointers
import Derived.Deep.RegionHeld3
import Derived.Deep.QuietTactic
import Derived.BigQuiet
import Derived.RowKit3
import Derived.Lib.Hide
import Derived.Lib.QuietBelow
import Derived.Laws.Bits64b
import Derived.Test.YtmcchknilnejgaaGreatDoorProg
import Derived.Shelf.Spec.BitsCarry
import Derived.Shelf.Bits.Mul64
import Derived.WalkKit
import Derived.WalkSpells
import Derived.Test.YtmcchknilnejgaaGreatDoorKbg
import Derived.Test.YtmcchknilnejgaaGreatDoorKbf
import Derived.Test.YtmcchknilnejgaaGreatDoorKbw
import Derived.Test.YtmcchknilnejgaaGreatDoorKag
import Derived.Test.YtmcchknilnejgaaGreatDoorKab
import Derived.Test.YtmcchknilnejgaaGreatDoorKaa
import Derived.Test.YtmcchknilnejgaaGreatDoorKbv
import Derived.Test.YtmcchknilnejgaaGreatDoorKaf
import Derived.Test.YtmcchknilnejgaaGreatDoorKbm
import Derived.Test.YtmcchknilnejgaaGreatDoorKak
import Derived.Test.YtmcchknilnejgaaGreatDoorKbd
import Derived.Test.YtmcchknilnejgaaGreatDoorKam
import Derived.Test.YtmcchknilnejgaaGreatDoorKas
import Derived.Test.YtmcchknilnejgaaGreatDoorKar
import Derived.Test.YtmcchknilnejgaaGreatDoorKaj
import Derived.Test.YtmcchknilnejgaaGreatDoorKad
import Derived.Test.YtmcchknilnejgaaGreatDoorKaq
import Derived.Test.YtmcchknilnejgaaGreatDoorKbe
import Derived.Test.YtmcchknilnejgaaGreatDoorKae
import Derived.Test.YtmcchknilnejgaaGreatDoorKbl
import Derived.Test.YtmcchknilnejgaaGreatDoorKau
import Derived.Test.YtmcchknilnejgaaGreatDoorKbt
set_option maxHeartbeats 16000000
set_option maxRecDepth 20000
namespace Go.Proofs.YtmcchknilnejgaaGreatDoor
open Go.RowKit Go.Shelf Go.Joins
theorem channelTame_any (x:Nat→Int) (hx:C64 x) (a p:Nat→Int) (h s:Nat→Bool) (sa:Option Addr) (len cap:Nat) (hm:cap≤9223372036854775807) (hl:len≤cap) (w:World) (hc:∀ k,k<len→∃ g off,sa=some ⟨g,off,none⟩∧TW w g (off+k*4) (a k) (h k) (p k) (s k)) (T:Tb3 w):Calls Tryz.prog 4 #[cv x,.slice sa len cap] w (RetV (.bool true) w):=by
 by_cases hl2:len≤1000
 rotate_left
 ·have h2:(1000:Int)<(len:Int):=by omega
  have E0:Below w.heap.size w (w.alloc (Obj.cells #[.int .i64 (x 0),.int .i64 (x 1),.int .i64 (x 2),.int .i64 (x 3),.int .i64 (x 4),.int .i64 (x 5),.int .i64 (x 6),.int .i64 (x 7),.int .i64 (x 8),.int .i64 (x 9),.int .i64 (x 10),.int .i64 (x 11),.int .i64 (x 12),.int .i64 (x 13),.int .i64 (x 14),.int .i64 (x 15),.int .i64 (x 16),.int .i64 (x 17),.int .i64 (x 18),.int .i64 (x 19),.int .i64 (x 20),.int .i64 (x 21),.int .i64 (x 22),.int .i64 (x 23),.int .i64 (x 24),.int .i64 (x 25),.int .i64 (x 26),.int .i64 (x 27),.int .i64 (x 28),.int .i64 (x 29),.int .i64 (x 30)] 25)):=b_alloc (Below.refl _ _)
  replace T:=t3_keep E0 T
  go_enter Tryz.func4,Tryz.ntmps4
  go_wp2_with fail
  generalize (w.alloc (Obj.cells #[.int .i64 (x 0),.int .i64 (x 1),.int .i64 (x 2),.int .i64 (x 3),.int .i64 (x 4),.int .i64 (x 5),.int .i64 (x 6),.int .i64 (x 7),.int .i64 (x 8),.int .i64 (x 9),.int .i64 (x 10),.int .i64 (x 11),.int .i64 (x 12),.int .i64 (x 13),.int .i64 (x 14),.int .i64 (x 15),.int .i64 (x 16),.int .i64 (x 17),.int .i64 (x 18),.int .i64 (x 19),.int .i64 (x 20),.int .i64 (x 21),.int .i64 (x 22),.int .i64 (x 23),.int .i64 (x 24),.int .i64 (x 25),.int .i64 (x 26),.int .i64 (x 27),.int .i64 (x 28),.int .i64 (x 29),.int .i64 (x 30)] 25))=z0 at *
  refine (fixed_cha _ T).mono ?_
  rintro e_ y9 ⟨rfl,hb9⟩
  go_wp2
  go_ret
  exact ⟨rfl,b_trans E0 hb9⟩
 have h2:¬ (1000:Int)<(len:Int):=by omega
 have cr:CR (w.alloc (Obj.cells #[.int .i64 (x 0),.int .i64 (x 1),.int .i64 (x 2),.int .i64 (x 3),.int .i64 (x 4),.int .i64 (x 5),.int .i64 (x 6),.int .i64 (x 7),.int .i64 (x 8),.int .i64 (x 9),.int .i64 (x 10),.int .i64 (x 11),.int .i64 (x 12),.int .i64 (x 13),.int .i64 (x 14),.int .i64 (x 15),.int .i64 (x 16),.int .i64 (x 17),.int .i64 (x 18),.int .i64 (x 19),.int .i64 (x 20),.int .i64 (x 21),.int .i64 (x 22),.int .i64 (x 23),.int .i64 (x 24),.int .i64 (x 25),.int .i64 (x 26),.int .i64 (x 27),.int .i64 (x 28),.int .i64 (x 29),.int .i64 (x 30)] 25)) w.heap.size x:=cr_new
 have E0:Below w.heap.size w (w.alloc (Obj.cells #[.int .i64 (x 0),.int .i64 (x 1),.int .i64 (x 2),.int .i64 (x 3),.int .i64 (x 4),.int .i64 (x 5),.int .i64 (x 6),.int .i64 (x 7),.int .i64 (x 8),.int .i64 (x 9),.int .i64 (x 10),.int .i64 (x 11),.int .i64 (x 12),.int .i64 (x 13),.int .i64 (x 14),.int .i64 (x 15),.int .i64 (x 16),.int .i64 (x 17),.int .i64 (x 18),.int .i64 (x 19),.int .i64 (x 20),.int .i64 (x 21),.int .i64 (x 22),.int .i64 (x 23),.int .i64 (x 24),.int .i64 (x 25),.int .i64 (x 26),.int .i64 (x 27),.int .i64 (x 28),.int .i64 (x 29),.int .i64 (x 30)] 25)):=b_alloc (Below.refl _ _)
 replace T:=t3_keep E0 T
 go_enter Tryz.func4,Tryz.ntmps4
 go_wp2_with (with_reducible refine stop_at (some 19) rfl ?_)
 generalize (w.alloc (Obj.cells #[.int .i64 (x 0),.int .i64 (x 1),.int .i64 (x 2),.int .i64 (x 3),.int .i64 (x 4),.int .i64 (x 5),.int .i64 (x 6),.int .i64 (x 7),.int .i64 (x 8),.int .i64 (x 9),.int .i64 (x 10),.int .i64 (x 11),.int .i64 (x 12),.int .i64 (x 13),.int .i64 (x 14),.int .i64 (x 15),.int .i64 (x 16),.int .i64 (x 17),.int .i64 (x 18),.int .i64 (x 19),.int .i64 (x 20),.int .i64 (x 21),.int .i64 (x 22),.int .i64 (x 23),.int .i64 (x 24),.int .i64 (x 25),.int .i64 (x 26),.int .i64 (x 27),.int .i64 (x 28),.int .i64 (x 29),.int .i64 (x 30)] 25))=z0 at *
 clear h2
 refine unstop ?_
 refine wpList_load_row rfl 25 (.tmp 2) rfl w.heap.size rfl 25 _ (0,0) _ cr Tryz.underlying25 rfl (by kernel_rfl) ?_
 go_wp2_with fail
 by_cases ck:cks x=0
 rotate_left
 ·refine (chnew_bad x hx ck _).mono ?_
  rintro e_ y1 ⟨rfl,hb1⟩
  have T1:=t3_keep hb1 T
  go_wp2_with fail
  refine (fixed_cha _ T1).mono ?_
  rintro e_ y9 ⟨rfl,hb9⟩
  go_wp2
  go_ret
  exact ⟨rfl,b_trans (b_trans E0 hb1) hb9⟩
 refine (chnew_ok x hx ck _ T).mono ?_
 rintro e_ y1 ⟨b,fb,gb,rfl,c0,h0,h1,h2,hb1⟩
 have S:=Lib.hid (lc_new (Below.refl _ _) T c0 h0 h1 h2 hb1)
 clear T c0 h0 h1 h2 hb1
 have vt:=vt_itr (cn_of ck) a p h s
 have om:=ok_itr hx ck a p h s
 replace vt:=Lib.hid vt
 replace om:=Lib.hid om
 go_wp2
 go_loopw [36] (fun iv wr=>∃ (k:Nat) (h1:Value),k≤len∧iv=.int .i64 k∧Hid (LC z0 b fb gb h1 x (itr x a p h s k) wr)) (fun iv _=>len - (intOf iv).toNat)
 case atStart=>exact ⟨0,_,Nat.zero_le _,rfl,S⟩
 case round =>
  clear S
  obtain ⟨k,h1,hk,rfl,S⟩:=hrel
  by_cases hlt:k<len
  ·obtain ⟨gs,off,rfl,tw⟩:=hc k hlt
   have gl:gs<w.heap.size:=World.block_lt_of_cell? w _ tw.1
   replace tw:=tw_keep (b_trans E0 S.out.b) tw
   have hlk:(k:Int)<len:=by omega
   have hk0:(0:Int)≤k:=by omega
   have hk1:(0:Int)≤(k:Int)+1:=by omega
   have hk2:(k:Int)+1≤cap:=by omega
   have ws:IntKind.i64.wrap ((k:Int)+1)=(k:Int)+1:=by rw [IntKind.wrap_i64]; omega
   have tn:((k:Int)+1).toNat=k+1:=by omega
   have ro:=itr_r x a p h s k
   have ok:=ok_itr hx ck a p h s k
   have Z:Below wr.heap.size wr (wr.alloc (Obj.cells #[.int .i64 (a k),.bool (h k),.int .i64 (p k),.bool (s k)] 49)):=b_alloc (Below.refl _ _)
   have S1:=Lib.hid (lc_keep S.out Z)
   have cs:=step_any (b:=b) (fb:=fb) (gb:=gb) (hl:=h1) hx ck (C:=(itr x a p h s k)) ok (by omega) (a k) (h k) (p k) (s k) _ S1.out.c S1.out.t
   replace hlt:=Lib.hid hlt
   obtain ⟨t0,t1,t2,t3⟩:=tw
   clear ro ok Z S
   go_wp2_with fail
   refine cs.mono ?_
   rintro e_ y3 ⟨rfl,h2,c2,q2,k2⟩
   have S2:=Lib.hid (lc_step S1.out c2 q2 k2)
   clear cs c2 q2 k2 S1 t0 t1 t2 t3
   have om1:=om.out (k+1)
   have vt1:=vt.out (k+1)
   obtain ⟨R,hR⟩:∃ R,stp x (itr x a p h s k) (a k) (h k) (p k) (s k)=R:=⟨_,rfl⟩
   have eI:Hid ((itr x a p h s (k+1))=R.1):=Lib.hid (by rw [← hR]; rfl)
   have e2:R.2.vd=vld R.1.m∧R.2.al=(if vld R.1.m then evn (R.1.v 0) 16777216 else 0)∧R.2.sp=(if vld R.1.m then evn (R.1.v 1) 16777216 else 0)∧R.2.bi=(if vld R.1.m then evn (R.1.v 2) 16777216 else 0):=by rw [← hR]; exact ⟨rfl,rfl,rfl,rfl⟩
   rw [eI.out] at om1 vt1
   rw [hR] at S2 ⊢
   clear hR
   obtain ⟨C1,m9,vd,ac,rf,ho,gr,al,sp,bi⟩:=R
   dsimp only at e2 S2 om1 vt1 eI ⊢
   replace e2:=Lib.hid e2
   replace om1:=Lib.hid om1
   replace vt1:=Lib.hid vt1
   have dD:TDR (y3.alloc (Obj.cells #[.int .i64 m9,.bool vd,.bool ac,.bool rf,.bool ho,.bool gr,.int .i64 al,.int .i64 sp,.int .i64 bi] 51)) y3.heap.size ⟨m9,vd,ac,rf,ho,gr,al,sp,bi⟩:=heap_alloc_last _ _
   have b3:Below y3.heap.size y3 (y3.alloc (Obj.cells #[.int .i64 m9,.bool vd,.bool ac,.bool rf,.bool ho,.bool gr,.int .i64 al,.int .i64 sp,.int .i64 bi] 51)):=b_alloc (Below.refl _ _)
   replace S2:=Lib.hid (lc_keep S2.out b3)
   clear b3
   go_wp2_with fail
   generalize (y3.alloc (Obj.cells #[.int .i64 m9,.bool vd,.bool ac,.bool rf,.bool ho,.bool gr,.int .i64 al,.int .i64 sp,.int .i64 bi] 51))=y4 at *
   generalize y3.heap.size=D at *
   refine (chstate_any b fb gb h2 x C1.m C1.s C1.v C1.u _ S2.out.c.c).mono ?_
   rintro e_ y5 ⟨rfl,hb5⟩
   replace S2:=Lib.hid (lc_keep S2.out hb5)
   replace dD:=row_keep hb5 dD
   clear hb5
   have b3:Below y5.heap.size y5 ((y5.alloc (Obj.cells #[.int .i64 (C1.v 0),.int .i64 (C1.v 1),.int .i64 (C1.v 2)] 23)).alloc (Obj.cells #[.int .i64 (C1.u 0),.int .i64 (C1.u 1),.int .i64 (C1.u 2),.int .i64 (C1.u 3),.int .i64 (C1.u 4),.int .i64 (C1.u 5)] 40)):=b_alloc (b_alloc (Below.refl _ _))
   have kV:VR ((y5.alloc (Obj.cells #[.int .i64 (C1.v 0),.int .i64 (C1.v 1),.int .i64 (C1.v 2)] 23)).alloc (Obj.cells #[.int .i64 (C1.u 0),.int .i64 (C1.u 1),.int .i64 (C1.u 2),.int .i64 (C1.u 3),.int .i64 (C1.u 4),.int .i64 (C1.u 5)] 40)) y5.heap.size C1.v:=lay_old _ _ _
   have kS:((y5.alloc (Obj.cells #[.int .i64 (C1.v 0),.int .i64 (C1.v 1),.int .i64 (C1.v 2)] 23)).alloc (Obj.cells #[.int .i64 (C1.u 0),.int .i64 (C1.u 1),.int .i64 (C1.u 2),.int .i64 (C1.u 3),.int .i64 (C1.u 4),.int .i64 (C1.u 5)] 40)).heap[y5.heap.size+1]?=some (.cells #[.int .i64 (C1.u 0),.int .i64 (C1.u 1),.int .i64 (C1.u 2),.int .i64 (C1.u 3),.int .i64 (C1.u 4),.int .i64 (C1.u 5)] 40 (0,0)):=lay_new _ _ _
   replace S2:=Lib.hid (lc_keep S2.out b3)
   replace dD:=row_keep b3 dD
   clear b3
   go_wp2_with fail
   generalize ((y5.alloc (Obj.cells #[.int .i64 (C1.v 0),.int .i64 (C1.v 1),.int .i64 (C1.v 2)] 23)).alloc (Obj.cells #[.int .i64 (C1.u 0),.int .i64 (C1.u 1),.int .i64 (C1.u 2),.int .i64 (C1.u 3),.int .i64 (C1.u 4),.int .i64 (C1.u 5)] 40))=y6 at *
   generalize y5.heap.size=V at *
   refine (chclock_any b fb gb h2 x C1.m C1.s C1.v C1.u _ S2.out.c.c).mono ?_
   rintro e_ y7 ⟨rfl,hb7⟩
   replace S2:=Lib.hid (lc_keep S2.out hb7)
   replace dD:=row_keep hb7 dD
   replace kV:=row_keep hb7 kV
   replace kS:=row_keep hb7 kS
   clear hb7
   have cr1:=cr_keep S2.out.b cr
   obtain ⟨d0,d1,d2,d3,d4,d5,d6,d7,d8⟩:=row9 dD
   obtain ⟨v0,v1,v2⟩:=vr_tc kV
   obtain ⟨u0,u1,u2,u3,u4,u5⟩:=row6 kS
   have x11:y7.cell? ⟨w.heap.size,11,none⟩=some (.int .i64 (x 11)):=(cell_of_row _ _ 11 _ _ _ cr1).trans rfl
   have x12:y7.cell? ⟨w.heap.size,12,none⟩=some (.int .i64 (x 12)):=(cell_of_row _ _ 12 _ _ _ cr1).trans rfl
   have x13:y7.cell? ⟨w.heap.size,13,none⟩=some (.int .i64 (x 13)):=(cell_of_row _ _ 13 _ _ _ cr1).trans rfl
   have x14:y7.cell? ⟨w.heap.size,14,none⟩=some (.int .i64 (x 14)):=(cell_of_row _ _ 14 _ _ _ cr1).trans rfl
   have x15:y7.cell? ⟨w.heap.size,15,none⟩=some (.int .i64 (x 15)):=(cell_of_row _ _ 15 _ _ _ cr1).trans rfl
   have x16:y7.cell? ⟨w.heap.size,16,none⟩=some (.int .i64 (x 16)):=(cell_of_row _ _ 16 _ _ _ cr1).trans rfl
   have x17:y7.cell? ⟨w.heap.size,17,none⟩=some (.int .i64 (x 17)):=(cell_of_row _ _ 17 _ _ _ cr1).trans rfl
   have x18:y7.cell? ⟨w.heap.size,18,none⟩=some (.int .i64 (x 18)):=(cell_of_row _ _ 18 _ _ _ cr1).trans rfl
   have x19:y7.cell? ⟨w.heap.size,19,none⟩=some (.int .i64 (x 19)):=(cell_of_row _ _ 19 _ _ _ cr1).trans rfl
   have x29:y7.cell? ⟨w.heap.size,29,none⟩=some (.int .i64 (x 29)):=(cell_of_row _ _ 29 _ _ _ cr1).trans rfl
   replace d1:=cell_regrown d1
   replace d6:=cell_regrown d6
   replace d7:=cell_regrown d7
   replace d8:=cell_regrown d8
   replace v0:=cell_regrown v0
   replace v1:=cell_regrown v1
   replace v2:=cell_regrown v2
   replace u0:=cell_regrown u0
   replace u1:=cell_regrown u1
   replace u2:=cell_regrown u2
   replace u3:=cell_regrown u3
   replace u4:=cell_regrown u4
   replace u5:=cell_regrown u5
   replace x11:=cell_regrown x11
   replace x12:=cell_regrown x12
   replace x13:=cell_regrown x13
   replace x14:=cell_regrown x14
   replace x15:=cell_regrown x15
   replace x16:=cell_regrown x16
   replace x17:=cell_regrown x17
   replace x18:=cell_regrown x18
   replace x19:=cell_regrown x19
   replace x29:=cell_regrown x29
   clear dD kV kS cr1 d0 d2 d3 d4 d5
   obtain ⟨ev,ea,es,eb⟩:=e2.out
   by_cases vv:vld C1.m=true
   rotate_left
   ·rw [if_neg vv] at ea es eb
    replace vv:vld C1.m=false:=by simpa using vv
    rw [vv] at ev
    subst ev ea es eb
    clear e2 om1 vt1 vt om
    go_wp2
    refine wp_region_quiet_below (by kernel_rfl) (by kernel_rfl) ?_
    repeat (first | go_big_quiet_skip | (go_big_quiet_want; go_big_quiet_op; first | go_big_quiet_on))
    refine wpQuiet_nil ?_
    intro _ hw'
    obtain ⟨⟨dq,osq⟩,hw''⟩:=hw'
    subst hw''
    have S3:=Lib.hid (lc_keep S2.out (below_regrown y7 dq osq))
    clear S2 d1 d6 d7 d8 v0 v1 v2 u0 u1 u2 u3 u4 u5 x11 x12 x13 x14 x15 x16 x17 x18 x19 x29
    generalize Sort.grow (redrawn y7 dq) osq=y8 at *
    go_wp2
    refine ⟨⟨k+1,h2,hlt.out,by go_num,by rw [eI.out]; exact S3⟩,?_⟩
    simp only [intOf]
    have:=hlt.out
    omega
   rw [if_pos vv] at ea es eb
   have TT_:=vt1.out vv
   rw [vv] at ev
   subst ev
   clear e2 vt1 vt om vv
   obtain ⟨qq,QR,_⟩:=tmd_ok (cn_of ck) C1.u
   have cn:=cn_of ck
   have cI:∀ w,PL w→Calls Tryz.prog 19 #[sv C1.u,tv (x 11) (x 12) (x 13),tv (x 14) (x 15) (x 16)] w (RetV (.bool true) w):=fun w hp=>by
      have q:=is_ok C1.u (x 11) (x 12) (x 13) (x 14) (x 15) (x 16) _ _ _ om1.out.u cn.f0 cn.f1 cn.f2 QR w hp
      rwa [sqb_same ((tmz_stays cn.f0 cn.f1 cn.f2 QR).2 TT_.t)] at q
   have iv:=om1.out.v
   have cC:∀ w,Calls Tryz.prog 20 #[tv (C1.v 0) (C1.v 1) (C1.v 2),tv (x 17) (x 18) (x 19)] w (RetV (tv (C1.v 0) (C1.v 1) (C1.v 2)) w):=fun w=>by
      have q:=clamp_vec (C1.v 0) (C1.v 1) (C1.v 2) (x 17) (x 18) (x 19) (iv 0 (by decide)) (iv 1 (by decide)) (iv 2 (by decide)) (hx 17 (by decide)) (hx 18 (by decide)) (hx 19 (by decide)) w
      rwa [show clz (C1.v 0) (x 17)=C1.v 0 from TT_.v.1,show clz (C1.v 1) (x 18)=C1.v 1 from TT_.v.2.1,show clz (C1.v 2) (x 19)=C1.v 2 from TT_.v.2.2] at q
   have cO:∀ w,Calls Tryz.prog 21 #[.int .i64 (C1.v 0)] w (RetV (.int .i64 al) w):=fun w=>by
      have q:=out_ref (C1.v 0) (iv 0 (by decide)).1 (iv 0 (by decide)).2 w
      rwa [← ea] at q
   have so:decide (x 29<C1.s)=false:=by have:=TT_.s; rw [decide_eq_false]; omega
   have hve:=vec_eq_self
   have c0:=fun d os=>Calls.regrown_of (cI _ (pl_keep (below_regrown y7 d os) S2.out.t.1))
   have c1:=retV_regrown (w:=y7) cC
   have c2:=retV_regrown (w:=y7) cO
   clear cI cC cO iv cn QR TT_ om1 ea es eb
   go_wp2
   refine wp_region_quiet_below (by kernel_rfl) (by kernel_rfl) ?_
   repeat (first | go_big_quiet_skip | (go_big_quiet_want; go_big_quiet_op; first | go_big_quiet_on | (apply Exists.intro; refine ⟨fun _=>?_,?_⟩; (with_reducible first | exact c0 _ _ | exact c1 _ _ | exact c2 _ _); go_big_quiet_on)))
   refine wpQuiet_nil ?_
   intro _ hw'
   obtain ⟨⟨dq,osq⟩,hw''⟩:=hw'
   subst hw''
   have S3:=Lib.hid (lc_keep S2.out (below_regrown y7 dq osq))
   clear S2 d1 d6 d7 d8 v0 v1 v2 u0 u1 u2 u3 u4 u5 x11 x12 x13 x14 x15 x16 x17 x18 x19 x29 c0 c1 c2
   generalize Sort.grow (redrawn y7 dq) osq=y8 at *
   go_wp2
   refine ⟨⟨k+1,h2,hlt.out,by go_num,by rw [eI.out]; exact S3⟩,?_⟩
   simp only [intOf]
   have:=hlt.out
   omega
  ·have hlk:¬ (k:Int)<len:=by omega
   obtain rfl:k=len:=by omega
   clear vt om hlt hk
   go_wp2_with fail
   refine (fixed_cha _ S.out.t).mono ?_
   rintro e_ y9 ⟨rfl,hb9⟩
   go_wp2
   go_ret
   exact ⟨rfl,b_trans E0 (b_trans S.out.b hb9)⟩
end Go.Proofs.YtmcchknilnejgaaGreatDoor

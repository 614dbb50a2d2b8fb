import Derived.Orders
import Derived.RegionTactic
import Derived.Below
import Derived.Test.YtjifkmldigemkaaGreatDoorTbp
import Derived.Test.YtjifkmldigemkaaGreatDoorTag
import Derived.Test.YtjifkmldigemkaaGreatDoorTbv
import Derived.Test.YtjifkmldigemkaaGreatDoorTbo
import Derived.Test.YtjifkmldigemkaaGreatDoorTaa
import Derived.Test.YtjifkmldigemkaaGreatDoorTbt
import Derived.Test.YtjifkmldigemkaaGreatDoorTab
import Derived.Test.YtjifkmldigemkaaGreatDoorTah
import Derived.Test.YtjifkmldigemkaaGreatDoorTae
import Derived.Test.YtjifkmldigemkaaGreatDoorTaf
import Derived.Test.YtjifkmldigemkaaGreatDoorTbs
import Derived.Test.YtjifkmldigemkaaGreatDoorTbu
import Derived.Test.YtjifkmldigemkaaGreatDoorTak
import Derived.Test.YtjifkmldigemkaaGreatDoorTap
set_option maxHeartbeats 4000000
set_option maxRecDepth 10000
namespace Go.Proofs.YtjifkmldigemkaaGreatDoor
open Go.RowKit Go.Shelf Go.Joins
theorem rpower_40 (w:World):Calls Tryz.prog 45 #[.int .i64 40] w (RetB 1099511627776 w):=by
 have:=power_any 40 (by decide) w
 rwa [show (2:Int) ^ 40=1099511627776 by decide] at this
def RetTab (w:World) (e:Ending) (w':World):Prop:=∃ b,e=.returned (.slice (some ⟨b,0,none⟩) 47 47)∧(∀ k,k<47→w'.cell? ⟨b,k,none⟩=some (.int .i64 (tb k)))∧Below w.heap.size w w'
theorem tbl_cells (k:Nat) (h:k<47):(tbl.map fun n=>Value.int .i64 n).toArray[k]?=some (.int .i64 (tb k)):=by
 have hl:k<tbl.length:=h
 simp [tb,hl]
theorem rtable_any (w:World):Calls Tryz.prog 42 #[] w (RetTab w):=by
 have hc:∀ k,k<47→(w.alloc (Obj.cells (tbl.map fun n=>Value.int .i64 n).toArray 2)).cell? ⟨w.heap.size,k,none⟩=some (.int .i64 (tb k)):=fun k hk=>by
  rw [cell_of_row _ _ k _ _ _ (heap_alloc_last w _)]
  exact tbl_cells k hk
 have HC:=Lib.hid hc
 clear hc
 go_enter Tryz.func42,Tryz.ntmps42
 go_wp2
 go_ret
 exact ⟨_,rfl,HC.out,b_alloc (Below.refl _ _)⟩
theorem rheight_any (i:Nat) (hi:i≤46) (w:World):Calls Tryz.prog 48 #[.int .i64 i] w (RetV (.int .i64 (ht i)) w):=by
 have w1:IntKind.i64.wrap (256*(i:Int))=256*(i:Int):=by rw [IntKind.wrap_i64]; omega
 have w2:IntKind.i64.wrap (256*(i:Int) - 512)=256*(i:Int) - 512:=by rw [IntKind.wrap_i64]; omega
 have w3:IntKind.i64.wrap ((256*(i:Int) - 512)*1099511627776)=ht i:=by unfold ht; rw [IntKind.wrap_i64]; omega
 go_enter Tryz.func48,Tryz.ntmps48
 go_wp2
 go_ret
 exact ⟨rfl,Below.refl _ _⟩
theorem raltitude_bad (p:Int) (g:gd p=false) (w:World):Calls Tryz.prog 17 #[.int .i64 p] w (RetV (.tuple #[.int .i64 0,.int .i64 2]) w):=by
 have cg:=rgood_any p
 rw [g] at cg
 clear g
 go_enter Tryz.func17,Tryz.ntmps17
 go_wp2_with fail
 refine (cg _).mono ?_
 rintro e y0 ⟨rfl,E⟩
 clear cg
 go_wp2
 go_ret2
 exact ⟨rfl,E⟩
theorem raltitude_ok (p:Int) (g:gd p=true) (w:World):Calls Tryz.prog 17 #[.int .i64 p] w (RetV (.tuple #[.int .i64 (al p),.int .i64 0]) w):=by
 have cg:=rgood_any p
 rw [g] at cg
 have gr:=gd_range g
 go_enter Tryz.func17,Tryz.ntmps17
 go_wp2_with fail
 refine (cg _).mono ?_
 rintro e y0 ⟨rfl,E⟩
 clear cg
 go_wp2_with fail
 refine (rtable_any _).mono ?_
 rintro e y1 ⟨b,rfl,hc,hb⟩
 replace E:=b_trans E hb
 clear hb
 go_wp2
 go_loopw [5,6] (fun lv iv wr=>∃ k:Nat,k≤47∧iv=.int .i64 k∧lv=.int .i64 (lat p (k - 1):Nat)∧Below y1.heap.size y1 wr) (fun _ iv _=>47 - (intOf iv).toNat)
 case atStart=>exact ⟨0,Nat.zero_le _,rfl,rfl,Below.refl _ _⟩
 case round =>
  obtain ⟨k,hk,rfl,rfl,hb⟩:=hrel
  by_cases hlt:k<47
  ·have c0:=cell_keep hb (hc k hlt)
   have hlk:(k:Int)<47:=by omega
   have hk0:(0:Int)≤k:=by omega
   have ws:IntKind.i64.wrap ((k:Int)+1)=(k:Int)+1:=by rw [IntKind.wrap_i64]; omega
   have hk2:k+1≤47:=by omega
   by_cases c:p≤tb k
   ·have e1:Hid (lat p k=k):=Lib.hid (by
     cases k with
     | zero=>rfl
     | succ j=>exact lat_yes c)
    generalize tb k=t at *
    generalize lat p (k - 1)=m at *
    clear g hc gr E
    go_wp2
    refine ⟨⟨k+1,hk2,rfl,by rw [Nat.add_sub_cancel,e1.out],hb⟩,?_⟩
    simp only [intOf]
    omega
   ·have e1:Hid (lat p k=lat p (k - 1)):=Lib.hid (by
     cases k with
     | zero=>exact absurd gr.2 c
     | succ j=>exact lat_no c)
    generalize tb k=t at *
    obtain ⟨m,hm⟩:∃ m,lat p (k - 1)=m:=⟨_,rfl⟩
    rw [hm] at e1
    rw [hm]
    clear g hc gr hm E
    go_wp2
    refine ⟨⟨k+1,hk2,rfl,by rw [Nat.add_sub_cancel,e1.out],hb⟩,?_⟩
    simp only [intOf]
    omega
  ·have hlk:¬ (k:Int)<47:=by omega
   have e:k=47:=by omega
   subst e
   replace E:=b_trans E hb
   obtain ⟨u0,u1,u2⟩:=un_spec g
   have q0:=cell_keep hb (hc (un p) (by omega))
   have q1:=cell_keep hb (hc (un p+1) (by omega))
   obtain ⟨d0,d1,d2⟩:=dn_wd g
   have pr:=pt_range g
   have r0:=tb_range (i:=un p) (by omega)
   have r1:=tb_range (i:=un p+1) (by omega)
   have ch:=rheight_any (un p) (by omega)
   have eal:=Lib.hid (show al p=ht (un p)+pt p from rfl)
   have hh:ht (un p)=-562949953421312+281474976710656*(un p:Int):=rfl
   have hq:Hid (qd (256*dn p*1099511627776) (wd p)=pt p):=Lib.hid (by
    unfold qd pt
    rw [if_neg (by omega),show 256*dn p*1099511627776=281474976710656*dn p by omega])
   have wd1:IntKind.i64.wrap (tb (un p) - p)=dn p:=by unfold dn; rw [IntKind.wrap_i64]; omega
   have wd2:IntKind.i64.wrap (tb (un p) - tb (un p+1))=wd p:=by unfold wd; rw [IntKind.wrap_i64]; omega
   have wd3:IntKind.i64.wrap (256*dn p)=256*dn p:=by rw [IntKind.wrap_i64]; omega
   have wd6:IntKind.i64.wrap (ht (un p)+pt p)=ht (un p)+pt p:=by rw [IntKind.wrap_i64]; omega
   have hI:∀ v w,BG w v (pt p)→Calls Tryz.prog 46 #[v] w (RetV (.tuple #[.int .i64 (pt p),.int .i64 0]) w):=fun v w h=>by
    have:=int_big v (pt p) w h ⟨by omega,by omega⟩
    rwa [(iz_of ⟨by omega,by omega⟩).1,(iz_of ⟨by omega,by omega⟩).2] at this
   have su:Small (256*dn p):=small_of (by omega) (by omega)
   have tU:Tiny (256*dn p*1099511627776):=⟨by omega,by omega⟩
   have tv:Tiny (wd p):=⟨by omega,by omega⟩
   have nv:wd p≠0:=by omega
   have uu0:-9223372036854775808≤256*dn p:=by omega
   have uu1:256*dn p≤9223372036854775807:=by omega
   have v0:-9223372036854775808≤wd p:=by omega
   have v1:wd p≤9223372036854775807:=by omega
   have k0:(0:Int)≤(un p:Int)+1:=by omega
   have k1:(un p:Int)+1<47:=by omega
   have k2:(un p:Int)<47:=by omega
   have k3:(0:Int)≤(un p:Int):=by omega
   have ws:IntKind.i64.wrap ((un p:Int)+1)=(un p:Int)+1:=by rw [IntKind.wrap_i64]; omega
   have hn:((un p:Int)+1).toNat=un p+1:=by omega
   have hi:lat p (47 - 1)=un p:=rfl
   rw [hi]
   clear hi hc hlt hk g u0 u1 u2 d0 d1 d2 pr r0 r1 hh gr hb
   generalize ht (un p)=H at *
   generalize pt p=fp at *
   generalize dn p=d at *
   generalize wd p=wv at *
   generalize tb (un p+1)=t1 at *
   generalize tb (un p)=t0 at *
   generalize un p=i at *
   have ou:=of_big (256*d) uu0 uu1
   have ov:=of_big wv v0 v1
   have B0:=E
   go_wp2_with fail
   refine (ou _).mono ?_
   rintro e w1 ⟨v1,rfl,g1,hb9⟩
   obtain ⟨n1,a1,k1,c1,rfl⟩:=bg_form g1
   replace B0:=b_trans B0 hb9
   replace q0:=cell_keep hb9 q0
   replace q1:=cell_keep hb9 q1
   clear hb9 ou
   go_wp2_with fail
   refine (rpower_40 _).mono ?_
   rintro e w2 ⟨v2,rfl,g2,hb9⟩
   obtain ⟨n2,a2,k2,c2,rfl⟩:=bg_form g2
   replace g1:=bg_keep g1 hb9
   replace B0:=b_trans B0 hb9
   replace q0:=cell_keep hb9 q0
   replace q1:=cell_keep hb9 q1
   clear hb9
   go_wp2_with fail
   refine (mul_big _ _ (256*d) 1099511627776 _ g1 g2 su (small_of (by decide) (by decide))).mono ?_
   rintro e w3 ⟨v3,rfl,g3,hb9⟩
   obtain ⟨n3,a3,k3,c3,rfl⟩:=bg_form g3
   replace B0:=b_trans B0 hb9
   replace q0:=cell_keep hb9 q0
   replace q1:=cell_keep hb9 q1
   clear hb9 g1 g2
   have kg:BG (w3.alloc (Obj.cells #[.bool n3,.slice a3 k3 c3] 116)) (.agg #[.bool n3,.slice a3 k3 c3]) (256*d*1099511627776):=bg_keep g3 (b_alloc (Below.refl _ _))
   have kc:BC (w3.alloc (Obj.cells #[.bool n3,.slice a3 k3 c3] 116)) w3.heap.size n3 (.slice a3 k3 c3):=by simp [BC,go_sem]
   replace q0:=cell_keep (b_alloc (o:=(Obj.cells #[.bool n3,.slice a3 k3 c3] 116)) (Below.refl w3.heap.size w3)) q0
   replace q1:=cell_keep (b_alloc (o:=(Obj.cells #[.bool n3,.slice a3 k3 c3] 116)) (Below.refl w3.heap.size w3)) q1
   replace B0:=b_alloc (o:=(Obj.cells #[.bool n3,.slice a3 k3 c3] 116)) B0
   clear g3 E
   go_wp2
   refine region_late [38,39,40,41,42,43,44,45,46,47,48,49,50,51,37,52,53] 16 (fun i_ X_ U_=>match i_ with | 0=>X_=.agg #[.bool n3,.slice a3 k3 c3] | 1=>X_=.slice (some ⟨b,0,none⟩) 47 47 | 2=>X_=.int .i64 i | 3=>X_=.pointer (some ⟨b,i,none⟩) | 4=>X_=.int .i64 t0 | 5=>X_=.slice (some ⟨b,0,none⟩) 47 47 | 6=>X_=.int .i64 i | 7=>X_=.int .i64 ((i:Int)+1) | 8=>X_=.pointer (some ⟨b,i+1,none⟩) | 9=>X_=.int .i64 t1 | 10=>X_=.int .i64 wv | 11=>BG U_ X_ (wv) | 12=>BG U_ X_ (fp) | 13=>X_=.tuple #[.int .i64 fp,.int .i64 0] | 14=>X_=.tuple #[.int .i64 fp,.int .i64 0] | 15=>X_=.int .i64 fp | 16=>X_=.int .i64 0 | _=>True) (fun i_=>false) (by kernel_rfl) (by kernel_rfl) (by kernel_rfl) (by kernel_rfl) ?_ (fun i x w hi ha h=>by cases ha) ?_ ?_ ?_
   ·refine swp (upS (upS (upS (upS (upS (upS (upS (upS (upS (upS (upS (upS (upS (upS (upS (upS (upS up0 ?_) ?_) ?_) ?_) ?_) ?_) ?_) ?_) ?_) ?_) ?_) ?_) ?_) ?_) ?_) ?_) ?_)
    ·exact fun _ _ _ h _=>h
    ·exact fun _ _ _ h _=>h
    ·exact fun _ _ _ h _=>h
    ·exact fun _ _ _ h _=>h
    ·exact fun _ _ _ h _=>h
    ·exact fun _ _ _ h _=>h
    ·exact fun _ _ _ h _=>h
    ·exact fun _ _ _ h _=>h
    ·exact fun _ _ _ h _=>h
    ·exact fun _ _ _ h _=>h
    ·exact fun _ _ _ h _=>h
    ·intro x w w' h hb; exact bg_keep h hb
    ·intro x w w' h hb; exact bg_keep h hb
    ·exact fun _ _ _ h _=>h
    ·exact fun _ _ _ h _=>h
    ·exact fun _ _ _ h _=>h
    ·exact fun _ _ _ h _=>h
   ·refine upS (upS (upS (upS (upS (upS (upS (upS (upS (upS (upS (upS (upS (upS (upS (upS (upS up0 ?_) ?_) ?_) ?_) ?_) ?_) ?_) ?_) ?_) ?_) ?_) ?_) ?_) ?_) ?_) ?_) ?_
    all_goals intro v f w' hb hv hB hd
    ·have b7:f.tmps[7]?=some (.pointer (some ⟨w3.heap.size,0,none⟩)):=(hb 7 (by decide)).trans rfl
     clear hb hv hd
     have c_:=bc_keep hB kc
     refine wpOp_step rfl fun K hK=>?_
     go_simp
     exact hK _ _ ⟨_,rfl,Below.refl _ _,rfl,fun h=>absurd h (by decide)⟩
    ·have b4:f.tmps[4]?=some (.slice (some ⟨b,0,none⟩) 47 47):=(hb 4 (by decide)).trans rfl
     clear hb hv hd
     refine wpOp_step rfl fun K hK=>?_
     go_simp
     exact hK _ _ ⟨_,rfl,Below.refl _ _,rfl,fun h=>absurd h (by decide)⟩
    ·have b5:f.tmps[5]?=some (.int .i64 i):=(hb 5 (by decide)).trans rfl
     clear hb hv hd
     refine wpOp_step rfl fun K hK=>?_
     go_simp
     exact hK _ _ ⟨_,rfl,Below.refl _ _,rfl,fun h=>absurd h (by decide)⟩
    ·have d1:=got (hv 1 39 rfl) (hd 1 (by kernel_rfl))
     have d2:=got (hv 2 40 rfl) (hd 2 (by kernel_rfl))
     clear hb hv hd
     refine wpOp_step rfl fun K hK=>?_
     go_simp
     exact hK _ _ ⟨_,rfl,Below.refl _ _,rfl,fun h=>absurd h (by decide)⟩
    ·have d3:=got (hv 3 41 rfl) (hd 3 (by kernel_rfl))
     clear hb hv hd
     have c_:=cell_keep hB q0
     refine wpOp_step rfl fun K hK=>?_
     go_simp
     exact hK _ _ ⟨_,rfl,Below.refl _ _,rfl,fun h=>absurd h (by decide)⟩
    ·have b4:f.tmps[4]?=some (.slice (some ⟨b,0,none⟩) 47 47):=(hb 4 (by decide)).trans rfl
     clear hb hv hd
     refine wpOp_step rfl fun K hK=>?_
     go_simp
     exact hK _ _ ⟨_,rfl,Below.refl _ _,rfl,fun h=>absurd h (by decide)⟩
    ·have b5:f.tmps[5]?=some (.int .i64 i):=(hb 5 (by decide)).trans rfl
     clear hb hv hd
     refine wpOp_step rfl fun K hK=>?_
     go_simp
     exact hK _ _ ⟨_,rfl,Below.refl _ _,rfl,fun h=>absurd h (by decide)⟩
    ·have d6:=got (hv 6 44 rfl) (hd 6 (by kernel_rfl))
     clear hb hv hd
     refine wpOp_step rfl fun K hK=>?_
     go_simp
     exact hK _ _ ⟨_,rfl,Below.refl _ _,rfl,fun h=>absurd h (by decide)⟩
    ·have d5:=got (hv 5 43 rfl) (hd 5 (by kernel_rfl))
     have d7:=got (hv 7 45 rfl) (hd 7 (by kernel_rfl))
     clear hb hv hd
     refine wpOp_step rfl fun K hK=>?_
     go_simp
     exact hK _ _ ⟨_,rfl,Below.refl _ _,rfl,fun h=>absurd h (by decide)⟩
    ·have d8:=got (hv 8 46 rfl) (hd 8 (by kernel_rfl))
     clear hb hv hd
     have c_:=cell_keep hB q1
     refine wpOp_step rfl fun K hK=>?_
     go_simp
     exact hK _ _ ⟨_,rfl,Below.refl _ _,rfl,fun h=>absurd h (by decide)⟩
    ·have d4:=got (hv 4 42 rfl) (hd 4 (by kernel_rfl))
     have d9:=got (hv 9 47 rfl) (hd 9 (by kernel_rfl))
     clear hb hv hd
     refine wpOp_step rfl fun K hK=>?_
     go_simp
     exact hK _ _ ⟨_,rfl,Below.refl _ _,rfl,fun h=>absurd h (by decide)⟩
    ·have d10:=got (hv 10 48 rfl) (hd 10 (by kernel_rfl))
     clear hb hv hd
     refine wpOp_call rfl Tryz.call44 (args1 (eval_tmp d10)) (ov _) ?_
     rintro e w5 ⟨v5,rfl,h5,hb5⟩
     exact ⟨_,rfl,_,rfl,hb5,h5,fun h=>absurd h (by decide)⟩
    ·have d0:=got (hv 0 38 rfl) (hd 0 (by kernel_rfl))
     have h11:BG w' (v 11) (wv):=hd 11 (by kernel_rfl)
     have d11:f.tmps[49]?=some (v 11):=hv 11 49 rfl
     clear hb hv hd
     refine wpOp_call rfl Tryz.call47 (args2 (eval_tmp d0) (eval_tmp d11)) (div_big _ _ (256*d*1099511627776) wv _ (bg_keep kg hB) h11 nv tU tv) ?_
     rintro e w5 ⟨v5,rfl,h5,hb5⟩
     exact ⟨_,rfl,_,rfl,hb5,by rwa [hq.out] at h5,fun h=>absurd h (by decide)⟩
    ·have h12:BG w' (v 12) (fp):=hd 12 (by kernel_rfl)
     have d12:f.tmps[50]?=some (v 12):=hv 12 50 rfl
     clear hb hv hd
     refine wpOp_call rfl Tryz.call46 (args1 (eval_tmp d12)) (hI _ _ h12) ?_
     rintro e5 w5 ⟨rfl,hb5⟩
     exact ⟨_,rfl,_,rfl,hb5,rfl,fun h=>absurd h (by decide)⟩
    ·have d13:=got (hv 13 51 rfl) (hd 13 (by kernel_rfl))
     clear hb hv hd
     refine wpOp_step rfl fun K hK=>?_
     go_simp
     exact hK _ _ ⟨_,rfl,Below.refl _ _,rfl,fun h=>absurd h (by decide)⟩
    ·have d14:=got (hv 14 37 rfl) (hd 14 (by kernel_rfl))
     clear hb hv hd
     refine wpOp_step rfl fun K hK=>?_
     go_simp
     exact hK _ _ ⟨_,rfl,Below.refl _ _,rfl,fun h=>absurd h (by decide)⟩
    ·have d14:=got (hv 14 37 rfl) (hd 14 (by kernel_rfl))
     clear hb hv hd
     refine wpOp_step rfl fun K hK=>?_
     go_simp
     exact hK _ _ ⟨_,rfl,Below.refl _ _,rfl,fun h=>absurd h (by decide)⟩
   ·intro v w' hB hF hD
    have F0:v 0=_:=hF 0 (by simp)
    have F1:v 1=_:=hF 1 (by simp)
    have F2:v 2=_:=hF 2 (by simp)
    have F3:v 3=_:=hF 3 (by simp)
    have F4:v 4=_:=hF 4 (by simp)
    have F5:v 5=_:=hF 5 (by simp)
    have F6:v 6=_:=hF 6 (by simp)
    have F7:v 7=_:=hF 7 (by simp)
    have F8:v 8=_:=hF 8 (by simp)
    have F9:v 9=_:=hF 9 (by simp)
    have F10:v 10=_:=hF 10 (by simp)
    have F11:BG w' (v 11) (wv):=hF 11 (by simp)
    have F12:BG w' (v 12) (fp):=hF 12 (by simp)
    have F13:v 13=_:=hF 13 (by simp)
    have F14:v 14=_:=hF 14 (by simp)
    have F15:v 15=_:=hF 15 (by simp)
    have F16:v 16=_:=hF 16 (by simp)
    clear hF
    obtain ⟨n11_,a11_,k11_,c11_,e11⟩:=bg_form F11
    obtain ⟨n12_,a12_,k12_,c12_,e12⟩:=bg_form F12
    simp only [frOf,frGo,Nat.zero_add,Nat.reduceAdd,F0,F1,F2,F3,F4,F5,F6,F7,F8,F9,F10,e11,e12,F13,F14,F15,F16]
    replace B0:=b_trans B0 hB
    clear hB hD F0 F1 F2 F3 F4 F5 F6 F7 F8 F9 F10 F11 F12 F13 F14 F15 F16 e11 e12 kg kc ov hq tU tv q0 q1 hI
    go_wp2_with fail
    refine (ch _).mono ?_
    rintro e w9 ⟨rfl,hb⟩
    replace B0:=b_trans B0 hb
    clear hb ch
    go_wp2
    exact bodyPost_ret (v:=.tuple #[.int .i64 (H+fp),.int .i64 0]) (by simp [results,Tryz.results17,go_sem]) rfl ⟨by rw [eal.out],B0⟩
   ·intro v w' hB hF hD
    have F0:v 0=_:=hF 0 (by simp) (by decide)
    have F1:v 1=_:=hF 1 (by simp) (by decide)
    have F2:v 2=_:=hF 2 (by simp) (by decide)
    have F3:v 3=_:=hF 3 (by simp) (by decide)
    have F4:v 4=_:=hF 4 (by simp) (by decide)
    have F5:v 5=_:=hF 5 (by simp) (by decide)
    have F6:v 6=_:=hF 6 (by simp) (by decide)
    have F7:v 7=_:=hF 7 (by simp) (by decide)
    have F8:v 8=_:=hF 8 (by simp) (by decide)
    have F9:v 9=_:=hF 9 (by simp) (by decide)
    have F10:v 10=_:=hF 10 (by simp) (by decide)
    have F11:BG w' (v 11) (wv):=hF 11 (by simp) (by decide)
    have F12:BG w' (v 12) (fp):=hF 12 (by simp) (by decide)
    have F13:v 13=_:=hF 13 (by simp) (by decide)
    have F14:v 14=_:=hF 14 (by simp) (by decide)
    have F15:v 15=_:=hF 15 (by simp) (by decide)
    clear hF
    obtain ⟨n11_,a11_,k11_,c11_,e11⟩:=bg_form F11
    obtain ⟨n12_,a12_,k12_,c12_,e12⟩:=bg_form F12
    simp only [frOf,frGo,Nat.zero_add,Nat.reduceAdd,F0,F1,F2,F3,F4,F5,F6,F7,F8,F9,F10,e11,e12,F13,F14,F15]
    replace B0:=b_trans B0 hB
    clear hB hD F0 F1 F2 F3 F4 F5 F6 F7 F8 F9 F10 F11 F12 F13 F14 F15 e11 e12 kg kc ov hq tU tv q0 q1 hI
    refine wpOp_step rfl (fun K hK=>?_)
    go_simp
    refine hK _ _ ?_
    clear hK K
    refine wpOp_step rfl (fun K hK=>?_)
    go_simp
    refine hK _ _ ?_
    clear hK K
    go_wp2_with fail
    refine (ch _).mono ?_
    rintro e w9 ⟨rfl,hb⟩
    replace B0:=b_trans B0 hb
    clear hb ch
    go_wp2
    exact bodyPost_ret (v:=.tuple #[.int .i64 (H+fp),.int .i64 0]) (by simp [results,Tryz.results17,go_sem]) rfl ⟨by rw [eal.out],B0⟩
theorem raltitude_any (p:Int) (w:World):Calls Tryz.prog 17 #[.int .i64 p] w (RetV (.tuple #[.int .i64 (az p),.int .i64 (ae p)]) w):=by
 cases g:gd p
 ·rw [az_bad g,ae_bad g]
  exact raltitude_bad p g w
 ·rw [az_ok g,ae_ok g]
  exact raltitude_ok p g w
end Go.Proofs.YtjifkmldigemkaaGreatDoor

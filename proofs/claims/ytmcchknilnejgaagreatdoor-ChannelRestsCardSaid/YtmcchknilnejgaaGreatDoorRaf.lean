import Derived.StillTactics
import Derived.Laws.Pointers
import Derived.Deep.RegionHeld3
import Derived.Deep.QuietTactic
import Derived.BigQuiet
import Derived.RowKit3
import Derived.Lib.Hide
import Derived.Lib.QuietBelow
import Derived.Laws.Bits64b
import Derived.Test.YtmcchknilnejgaaGreatDoorProg
import Derived.Shelf.Spec.BitsCarry
import Derived.Shelf.Bits.Mul64
import Derived.WalkKit
import Derived.WalkSpells
import Derived.Test.YtmcchknilnejgaaGreatDoorRae
import Derived.Test.YtmcchknilnejgaaGreatDoorKab
import Derived.Test.YtmcchknilnejgaaGreatDoorKaa
import Derived.Test.YtmcchknilnejgaaGreatDoorRad
import Derived.Test.YtmcchknilnejgaaGreatDoorKae
import Derived.Test.YtmcchknilnejgaaGreatDoorKag
import Derived.Test.YtmcchknilnejgaaGreatDoorRac
import Derived.Test.YtmcchknilnejgaaGreatDoorKaf
set_option maxHeartbeats 8000000
set_option maxRecDepth 10000
namespace Go.Proofs.YtmcchknilnejgaaGreatDoor
open Go.RowKit Go.Shelf Go.Joins
theorem small_neg {z:Int} (h:Small z):Small (-z):=by obtain ⟨a,b⟩:=h; exact ⟨by omega,by omega⟩
theorem sub_big (va vb:Value) (x y:Int) (w:World) (hx:BG w va x) (hy:BG w vb y) (sx:Small x) (sy:Small y) :
  Calls Tryz.prog 113 #[va,vb] w (RetB (x - y) w):=by
 obtain ⟨n1,aa,ka,ca,rfl⟩:=bg_form hx
 obtain ⟨n2,ab,kb,cb,rfl⟩:=bg_form hy
 go_enter Tryz.func113,Tryz.ntmps113
 go_wp2_with fail
 have B1:Below w.heap.size w (((w.alloc (Obj.cells #[.bool n1,.slice aa ka ca] 122)).alloc (Obj.cells #[.bool n2,.slice ab kb cb] 122)).alloc (Obj.cells #[.bool false,.slice none 0 0] 122)):=b_alloc (b_alloc (b_alloc (Below.refl _ _)))
 have k1:BC (((w.alloc (Obj.cells #[.bool n1,.slice aa ka ca] 122)).alloc (Obj.cells #[.bool n2,.slice ab kb cb] 122)).alloc (Obj.cells #[.bool false,.slice none 0 0] 122)) w.heap.size n1 (.slice aa ka ca):=by simp [BC,go_sem,World.cell?_alloc_past]
 have k2:BC (((w.alloc (Obj.cells #[.bool n1,.slice aa ka ca] 122)).alloc (Obj.cells #[.bool n2,.slice ab kb cb] 122)).alloc (Obj.cells #[.bool false,.slice none 0 0] 122)) (w.heap.size+1) n2 (.slice ab kb cb):=by simp [BC,go_sem,World.cell?_alloc_past]
 have r1:BV (((w.alloc (Obj.cells #[.bool n1,.slice aa ka ca] 122)).alloc (Obj.cells #[.bool n2,.slice ab kb cb] 122)).alloc (Obj.cells #[.bool false,.slice none 0 0] 122)) (w.heap.size+1+1):=bv_new _ _ _ _ (by simp)
 have g1:=bg_keep hx B1
 have g2:=bg_keep hy B1
 clear hx hy
 generalize (((w.alloc (Obj.cells #[.bool n1,.slice aa ka ca] 122)).alloc (Obj.cells #[.bool n2,.slice ab kb cb] 122)).alloc (Obj.cells #[.bool false,.slice none 0 0] 122))=W0 at *
 refine region_each [5,6,7,8] (fun i X_ U_=>match i with | 0=>X_=.agg #[.bool n1,.slice aa ka ca] | 1=>X_=.agg #[.bool n2,.slice ab kb cb] | 2=>BG U_ X_ (-y) | 3=>BG U_ X_ (x - y) | _=>True) (fun i=>false) (by kernel_rfl) (by kernel_rfl) (by kernel_rfl) (by kernel_rfl) (by kernel_rfl) ?_ ?_ ?_ ?_
 ·refine swp (upS (upS (upS (upS up0 ?_) ?_) ?_) ?_)
  ·exact fun _ _ _ h _=>h
  ·exact fun _ _ _ h _=>h
  ·intro x w w' h hb; exact bg_keep h hb
  ·intro x w w' h hb; exact bg_keep h hb
 ·intro i x w hi ha h
  cases ha
 ·refine upS (upS (upS (upS up0 ?_) ?_) ?_) ?_
  all_goals intro v f w' hb hv hB hd
  ·have b2:f.tmps[2]?=some (.pointer (some ⟨w.heap.size,0,none⟩)):=(hb 2 (by decide)).trans rfl
   clear hb hv hd
   have c:=bc_keep hB k1
   refine wpOp_step rfl (fun K hK=>?_)
   go_simp
   exact hK _ _ ⟨_,rfl,Below.refl _ _,rfl,fun h=>absurd h (by decide)⟩
  ·have b3:f.tmps[3]?=some (.pointer (some ⟨w.heap.size+1,0,none⟩)):=(hb 3 (by decide)).trans rfl
   clear hb hv hd
   have c:=bc_keep hB k2
   refine wpOp_step rfl (fun K hK=>?_)
   go_simp
   exact hK _ _ ⟨_,rfl,Below.refl _ _,rfl,fun h=>absurd h (by decide)⟩
  ·have h1:(v 1)=.agg #[.bool n2,.slice ab kb cb]:=hd 1 (by kernel_rfl)
   have d1:f.tmps[6]?=some (.agg #[.bool n2,.slice ab kb cb]):=(hv 1 6 rfl).trans (congrArg some h1)
   clear h1
   clear hb hv hd
   refine wpOp_call rfl (fun _ _=>by go_simp) (by simp [Act.eval,d1]) (turn_any _ y _ (bg_keep g2 hB)) ?_
   rintro e w5 ⟨v5,rfl,h5,hb5⟩
   exact ⟨_,rfl,_,rfl,hb5,h5,fun h=>absurd h (by decide)⟩
  ·have h0:(v 0)=.agg #[.bool n1,.slice aa ka ca]:=hd 0 (by kernel_rfl)
   have d0:f.tmps[5]?=some (.agg #[.bool n1,.slice aa ka ca]):=(hv 0 5 rfl).trans (congrArg some h0)
   clear h0
   have h2:BG w' (v 2) (-y):=hd 2 (by kernel_rfl)
   have d2:f.tmps[7]?=some (v 2):=hv 2 7 rfl
   clear hb hv hd
   refine wpOp_call rfl (fun _ _=>by go_simp) (by simp [Act.eval,d0,d2]) (add_big _ _ x (-y) _ (bg_keep g1 hB) h2 sx (small_neg sy)) ?_
   rintro e w5 ⟨v5,rfl,h5,hb5⟩
   exact ⟨_,rfl,_,rfl,hb5,by rwa [show x+-y=x - y by omega] at h5,fun h=>absurd h (by decide)⟩
 ·intro v w' hB hF hD
  have F0:(v 0)=.agg #[.bool n1,.slice aa ka ca]:=hF 0 (by simp)
  have F1:(v 1)=.agg #[.bool n2,.slice ab kb cb]:=hF 1 (by simp)
  have F2:BG w' (v 2) (-y):=hF 2 (by simp)
  have F3:BG w' (v 3) (x - y):=hF 3 (by simp)
  clear hF
  obtain ⟨n',a',k',c',e3⟩:=bg_form F3
  rw [e3] at F3
  obtain ⟨n9,a9,k9,c9,e2⟩:=bg_form F2
  simp only [frOf,frGo,Nat.zero_add,Nat.reduceAdd,F0,F1,e2,e3]
  have r9:=bv_keep hB r1
  have B9:=b_trans B1 hB
  obtain ⟨n'',a'',k'',c'',r8,f8⟩:=bv_use r9
  have HB:=Lib.hid (And.intro r9 F3)
  clear hB hD r9 F3 F2 e2
  go_wp2
  exact bodyPost_ret (v:=.agg #[.bool n',.slice a' k' c']) (by simp [results,Tryz.results113,go_sem,r8]) rfl ⟨_,rfl,bg_store HB.out.1 HB.out.2,b_set (b_set B9 (by simp; omega)) (by simp; omega)⟩
theorem cmp_big (va vb:Value) (x y:Int) (w:World) (hx:BG w va x) (hy:BG w vb y) (sx:Small x) (sy:Small y) :
  Calls Tryz.prog 110 #[va,vb] w (RetV (.int .i64 (cmp3 x y)) w):=by
 have e1:x<y→cmp3 x y=-1:=cmp3_lt
 have e2:y<x→cmp3 x y=1:=cmp3_gt
 have e3:x=y→cmp3 x y=0:=fun h=>by rw [h,cmp3_eq]
 obtain ⟨n1,aa,ka,ca,rfl⟩:=bg_form hx
 obtain ⟨n2,ab,kb,cb,rfl⟩:=bg_form hy
 have E:=Lib.hid (And.intro e1 (And.intro e2 e3))
 clear e1 e2 e3
 go_enter Tryz.func110,Tryz.ntmps110
 go_wp2_with fail
 refine (sub_big _ _ x y _ (bg_keep hx (b_alloc (b_alloc (Below.refl _ _)))) (bg_keep hy (b_alloc (b_alloc (Below.refl _ _)))) sx sy).mono ?_
 rintro e w1 ⟨bv,rfl,hB,hb1⟩
 obtain ⟨n,a,l,c,rfl,hD,hd,hn,hl,hz,_,hc⟩:=bg_open hB
 have B1:Below w.heap.size w w1:=b_trans (b_alloc (b_alloc (Below.refl _ _))) hb1
 obtain ⟨q1,q2,q3⟩:=sgn_neg hd hn hl
 rw [← hz] at q1 q2
 clear hx hy hB hb1 sx sy q3
 have ll:(l.length:Int)≤9223372036854775807:=by unfold maxLen at hc; omega
 cases n
 ·by_cases em:l=[]
  ·have len0:¬ (0:Int)<(l.length:Int):=by rw [em]; simp
   have E2:=Lib.hid (E.out.2.2 (by have:=q2.2 em; omega))
   clear q1 q2 hz em hD hd hn hl E
   go_wp2
   go_ret
   exact ⟨by rw [E2.out]; rfl,b_alloc B1⟩
  ·have len0:(0:Int)<(l.length:Int):=by have:=List.length_pos_iff.2 em; omega
   have E2:=Lib.hid (E.out.2.1 (by
    have h1:¬ x - y=0:=fun h=>em (q2.1 h)
    have h2:¬ x - y<0:=fun h=>by have:=q1.1 h; cases this
    omega))
   clear q1 q2 hz em hD hd hn hl E
   go_wp2
   go_ret
   exact ⟨by rw [E2.out]; rfl,b_alloc B1⟩
 ·have E2:=Lib.hid (E.out.1 (by have:=q1.2 rfl; omega))
  clear q1 q2 hz hD hd hn hl E
  go_wp2
  go_ret
  exact ⟨by rw [E2.out]; rfl,b_alloc B1⟩
theorem zs_len (k:Nat):(zs k).length=k:=List.length_replicate
theorem zs_succ (k:Nat):zs k ++ [0]=zs (k+1):=(List.replicate_succ').symm
theorem ow_zs {w:World} {base k:Nat} {v:Value} (h:w.ownsRow base 182 1 v (k+1) ((zs k).map (Value.int .u64) ++ [.int .u64 0])):OW w base v (zs (k+1)):=by
 have:=ow_snoc (l:=zs k) (d:=0) (by rw [zs_len]; exact h)
 rwa [zs_succ] at this
theorem val_power (n:Nat):val (zs (n / 16) ++ [2 ^ (n % 16)])=2 ^ n:=by
 rw [val_snoc,zs,val_zeros,List.length_replicate,show (65536:Int)=2 ^ 16 by decide,← Int.pow_mul,Int.zero_add,← Int.pow_add]
 congr 1
 omega
theorem norm_snoc {l:List Int} {d:Int} (h:d≠0):Norm (l ++ [d]):=by
 intro e he
 simp at he
 subst he
 exact h
theorem pow16 (j:Nat) (h:j≤15):(1:Int)≤2 ^ j∧(2:Int) ^ j≤32768:=by
 have h1:(0:Int)<2 ^ j:=Int.pow_pos (by decide)
 have h2:2 ^ j≤2 ^ 15:=Nat.pow_le_pow_right (by decide) h
 have h3:(2:Int) ^ j=((2 ^ j:Nat):Int):=(Int.natCast_pow 2 j).symm
 rw [h3]; rw [h3] at h1
 omega
theorem power_any (n:Nat) (n1:n≤1000) (w:World):Calls Tryz.prog 55 #[.int .i64 n] w (RetB (2 ^ n) w):=by
 obtain ⟨i0,hi,hz0,hz1,hz2⟩:=info_parts Tryz.infoU
 go_enter Tryz.func55,Tryz.ntmps55
 go_wp2
 go_loopw [3,4] (fun v iv wr=>∃ k:Nat,k≤n / 16∧iv=.int .i64 k∧OW wr (w.heap.size+1) v (zs k)∧Below (w.heap.size+1) (w.alloc (Obj.cells #[.bool false,.slice none 0 0] 122)) wr) (fun _ iv _=>n - (intOf iv).toNat)
 case atStart=>exact ⟨0,Nat.zero_le _,rfl,ow_start (by simp) (by simp),(Below.refl _ _).alloc (by simp) _⟩
 case round =>
  obtain ⟨k,hk,rfl,hown,hnx⟩:=hrel
  have hsz:=hnx.size
  have hzl:=zs_len k
  simp at hsz
  by_cases c:k<n / 16
  ·go_wp2_with (at_builtin; refine wpList_append_own _ rfl _ _ 120 rfl (w.heap.size+1) 182 i0 (.int .u64 0) 1 8 Tryz.underlying120 hi hz0 hz1 hz2 rfl (by decide) _ _ _ rfl (World.ownsRow.alloc hown _) ⟨wr.heap.size,0,none⟩ 1 1 [.int .u64 (0)] rfl rfl ?c1 ?c2 ?c3 ?c4 ?c5 ?_)
   case c1 =>
    intro j u hj
    match j,hj with
    | 0,hj=>simp at hj; subst hj; simp [Addr.add]
   case c2=>intro u hu; simp at hu; subst hu; rfl
   case c3=>unfold maxLen; (try simp); omega
   case c4=>(try simp); omega
   case c5=>simp; omega
   intro v' w1 hown' hgrow _
   have R1:OW w1 (w.heap.size+1) v' (zs (k+1)):=ow_zs hown'
   have R2:Below (w.heap.size+1) (w.alloc (Obj.cells #[.bool false,.slice none 0 0] 122)) w1:=(hnx.alloc (by omega) _).grown hgrow (by simp; omega) (ow_block hown)
   clear hown' hgrow hown hnx
   go_wp2
   go_roundw
   case rel=>exact ⟨k+1,by omega,by simp,R1,R2⟩
   case measure=>simp [intOf]; omega
  ·obtain rfl:k=n / 16:=by omega
   go_wp2
   go_loop [5,6] (fun xv iv=>∃ j:Nat,j≤n % 16∧iv=.int .i64 j∧xv=.int .u64 (2 ^ j)) (fun _ iv=>n - (intOf iv).toNat)
   case atStart=>exact ⟨0,Nat.zero_le _,rfl,rfl⟩
   case round =>
    obtain ⟨j,hj,rfl,rfl⟩:=hrel
    obtain ⟨p0,p1⟩:=pow16 j (by omega)
    by_cases c2:j<n % 16
    ·have e:(2:Int)*2 ^ j=2 ^ (j+1):=by rw [Int.pow_succ,Int.mul_comm]
     have E:=Lib.hid e
     clear e
     go_wp2
     go_round
     case rel=>exact ⟨j+1,by omega,by simp,by rw [E.out]⟩
     case measure=>simp [intOf]; omega
    ·obtain rfl:j=n % 16:=by omega
     have VP:=Lib.hid (val_power n)
     have NP:=Lib.hid (norm_snoc (l:=zs (n / 16)) (d:=2 ^ (n % 16)) (by omega))
     generalize hq:(2:Int) ^ (n % 16)=q at *
     have DP:=Lib.hid (dig_app (l:=zs (n / 16)) (dig_zeros _) (dig_one (d:=q) (by omega) (by omega)))
     clear hq
     go_wp2_with (at_builtin; refine wpList_append_own _ rfl _ _ 120 rfl (w.heap.size+1) 182 i0 (.int .u64 0) 1 8 Tryz.underlying120 hi hz0 hz1 hz2 rfl (by decide) _ _ _ rfl (World.ownsRow.alloc hown _) ⟨wr.heap.size,0,none⟩ 1 1 [.int .u64 (q)] rfl rfl ?d1 ?d2 ?d3 ?d4 ?d5 ?_)
     case d2=>rfl
     case d3=>unfold maxLen; omega
     case d4=>omega
     case d5=>(try simp); omega
     intro v' w1 hown' hgrow _
     have R1:=dg_of_owns (ow_snoc (l:=zs (n / 16)) (d:=q) (by rw [zs_len]; exact hown'))
     have hnx1:Below (w.heap.size+1) (w.alloc (Obj.cells #[.bool false,.slice none 0 0] 122)) w1:=(hnx.alloc (by omega) _).grown hgrow (by simp; omega) (ow_block hown)
     have r2:BV w1 w.heap.size:=bv_below hnx1 (bv_new _ _ _ _ rfl) (by omega)
     have B2:Below w.heap.size w w1:=((Below.refl _ _).alloc (Nat.le_refl _) _).trans (hnx1.mono (by omega))
     obtain ⟨n',a',k',c'',r3,f3⟩:=bv_use r2
     obtain ⟨a,c,rfl,_⟩:=dg_len R1
     have HB:Hid (BV w1 w.heap.size∧BG w1 (.agg #[.bool false,.slice a (zs (n / 16) ++ [q]).length c]) (2 ^ n)):=Lib.hid ⟨r2,⟨false,_,_,rfl,R1,DP.out,NP.out,by simp,by rw [VP.out]; rfl⟩⟩
     clear hown' hgrow hown hnx hnx1 R1 r2 VP NP DP
     generalize (zs (n / 16) ++ [q]).length=kk at *
     go_wp2
     exact bodyPost_ret (v:=.agg #[.bool false,.slice a kk c]) (by simp [results,Tryz.results55,go_sem,r3]) rfl ⟨_,rfl,bg_store HB.out.1 HB.out.2,b_set (b_set B2 (Nat.le_refl _)) (Nat.le_refl _)⟩
end Go.Proofs.YtmcchknilnejgaaGreatDoor
namespace Go.Proofs.YtmcchknilnejgaaGreatDoor
open Go.RowKit Go.Shelf Go.Joins
theorem mul_out {a b o row:List Int} {k:Nat} (h:val o=val (a.take k)*val b) (r:65536 ^ k*(a.getD k 0*val b)=val row):val o+val row=val (a.take (k+1))*val b:=by
 rw [val_take_succ,Int.add_mul,← h,← r,Int.mul_assoc]
theorem mul_go (n1 n2:Bool) (aa ab:Option Addr) (ca cb:Nat) (a b:List Int) (w:World) (hA:DG w (.slice aa a.length ca) a) (hB':DG w (.slice ab b.length cb) b) (da:Dig a) (db:Dig b) (ma:a.length≤1000) (mb:b.length≤1000) :
  Calls Tryz.prog 59 #[.agg #[.bool n1,.slice aa a.length ca],.agg #[.bool n2,.slice ab b.length cb]] w (RetB (sgn (n1 != n2) (val a*val b)) w):=by
 obtain ⟨i0,hi,hz0,hz1,hz2⟩:=info_parts Tryz.infoU
 go_enter Tryz.func59,Tryz.ntmps59
 go_wp2
 have B1:Below w.heap.size w (((w.alloc (Obj.cells #[.bool n1,.slice aa a.length ca] 122)).alloc (Obj.cells #[.bool n2,.slice ab b.length cb] 122)).alloc (Obj.cells #[.bool false,.slice none 0 0] 122)):=b_alloc (b_alloc (b_alloc (Below.refl _ _)))
 have k1:BC (((w.alloc (Obj.cells #[.bool n1,.slice aa a.length ca] 122)).alloc (Obj.cells #[.bool n2,.slice ab b.length cb] 122)).alloc (Obj.cells #[.bool false,.slice none 0 0] 122)) w.heap.size n1 (.slice aa a.length ca):=by simp [BC,go_sem,World.cell?_alloc_past]
 have k2:BC (((w.alloc (Obj.cells #[.bool n1,.slice aa a.length ca] 122)).alloc (Obj.cells #[.bool n2,.slice ab b.length cb] 122)).alloc (Obj.cells #[.bool false,.slice none 0 0] 122)) (w.heap.size+1) n2 (.slice ab b.length cb):=by simp [BC,go_sem,World.cell?_alloc_past]
 have r1:BV (((w.alloc (Obj.cells #[.bool n1,.slice aa a.length ca] 122)).alloc (Obj.cells #[.bool n2,.slice ab b.length cb] 122)).alloc (Obj.cells #[.bool false,.slice none 0 0] 122)) (w.heap.size+1+1):=bv_new _ _ _ _ (by simp)
 have o1:DG ((((w.alloc (Obj.cells #[.bool n1,.slice aa a.length ca] 122)).alloc (Obj.cells #[.bool n2,.slice ab b.length cb] 122)).alloc (Obj.cells #[.bool false,.slice none 0 0] 122)).alloc (Obj.cells #[] 182)) (.slice (some ⟨w.heap.size+1+1+1,0,none⟩) 0 0) []:=dg_of_owns (ow_start (base:=0) (by simp) (Nat.zero_le _))
 have gA:=dg_keep hA B1
 have gB:=dg_keep hB' B1
 clear hA hB'
 have B2:Below (((w.alloc (Obj.cells #[.bool n1,.slice aa a.length ca] 122)).alloc (Obj.cells #[.bool n2,.slice ab b.length cb] 122)).alloc (Obj.cells #[.bool false,.slice none 0 0] 122)).heap.size (((w.alloc (Obj.cells #[.bool n1,.slice aa a.length ca] 122)).alloc (Obj.cells #[.bool n2,.slice ab b.length cb] 122)).alloc (Obj.cells #[.bool false,.slice none 0 0] 122)) ((((w.alloc (Obj.cells #[.bool n1,.slice aa a.length ca] 122)).alloc (Obj.cells #[.bool n2,.slice ab b.length cb] 122)).alloc (Obj.cells #[.bool false,.slice none 0 0] 122)).alloc (Obj.cells #[] 182)):=b_alloc (Below.refl _ _)
 generalize (((w.alloc (Obj.cells #[.bool n1,.slice aa a.length ca] 122)).alloc (Obj.cells #[.bool n2,.slice ab b.length cb] 122)).alloc (Obj.cells #[.bool false,.slice none 0 0] 122)).alloc (Obj.cells #[] 182)=W1 at *
 generalize (((w.alloc (Obj.cells #[.bool n1,.slice aa a.length ca] 122)).alloc (Obj.cells #[.bool n2,.slice ab b.length cb] 122)).alloc (Obj.cells #[.bool false,.slice none 0 0] 122))=W0 at *
 have k1':=bc_keep B2 k1
 have k2':=bc_keep B2 k2
 go_loopw [5,6] (fun v iv wr=>∃ (k:Nat) (o:List Int),k≤a.length∧iv=.int .i64 k∧DG wr v o∧Dig o∧val o=val (a.take k)*val b∧o.length≤2002+k∧Below W0.heap.size W0 wr) (fun _ iv _=>a.length - (intOf iv).toNat)
 case atStart=>exact ⟨0,[],Nat.zero_le _,rfl,o1,dig_nil,by simp [val],by simp,B2⟩
 case round =>
  obtain ⟨k,o,hk,rfl,hO,dO,eO,lO,hB⟩:=hrel
  clear o1 B2 k1' k2'
  have c1:=bc_keep hB k1
  have c2:=bc_keep hB k2
  have HO:=Lib.hid (And.intro hO (And.intro dO (And.intro eO lO)))
  obtain ⟨ao,co,rfl,_⟩:=dg_len hO
  clear hO dO eO lO
  generalize hol:o.length=ol at *
  have OL:=Lib.hid hol
  clear hol
  obtain ⟨wo,rfl⟩:∃ wo:World,wo=wr:=⟨_,rfl⟩
  by_cases c:k<a.length
  ·have hx:=dig_getD da k
   obtain ⟨ga,ca',e1,_,_,hca⟩:=dg_cell (dg_keep gA hB) k c
   simp at e1
   obtain ⟨rfl,rfl⟩:=e1
   have HR:=Lib.hid (fun (row:List Int) (h:65536 ^ k*(a.getD k 0*val b)=val row)=>mul_out HO.out.2.2.1 h)
   have RS:=Lib.hid (fun (row:List Int) (j:Nat) (cc:Int) (h1:row.length=k+j) h2 h3 h4=>row_step (b:=b) (row:=row) (i:=k) (k:=j) (x:=a.getD k 0) (c:=cc) db h1 hx.1 hx.2 h2 h3 h4)
   generalize a.getD k 0=p at *
   go_wp2
   go_loopw [7,8] (fun v iv wr=>∃ j:Nat,j≤k∧iv=.int .i64 j∧OW wr wo.heap.size v (zs j)∧Below wo.heap.size wo wr) (fun _ iv _=>k - (intOf iv).toNat)
   case atStart=>exact ⟨0,Nat.zero_le _,rfl,ow_start rfl (Nat.le_refl _),b_alloc (Below.refl _ _)⟩
   case round =>
    obtain ⟨j,hj,rfl,hown,hb3⟩:=hrel
    have hsz:=hb3.size
    have hzl:=zs_len j
    by_cases cj:j<k
    ·go_wp2_with (at_builtin; refine wpList_append_own _ rfl _ _ 120 rfl wo.heap.size 182 i0 (.int .u64 0) 1 8 Tryz.underlying120 hi hz0 hz1 hz2 rfl (by decide) _ _ _ rfl (World.ownsRow.alloc hown _) ⟨wr.heap.size,0,none⟩ 1 1 [.int .u64 (0)] rfl rfl ?c1 ?c2 ?c3 ?c4 ?c5 ?_)
     case c1 =>
      intro j u hj
      match j,hj with
      | 0,hj=>simp at hj; subst hj; simp [Addr.add]
     case c2=>intro u hu; simp at hu; subst hu; rfl
     case c3=>unfold maxLen; (try simp); omega
     case c4=>(try simp); omega
     case c5=>(try simp); omega
     intro v' w1 hown' hgrow _
     have R1:OW w1 wo.heap.size v' (zs (j+1)):=ow_zs hown'
     have R2:Below wo.heap.size wo w1:=(b_alloc hb3).grown hgrow (by simp; omega) (ow_block hown)
     clear hown' hgrow hown hb3
     go_wp2
     go_roundw
     case rel=>exact ⟨j+1,by omega,by simp,R1,R2⟩
     case measure=>simp [intOf]; omega
    ·obtain rfl:j=k:=by omega
     clear hzl
     go_wp2
     obtain ⟨wz,rfl⟩:∃ wz:World,wz=wr:=⟨_,rfl⟩
     go_loopw [7,9,10] (fun v cv iv wr=>∃ (j':Nat) (row:List Int) (cc:Int),j'≤b.length+1∧iv=.int .i64 j'∧cv=.int .u64 cc∧0≤cc∧cc≤65535∧(j'=b.length+1→cc=0)∧OW wr wo.heap.size v row∧row.length=j+j'∧Dig row∧65536 ^ j*(p*val (b.take j'))=val row+65536 ^ (j+j')*cc∧Below wo.heap.size wo wr) (fun _ _ iv _=>b.length+1 - (intOf iv).toNat)
     case atStart=>exact ⟨0,zs j,0,Nat.zero_le _,rfl,rfl,by decide,by decide,fun h=>rfl,hown,by rw [zs_len]; rfl,dig_zeros _,by simp [val,zs,val_zeros],hb3⟩
     case round =>
      obtain ⟨t,row,cc,ht,rfl,rfl,cc0,cc1,hlast,hown3,hrl,dR,eR,hb4⟩:=hrel
      have hsz4:=hb4.size
      have d1:=bc_keep hb4 c1
      have d2:=bc_keep hb4 c2
      have hca4:=cell_keep hb4 hca
      have gB4:=dg_keep (dg_keep gB hB) hb4
      have zb:b.length≤t→b.getD t 0=0:=fun h=>by rw [List.getD_eq_getElem?_getD,List.getElem?_eq_none (by omega)]; rfl
      have cD:∀ n,Calls Tryz.prog 134 #[.slice ab b.length cb,.int .i64 t] (wr.drewN n) fun e w'=>e=.returned (.int .u64 (b.getD t 0))∧w'=wr.drewN n:=fun n=>by
       have:=digit_any _ b t (wr.drewN n) (dg_keep gB4 (below_draws _ _ _)) (by omega) (by omega)
       rw [Int.toNat_natCast] at this
       exact this.mono fun _ _ h=>⟨h.1,h.2.symm⟩
      have gq:=dig_getD db t
      have rs:=RS.out row t cc hrl eR cc0 cc1
      have ER:=Lib.hid eR
      have HL:=Lib.hid hrl
      have Z:=Lib.hid (And.intro zb hlast)
      clear eR zb hlast gB4 hrl
      by_cases stop:b.length≤t∧cc=0
      ·obtain ⟨s1,rfl⟩:=stop
       have t1:decide (t<b.length)=false:=by simp; omega
       have fin:65536 ^ j*(p*val b)=val row:=by
        have:=ER.out
        rw [val_take_all s1] at this
        omega
       have FI:=Lib.hid (And.intro (HR.out row fin) (dg_of_owns hown3))
       have hrow:row.length≤2002+j:=by have:=HL.out; omega
       have ho4:=dg_keep HO.out.1 hb4
       have dsum:=fun (vv:Value) (hv:DG wr vv row)=>sum_any (.slice ao ol co) vv o row wr ho4 hv HO.out.2.1 dR (2002+j) (by rw [OL.out]; exact HO.out.2.2.2) hrow (by omega)
       obtain ⟨ar,cr,rfl,_⟩:=dg_len FI.out.2
       have cS:=dsum _ FI.out.2
       rw [FI.out.1] at cS
       clear fin cD rs RS dsum ho4 hown3 ER Z hown
       generalize row.length=rl at *
       go_wp2_with fail
       (with_reducible refine cS.mono ?_)
       rintro e w5 ⟨v5,l5,rfl,h5,h6,h7,h8,hb5⟩
       obtain ⟨a5,c5,rfl,_⟩:=dg_len h5
       have B5:Below W0.heap.size W0 w5:=b_trans (b_trans hB hb4) hb5
       have H5:=Lib.hid (And.intro h5 (And.intro h6 (And.intro h7 h8)))
       clear h5 h6 h7 h8 hb5 cS
       generalize hl5:l5.length=ll5 at *
       have L5:=Lib.hid hl5
       clear hl5
       go_wp2
       go_roundw
       case rel=>exact ⟨j+1,l5,by omega,by simp,H5.out.1,H5.out.2.1,H5.out.2.2.1,by rw [L5.out]; have:=H5.out.2.2.2; omega,B5⟩
       case measure=>simp [intOf]; omega
      ·have htb:t≤b.length:=by have:=Z.out.2; omega
       have hrow:row.length≤2001:=by have:=HL.out; omega
       obtain ⟨q1,q2,q3,q4,q5⟩:=rs
       have Q1:=Lib.hid q1
       clear q1 RS HR ER hown
       have zt:b.length≤t→b.getD t 0=0:=Z.out.1
       have ZT:=Lib.hid zt
       clear zt Z
       generalize b.getD t 0=q at *
       have s1:IntKind.u64.wrap (p*q)=p*q:=by rw [wrapB]; omega
       have s2:IntKind.u64.wrap (p*q+cc)=p*q+cc:=by rw [wrapB]; omega
       have QZ:Hid (b.length≤t→(p*q+cc) / 65536=0):=Lib.hid (fun h=>by rw [ZT.out h]; omega)
       clear ZT
       have ways:(decide (t<b.length)=true)∨(decide (t<b.length)=false∧0<cc):=by
        by_cases h1:t<b.length
        ·exact Or.inl (by simpa using h1)
        ·exact Or.inr ⟨by simpa using h1,by omega⟩
       clear stop
       rcases ways with t1 | ⟨t1,t3⟩
       all_goals
        go_wp2
        go_quiet ((go_at_call 134; exact Calls.quiet_of_same (cD _)))
        have hown4:=ow_draws hown3 nq
        have hb5:=hb4.trans (below_draws wo.heap.size wr nq)
        have hsz5:=hb5.size
        clear s1 s2 cD hown3 hb4 hca4 d1 d2
        generalize wr.drewN nq=wd at *
        have H2:=Lib.hid (fun (v':Value) (w1:World) (h:World.ownsRow w1 wo.heap.size 182 1 v' (row.length+1) (row.map (Value.int .u64) ++ [.int .u64 ((p*q+cc) % 65536)]))=>ow_snoc h)
        go_wp2_with (at_builtin; refine wpList_append_own _ rfl _ _ 120 rfl wo.heap.size 182 i0 (.int .u64 0) 1 8 Tryz.underlying120 hi hz0 hz1 hz2 rfl (by decide) _ _ _ rfl (World.ownsRow.alloc hown4 _) ⟨wd.heap.size,0,none⟩ 1 1 [.int .u64 ((p*q+cc) % 65536)] rfl rfl ?e1 ?e2 ?e3 ?e4 ?e5 ?_)
        case e1 =>
         intro j u hj
         match j,hj with
         | 0,hj=>simp at hj; subst hj; simp [Addr.add]
        case e2=>intro u hu; simp at hu; subst hu; rfl
        case e3=>unfold maxLen; (try simp); omega
        case e4=>(try simp); omega
        case e5=>(try simp); omega
        intro v' w1 hown' hgrow _
        have R1:=H2.out _ _ hown'
        have R2:Below wo.heap.size wo w1:=(b_alloc hb5).grown hgrow (by simp; omega) (ow_block hown4)
        clear hown' hgrow hown4 H2 hb5
        go_wp2
        go_roundw
        case rel=>exact ⟨t+1,row ++ [(p*q+cc) % 65536],(p*q+cc) / 65536,by omega,by simp,rfl,q2,q3,fun h=>QZ.out (by omega),R1,by rw [List.length_append,HL.out]; rfl,dig_app dR (dig_one (by omega) (by omega)),Q1.out,R2⟩
        case measure=>simp [intOf]; omega
  ·obtain rfl:k=a.length:=by omega
   have eO:=HO.out.2.2.1
   rw [val_take_all (Nat.le_refl _)] at eO
   have cC:=cut_any (!(n1 == n2)) (.slice ao ol co) o wo HO.out.2.1 HO.out.1
   rw [eO] at cC
   clear eO
   go_wp2_with fail
   refine cC.mono ?_
   rintro e w2 ⟨bv,rfl,hR,hb2⟩
   obtain ⟨n9,a9,k9,c9,rfl⟩:=bg_form hR
   have r2:=bv_keep hb2 (bv_keep hB r1)
   obtain ⟨n',a',k',c'',r3,f3⟩:=bv_use r2
   have B3:Below w.heap.size w w2:=b_trans (b_trans B1 hB) hb2
   have HB:=Lib.hid (And.intro r2 hR)
   clear hb2 hR r2 cC HO
   go_wp2
   exact bodyPost_ret (v:=.agg #[.bool n9,.slice a9 k9 c9]) (by simp [results,Tryz.results59,go_sem,r3]) rfl ⟨_,rfl,bg_store HB.out.1 HB.out.2,b_set (b_set B3 (by simp; omega)) (by simp; omega)⟩
theorem mul_big (va vb:Value) (x y:Int) (w:World) (hx:BG w va x) (hy:BG w vb y) (sx:Small x) (sy:Small y) :
  Calls Tryz.prog 59 #[va,vb] w (RetB (x*y) w):=by
 obtain ⟨n1,aa,a,ca,rfl,hA,da,na,la,rfl,ca1,ca2⟩:=bg_open hx
 obtain ⟨n2,ab,b,cb,rfl,hB',db,nb,lb,rfl,cb1,cb2⟩:=bg_open hy
 have ma:=small_len da na la sx
 have mb:=small_len db nb lb sy
 have:=mul_go n1 n2 aa ab ca cb a b w hA hB' da db ma mb
 rwa [show sgn (n1 != n2) (val a*val b)=sgn n1 (val a)*sgn n2 (val b) by unfold sgn; cases n1 <;> cases n2 <;> simp [Int.neg_mul,Int.mul_neg]] at this
end Go.Proofs.YtmcchknilnejgaaGreatDoor
namespace Go.Proofs.YtmcchknilnejgaaGreatDoor
open Go.RowKit Go.Shelf Go.Joins
def VB (w:World) (b:Nat) (z:Int):Prop:=∃ n a k c,w.heap[b]?=some (.cells #[.bool n,.slice a k c] 122 (0,0))∧BG w (.agg #[.bool n,.slice a k c]) z
theorem vb_keep {w w':World} {b:Nat} {z:Int} (h:VB w b z) (hb:Below w.heap.size w w'):VB w' b z:=by
 obtain ⟨n,a,k,c,h1,h2⟩:=h
 exact ⟨n,a,k,c,by rw [hb.block b (Array.getElem?_eq_some_iff.1 h1).1]; exact h1,bg_keep h2 hb⟩
theorem vb_bv {w:World} {b:Nat} {z:Int} (h:VB w b z):BV w b:=by
 obtain ⟨n,a,k,c,h1,_⟩:=h
 exact ⟨n,a,k,c,h1⟩
theorem vb_use {w:World} {b:Nat} {z:Int} (h:VB w b z):∃ n a k c,BC w b n (.slice a k c)∧WF w b∧BG w (.agg #[.bool n,.slice a k c]) z:=by
 obtain ⟨n,a,k,c,h1,h2⟩:=h
 exact ⟨n,a,k,c,⟨by rw [cell_of_block h1]; rfl,by rw [cell_of_block h1]; rfl⟩,⟨unfrozen_of_block h1 0,unfrozen_of_block h1 1⟩,h2⟩
theorem vb_new {w:World} {b:Nat} {n:Bool} {a:Option Addr} {k c:Nat} {z:Int} (hn:b=w.heap.size) (h:BG w (.agg #[.bool n,.slice a k c]) z):VB (w.alloc (Obj.cells #[.bool n,.slice a k c] 122)) b z:=by
 subst hn
 exact ⟨n,a,k,c,(MapKept.heap_alloc w _).1,bg_keep h (b_alloc (Below.refl _ _))⟩
theorem heap_two {w:World} {b k:Nat} {u u':Value} (h:k≠b):((w.setCell ⟨b,0,none⟩ u).setCell ⟨b,1,none⟩ u').heap[k]?=w.heap[k]?:=by
 rw [Below.heap_setCell _ _ _ _ h,Below.heap_setCell _ _ _ _ h]
theorem vb_store {w:World} {b:Nat} {n:Bool} {a:Option Addr} {k c:Nat} {z:Int} (hv:BV w b) (h:BG w (.agg #[.bool n,.slice a k c]) z):VB ((w.setCell ⟨b,0,none⟩ (.bool n)).setCell ⟨b,1,none⟩ (.slice a k c)) b z:=by
 refine ⟨n,a,k,c,?_,bg_store hv h⟩
 obtain ⟨n',a',k',c',h1⟩:=hv
 exact block_setCell (block_setCell h1 _) _
theorem vb_other {w:World} {b b2:Nat} {u u':Value} {z:Int} (hv:BV w b) (h:VB w b2 z) (ne:b2≠b):VB ((w.setCell ⟨b,0,none⟩ u).setCell ⟨b,1,none⟩ u') b2 z:=by
 obtain ⟨n,a,k,c,h1,h2⟩:=h
 exact ⟨n,a,k,c,by rw [heap_two ne]; exact h1,bg_store hv h2⟩
theorem bv_other {w:World} {b b2:Nat} {u u':Value} (h:BV w b2) (ne:b2≠b):BV ((w.setCell ⟨b,0,none⟩ u).setCell ⟨b,1,none⟩ u') b2:=by
 obtain ⟨n,a,k,c,h1⟩:=h
 exact ⟨n,a,k,c,by rw [heap_two ne]; exact h1⟩
theorem small_one:Small 1:=small_of (by decide) (by decide)
theorem bg_zero (w:World):BG w (.agg #[.bool false,.slice none 0 0]) 0:=⟨_,_,[],rfl,Or.inl ⟨rfl,rfl⟩,dig_nil,fun d h=>absurd h (by simp),by simp,rfl⟩
theorem bit_of {l:List Int} (h:Dig l) (i:Nat):val l / 2 ^ i % 2=l.getD (i / 16) 0 / 2 ^ (i % 16) % 2:=by
 have e:val l=val (l.take (i / 16))+65536 ^ (i / 16)*(l.getD (i / 16) 0+65536*val (l.drop (i / 16+1))):=by
  have h1:val l=val (l.take (i / 16+1))+65536 ^ (i / 16+1)*val (l.drop (i / 16+1)):=by
   by_cases c:i / 16+1≤l.length
   ·conv=>lhs; rw [← List.take_append_drop (i / 16+1) l,val_append,List.length_take,Nat.min_eq_left c]
   ·rw [List.take_of_length_le (by omega),List.drop_of_length_le (by omega)]; simp [val]
  rw [h1,val_take_succ,Int.pow_succ,Int.mul_add,Int.mul_assoc]
  omega
 have t0:=val_nonneg (dig_take h (i / 16))
 have t1:val (l.take (i / 16))<65536 ^ (i / 16):=by
  have h1:=val_lt (dig_take h (i / 16))
  have h2:=pow_mono65 (show (l.take (i / 16)).length≤i / 16 by simp; omega)
  omega
 have p0:=pow_pos65 (i / 16)
 have pe:(2:Int) ^ i=65536 ^ (i / 16)*2 ^ (i % 16):=by
  rw [show (65536:Int)=2 ^ 16 by decide,← Int.pow_mul,← Int.pow_add]
  congr 1; omega
 rw [pe,← Int.ediv_ediv_of_nonneg (by omega),e,Int.add_mul_ediv_left _ _ (by omega),Int.ediv_eq_zero_of_lt t0 t1,Int.zero_add]
 generalize l.getD (i / 16) 0=d
 generalize val (l.drop (i / 16+1))=R
 have q:(65536:Int)=2 ^ (i % 16)*(2*2 ^ (15 - i % 16)):=by
  rw [Int.mul_left_comm,← Int.pow_add,show i % 16+(15 - i % 16)=15 by omega]; decide
 have pz:(0:Int)<2 ^ (i % 16):=Int.pow_pos (by decide)
 rw [q,Int.mul_assoc,Int.add_mul_ediv_left _ _ (by omega),Int.mul_assoc]
 omega
theorem top_step (A:Int) (i:Nat):A / 2 ^ i=2*(A / 2 ^ (i+1))+A / 2 ^ i % 2:=by
 have pz:(0:Int)<2 ^ i:=Int.pow_pos (by decide)
 rw [Int.pow_succ,← Int.ediv_ediv_of_nonneg (by omega)]
 omega
theorem top_zero {A:Int} {n:Nat} (h0:0≤A) (h:A<65536 ^ n):A / 2 ^ (16*n)=0:=by
 apply Int.ediv_eq_zero_of_lt h0
 rw [Int.pow_mul]
 exact h
structure DW (A y q r:Int) (k:Nat):Prop where
 r0:0≤r
 r1:r<y
 q0:0≤q
 e:A / 2 ^ k=q*y+r
theorem dw_step {A y q r:Int} {i:Nat} (h:DW A y q r (i+1)) (t:Int) (ht:t=A / 2 ^ i % 2) :
  (y≤r+r+t→DW A y (q+q+1) (r+r+t - y) i)∧(r+r+t<y→DW A y (q+q) (r+r+t) i):=by
 obtain ⟨r0,r1,q0,e⟩:=h
 have s:=top_step A i
 rw [← ht,e] at s
 have t0:0≤t∧t≤1:=by omega
 have e2:(q+q)*y=2*(q*y):=by rw [Int.add_mul]; omega
 constructor
 ·intro h
  exact ⟨by omega,by omega,by omega,by rw [Int.add_mul,e2,s]; omega⟩
 ·intro h
  exact ⟨by omega,by omega,by omega,by rw [e2,s]; omega⟩
theorem dw_q {A y q r:Int} {k:Nat} (h:DW A y q r k) (A0:0≤A) (y0:1≤y):q≤A:=by
 obtain ⟨r0,r1,q0,e⟩:=h
 have h1:A / 2 ^ k≤A:=Int.ediv_le_self _ A0
 have h2:q*1≤q*y:=Int.mul_le_mul_of_nonneg_left y0 q0
 omega
end Go.Proofs.YtmcchknilnejgaaGreatDoor
namespace Go.Proofs.YtmcchknilnejgaaGreatDoor
open Go.RowKit Go.Shelf Go.Joins
def Tiny (z:Int):Prop:=-2037035976334486086268445688409378161051468393665936250636140449354381299763336706183397376≤z∧z≤2037035976334486086268445688409378161051468393665936250636140449354381299763336706183397376
theorem tiny_small {z:Int} (h:Tiny z):Small z:=by obtain ⟨a,b⟩:=h; exact small_of (by omega) (by omega)
structure DR (w:World) (n1:Bool) (aa:Option Addr) (a:List Int) (ca:Nat) (y:Int) (B:Nat) (q r:Int) (wr:World):Prop where
 hA:wr.heap[B]?=some (.cells #[.bool n1,.slice aa a.length ca] 122 (0,0))
 hD:DG wr (.slice aa a.length ca) a
 hY:VB wr (B+1) y
 hR:BV wr (B+1+1)
 hQ:VB wr (B+1+1+1) q
 hL:VB wr (B+1+1+1+1) r
 hB:Below w.heap.size w wr
theorem dr_keep {w wr w':World} {n1:Bool} {aa:Option Addr} {a:List Int} {ca:Nat} {y:Int} {B:Nat} {q r:Int} (h:DR w n1 aa a ca y B q r wr) (hb:Below wr.heap.size wr w'):DR w n1 aa a ca y B q r w' :=
 ⟨by rw [hb.block B (Array.getElem?_eq_some_iff.1 h.hA).1]; exact h.hA,dg_keep h.hD hb,vb_keep h.hY hb,bv_keep hb h.hR,vb_keep h.hQ hb,vb_keep h.hL hb,b_trans h.hB hb⟩
theorem dr_left {w wr:World} {n1:Bool} {aa:Option Addr} {a:List Int} {ca:Nat} {y:Int} {B:Nat} {q r r':Int} {n:Bool} {x:Option Addr} {k c:Nat} (h:DR w n1 aa a ca y B q r wr) (hv:BG wr (.agg #[.bool n,.slice x k c]) r') (hw:w.heap.size≤B) :
  DR w n1 aa a ca y B q r' ((wr.setCell ⟨B+1+1+1+1,0,none⟩ (.bool n)).setCell ⟨B+1+1+1+1,1,none⟩ (.slice x k c)):=by
 have b:=vb_bv h.hL
 exact ⟨by rw [heap_two (by omega)]; exact h.hA,dg_store b h.hD,vb_other b h.hY (by omega),bv_other h.hR (by omega),vb_other b h.hQ (by omega),vb_store b hv,b_set (b_set h.hB (by show _≤B+1+1+1+1; omega)) (by show _≤B+1+1+1+1; omega)⟩
theorem dr_quot {w wr:World} {n1:Bool} {aa:Option Addr} {a:List Int} {ca:Nat} {y:Int} {B:Nat} {q r q':Int} {n:Bool} {x:Option Addr} {k c:Nat} (h:DR w n1 aa a ca y B q r wr) (hv:BG wr (.agg #[.bool n,.slice x k c]) q') (hw:w.heap.size≤B) :
  DR w n1 aa a ca y B q' r ((wr.setCell ⟨B+1+1+1,0,none⟩ (.bool n)).setCell ⟨B+1+1+1,1,none⟩ (.slice x k c)):=by
 have b:=vb_bv h.hQ
 exact ⟨by rw [heap_two (by omega)]; exact h.hA,dg_store b h.hD,vb_other b h.hY (by omega),bv_other h.hR (by omega),vb_store b hv,vb_other b h.hL (by omega),b_set (b_set h.hB (by show _≤B+1+1+1; omega)) (by show _≤B+1+1+1; omega)⟩
theorem cmp3_ge (a b:Int):(b≤a→0≤cmp3 a b)∧(a<b→¬ 0≤cmp3 a b):=by
 unfold cmp3
 constructor
 ·intro h; split
  ·decide
  ·split <;> omega
 ·intro h
  rw [if_neg (by omega),if_pos h]
  decide
theorem dw_end {A y q r:Int} (h:DW A y q r 0) (y1:1≤y):A / y=q∧(r=0→-A / y=-q)∧(r≠0→-A / y=-(q+1)):=by
 obtain ⟨r0,r1,q0,e⟩:=h
 simp at e
 refine ⟨?_,?_,?_⟩
 ·rw [e,Int.add_comm,Int.add_mul_ediv_right _ _ (by omega),Int.ediv_eq_zero_of_lt r0 r1]; omega
 ·intro h
  subst h
  rw [e,Int.add_zero,← Int.neg_mul,Int.mul_ediv_cancel _ (by omega)]
 ·intro h
  have:-A=(y - r)+(-(q+1))*y:=by rw [e,Int.neg_mul,Int.add_mul]; omega
  rw [this,Int.add_mul_ediv_right _ _ (by omega),Int.ediv_eq_zero_of_lt (by omega) (by omega)]; omega
theorem bg_digits {w:World} {n:Bool} {a:Option Addr} {k c:Nat} {z:Int} (h:BG w (.agg #[.bool n,.slice a k c]) z) (z0:0≤z):∃ l:List Int,k=l.length∧DG w (.slice a k c) l∧Dig l∧val l=z∧(l=[]↔z=0):=by
 obtain ⟨m,dv,l,e,h2,h3,h4,h5,h6⟩:=h
 simp at e
 obtain ⟨rfl,rfl⟩:=e
 obtain ⟨k1,k2,k3⟩:=sgn_neg h3 h4 h5
 obtain ⟨a',c',e',_⟩:=dg_len h2
 simp at e'
 obtain ⟨rfl,rfl,rfl⟩:=e'
 exact ⟨l,rfl,h2,h3,by rw [← h6] at k3; omega,by rw [← h6] at k2; exact k2.symm⟩
theorem half_pow (d:Int) (s:Nat):d / 2 ^ s / 2=d / 2 ^ (s+1):=by
 rw [Int.pow_succ,Int.ediv_ediv_of_nonneg (Int.le_of_lt (Int.pow_pos (by decide)))]
theorem shr_bd {d:Int} (h0:0≤d) (h1:d≤65535) (s:Nat):0≤d / 2 ^ s∧d / 2 ^ s≤65535:=by
 have pz:(0:Int)<2 ^ s:=Int.pow_pos (by decide)
 exact ⟨Int.ediv_nonneg h0 (by omega),Int.le_trans (Int.ediv_le_self _ h0) h1⟩
theorem down_go (n1:Bool) (aa:Option Addr) (ca:Nat) (a:List Int) (vb:Value) (y:Int) (w:World) (hA:DG w (.slice aa a.length ca) a) (da:Dig a) (ma:a.length≤1000) (hy:BG w vb y) (y1:1≤y) (ty:Tiny y) (tA:Tiny (val a)) :
  Calls Tryz.prog 114 #[.agg #[.bool n1,.slice aa a.length ca],vb] w (RetB (sgn n1 (val a) / y) w):=by
 obtain ⟨nb,ab,kb,cb,rfl⟩:=bg_form hy
 have A0:=val_nonneg da
 have dw0:DW (val a) y 0 0 (16*a.length):=⟨Int.le_refl _,by omega,Int.le_refl _,by rw [top_zero A0 (val_lt da)]; simp⟩
 go_enter Tryz.func114,Tryz.ntmps114
 go_wp2
 have B5:Below w.heap.size w (((((w.alloc (Obj.cells #[.bool n1,.slice aa a.length ca] 122)).alloc (Obj.cells #[.bool nb,.slice ab kb cb] 122)).alloc (Obj.cells #[.bool false,.slice none 0 0] 122)).alloc (Obj.cells #[.bool false,.slice none 0 0] 122)).alloc (Obj.cells #[.bool false,.slice none 0 0] 122)):=b_alloc (b_alloc (b_alloc (b_alloc (b_alloc (Below.refl _ _)))))
 have D0:DR w n1 aa a ca y w.heap.size 0 0 (((((w.alloc (Obj.cells #[.bool n1,.slice aa a.length ca] 122)).alloc (Obj.cells #[.bool nb,.slice ab kb cb] 122)).alloc (Obj.cells #[.bool false,.slice none 0 0] 122)).alloc (Obj.cells #[.bool false,.slice none 0 0] 122)).alloc (Obj.cells #[.bool false,.slice none 0 0] 122)):=by
  refine ⟨?_,dg_keep hA B5,?_,?_,?_,?_,B5⟩
  ·rw [Below.heap_alloc _ _ _ (by simp; omega),Below.heap_alloc _ _ _ (by simp; omega),Below.heap_alloc _ _ _ (by simp; omega),Below.heap_alloc _ _ _ (by simp)]
   exact (MapKept.heap_alloc w _).1
  ·exact vb_keep (vb_new (by simp) (bg_keep hy (b_alloc (Below.refl _ _)))) (b_alloc (b_alloc (b_alloc (Below.refl _ _))))
  ·exact bv_keep (b_alloc (b_alloc (Below.refl _ _))) (bv_new _ _ _ _ (by simp))
  ·exact vb_keep (vb_new (by simp) (bg_zero _)) (b_alloc (Below.refl _ _))
  ·exact vb_new (by simp) (bg_zero _)
 have sl:∀ x:Int,x=(a.length:Int)→0≤x∧x≤1000:=fun x h=>by omega
 clear hA hy B5
 generalize (((((w.alloc (Obj.cells #[.bool n1,.slice aa a.length ca] 122)).alloc (Obj.cells #[.bool nb,.slice ab kb cb] 122)).alloc (Obj.cells #[.bool false,.slice none 0 0] 122)).alloc (Obj.cells #[.bool false,.slice none 0 0] 122)).alloc (Obj.cells #[.bool false,.slice none 0 0] 122))=W0 at *
 have k1:BC W0 w.heap.size n1 (.slice aa a.length ca):=⟨by rw [cell_of_block D0.hA]; rfl,by rw [cell_of_block D0.hA]; rfl⟩
 have tt:16*(a.length:Int)≤16000:=by omega
 go_wp2
 clear k1
 go_loopw [7] (fun iv wr=>∃ (k:Nat) (q r:Int),k≤16*a.length∧iv=.int .i64 ((k:Int) - 1)∧DW (val a) y q r k∧DR w n1 aa a ca y w.heap.size q r wr) (fun iv _=>(intOf iv+1).toNat)
 case atStart=>exact ⟨16*a.length,0,0,Nat.le_refl _,by simp,dw0,D0⟩
 case round =>
  obtain ⟨k,q,r,hk,rfl,dw,D⟩:=hrel
  clear dw0 D0 sl
  have qA:=dw_q dw A0 y1
  by_cases c:k=0
  ·subst c
   have DE:=dw_end dw y1
   have q0:=dw.q0; have r0:=dw.r0
   cases n1
   ·have CC:Hid (sgn false q=sgn false (val a) / y):=Lib.hid (by unfold sgn; simp; rw [DE.1])
    clear DE dw
    have k1:BC wr w.heap.size false (.slice aa a.length ca):=⟨by rw [cell_of_block D.hA]; rfl,by rw [cell_of_block D.hA]; rfl⟩
    obtain ⟨nq,aq,kq,cq,qq,fq,gq⟩:=vb_use D.hQ
    obtain ⟨l,rfl,gl,dl,vl,_⟩:=bg_digits gq (by omega)
    have ka:BC _ w.heap.size false (.slice aa a.length ca):=⟨by rw [cell_of_block D.hA]; rfl,by rw [cell_of_block D.hA]; rfl⟩
    have cC:=cut_any false _ l _ dl gl
    rw [vl,show sgn false (q)=sgn false (val a) / y from CC.out] at cC
    clear gq gl vl dl
    generalize l.length=ll at *
    go_wp2_with fail
    refine cC.mono ?_
    rintro e w9 ⟨v9,rfl,h9,hb9⟩
    obtain ⟨n9',a9',k9',c9',rfl⟩:=bg_form h9
    have r9:=bv_keep hb9 D.hR
    have B9:=b_trans D.hB hb9
    obtain ⟨n8',a8',k8',c8',r8,f8⟩:=bv_use r9
    have HB:=Lib.hid (And.intro r9 h9)
    clear h9 hb9 r9 cC qq fq ka
    go_wp2
    exact bodyPost_ret (v:=.agg #[.bool n9',.slice a9' k9' c9']) (by simp [results,Tryz.results114,go_sem,r8]) rfl ⟨_,rfl,bg_store HB.out.1 HB.out.2,b_set (b_set B9 (by simp; omega)) (by simp; omega)⟩
   ·obtain ⟨nL,aL,kL,cL,qL,fL,gL⟩:=vb_use D.hL
    obtain ⟨l2,rfl,_,_,_,hz⟩:=bg_digits gL r0
    have k1:BC wr w.heap.size true (.slice aa a.length ca):=⟨by rw [cell_of_block D.hA]; rfl,by rw [cell_of_block D.hA]; rfl⟩
    have qE:=dw_q dw A0 y1
    by_cases rz:r=0
    ·have len0:¬ (0:Int)<(l2.length:Int):=by rw [hz.2 rz]; simp
     have CC:Hid (sgn true q=sgn true (val a) / y):=Lib.hid (by unfold sgn; simp; rw [DE.2.1 rz])
     clear DE dw gL hz
     generalize l2.length=ll2 at *
     obtain ⟨nq,aq,kq,cq,qq,fq,gq⟩:=vb_use D.hQ
     obtain ⟨l,rfl,gl,dl,vl,_⟩:=bg_digits gq (by omega)
     have ka:BC _ w.heap.size true (.slice aa a.length ca):=⟨by rw [cell_of_block D.hA]; rfl,by rw [cell_of_block D.hA]; rfl⟩
     have cC:=cut_any true _ l _ dl gl
     rw [vl,show sgn true (q)=sgn true (val a) / y from CC.out] at cC
     clear gq gl vl dl
     generalize l.length=ll at *
     go_wp2_with fail
     refine cC.mono ?_
     rintro e w9 ⟨v9,rfl,h9,hb9⟩
     obtain ⟨n9',a9',k9',c9',rfl⟩:=bg_form h9
     have r9:=bv_keep hb9 D.hR
     have B9:=b_trans D.hB hb9
     obtain ⟨n8',a8',k8',c8',r8,f8⟩:=bv_use r9
     have HB:=Lib.hid (And.intro r9 h9)
     clear h9 hb9 r9 cC qq fq ka
     go_wp2
     exact bodyPost_ret (v:=.agg #[.bool n9',.slice a9' k9' c9']) (by simp [results,Tryz.results114,go_sem,r8]) rfl ⟨_,rfl,bg_store HB.out.1 HB.out.2,b_set (b_set B9 (by simp; omega)) (by simp; omega)⟩
    ·have len0:(0:Int)<(l2.length:Int):=by
      have:l2≠[]:=fun h=>rz (hz.1 h)
      have:=List.length_pos_iff.2 this
      omega
     have CC:Hid (sgn true (q+1)=sgn true (val a) / y):=Lib.hid (by unfold sgn; simp; rw [DE.2.2 rz])
     clear DE dw gL hz
     generalize l2.length=ll2 at *
     go_wp2
     obtain ⟨n5,a5,k5,c5,q1,f5,q2⟩:=vb_use D.hQ
     have sq:Small q:=small_of (by have:=tA.2; omega) (by have:=tA.2; omega)
     refine region_each [63,64,65] (fun i X_ U_=>match i with | 0=>X_=.agg #[.bool n5,.slice a5 k5 c5] | 1=>BG U_ X_ 1 | 2=>BG U_ X_ (q+1) | _=>True) (fun i=>false) (by kernel_rfl) (by kernel_rfl) (by kernel_rfl) (by kernel_rfl) (by kernel_rfl) ?_ ?_ ?_ ?_
     ·refine swp (upS (upS (upS up0 ?_) ?_) ?_)
      ·exact fun _ _ _ h _=>h
      ·intro x w w' h hb; exact bg_keep h hb
      ·intro x w w' h hb; exact bg_keep h hb
     ·intro i x w hi ha h
      cases ha
     ·refine upS (upS (upS up0 ?_) ?_) ?_
      all_goals intro v f w' hb hv hB hd
      ·have b5:f.tmps[5]?=some (.pointer (some ⟨w.heap.size+1+1+1,0,none⟩)):=(hb 5 (by decide)).trans rfl
       clear hb hv hd
       have c:=bc_keep hB q1
       refine wpOp_step rfl (fun K hK=>?_)
       go_simp
       exact hK _ _ ⟨_,rfl,Below.refl _ _,rfl,fun h=>absurd h (by decide)⟩
      ·clear hb hv hd
       refine wpOp_call rfl (fun _ _=>by go_simp) (by simp [Act.eval]) (of_big 1 (by decide) (by decide) _) ?_
       rintro e w5 ⟨v5,rfl,h5,hb5⟩
       exact ⟨_,rfl,_,rfl,hb5,h5,fun h=>absurd h (by decide)⟩
      ·have h0:(v 0)=.agg #[.bool n5,.slice a5 k5 c5]:=hd 0 (by kernel_rfl)
       have d0:f.tmps[63]?=some (.agg #[.bool n5,.slice a5 k5 c5]):=(hv 0 63 rfl).trans (congrArg some h0)
       clear h0
       have h1:BG w' (v 1) 1:=hd 1 (by kernel_rfl)
       have d1:f.tmps[64]?=some (v 1):=hv 1 64 rfl
       clear hb hv hd
       refine wpOp_call rfl (fun _ _=>by go_simp) (by simp [Act.eval,d0,d1]) (add_big _ _ (q) 1 _ (bg_keep q2 hB) h1 sq small_one) ?_
       rintro e w5 ⟨v5,rfl,h5,hb5⟩
       exact ⟨_,rfl,_,rfl,hb5,h5,fun h=>absurd h (by decide)⟩
     ·intro v w' hB hF hD
      have F0:(v 0)=.agg #[.bool n5,.slice a5 k5 c5]:=hF 0 (by simp)
      have F1:BG w' (v 1) 1:=hF 1 (by simp)
      have F2:BG w' (v 2) (q+1):=hF 2 (by simp)
      clear hF
      obtain ⟨n9,a9,k9,c9,e1⟩:=bg_form F1
      obtain ⟨n8,a8,k8,c8,e2⟩:=bg_form F2
      rw [e2] at F2
      simp only [frOf,frGo,Nat.zero_add,Nat.reduceAdd,F0,e1,e2]
      clear F1 e1 e2 F0
      have D10:=dr_keep D hB
      obtain ⟨nq,aq,kq,cq,qq,fq,_⟩:=vb_use D10.hQ
      have D11:=dr_quot D10 F2 (Nat.le_refl _)
      clear D10 F2 hB hD q1 q2 f5 qL fL k1 D
      obtain ⟨nq,aq,kq,cq,qq,fq,gq⟩:=vb_use D11.hQ
      obtain ⟨l,rfl,gl,dl,vl,_⟩:=bg_digits gq (by omega)
      have ka:BC _ w.heap.size true (.slice aa a.length ca):=⟨by rw [cell_of_block D11.hA]; rfl,by rw [cell_of_block D11.hA]; rfl⟩
      have cC:=cut_any true _ l _ dl gl
      rw [vl,show sgn true (q+1)=sgn true (val a) / y from CC.out] at cC
      clear gq gl vl dl
      generalize l.length=ll at *
      go_wp2_with fail
      refine cC.mono ?_
      rintro e w9 ⟨v9,rfl,h9,hb9⟩
      obtain ⟨n9',a9',k9',c9',rfl⟩:=bg_form h9
      have r9:=bv_keep hb9 D11.hR
      have B9:=b_trans D11.hB hb9
      obtain ⟨n8',a8',k8',c8',r8,f8⟩:=bv_use r9
      have HB:=Lib.hid (And.intro r9 h9)
      clear h9 hb9 r9 cC qq fq ka
      go_wp2
      exact bodyPost_ret (v:=.agg #[.bool n9',.slice a9' k9' c9']) (by simp [results,Tryz.results114,go_sem,r8]) rfl ⟨_,rfl,bg_store HB.out.1 HB.out.2,b_set (b_set B9 (by simp; omega)) (by simp; omega)⟩
  ·obtain ⟨i,rfl⟩:∃ i,k=i+1:=⟨k - 1,by omega⟩
   have st:=fun t h=>dw_step dw t h
   have hbit:=bit_of da i
   have hi16:i / 16<a.length:=by omega
   obtain ⟨ga,ca',e1,_,_,hca⟩:=dg_cell D.hD (i / 16) hi16
   simp at e1
   obtain ⟨rfl,rfl⟩:=e1
   have k1:BC wr w.heap.size n1 (.slice (some ⟨ga,0,none⟩) a.length ca):=⟨by rw [cell_of_block D.hA]; rfl,by rw [cell_of_block D.hA]; rfl⟩
   have dd:=dig_getD da (i / 16)
   have ST:=Lib.hid (st _ hbit.symm)
   have r0:=dw.r0; have r1:=dw.r1; have q0:=dw.q0
   clear st hbit dw
   generalize a.getD (i / 16) 0=d at *
   rw [show (((i+1:Nat):Int) - 1)=(i:Int) by omega]
   have hm:ca≤9223372036854775807:=by have:=dg_len D.hD; obtain ⟨_,_,e,_,h⟩:=this; simp at e; unfold maxLen at h; omega
   go_wp2
   go_loop [8,9] (fun xv sv=>∃ s:Nat,s≤i % 16∧sv=.int .i64 s∧xv=.int .u64 (d / 2 ^ s)) (fun _ sv=>i - (intOf sv).toNat)
   case atStart=>exact ⟨0,Nat.zero_le _,rfl,by simp⟩
   case round =>
    obtain ⟨s,hs,rfl,rfl⟩:=hrel
    have sb:=shr_bd dd.1 dd.2 s
    by_cases cs:s<i % 16
    ·have HP:=Lib.hid (half_pow d s)
     generalize hx:d / 2 ^ s=x at *
     go_wp2
     go_round
     case rel=>exact ⟨s+1,by omega,by simp,by rw [← HP.out]⟩
     case measure=>simp [intOf]; omega
    ·obtain rfl:s=i % 16:=by omega
     generalize d / 2 ^ (i % 16)=x at *
     obtain ⟨nl,al,kl,cl,q1,f1,g1⟩:=vb_use D.hL
     have sr:Small r:=small_of (by have:=ty.1; have:=ty.2; omega) (by have:=ty.1; have:=ty.2; omega)
     have t0:0≤x % 2∧x % 2≤1:=by omega
     go_wp2_with fail
     refine (add_big _ _ r r _ g1 g1 sr sr).mono ?_
     rintro e w1 ⟨v1,rfl,h1,hb1⟩
     obtain ⟨n1',a1',k1',c1',rfl⟩:=bg_form h1
     have D1:=dr_keep D hb1
     clear q1 f1 g1 D hb1
     go_wp2_with fail
     refine (natural_any _ (by omega) (by omega) _).mono ?_
     rintro e w2 ⟨v2,rfl,h2,hb2⟩
     obtain ⟨n2',a2',k2',c2',rfl⟩:=bg_form h2
     have D2:=dr_keep D1 hb2
     have h1:=bg_keep h1 hb2
     clear D1 hb2
     go_wp2_with fail
     refine (add_big _ _ (r+r) (x % 2) _ h1 h2 (small_of (by have:=ty.1; have:=ty.2; have:=tA.2; omega) (by have:=ty.1; have:=ty.2; have:=tA.2; omega)) (small_of (by have:=ty.1; have:=ty.2; have:=tA.2; omega) (by have:=ty.1; have:=ty.2; have:=tA.2; omega))).mono ?_
     rintro e w3 ⟨v3,rfl,h3,hb3⟩
     obtain ⟨n3',a3',k3',c3',rfl⟩:=bg_form h3
     have D3:=dr_keep D2 hb3
     obtain ⟨na,xa,ka,cca,ql,fl,_⟩:=vb_use D3.hL
     obtain ⟨nq,aq,kq,cq,qq,fq,gq⟩:=vb_use D3.hQ
     have D4:=dr_left D3 h3 (Nat.le_refl _)
     have gq4:=bg_store (u:=.bool n3') (u':=.slice a3' k3' c3') (vb_bv D3.hL) gq
     clear h1 h2 h3 hb3 D2 D3 gq
     go_wp2_with fail
     refine (add_big _ _ q q _ gq4 gq4 (small_of (by have:=ty.1; have:=ty.2; have:=tA.2; omega) (by have:=ty.1; have:=ty.2; have:=tA.2; omega)) (small_of (by have:=ty.1; have:=ty.2; have:=tA.2; omega) (by have:=ty.1; have:=ty.2; have:=tA.2; omega))).mono ?_
     rintro e w4 ⟨v4,rfl,h4,hb4⟩
     obtain ⟨n4',a4',k4',c4',rfl⟩:=bg_form h4
     have D5:=dr_keep D4 hb4
     clear ql fl qq fq gq4 D4 hb4
     obtain ⟨nq,aq,kq,cq,qq,fq,_⟩:=vb_use D5.hQ
     obtain ⟨nL,aL,kL,cL,qL,fL,gL⟩:=vb_use D5.hL
     obtain ⟨nY,aY,kY,cY,qY,fY,gY⟩:=vb_use D5.hY
     have D6:=dr_quot D5 h4 (Nat.le_refl _)
     have gL6:=bg_store (u:=.bool n4') (u':=.slice a4' k4' c4') (vb_bv D5.hQ) gL
     have gY6:=bg_store (u:=.bool n4') (u':=.slice a4' k4' c4') (vb_bv D5.hQ) gY
     clear h4 D5 gL gY
     go_wp2_with fail
     refine (cmp_big _ _ (r+r+x % 2) y _ gL6 gY6 (small_of (by have:=ty.1; have:=ty.2; have:=tA.2; omega) (by have:=ty.1; have:=ty.2; have:=tA.2; omega)) (small_of (by have:=ty.1; have:=ty.2; have:=tA.2; omega) (by have:=ty.1; have:=ty.2; have:=tA.2; omega))).mono ?_
     rintro e w5 ⟨rfl,hb5⟩
     have D7:=dr_keep D6 hb5
     clear qq fq qL fL qY fY gL6 gY6 D6 hb5
     have CS:=Lib.hid (cmp3_ge (r+r+x % 2) y)
     by_cases le:y≤r+r+x % 2
     ·have cv:0≤cmp3 (r+r+x % 2) y:=CS.out.1 le
      generalize cmp3 (r+r+x % 2) y=cc at cv
      obtain ⟨nL,aL,kL,cL,qL,fL,gL⟩:=vb_use D7.hL
      obtain ⟨nY,aY,kY,cY,qY,fY,gY⟩:=vb_use D7.hY
      go_wp2_with fail
      refine (sub_big _ _ (r+r+x % 2) y _ gL gY (small_of (by have:=ty.1; have:=ty.2; have:=tA.2; omega) (by have:=ty.1; have:=ty.2; have:=tA.2; omega)) (small_of (by have:=ty.1; have:=ty.2; have:=tA.2; omega) (by have:=ty.1; have:=ty.2; have:=tA.2; omega))).mono ?_
      rintro e w6 ⟨v6,rfl,h6,hb6⟩
      obtain ⟨n6',a6',k6',c6',rfl⟩:=bg_form h6
      have D8:=dr_keep D7 hb6
      clear qL fL gL qY fY gY D7 hb6
      obtain ⟨nL,aL,kL,cL,qL,fL,_⟩:=vb_use D8.hL
      have D9:=dr_left D8 h6 (Nat.le_refl _)
      clear D8 h6
      go_wp2
      generalize (w6.setCell ⟨w.heap.size+1+1+1+1,0,none⟩ (.bool n6')).setCell ⟨w.heap.size+1+1+1+1,1,none⟩ (.slice a6' k6' c6')=W7 at *
      clear qL fL
      obtain ⟨n5,a5,k5,c5,q1,f5,q2⟩:=vb_use D9.hQ
      have sq:Small (q+q):=small_of (by have:=ty.1; have:=ty.2; have:=tA.2; omega) (by have:=ty.1; have:=ty.2; have:=tA.2; omega)
      refine region_each [52,53,54] (fun i X_ U_=>match i with | 0=>X_=.agg #[.bool n5,.slice a5 k5 c5] | 1=>BG U_ X_ 1 | 2=>BG U_ X_ ((q+q)+1) | _=>True) (fun i=>false) (by kernel_rfl) (by kernel_rfl) (by kernel_rfl) (by kernel_rfl) (by kernel_rfl) ?_ ?_ ?_ ?_
      ·refine swp (upS (upS (upS up0 ?_) ?_) ?_)
       ·exact fun _ _ _ h _=>h
       ·intro x w w' h hb; exact bg_keep h hb
       ·intro x w w' h hb; exact bg_keep h hb
      ·intro i x w hi ha h
       cases ha
      ·refine upS (upS (upS up0 ?_) ?_) ?_
       all_goals intro v f w' hb hv hB hd
       ·have b5:f.tmps[5]?=some (.pointer (some ⟨w.heap.size+1+1+1,0,none⟩)):=(hb 5 (by decide)).trans rfl
        clear hb hv hd
        have c:=bc_keep hB q1
        refine wpOp_step rfl (fun K hK=>?_)
        go_simp
        exact hK _ _ ⟨_,rfl,Below.refl _ _,rfl,fun h=>absurd h (by decide)⟩
       ·clear hb hv hd
        refine wpOp_call rfl (fun _ _=>by go_simp) (by simp [Act.eval]) (of_big 1 (by decide) (by decide) _) ?_
        rintro e w5 ⟨v5,rfl,h5,hb5⟩
        exact ⟨_,rfl,_,rfl,hb5,h5,fun h=>absurd h (by decide)⟩
       ·have h0:(v 0)=.agg #[.bool n5,.slice a5 k5 c5]:=hd 0 (by kernel_rfl)
        have d0:f.tmps[52]?=some (.agg #[.bool n5,.slice a5 k5 c5]):=(hv 0 52 rfl).trans (congrArg some h0)
        clear h0
        have h1:BG w' (v 1) 1:=hd 1 (by kernel_rfl)
        have d1:f.tmps[53]?=some (v 1):=hv 1 53 rfl
        clear hb hv hd
        refine wpOp_call rfl (fun _ _=>by go_simp) (by simp [Act.eval,d0,d1]) (add_big _ _ ((q+q)) 1 _ (bg_keep q2 hB) h1 sq small_one) ?_
        rintro e w5 ⟨v5,rfl,h5,hb5⟩
        exact ⟨_,rfl,_,rfl,hb5,h5,fun h=>absurd h (by decide)⟩
      ·intro v w' hB hF hD
       have F0:(v 0)=.agg #[.bool n5,.slice a5 k5 c5]:=hF 0 (by simp)
       have F1:BG w' (v 1) 1:=hF 1 (by simp)
       have F2:BG w' (v 2) ((q+q)+1):=hF 2 (by simp)
       clear hF
       obtain ⟨n9,a9,k9,c9,e1⟩:=bg_form F1
       obtain ⟨n8,a8,k8,c8,e2⟩:=bg_form F2
       rw [e2] at F2
       simp only [frOf,frGo,Nat.zero_add,Nat.reduceAdd,F0,e1,e2]
       clear F1 e1 e2 F0
       have D10:=dr_keep D9 hB
       obtain ⟨nq,aq,kq,cq,qq,fq,_⟩:=vb_use D10.hQ
       have D11:=dr_quot D10 F2 (Nat.le_refl _)
       clear D10 D9 F2 hB hD q1 q2 f5
       go_wp2
       go_roundw
       case rel=>exact ⟨i,q+q+1,r+r+x % 2 - y,by omega,rfl,ST.out.1 le,D11⟩
       case measure=>simp [intOf]
     ·have cv:¬ 0≤cmp3 (r+r+x % 2) y:=CS.out.2 (by omega)
      generalize cmp3 (r+r+x % 2) y=cc at cv
      go_wp2
      go_roundw
      case rel=>exact ⟨i,q+q,r+r+x % 2,by omega,rfl,ST.out.2 (by omega),D7⟩
      case measure=>simp [intOf]
end Go.Proofs.YtmcchknilnejgaaGreatDoor
namespace Go.Proofs.YtmcchknilnejgaaGreatDoor
open Go.RowKit Go.Shelf Go.Joins
theorem tiny_neg {z:Int} (h:Tiny z):Tiny (-z):=by obtain ⟨a,b⟩:=h; exact ⟨by omega,by omega⟩
theorem down_big (va vb:Value) (x y:Int) (w:World) (hx:BG w va x) (hy:BG w vb y) (y1:1≤y) (tx:Tiny x) (ty:Tiny y) :
  Calls Tryz.prog 114 #[va,vb] w (RetB (x / y) w):=by
 obtain ⟨n1,aa,a,ca,rfl,hA,da,na,la,rfl,ca1,ca2⟩:=bg_open hx
 have k:=(sgn_neg da na la).2.2
 exact down_go n1 aa ca a vb y w hA da (small_len da na la (tiny_small tx)) hy y1 ty (by obtain ⟨a,b⟩:=tx; exact ⟨by omega,by omega⟩)
theorem low_step {l:List Int} {v:Int} {i:Nat} (_h:Dig l) (hi:i<4) (e:v=val ((l.take 4).drop (i+1))):65536*v+l.getD i 0=val ((l.take 4).drop i):=by
 by_cases c:i<(l.take 4).length
 ·rw [List.drop_eq_getElem_cons c]
  simp only [val]
  rw [e,List.getD_eq_getElem?_getD,List.getElem?_eq_getElem (by simp at c; omega),List.getElem_take]
  simp; omega
 ·rw [List.drop_of_length_le (by omega)] at e
  rw [List.drop_of_length_le (by omega),List.getD_eq_getElem?_getD,List.getElem?_eq_none (by simp at c; omega),e]
  simp [val]
theorem low_bd {l:List Int} (h:Dig l) (i:Nat) (hi:i≤4):0≤val ((l.take 4).drop i)∧val ((l.take 4).drop i)<65536 ^ (4 - i):=by
 have d:Dig ((l.take 4).drop i):=fun x hx=>h x (List.mem_of_mem_take (List.mem_of_mem_drop hx))
 have h1:=val_lt d
 have h2:=pow_mono65 (show ((l.take 4).drop i).length≤4 - i by simp; omega)
 exact ⟨val_nonneg d,by omega⟩
theorem low_any (v:Value) (l:List Int) (w:World) (h:DG w v l) (hd:Dig l):Calls Tryz.prog 112 #[v] w fun e w'=>e=.returned (.int .u64 (val (l.take 4)))∧w=w':=by
 go_enter Tryz.func112,Tryz.ntmps112
 go_wp2
 go_loop [3,4] (fun nv iv=>∃ k:Nat,k≤4∧iv=.int .i64 ((k:Int) - 1)∧nv=.int .u64 (val ((l.take 4).drop k))) (fun _ iv=>(intOf iv+1).toNat)
 case atStart=>exact ⟨4,Nat.le_refl _,rfl,by rw [List.drop_of_length_le (by simp; omega)]; rfl⟩
 case round =>
  obtain ⟨k,hk,rfl,rfl⟩:=hrel
  by_cases c:k=0
  ·subst c
   have E:=Lib.hid (show val ((l.take 4).drop 0)=val (l.take 4) by simp)
   generalize val ((l.take 4).drop 0)=q at *
   go_wp2
   go_ret
   exact ⟨by rw [← E.out]; rfl,rfl⟩
  ·obtain ⟨i,rfl⟩:∃ i,k=i+1:=⟨k - 1,by omega⟩
   have st:=low_step hd (i:=i) (by omega) rfl
   have bd:=low_bd hd (i+1) (by omega)
   have b2:=low_bd hd i (by omega)
   have p1:=pow_mono65 (show 4 - (i+1)≤3 by omega)
   have p2:=pow_mono65 (show 4 - i≤4 by omega)
   have e3:(65536:Int) ^ 3=281474976710656:=by decide
   have e4:(65536:Int) ^ 4=18446744073709551616:=by decide
   have dg:=dig_getD hd i
   have cA:=digit_any v l i w h (by omega) (by omega)
   rw [Int.toNat_natCast] at cA
   have lt1:val ((l.take 4).drop (i+1))≤281474976710655:=by omega
   have nn:=bd.1
   rw [show (((i+1:Nat):Int) - 1)=(i:Int) by omega]
   have ST:=Lib.hid st
   clear st bd b2 p1 p2 e3 e4
   generalize val ((l.take 4).drop (i+1))=q at *
   generalize l.getD i 0=d at *
   go_wp2_with (go_at_call 134; refine cA.mono ?_; rintro e w' ⟨rfl,rfl⟩)
   go_round
   case rel=>exact ⟨i,by omega,rfl,by rw [ST.out]⟩
   case measure=>simp [intOf]
end Go.Proofs.YtmcchknilnejgaaGreatDoor

import Derived.StillTactics
import Derived.Laws.Pointers
import Derived.Deep.RegionHeld3
import Derived.Deep.QuietTactic
import Derived.BigQuiet
import Derived.RowKit3
import Derived.Lib.Hide
import Derived.Lib.QuietBelow
import Derived.Laws.Bits64b
import Derived.Test.YtjifkmldigemkaaGreatDoorProg
import Derived.Shelf.Spec.BitsCarry
import Derived.Shelf.Bits.Mul64
import Derived.WalkKit
import Derived.WalkSpells
import Derived.Test.YtjifkmldigemkaaGreatDoorTbs
import Derived.Test.YtjifkmldigemkaaGreatDoorTab
import Derived.Test.YtjifkmldigemkaaGreatDoorTaa
import Derived.Test.YtjifkmldigemkaaGreatDoorTbp
import Derived.Test.YtjifkmldigemkaaGreatDoorTae
import Derived.Test.YtjifkmldigemkaaGreatDoorTag
import Derived.Test.YtjifkmldigemkaaGreatDoorTbq
import Derived.Test.YtjifkmldigemkaaGreatDoorTbr
set_option maxHeartbeats 8000000
set_option maxRecDepth 10000
namespace Go.Proofs.YtjifkmldigemkaaGreatDoor
open Go.RowKit Go.Shelf Go.Joins
theorem small_neg {z:Int} (h:Small z):Small (-z):=by obtain ⟨a,b⟩:=h; exact ⟨by omega,by omega⟩
theorem sub_big (va vb:Value) (x y:Int) (w:World) (hx:BG w va x) (hy:BG w vb y) (sx:Small x) (sy:Small y) :
  Calls Tryz.prog 113 #[va,vb] w (RetB (x - y) w):=by
 obtain ⟨n1,aa,ka,ca,rfl⟩:=bg_form hx
 obtain ⟨n2,ab,kb,cb,rfl⟩:=bg_form hy
 go_enter Tryz.func113,Tryz.ntmps113
 go_wp2_with fail
 have B1:Below w.heap.size w (((w.alloc (Obj.cells #[.bool n1,.slice aa ka ca] 116)).alloc (Obj.cells #[.bool n2,.slice ab kb cb] 116)).alloc (Obj.cells #[.bool false,.slice none 0 0] 116)):=b_alloc (b_alloc (b_alloc (Below.refl _ _)))
 have k1:BC (((w.alloc (Obj.cells #[.bool n1,.slice aa ka ca] 116)).alloc (Obj.cells #[.bool n2,.slice ab kb cb] 116)).alloc (Obj.cells #[.bool false,.slice none 0 0] 116)) w.heap.size n1 (.slice aa ka ca):=by simp [BC,go_sem,World.cell?_alloc_past]
 have k2:BC (((w.alloc (Obj.cells #[.bool n1,.slice aa ka ca] 116)).alloc (Obj.cells #[.bool n2,.slice ab kb cb] 116)).alloc (Obj.cells #[.bool false,.slice none 0 0] 116)) (w.heap.size+1) n2 (.slice ab kb cb):=by simp [BC,go_sem,World.cell?_alloc_past]
 have r1:BV (((w.alloc (Obj.cells #[.bool n1,.slice aa ka ca] 116)).alloc (Obj.cells #[.bool n2,.slice ab kb cb] 116)).alloc (Obj.cells #[.bool false,.slice none 0 0] 116)) (w.heap.size+1+1):=bv_new _ _ _ _ (by simp)
 have g1:=bg_keep hx B1
 have g2:=bg_keep hy B1
 clear hx hy
 generalize (((w.alloc (Obj.cells #[.bool n1,.slice aa ka ca] 116)).alloc (Obj.cells #[.bool n2,.slice ab kb cb] 116)).alloc (Obj.cells #[.bool false,.slice none 0 0] 116))=W0 at *
 refine region_each [5,6,7,8] (fun i X_ U_=>match i with | 0=>X_=.agg #[.bool n1,.slice aa ka ca] | 1=>X_=.agg #[.bool n2,.slice ab kb cb] | 2=>BG U_ X_ (-y) | 3=>BG U_ X_ (x - y) | _=>True) (fun i=>false) (by kernel_rfl) (by kernel_rfl) (by kernel_rfl) (by kernel_rfl) (by kernel_rfl) ?_ ?_ ?_ ?_
 ·refine swp (upS (upS (upS (upS up0 ?_) ?_) ?_) ?_)
  ·exact fun _ _ _ h _=>h
  ·exact fun _ _ _ h _=>h
  ·intro x w w' h hb; exact bg_keep h hb
  ·intro x w w' h hb; exact bg_keep h hb
 ·intro i x w hi ha h
  cases ha
 ·refine upS (upS (upS (upS up0 ?_) ?_) ?_) ?_
  all_goals intro v f w' hb hv hB hd
  ·have b2:f.tmps[2]?=some (.pointer (some ⟨w.heap.size,0,none⟩)):=(hb 2 (by decide)).trans rfl
   clear hb hv hd
   have c:=bc_keep hB k1
   refine wpOp_step rfl (fun K hK=>?_)
   go_simp
   exact hK _ _ ⟨_,rfl,Below.refl _ _,rfl,fun h=>absurd h (by decide)⟩
  ·have b3:f.tmps[3]?=some (.pointer (some ⟨w.heap.size+1,0,none⟩)):=(hb 3 (by decide)).trans rfl
   clear hb hv hd
   have c:=bc_keep hB k2
   refine wpOp_step rfl (fun K hK=>?_)
   go_simp
   exact hK _ _ ⟨_,rfl,Below.refl _ _,rfl,fun h=>absurd h (by decide)⟩
  ·have h1:(v 1)=.agg #[.bool n2,.slice ab kb cb]:=hd 1 (by kernel_rfl)
   have d1:f.tmps[6]?=some (.agg #[.bool n2,.slice ab kb cb]):=(hv 1 6 rfl).trans (congrArg some h1)
   clear h1
   clear hb hv hd
   refine wpOp_call rfl (fun _ _=>by go_simp) (by simp [Act.eval,d1]) (turn_any _ y _ (bg_keep g2 hB)) ?_
   rintro e w5 ⟨v5,rfl,h5,hb5⟩
   exact ⟨_,rfl,_,rfl,hb5,h5,fun h=>absurd h (by decide)⟩
  ·have h0:(v 0)=.agg #[.bool n1,.slice aa ka ca]:=hd 0 (by kernel_rfl)
   have d0:f.tmps[5]?=some (.agg #[.bool n1,.slice aa ka ca]):=(hv 0 5 rfl).trans (congrArg some h0)
   clear h0
   have h2:BG w' (v 2) (-y):=hd 2 (by kernel_rfl)
   have d2:f.tmps[7]?=some (v 2):=hv 2 7 rfl
   clear hb hv hd
   refine wpOp_call rfl (fun _ _=>by go_simp) (by simp [Act.eval,d0,d2]) (add_big _ _ x (-y) _ (bg_keep g1 hB) h2 sx (small_neg sy)) ?_
   rintro e w5 ⟨v5,rfl,h5,hb5⟩
   exact ⟨_,rfl,_,rfl,hb5,by rwa [show x+-y=x - y by omega] at h5,fun h=>absurd h (by decide)⟩
 ·intro v w' hB hF hD
  have F0:(v 0)=.agg #[.bool n1,.slice aa ka ca]:=hF 0 (by simp)
  have F1:(v 1)=.agg #[.bool n2,.slice ab kb cb]:=hF 1 (by simp)
  have F2:BG w' (v 2) (-y):=hF 2 (by simp)
  have F3:BG w' (v 3) (x - y):=hF 3 (by simp)
  clear hF
  obtain ⟨n',a',k',c',e3⟩:=bg_form F3
  rw [e3] at F3
  obtain ⟨n9,a9,k9,c9,e2⟩:=bg_form F2
  simp only [frOf,frGo,Nat.zero_add,Nat.reduceAdd,F0,F1,e2,e3]
  have r9:=bv_keep hB r1
  have B9:=b_trans B1 hB
  obtain ⟨n'',a'',k'',c'',r8,f8⟩:=bv_use r9
  have HB:=Lib.hid (And.intro r9 F3)
  clear hB hD r9 F3 F2 e2
  go_wp2
  exact bodyPost_ret (v:=.agg #[.bool n',.slice a' k' c']) (by simp [results,Tryz.results113,go_sem,r8]) rfl ⟨_,rfl,bg_store HB.out.1 HB.out.2,b_set (b_set B9 (by simp; omega)) (by simp; omega)⟩
theorem cmp_big (va vb:Value) (x y:Int) (w:World) (hx:BG w va x) (hy:BG w vb y) (sx:Small x) (sy:Small y) :
  Calls Tryz.prog 110 #[va,vb] w (RetV (.int .i64 (cmp3 x y)) w):=by
 have e1:x<y→cmp3 x y=-1:=cmp3_lt
 have e2:y<x→cmp3 x y=1:=cmp3_gt
 have e3:x=y→cmp3 x y=0:=fun h=>by rw [h,cmp3_eq]
 obtain ⟨n1,aa,ka,ca,rfl⟩:=bg_form hx
 obtain ⟨n2,ab,kb,cb,rfl⟩:=bg_form hy
 have E:=Lib.hid (And.intro e1 (And.intro e2 e3))
 clear e1 e2 e3
 go_enter Tryz.func110,Tryz.ntmps110
 go_wp2_with fail
 refine (sub_big _ _ x y _ (bg_keep hx (b_alloc (b_alloc (Below.refl _ _)))) (bg_keep hy (b_alloc (b_alloc (Below.refl _ _)))) sx sy).mono ?_
 rintro e w1 ⟨bv,rfl,hB,hb1⟩
 obtain ⟨n,a,l,c,rfl,hD,hd,hn,hl,hz,_,hc⟩:=bg_open hB
 have B1:Below w.heap.size w w1:=b_trans (b_alloc (b_alloc (Below.refl _ _))) hb1
 obtain ⟨q1,q2,q3⟩:=sgn_neg hd hn hl
 rw [← hz] at q1 q2
 clear hx hy hB hb1 sx sy q3
 have ll:(l.length:Int)≤9223372036854775807:=by unfold maxLen at hc; omega
 cases n
 ·by_cases em:l=[]
  ·have len0:¬ (0:Int)<(l.length:Int):=by rw [em]; simp
   have E2:=Lib.hid (E.out.2.2 (by have:=q2.2 em; omega))
   clear q1 q2 hz em hD hd hn hl E
   go_wp2
   go_ret
   exact ⟨by rw [E2.out]; rfl,b_alloc B1⟩
  ·have len0:(0:Int)<(l.length:Int):=by have:=List.length_pos_iff.2 em; omega
   have E2:=Lib.hid (E.out.2.1 (by
    have h1:¬ x - y=0:=fun h=>em (q2.1 h)
    have h2:¬ x - y<0:=fun h=>by have:=q1.1 h; cases this
    omega))
   clear q1 q2 hz em hD hd hn hl E
   go_wp2
   go_ret
   exact ⟨by rw [E2.out]; rfl,b_alloc B1⟩
 ·have E2:=Lib.hid (E.out.1 (by have:=q1.2 rfl; omega))
  clear q1 q2 hz hD hd hn hl E
  go_wp2
  go_ret
  exact ⟨by rw [E2.out]; rfl,b_alloc B1⟩
theorem zs_len (k:Nat):(zs k).length=k:=List.length_replicate
theorem zs_succ (k:Nat):zs k ++ [0]=zs (k+1):=(List.replicate_succ').symm
theorem ow_zs {w:World} {base k:Nat} {v:Value} (h:w.ownsRow base 171 1 v (k+1) ((zs k).map (Value.int .u64) ++ [.int .u64 0])):OW w base v (zs (k+1)):=by
 have:=ow_snoc (l:=zs k) (d:=0) (by rw [zs_len]; exact h)
 rwa [zs_succ] at this
theorem val_power (n:Nat):val (zs (n / 16) ++ [2 ^ (n % 16)])=2 ^ n:=by
 rw [val_snoc,zs,val_zeros,List.length_replicate,show (65536:Int)=2 ^ 16 by decide,← Int.pow_mul,Int.zero_add,← Int.pow_add]
 congr 1
 omega
theorem norm_snoc {l:List Int} {d:Int} (h:d≠0):Norm (l ++ [d]):=by
 intro e he
 simp at he
 subst he
 exact h
theorem pow16 (j:Nat) (h:j≤15):(1:Int)≤2 ^ j∧(2:Int) ^ j≤32768:=by
 have h1:(0:Int)<2 ^ j:=Int.pow_pos (by decide)
 have h2:2 ^ j≤2 ^ 15:=Nat.pow_le_pow_right (by decide) h
 have h3:(2:Int) ^ j=((2 ^ j:Nat):Int):=(Int.natCast_pow 2 j).symm
 rw [h3]; rw [h3] at h1
 omega
theorem power_any (n:Nat) (n1:n≤1000) (w:World):Calls Tryz.prog 45 #[.int .i64 n] w (RetB (2 ^ n) w):=by
 obtain ⟨i0,hi,hz0,hz1,hz2⟩:=info_parts Tryz.infoU
 go_enter Tryz.func45,Tryz.ntmps45
 go_wp2
 go_loopw [3,4] (fun v iv wr=>∃ k:Nat,k≤n / 16∧iv=.int .i64 k∧OW wr (w.heap.size+1) v (zs k)∧Below (w.heap.size+1) (w.alloc (Obj.cells #[.bool false,.slice none 0 0] 116)) wr) (fun _ iv _=>n - (intOf iv).toNat)
 case atStart=>exact ⟨0,Nat.zero_le _,rfl,ow_start (by simp) (by simp),(Below.refl _ _).alloc (by simp) _⟩
 case round =>
  obtain ⟨k,hk,rfl,hown,hnx⟩:=hrel
  have hsz:=hnx.size
  have hzl:=zs_len k
  simp at hsz
  by_cases c:k<n / 16
  ·go_wp2_with (at_builtin; refine wpList_append_own _ rfl _ _ 114 rfl (w.heap.size+1) 171 i0 (.int .u64 0) 1 8 Tryz.underlying114 hi hz0 hz1 hz2 rfl (by decide) _ _ _ rfl (World.ownsRow.alloc hown _) ⟨wr.heap.size,0,none⟩ 1 1 [.int .u64 (0)] rfl rfl ?c1 ?c2 ?c3 ?c4 ?c5 ?_)
   case c1 =>
    intro j u hj
    match j,hj with
    | 0,hj=>simp at hj; subst hj; simp [Addr.add]
   case c2=>intro u hu; simp at hu; subst hu; rfl
   case c3=>unfold maxLen; (try simp); omega
   case c4=>(try simp); omega
   case c5=>simp; omega
   intro v' w1 hown' hgrow _
   have R1:OW w1 (w.heap.size+1) v' (zs (k+1)):=ow_zs hown'
   have R2:Below (w.heap.size+1) (w.alloc (Obj.cells #[.bool false,.slice none 0 0] 116)) w1:=(hnx.alloc (by omega) _).grown hgrow (by simp; omega) (ow_block hown)
   clear hown' hgrow hown hnx
   go_wp2
   go_roundw
   case rel=>exact ⟨k+1,by omega,by simp,R1,R2⟩
   case measure=>simp [intOf]; omega
  ·obtain rfl:k=n / 16:=by omega
   go_wp2
   go_loop [5,6] (fun xv iv=>∃ j:Nat,j≤n % 16∧iv=.int .i64 j∧xv=.int .u64 (2 ^ j)) (fun _ iv=>n - (intOf iv).toNat)
   case atStart=>exact ⟨0,Nat.zero_le _,rfl,rfl⟩
   case round =>
    obtain ⟨j,hj,rfl,rfl⟩:=hrel
    obtain ⟨p0,p1⟩:=pow16 j (by omega)
    by_cases c2:j<n % 16
    ·have e:(2:Int)*2 ^ j=2 ^ (j+1):=by rw [Int.pow_succ,Int.mul_comm]
     have E:=Lib.hid e
     clear e
     go_wp2
     go_round
     case rel=>exact ⟨j+1,by omega,by simp,by rw [E.out]⟩
     case measure=>simp [intOf]; omega
    ·obtain rfl:j=n % 16:=by omega
     have VP:=Lib.hid (val_power n)
     have NP:=Lib.hid (norm_snoc (l:=zs (n / 16)) (d:=2 ^ (n % 16)) (by omega))
     generalize hq:(2:Int) ^ (n % 16)=q at *
     have DP:=Lib.hid (dig_app (l:=zs (n / 16)) (dig_zeros _) (dig_one (d:=q) (by omega) (by omega)))
     clear hq
     go_wp2_with (at_builtin; refine wpList_append_own _ rfl _ _ 114 rfl (w.heap.size+1) 171 i0 (.int .u64 0) 1 8 Tryz.underlying114 hi hz0 hz1 hz2 rfl (by decide) _ _ _ rfl (World.ownsRow.alloc hown _) ⟨wr.heap.size,0,none⟩ 1 1 [.int .u64 (q)] rfl rfl ?d1 ?d2 ?d3 ?d4 ?d5 ?_)
     case d2=>rfl
     case d3=>unfold maxLen; omega
     case d4=>omega
     case d5=>(try simp); omega
     intro v' w1 hown' hgrow _
     have R1:=dg_of_owns (ow_snoc (l:=zs (n / 16)) (d:=q) (by rw [zs_len]; exact hown'))
     have hnx1:Below (w.heap.size+1) (w.alloc (Obj.cells #[.bool false,.slice none 0 0] 116)) w1:=(hnx.alloc (by omega) _).grown hgrow (by simp; omega) (ow_block hown)
     have r2:BV w1 w.heap.size:=bv_below hnx1 (bv_new _ _ _ _ rfl) (by omega)
     have B2:Below w.heap.size w w1:=((Below.refl _ _).alloc (Nat.le_refl _) _).trans (hnx1.mono (by omega))
     obtain ⟨n',a',k',c'',r3,f3⟩:=bv_use r2
     obtain ⟨a,c,rfl,_⟩:=dg_len R1
     have HB:Hid (BV w1 w.heap.size∧BG w1 (.agg #[.bool false,.slice a (zs (n / 16) ++ [q]).length c]) (2 ^ n)):=Lib.hid ⟨r2,⟨false,_,_,rfl,R1,DP.out,NP.out,by simp,by rw [VP.out]; rfl⟩⟩
     clear hown' hgrow hown hnx hnx1 R1 r2 VP NP DP
     generalize (zs (n / 16) ++ [q]).length=kk at *
     go_wp2
     exact bodyPost_ret (v:=.agg #[.bool false,.slice a kk c]) (by simp [results,Tryz.results45,go_sem,r3]) rfl ⟨_,rfl,bg_store HB.out.1 HB.out.2,b_set (b_set B2 (Nat.le_refl _)) (Nat.le_refl _)⟩
end Go.Proofs.YtjifkmldigemkaaGreatDoor
namespace Go.Proofs.YtjifkmldigemkaaGreatDoor
open Go.RowKit Go.Shelf Go.Joins
theorem mul_out {a b o row:List Int} {k:Nat} (h:val o=val (a.take k)*val b) (r:65536 ^ k*(a.getD k 0*val b)=val row):val o+val row=val (a.take (k+1))*val b:=by
 rw [val_take_succ,Int.add_mul,← h,← r,Int.mul_assoc]
theorem mul_go (n1 n2:Bool) (aa ab:Option Addr) (ca cb:Nat) (a b:List Int) (w:World) (hA:DG w (.slice aa a.length ca) a) (hB':DG w (.slice ab b.length cb) b) (da:Dig a) (db:Dig b) (ma:a.length≤1000) (mb:b.length≤1000) :
  Calls Tryz.prog 43 #[.agg #[.bool n1,.slice aa a.length ca],.agg #[.bool n2,.slice ab b.length cb]] w (RetB (sgn (n1 != n2) (val a*val b)) w):=by
 obtain ⟨i0,hi,hz0,hz1,hz2⟩:=info_parts Tryz.infoU
 go_enter Tryz.func43,Tryz.ntmps43
 go_wp2
 have B1:Below w.heap.size w (((w.alloc (Obj.cells #[.bool n1,.slice aa a.length ca] 116)).alloc (Obj.cells #[.bool n2,.slice ab b.length cb] 116)).alloc (Obj.cells #[.bool false,.slice none 0 0] 116)):=b_alloc (b_alloc (b_alloc (Below.refl _ _)))
 have k1:BC (((w.alloc (Obj.cells #[.bool n1,.slice aa a.length ca] 116)).alloc (Obj.cells #[.bool n2,.slice ab b.length cb] 116)).alloc (Obj.cells #[.bool false,.slice none 0 0] 116)) w.heap.size n1 (.slice aa a.length ca):=by simp [BC,go_sem,World.cell?_alloc_past]
 have k2:BC (((w.alloc (Obj.cells #[.bool n1,.slice aa a.length ca] 116)).alloc (Obj.cells #[.bool n2,.slice ab b.length cb] 116)).alloc (Obj.cells #[.bool false,.slice none 0 0] 116)) (w.heap.size+1) n2 (.slice ab b.length cb):=by simp [BC,go_sem,World.cell?_alloc_past]
 have r1:BV (((w.alloc (Obj.cells #[.bool n1,.slice aa a.length ca] 116)).alloc (Obj.cells #[.bool n2,.slice ab b.length cb] 116)).alloc (Obj.cells #[.bool false,.slice none 0 0] 116)) (w.heap.size+1+1):=bv_new _ _ _ _ (by simp)
 have o1:DG ((((w.alloc (Obj.cells #[.bool n1,.slice aa a.length ca] 116)).alloc (Obj.cells #[.bool n2,.slice ab b.length cb] 116)).alloc (Obj.cells #[.bool false,.slice none 0 0] 116)).alloc (Obj.cells #[] 171)) (.slice (some ⟨w.heap.size+1+1+1,0,none⟩) 0 0) []:=dg_of_owns (ow_start (base:=0) (by simp) (Nat.zero_le _))
 have gA:=dg_keep hA B1
 have gB:=dg_keep hB' B1
 clear hA hB'
 have B2:Below (((w.alloc (Obj.cells #[.bool n1,.slice aa a.length ca] 116)).alloc (Obj.cells #[.bool n2,.slice ab b.length cb] 116)).alloc (Obj.cells #[.bool false,.slice none 0 0] 116)).heap.size (((w.alloc (Obj.cells #[.bool n1,.slice aa a.length ca] 116)).alloc (Obj.cells #[.bool n2,.slice ab b.length cb] 116)).alloc (Obj.cells #[.bool false,.slice none 0 0] 116)) ((((w.alloc (Obj.cells #[.bool n1,.slice aa a.length ca] 116)).alloc (Obj.cells #[.bool n2,.slice ab b.length cb] 116)).alloc (Obj.cells #[.bool false,.slice none 0 0] 116)).alloc (Obj.cells #[] 171)):=b_alloc (Below.refl _ _)
 generalize (((w.alloc (Obj.cells #[.bool n1,.slice aa a.length ca] 116)).alloc (Obj.cells #[.bool n2,.slice ab b.length cb] 116)).alloc (Obj.cells #[.bool false,.slice none 0 0] 116)).alloc (Obj.cells #[] 171)=W1 at *
 generalize (((w.alloc (Obj.cells #[.bool n1,.slice aa a.length ca] 116)).alloc (Obj.cells #[.bool n2,.slice ab b.length cb] 116)).alloc (Obj.cells #[.bool false,.slice none 0 0] 116))=W0 at *
 have k1':=bc_keep B2 k1
 have k2':=bc_keep B2 k2
 go_loopw [5,6] (fun v iv wr=>∃ (k:Nat) (o:List Int),k≤a.length∧iv=.int .i64 k∧DG wr v o∧Dig o∧val o=val (a.take k)*val b∧o.length≤2002+k∧Below W0.heap.size W0 wr) (fun _ iv _=>a.length - (intOf iv).toNat)
 case atStart=>exact ⟨0,[],Nat.zero_le _,rfl,o1,dig_nil,by simp [val],by simp,B2⟩
 case round =>
  obtain ⟨k,o,hk,rfl,hO,dO,eO,lO,hB⟩:=hrel
  clear o1 B2 k1' k2'
  have c1:=bc_keep hB k1
  have c2:=bc_keep hB k2
  have HO:=Lib.hid (And.intro hO (And.intro dO (And.intro eO lO)))
  obtain ⟨ao,co,rfl,_⟩:=dg_len hO
  clear hO dO eO lO
  generalize hol:o.length=ol at *
  have OL:=Lib.hid hol
  clear hol
  obtain ⟨wo,rfl⟩:∃ wo:World,wo=wr:=⟨_,rfl⟩
  by_cases c:k<a.length
  ·have hx:=dig_getD da k
   obtain ⟨ga,ca',e1,_,_,hca⟩:=dg_cell (dg_keep gA hB) k c
   simp at e1
   obtain ⟨rfl,rfl⟩:=e1
   have HR:=Lib.hid (fun (row:List Int) (h:65536 ^ k*(a.getD k 0*val b)=val row)=>mul_out HO.out.2.2.1 h)
   have RS:=Lib.hid (fun (row:List Int) (j:Nat) (cc:Int) (h1:row.length=k+j) h2 h3 h4=>row_step (b:=b) (row:=row) (i:=k) (k:=j) (x:=a.getD k 0) (c:=cc) db h1 hx.1 hx.2 h2 h3 h4)
   generalize a.getD k 0=p at *
   go_wp2
   go_loopw [7,8] (fun v iv wr=>∃ j:Nat,j≤k∧iv=.int .i64 j∧OW wr wo.heap.size v (zs j)∧Below wo.heap.size wo wr) (fun _ iv _=>k - (intOf iv).toNat)
   case atStart=>exact ⟨0,Nat.zero_le _,rfl,ow_start rfl (Nat.le_refl _),b_alloc (Below.refl _ _)⟩
   case round =>
    obtain ⟨j,hj,rfl,hown,hb3⟩:=hrel
    have hsz:=hb3.size
    have hzl:=zs_len j
    by_cases cj:j<k
    ·go_wp2_with (at_builtin; refine wpList_append_own _ rfl _ _ 114 rfl wo.heap.size 171 i0 (.int .u64 0) 1 8 Tryz.underlying114 hi hz0 hz1 hz2 rfl (by decide) _ _ _ rfl (World.ownsRow.alloc hown _) ⟨wr.heap.size,0,none⟩ 1 1 [.int .u64 (0)] rfl rfl ?c1 ?c2 ?c3 ?c4 ?c5 ?_)
     case c1 =>
      intro j u hj
      match j,hj with
      | 0,hj=>simp at hj; subst hj; simp [Addr.add]
     case c2=>intro u hu; simp at hu; subst hu; rfl
     case c3=>unfold maxLen; (try simp); omega
     case c4=>(try simp); omega
     case c5=>(try simp); omega
     intro v' w1 hown' hgrow _
     have R1:OW w1 wo.heap.size v' (zs (j+1)):=ow_zs hown'
     have R2:Below wo.heap.size wo w1:=(b_alloc hb3).grown hgrow (by simp; omega) (ow_block hown)
     clear hown' hgrow hown hb3
     go_wp2
     go_roundw
     case rel=>exact ⟨j+1,by omega,by simp,R1,R2⟩
     case measure=>simp [intOf]; omega
    ·obtain rfl:j=k:=by omega
     clear hzl
     go_wp2
     obtain ⟨wz,rfl⟩:∃ wz:World,wz=wr:=⟨_,rfl⟩
     go_loopw [7,9,10] (fun v cv iv wr=>∃ (j':Nat) (row:List Int) (cc:Int),j'≤b.length+1∧iv=.int .i64 j'∧cv=.int .u64 cc∧0≤cc∧cc≤65535∧(j'=b.length+1→cc=0)∧OW wr wo.heap.size v row∧row.length=j+j'∧Dig row∧65536 ^ j*(p*val (b.take j'))=val row+65536 ^ (j+j')*cc∧Below wo.heap.size wo wr) (fun _ _ iv _=>b.length+1 - (intOf iv).toNat)
     case atStart=>exact ⟨0,zs j,0,Nat.zero_le _,rfl,rfl,by decide,by decide,fun h=>rfl,hown,by rw [zs_len]; rfl,dig_zeros _,by simp [val,zs,val_zeros],hb3⟩
     case round =>
      obtain ⟨t,row,cc,ht,rfl,rfl,cc0,cc1,hlast,hown3,hrl,dR,eR,hb4⟩:=hrel
      have hsz4:=hb4.size
      have d1:=bc_keep hb4 c1
      have d2:=bc_keep hb4 c2
      have hca4:=cell_keep hb4 hca
      have gB4:=dg_keep (dg_keep gB hB) hb4
      have zb:b.length≤t→b.getD t 0=0:=fun h=>by rw [List.getD_eq_getElem?_getD,List.getElem?_eq_none (by omega)]; rfl
      have cD:∀ n,Calls Tryz.prog 106 #[.slice ab b.length cb,.int .i64 t] (wr.drewN n) fun e w'=>e=.returned (.int .u64 (b.getD t 0))∧w'=wr.drewN n:=fun n=>by
       have:=digit_any _ b t (wr.drewN n) (dg_keep gB4 (below_draws _ _ _)) (by omega) (by omega)
       rw [Int.toNat_natCast] at this
       exact this.mono fun _ _ h=>⟨h.1,h.2.symm⟩
      have gq:=dig_getD db t
      have rs:=RS.out row t cc hrl eR cc0 cc1
      have ER:=Lib.hid eR
      have HL:=Lib.hid hrl
      have Z:=Lib.hid (And.intro zb hlast)
      clear eR zb hlast gB4 hrl
      by_cases stop:b.length≤t∧cc=0
      ·obtain ⟨s1,rfl⟩:=stop
       have t1:decide (t<b.length)=false:=by simp; omega
       have fin:65536 ^ j*(p*val b)=val row:=by
        have:=ER.out
        rw [val_take_all s1] at this
        omega
       have FI:=Lib.hid (And.intro (HR.out row fin) (dg_of_owns hown3))
       have hrow:row.length≤2002+j:=by have:=HL.out; omega
       have ho4:=dg_keep HO.out.1 hb4
       have dsum:=fun (vv:Value) (hv:DG wr vv row)=>sum_any (.slice ao ol co) vv o row wr ho4 hv HO.out.2.1 dR (2002+j) (by rw [OL.out]; exact HO.out.2.2.2) hrow (by omega)
       obtain ⟨ar,cr,rfl,_⟩:=dg_len FI.out.2
       have cS:=dsum _ FI.out.2
       rw [FI.out.1] at cS
       clear fin cD rs RS dsum ho4 hown3 ER Z hown
       generalize row.length=rl at *
       go_wp2_with fail
       (with_reducible refine cS.mono ?_)
       rintro e w5 ⟨v5,l5,rfl,h5,h6,h7,h8,hb5⟩
       obtain ⟨a5,c5,rfl,_⟩:=dg_len h5
       have B5:Below W0.heap.size W0 w5:=b_trans (b_trans hB hb4) hb5
       have H5:=Lib.hid (And.intro h5 (And.intro h6 (And.intro h7 h8)))
       clear h5 h6 h7 h8 hb5 cS
       generalize hl5:l5.length=ll5 at *
       have L5:=Lib.hid hl5
       clear hl5
       go_wp2
       go_roundw
       case rel=>exact ⟨j+1,l5,by omega,by simp,H5.out.1,H5.out.2.1,H5.out.2.2.1,by rw [L5.out]; have:=H5.out.2.2.2; omega,B5⟩
       case measure=>simp [intOf]; omega
      ·have htb:t≤b.length:=by have:=Z.out.2; omega
       have hrow:row.length≤2001:=by have:=HL.out; omega
       obtain ⟨q1,q2,q3,q4,q5⟩:=rs
       have Q1:=Lib.hid q1
       clear q1 RS HR ER hown
       have zt:b.length≤t→b.getD t 0=0:=Z.out.1
       have ZT:=Lib.hid zt
       clear zt Z
       generalize b.getD t 0=q at *
       have s1:IntKind.u64.wrap (p*q)=p*q:=by rw [wrapB]; omega
       have s2:IntKind.u64.wrap (p*q+cc)=p*q+cc:=by rw [wrapB]; omega
       have QZ:Hid (b.length≤t→(p*q+cc) / 65536=0):=Lib.hid (fun h=>by rw [ZT.out h]; omega)
       clear ZT
       have ways:(decide (t<b.length)=true)∨(decide (t<b.length)=false∧0<cc):=by
        by_cases h1:t<b.length
        ·exact Or.inl (by simpa using h1)
        ·exact Or.inr ⟨by simpa using h1,by omega⟩
       clear stop
       rcases ways with t1 | ⟨t1,t3⟩
       all_goals
        go_wp2
        go_quiet ((go_at_call 106; exact Calls.quiet_of_same (cD _)))
        have hown4:=ow_draws hown3 nq
        have hb5:=hb4.trans (below_draws wo.heap.size wr nq)
        have hsz5:=hb5.size
        clear s1 s2 cD hown3 hb4 hca4 d1 d2
        generalize wr.drewN nq=wd at *
        have H2:=Lib.hid (fun (v':Value) (w1:World) (h:World.ownsRow w1 wo.heap.size 171 1 v' (row.length+1) (row.map (Value.int .u64) ++ [.int .u64 ((p*q+cc) % 65536)]))=>ow_snoc h)
        go_wp2_with (at_builtin; refine wpList_append_own _ rfl _ _ 114 rfl wo.heap.size 171 i0 (.int .u64 0) 1 8 Tryz.underlying114 hi hz0 hz1 hz2 rfl (by decide) _ _ _ rfl (World.ownsRow.alloc hown4 _) ⟨wd.heap.size,0,none⟩ 1 1 [.int .u64 ((p*q+cc) % 65536)] rfl rfl ?e1 ?e2 ?e3 ?e4 ?e5 ?_)
        case e1 =>
         intro j u hj
         match j,hj with
         | 0,hj=>simp at hj; subst hj; simp [Addr.add]
        case e2=>intro u hu; simp at hu; subst hu; rfl
        case e3=>unfold maxLen; (try simp); omega
        case e4=>(try simp); omega
        case e5=>(try simp); omega
        intro v' w1 hown' hgrow _
        have R1:=H2.out _ _ hown'
        have R2:Below wo.heap.size wo w1:=(b_alloc hb5).grown hgrow (by simp; omega) (ow_block hown4)
        clear hown' hgrow hown4 H2 hb5
        go_wp2
        go_roundw
        case rel=>exact ⟨t+1,row ++ [(p*q+cc) % 65536],(p*q+cc) / 65536,by omega,by simp,rfl,q2,q3,fun h=>QZ.out (by omega),R1,by rw [List.length_append,HL.out]; rfl,dig_app dR (dig_one (by omega) (by omega)),Q1.out,R2⟩
        case measure=>simp [intOf]; omega
  ·obtain rfl:k=a.length:=by omega
   have eO:=HO.out.2.2.1
   rw [val_take_all (Nat.le_refl _)] at eO
   have cC:=cut_any (!(n1 == n2)) (.slice ao ol co) o wo HO.out.2.1 HO.out.1
   rw [eO] at cC
   clear eO
   go_wp2_with fail
   refine cC.mono ?_
   rintro e w2 ⟨bv,rfl,hR,hb2⟩
   obtain ⟨n9,a9,k9,c9,rfl⟩:=bg_form hR
   have r2:=bv_keep hb2 (bv_keep hB r1)
   obtain ⟨n',a',k',c'',r3,f3⟩:=bv_use r2
   have B3:Below w.heap.size w w2:=b_trans (b_trans B1 hB) hb2
   have HB:=Lib.hid (And.intro r2 hR)
   clear hb2 hR r2 cC HO
   go_wp2
   exact bodyPost_ret (v:=.agg #[.bool n9,.slice a9 k9 c9]) (by simp [results,Tryz.results43,go_sem,r3]) rfl ⟨_,rfl,bg_store HB.out.1 HB.out.2,b_set (b_set B3 (by simp; omega)) (by simp; omega)⟩
theorem mul_big (va vb:Value) (x y:Int) (w:World) (hx:BG w va x) (hy:BG w vb y) (sx:Small x) (sy:Small y) :
  Calls Tryz.prog 43 #[va,vb] w (RetB (x*y) w):=by
 obtain ⟨n1,aa,a,ca,rfl,hA,da,na,la,rfl,ca1,ca2⟩:=bg_open hx
 obtain ⟨n2,ab,b,cb,rfl,hB',db,nb,lb,rfl,cb1,cb2⟩:=bg_open hy
 have ma:=small_len da na la sx
 have mb:=small_len db nb lb sy
 have:=mul_go n1 n2 aa ab ca cb a b w hA hB' da db ma mb
 rwa [show sgn (n1 != n2) (val a*val b)=sgn n1 (val a)*sgn n2 (val b) by unfold sgn; cases n1 <;> cases n2 <;> simp [Int.neg_mul,Int.mul_neg]] at this
end Go.Proofs.YtjifkmldigemkaaGreatDoor
namespace Go.Proofs.YtjifkmldigemkaaGreatDoor
open Go.RowKit Go.Shelf Go.Joins
def VB (w:World) (b:Nat) (z:Int):Prop:=∃ n a k c,w.heap[b]?=some (.cells #[.bool n,.slice a k c] 116 (0,0))∧BG w (.agg #[.bool n,.slice a k c]) z
theorem vb_keep {w w':World} {b:Nat} {z:Int} (h:VB w b z) (hb:Below w.heap.size w w'):VB w' b z:=by
 obtain ⟨n,a,k,c,h1,h2⟩:=h
 exact ⟨n,a,k,c,by rw [hb.block b (Array.getElem?_eq_some_iff.1 h1).1]; exact h1,bg_keep h2 hb⟩
theorem vb_bv {w:World} {b:Nat} {z:Int} (h:VB w b z):BV w b:=by
 obtain ⟨n,a,k,c,h1,_⟩:=h
 exact ⟨n,a,k,c,h1⟩
theorem vb_use {w:World} {b:Nat} {z:Int} (h:VB w b z):∃ n a k c,BC w b n (.slice a k c)∧WF w b∧BG w (.agg #[.bool n,.slice a k c]) z:=by
 obtain ⟨n,a,k,c,h1,h2⟩:=h
 exact ⟨n,a,k,c,⟨by rw [cell_of_block h1]; rfl,by rw [cell_of_block h1]; rfl⟩,⟨unfrozen_of_block h1 0,unfrozen_of_block h1 1⟩,h2⟩
theorem vb_new {w:World} {b:Nat} {n:Bool} {a:Option Addr} {k c:Nat} {z:Int} (hn:b=w.heap.size) (h:BG w (.agg #[.bool n,.slice a k c]) z):VB (w.alloc (Obj.cells #[.bool n,.slice a k c] 116)) b z:=by
 subst hn
 exact ⟨n,a,k,c,(MapKept.heap_alloc w _).1,bg_keep h (b_alloc (Below.refl _ _))⟩
theorem heap_two {w:World} {b k:Nat} {u u':Value} (h:k≠b):((w.setCell ⟨b,0,none⟩ u).setCell ⟨b,1,none⟩ u').heap[k]?=w.heap[k]?:=by
 rw [Below.heap_setCell _ _ _ _ h,Below.heap_setCell _ _ _ _ h]
theorem vb_store {w:World} {b:Nat} {n:Bool} {a:Option Addr} {k c:Nat} {z:Int} (hv:BV w b) (h:BG w (.agg #[.bool n,.slice a k c]) z):VB ((w.setCell ⟨b,0,none⟩ (.bool n)).setCell ⟨b,1,none⟩ (.slice a k c)) b z:=by
 refine ⟨n,a,k,c,?_,bg_store hv h⟩
 obtain ⟨n',a',k',c',h1⟩:=hv
 exact block_setCell (block_setCell h1 _) _
theorem vb_other {w:World} {b b2:Nat} {u u':Value} {z:Int} (hv:BV w b) (h:VB w b2 z) (ne:b2≠b):VB ((w.setCell ⟨b,0,none⟩ u).setCell ⟨b,1,none⟩ u') b2 z:=by
 obtain ⟨n,a,k,c,h1,h2⟩:=h
 exact ⟨n,a,k,c,by rw [heap_two ne]; exact h1,bg_store hv h2⟩
theorem bv_other {w:World} {b b2:Nat} {u u':Value} (h:BV w b2) (ne:b2≠b):BV ((w.setCell ⟨b,0,none⟩ u).setCell ⟨b,1,none⟩ u') b2:=by
 obtain ⟨n,a,k,c,h1⟩:=h
 exact ⟨n,a,k,c,by rw [heap_two ne]; exact h1⟩
theorem small_one:Small 1:=small_of (by decide) (by decide)
theorem bg_zero (w:World):BG w (.agg #[.bool false,.slice none 0 0]) 0:=⟨_,_,[],rfl,Or.inl ⟨rfl,rfl⟩,dig_nil,fun d h=>absurd h (by simp),by simp,rfl⟩
theorem bit_of {l:List Int} (h:Dig l) (i:Nat):val l / 2 ^ i % 2=l.getD (i / 16) 0 / 2 ^ (i % 16) % 2:=by
 have e:val l=val (l.take (i / 16))+65536 ^ (i / 16)*(l.getD (i / 16) 0+65536*val (l.drop (i / 16+1))):=by
  have h1:val l=val (l.take (i / 16+1))+65536 ^ (i / 16+1)*val (l.drop (i / 16+1)):=by
   by_cases c:i / 16+1≤l.length
   ·conv=>lhs; rw [← List.take_append_drop (i / 16+1) l,val_append,List.length_take,Nat.min_eq_left c]
   ·rw [List.take_of_length_le (by omega),List.drop_of_length_le (by omega)]; simp [val]
  rw [h1,val_take_succ,Int.pow_succ,Int.mul_add,Int.mul_assoc]
  omega
 have t0:=val_nonneg (dig_take h (i / 16))
 have t1:val (l.take (i / 16))<65536 ^ (i / 16):=by
  have h1:=val_lt (dig_take h (i / 16))
  have h2:=pow_mono65 (show (l.take (i / 16)).length≤i / 16 by simp; omega)
  omega
 have p0:=pow_pos65 (i / 16)
 have pe:(2:Int) ^ i=65536 ^ (i / 16)*2 ^ (i % 16):=by
  rw [show (65536:Int)=2 ^ 16 by decide,← Int.pow_mul,← Int.pow_add]
  congr 1; omega
 rw [pe,← Int.ediv_ediv_of_nonneg (by omega),e,Int.add_mul_ediv_left _ _ (by omega),Int.ediv_eq_zero_of_lt t0 t1,Int.zero_add]
 generalize l.getD (i / 16) 0=d
 generalize val (l.drop (i / 16+1))=R
 have q:(65536:Int)=2 ^ (i % 16)*(2*2 ^ (15 - i % 16)):=by
  rw [Int.mul_left_comm,← Int.pow_add,show i % 16+(15 - i % 16)=15 by omega]; decide
 have pz:(0:Int)<2 ^ (i % 16):=Int.pow_pos (by decide)
 rw [q,Int.mul_assoc,Int.add_mul_ediv_left _ _ (by omega),Int.mul_assoc]
 omega
theorem top_step (A:Int) (i:Nat):A / 2 ^ i=2*(A / 2 ^ (i+1))+A / 2 ^ i % 2:=by
 have pz:(0:Int)<2 ^ i:=Int.pow_pos (by decide)
 rw [Int.pow_succ,← Int.ediv_ediv_of_nonneg (by omega)]
 omega
theorem top_zero {A:Int} {n:Nat} (h0:0≤A) (h:A<65536 ^ n):A / 2 ^ (16*n)=0:=by
 apply Int.ediv_eq_zero_of_lt h0
 rw [Int.pow_mul]
 exact h
structure DW (A y q r:Int) (k:Nat):Prop where
 r0:0≤r
 r1:r<y
 q0:0≤q
 e:A / 2 ^ k=q*y+r
theorem dw_step {A y q r:Int} {i:Nat} (h:DW A y q r (i+1)) (t:Int) (ht:t=A / 2 ^ i % 2) :
  (y≤r+r+t→DW A y (q+q+1) (r+r+t - y) i)∧(r+r+t<y→DW A y (q+q) (r+r+t) i):=by
 obtain ⟨r0,r1,q0,e⟩:=h
 have s:=top_step A i
 rw [← ht,e] at s
 have t0:0≤t∧t≤1:=by omega
 have e2:(q+q)*y=2*(q*y):=by rw [Int.add_mul]; omega
 constructor
 ·intro h
  exact ⟨by omega,by omega,by omega,by rw [Int.add_mul,e2,s]; omega⟩
 ·intro h
  exact ⟨by omega,by omega,by omega,by rw [e2,s]; omega⟩
theorem dw_q {A y q r:Int} {k:Nat} (h:DW A y q r k) (A0:0≤A) (y0:1≤y):q≤A:=by
 obtain ⟨r0,r1,q0,e⟩:=h
 have h1:A / 2 ^ k≤A:=Int.ediv_le_self _ A0
 have h2:q*1≤q*y:=Int.mul_le_mul_of_nonneg_left y0 q0
 omega
end Go.Proofs.YtjifkmldigemkaaGreatDoor

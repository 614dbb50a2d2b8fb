import Derived.Test.YtjifkmldigemkaaGreatDoorTad
import Derived.Test.YtjifkmldigemkaaGreatDoorTaa
import Derived.Test.YtjifkmldigemkaaGreatDoorTab
import Derived.Laws.Cover1
import Derived.ChangeKeysEq
import Derived.Test.YtjifkmldigemkaaGreatDoorTag
set_option maxHeartbeats 4000000
set_option maxRecDepth 10000
namespace Go.Proofs.YtjifkmldigemkaaGreatDoor
open Go.RowKit Go.Shelf
theorem fits_qf {a b:Int} (x:Fits a) (b0:b≠0) (hs:decide (a<0) = !decide (b<0)):Fits (qf a b):=by
 obtain ⟨x0,x1⟩:=x
 unfold qf
 rw [(sg_cases a b).2 hs]
 refine ⟨Int.le_ediv_of_mul_le (by omega) (by omega),?_⟩
 have:-(a.natAbs:Int) / (b.natAbs:Int)<1:=Int.ediv_lt_of_lt_mul (by omega) (by omega)
 omega
theorem floor_diff1 (ah al a b:Int) (x:IsW ah al a) (b0:b≠0) (bl:-9223372036854775808≤b) (bu:b≤9223372036854775807)
  (g:((ah == -9223372036854775808)=false)∨((ah == -9223372036854775808)=true∧(al == 0)=false)∨((ah == -9223372036854775808)=true∧(al == 0)=true∧(b == -1)=false))
  (hs:decide (a<0) = !decide (b<0)) (hr:(a.natAbs:Int) % (b.natAbs:Int)≠0) (w:World) :
  Calls Tryz.prog 228 #[wv ah al,.int .i64 b] w (RetF (qf a b) (rf a b) 0 w):=by
 obtain ⟨sh,sl,hS⟩:∃ sh sl,IsW sh sl (w128 (a.natAbs:Int)):=⟨_,_,IsW.mk' (w128_fits _)⟩
 have cW:=fun w=>(wsize_any ah al a x w).mono fun _ _=>retW_det hS
 have cB:=size_any b bl bu
 have cV0:=divide_any sh sl _ (a.natAbs:Int) (b.natAbs:Int) hS (w128_nat x.fits).symm (by omega) (by omega)
 have nd:=neg_div (a.natAbs:Int) (b.natAbs:Int) (by omega) (by omega)
 have q0:0≤(a.natAbs:Int) / (b.natAbs:Int):=Int.ediv_nonneg (by omega) (by omega)
 have q1:(a.natAbs:Int) / (b.natAbs:Int)≤170141183460469231731687303715884105728:=by
  have:=x.fits.lo
  have:=x.fits.hi
  exact Int.le_trans (Int.ediv_le_self _ (by omega)) (by omega)
 have rr0:0≤(a.natAbs:Int) % (b.natAbs:Int):=Int.emod_nonneg _ (by omega)
 have rr1:(a.natAbs:Int) % (b.natAbs:Int)<(b.natAbs:Int):=Int.emod_lt_of_pos _ (by omega)
 have eq:qf a b=-(a.natAbs:Int) / (b.natAbs:Int):=by unfold qf; rw [(sg_cases a b).2 hs]
 have er:rf a b=-(a.natAbs:Int) % (b.natAbs:Int):=by unfold rf; rw [(sg_cases a b).2 hs]
 have ez:=(nd.2 hr).1
 have ew:=(nd.2 hr).2
 rw [← eq] at ez
 rw [← er] at ew
 obtain ⟨qh,ql,hq⟩:∃ qh ql,IsW qh ql (w128 ((a.natAbs:Int) / (b.natAbs:Int))):=⟨_,_,IsW.mk' (w128_fits _)⟩
 obtain ⟨oh,ol,ho⟩:∃ oh ol,IsW oh ol 0:=⟨_,_,isW_zero⟩
 have cO:=fun w=>(of_any 0 (by decide) (by decide) w).mono fun _ _=>retW_det ho
 have em:w128 (0 - w128 ((a.natAbs:Int) / (b.natAbs:Int)))=-((a.natAbs:Int) / (b.natAbs:Int)):=by
  generalize (a.natAbs:Int) / (b.natAbs:Int)=q at *
  unfold w128; omega
 obtain ⟨mh,ml,hm⟩:∃ mh ml,IsW mh ml (w128 (0 - w128 ((a.natAbs:Int) / (b.natAbs:Int)))):=⟨_,_,IsW.mk' (w128_fits _)⟩
 have cM:=fun w=>(minus_any oh ol 0 qh ql _ ho hq w).mono fun _ _=>retW_det hm
 rw [em] at hm
 obtain ⟨ih,il,hI⟩:∃ ih il,IsW ih il 1:=⟨_,_,IsW.mk' ⟨by decide,by decide⟩⟩
 have cI:=fun w=>(of_any 1 (by decide) (by decide) w).mono fun _ _=>retW_det hI
 have hfit:w128 (-((a.natAbs:Int) / (b.natAbs:Int)) - 1)=qf a b:=by
  rw [← ez]
  apply w128_of
  have:=fits_qf x.fits b0 hs
  exact this
 obtain ⟨nh,nl,hn⟩:∃ nh nl,IsW nh nl (w128 (-((a.natAbs:Int) / (b.natAbs:Int)) - 1)):=⟨_,_,IsW.mk' (w128_fits _)⟩
 have cL:=fun w=>(minus_any mh ml _ ih il 1 hm hI w).mono fun _ _=>retW_det hn
 rw [hfit] at hn
 have hr':((a.natAbs:Int) % (b.natAbs:Int) == 0)=false:=by rw [beq_eq_false_iff_ne]; exact hr
 have bm:(b.natAbs:Int)≤9223372036854775808:=by omega
 generalize (a.natAbs:Int) % (b.natAbs:Int)=R at *
 generalize hB':(b.natAbs:Int)=B at *
 clear hfit hB' hI
 have cN:=neg_any ah al a x
 have bb:decide (b<0) = !decide (a<0):=by rw [hs]; simp
 generalize hda:decide (a<0)=da at *
 have b1:(b == 0)=false:=by rw [beq_eq_false_iff_ne]; exact b0
 generalize qf a b=z at *
 generalize rf a b=r at *
 clear nd eq er em q0 q1 hS x hs b0 ho hda ez hr hm
 rcases g with g | ⟨g,g2⟩ | ⟨g,g2,g3⟩ <;> cases da
 all_goals
  simp only [Bool.not_true,Bool.not_false] at bb
  go_enter Tryz.func228,Tryz.ntmps228
  go_wp2_with fail
  refine (cW _).mono ?_
  rintro e w1 ⟨rfl,hb1⟩
  have k1:WC w1 w.heap.size ah al:=wc_keep hb1 (by simp [WC,go_sem,World.cell?_alloc_past])
  have r1:WC w1 (w.heap.size+1) 0 0:=wc_keep hb1 (by simp [WC,go_sem])
  have f1:WF w1 (w.heap.size+1):=wf_keep hb1 (h:=0) (l:=0) (by simp [WC,go_sem]) (by simp [WF,go_sem])
  have B1:Below w.heap.size w w1:=b_trans (b_alloc (b_alloc (Below.refl _ _))) hb1
  clear hb1
  go_wp2_with fail
  refine (cB _).mono ?_
  rintro e w1 ⟨rfl,rfl⟩
  go_wp2_with fail
  refine (cV0 _).mono ?_
  rintro e w2 ⟨qh',ql',rfl,hq',hb2⟩
  obtain ⟨rfl,rfl⟩:=(hq.inj hq').2 rfl
  clear hq'
  have k2:=wc_alloc (o:=Obj.cells #[.int .i64 qh,.int .u64 ql] 187) (wc_keep hb2 k1)
  have r2:=wc_keep hb2 r1
  have f2:=wf_keep hb2 r1 f1
  have B2:=b_trans B1 hb2
  have hne:w2.heap.size≠w.heap.size+1:=by have:=wc_lt r2; omega
  have hle:w.heap.size≤w2.heap.size:=B2.size
  clear k1 r1 f1 B1 hb2
  go_wp2_with fail
  refine (cN _).mono ?_
  rintro e w3 ⟨rfl,hb3⟩
  have k3:WC w3 w2.heap.size qh ql:=wc_keep hb3 (by simp [WC,go_sem])
  have fk3:WF w3 w2.heap.size:=wf_keep hb3 (h:=qh) (l:=ql) (by simp [WC,go_sem]) (by simp [WF,go_sem])
  have r3:=wc_keep hb3 (wc_alloc r2)
  have f3:=wf_keep hb3 (wc_alloc r2) (wf_keep (b_alloc (Below.refl _ _)) r2 f2)
  have B3:=b_trans (b_alloc B2) hb3
  clear r2 f2 B2 hb3 k2
  go_wp2
  refine region_each [35,36,37] (fun i x u=>match i with | 0=>x=wv oh ol | 1=>x=wv qh ql | 2=>x=wv mh ml | _=>True) (fun i=>false) (by kernel_rfl) (by kernel_rfl) (by kernel_rfl) (by kernel_rfl) (by kernel_rfl) ?_ ?_ ?_ ?_
  ·intro i x w w' hi h hb
   match i,hi with
   | 0,_=>exact h
   | 1,_=>exact h
   | 2,_=>exact h
   | k+3,hk=>exact absurd hk (by simp)
  ·intro i x w hi ha h
   cases ha
  ·intro i hi v f w' hb hv hB hd
   match i,hi with
   | 0,_ =>
    clear hb hv hd
    refine wpOp_step rfl (fun K hK=>?_)
    go_simp
    refine (cO _).mono ?_
    rintro e w5 ⟨rfl,hb5⟩
    exact hK _ _ ⟨_,rfl,hb5,rfl,fun h=>absurd h (by decide)⟩
   | 1,_ =>
    have b7:f.tmps[7]?=some (.pointer (some ⟨w2.heap.size,0,none⟩)):=(hb 7 (by decide)).trans rfl
    clear hb hv hd
    have c:=wc_keep hB k3
    refine wpOp_step rfl (fun K hK=>?_)
    go_simp
    exact hK _ _ ⟨_,rfl,Below.refl _ _,rfl,fun h=>absurd h (by decide)⟩
   | 2,_ =>
    have h0:v 0=wv oh ol:=hd 0 (by kernel_rfl)
    have d0:f.tmps[35]?=some (wv oh ol):=(hv 0 35 rfl).trans (congrArg some h0)
    clear h0
    have h1:v 1=wv qh ql:=hd 1 (by kernel_rfl)
    have d1:f.tmps[36]?=some (wv qh ql):=(hv 1 36 rfl).trans (congrArg some h1)
    clear h1
    clear hb hv hd
    refine wpOp_step rfl (fun K hK=>?_)
    go_simp
    refine (cM _).mono ?_
    rintro e w5 ⟨rfl,hb5⟩
    exact hK _ _ ⟨_,rfl,hb5,rfl,fun h=>absurd h (by decide)⟩
   | k+3,hk=>exact absurd hk (by simp)
  ·intro v w' hB hF hD
   have F0:v 0=wv oh ol:=hF 0 (by simp)
   have F1:v 1=wv qh ql:=hF 1 (by simp)
   have F2:v 2=wv mh ml:=hF 2 (by simp)
   clear hF
   simp only [frOf,frGo,Nat.zero_add,Nat.reduceAdd,F0,F1,F2]
   have k4:=wc_keep hB k3
   have fk4:=wf_keep hB k3 fk3
   have r4:=wc_keep hB r3
   have f4:=wf_keep hB r3 f3
   have B4:=b_trans B3 hB
   clear k3 fk3 r3 f3 B3 hB hD
   go_wp2
   have k5:WC ((w'.setCell ⟨w2.heap.size,0,none⟩ (.int .i64 mh)).setCell ⟨w2.heap.size,1,none⟩ (.int .u64 ml)) w2.heap.size mh ml:=wc_mine k4
   have r5:=wc_set (b1:=w2.heap.size) (o:=1) (v:=.int .u64 ml) (wc_set (b1:=w2.heap.size) (o:=0) (v:=.int .i64 mh) r4 hne) hne
   have f5:=wf_set (b1:=w2.heap.size) (o:=1) (v:=.int .u64 ml) (wf_set (b1:=w2.heap.size) (o:=0) (v:=.int .i64 mh) f4)
   have B5:=b_set (p:=⟨w2.heap.size,1,none⟩) (v:=.int .u64 ml) (b_set (p:=⟨w2.heap.size,0,none⟩) (v:=.int .i64 mh) B4 hle) hle
   clear k4 fk4 r4 f4 B4
   have hSz:w.heap.size+1≠w2.heap.size:=fun h=>hne h.symm
   have sq:IntKind.u64.wrap (B - R)=B - R:=by rw [wrapu]; omega
   go_region_held3 (fun u=>Below w.heap.size w u∧WC u w2.heap.size mh ml) (first | assumption | exact s1_keep (by assumption) (by assumption) | exact s1_set (by assumption) (by omega) (by omega) | exact s1_keep ⟨B5,k5⟩ (b_drew (Below.refl _ _)))
    (first
     | (go_at_call 127; refine (cI _).mono ?_; rintro e w6 ⟨rfl,hb6⟩; have r6:=wc_keep hb6 r5; have f6:=wf_keep hb6 r5 f5)
     | (go_at_call 204; refine (cL _).mono ?_; rintro e w7 ⟨rfl,hb7⟩; have r7:=wc_keep hb7 r6; have f7:=wf_keep hb7 r6 f6)
     | (go_at_call 229; refine (cB _).mono ?_; rintro e w8 ⟨rfl,rfl⟩))
   all_goals
    rename_i hS
    go_wp2
    exact bodyPost_ret (v:=.tuple #[wv nh nl,.int .u64 (B - R),.int .i64 0]) (by simp [results,Tryz.results228,go_sem,r7]) rfl ⟨_,_,by rw [ew],hn,hS.1⟩
end Go.Proofs.YtjifkmldigemkaaGreatDoor
namespace Go.Proofs.YtjifkmldigemkaaGreatDoor
open Go.RowKit Go.Shelf
theorem qf_fits {a b:Int} (x:Fits a) (b0:b≠0) (c:¬ (a=-170141183460469231731687303715884105728∧b=-1)):Fits (qf a b):=by
 rcases Bool.eq_false_or_eq_true (decide (a<0)) with ha | ha <;> rcases Bool.eq_false_or_eq_true (decide (b<0)) with hb | hb
 ·have hs:decide (a<0)=decide (b<0):=by rw [ha,hb]
  obtain ⟨x0,x1⟩:=x
  unfold qf
  rw [(sg_cases a b).1 hs]
  simp at ha hb
  have n0:0≤(a.natAbs:Int) / (b.natAbs:Int):=Int.ediv_nonneg (by omega) (by omega)
  refine ⟨by omega,?_⟩
  by_cases hm:a=-170141183460469231731687303715884105728
  ·have:(a.natAbs:Int) / (b.natAbs:Int)<170141183460469231731687303715884105728:=Int.ediv_lt_of_lt_mul (by omega) (by omega)
   omega
  ·exact Int.le_trans (Int.ediv_le_self _ (by omega)) (by omega)
 ·exact fits_qf x b0 (by rw [ha,hb]; rfl)
 ·exact fits_qf x b0 (by rw [ha,hb]; rfl)
 ·have hs:decide (a<0)=decide (b<0):=by rw [ha,hb]
  obtain ⟨x0,x1⟩:=x
  unfold qf
  rw [(sg_cases a b).1 hs]
  simp at ha hb
  have n0:0≤(a.natAbs:Int) / (b.natAbs:Int):=Int.ediv_nonneg (by omega) (by omega)
  refine ⟨by omega,?_⟩
  exact Int.le_trans (Int.ediv_le_self _ (by omega)) (by omega)
theorem floor_any (ah al a b:Int) (x:IsW ah al a) (b0:b≠0) (bl:-9223372036854775808≤b) (bu:b≤9223372036854775807) (c:¬ (a=-170141183460469231731687303715884105728∧b=-1)) (w:World) :
  Calls Tryz.prog 228 #[wv ah al,.int .i64 b] w (RetF (qf a b) (rf a b) 0 w):=by
 have g:((ah == -9223372036854775808)=false)∨((ah == -9223372036854775808)=true∧(al == 0)=false)∨((ah == -9223372036854775808)=true∧(al == 0)=true∧(b == -1)=false):=by
  by_cases h1:ah=-9223372036854775808
  ·by_cases h2:al=0
   ·refine Or.inr (Or.inr ⟨by simpa using h1,by simpa using h2,?_⟩)
    rw [beq_eq_false_iff_ne]
    intro h3
    exact c ⟨by rw [← x.e,h1,h2]; decide,h3⟩
   ·exact Or.inr (Or.inl ⟨by simpa using h1,by rw [beq_eq_false_iff_ne]; exact h2⟩)
  ·exact Or.inl (by rw [beq_eq_false_iff_ne]; exact h1)
 have hf:=qf_fits x.fits b0 c
 rcases Bool.eq_false_or_eq_true (decide (a<0)) with ha | ha <;> rcases Bool.eq_false_or_eq_true (decide (b<0)) with hb | hb
 ·exact floor_same ah al a b x b0 bl bu g (by rw [ha,hb]) hf w
 ·by_cases h0:(a.natAbs:Int) % (b.natAbs:Int)=0
  ·exact floor_diff0 ah al a b x b0 bl bu g (by rw [ha,hb]; rfl) h0 w
  ·exact floor_diff1 ah al a b x b0 bl bu g (by rw [ha,hb]; rfl) h0 w
 ·by_cases h0:(a.natAbs:Int) % (b.natAbs:Int)=0
  ·exact floor_diff0 ah al a b x b0 bl bu g (by rw [ha,hb]; rfl) h0 w
  ·exact floor_diff1 ah al a b x b0 bl bu g (by rw [ha,hb]; rfl) h0 w
 ·exact floor_same ah al a b x b0 bl bu g (by rw [ha,hb]) hf w
theorem floor_bad (ah al a:Int) (x:IsW ah al a) (b:Int) (c:a=-170141183460469231731687303715884105728∧b=-1) (w:World) :
  Calls Tryz.prog 228 #[wv ah al,.int .i64 b] w (RetF 0 0 3 w):=by
 obtain ⟨rfl,rfl⟩:=c
 have:ah=-9223372036854775808∧al=0:=by obtain ⟨_,_,_,_,e⟩:=x; omega
 obtain ⟨rfl,rfl⟩:=this
 exact floor_min w
theorem even_err (ah al b c:Int) (c0:(c == 0)=false) (cF:∀ w,Calls Tryz.prog 228 #[wv ah al,.int .i64 b] w (RetF 0 0 c w)) (w:World) :
  Calls Tryz.prog 227 #[wv ah al,.int .i64 b] w (RetWE 0 c w):=by
 go_enter Tryz.func227,Tryz.ntmps227
 go_wp2_with fail
 refine (cF _).mono ?_
 rintro e w1 ⟨h,l,rfl,hz,hb⟩
 have r1:WC w1 (w.heap.size+1) 0 0:=wc_keep hb (by simp [WC,go_sem])
 have f1:WF w1 (w.heap.size+1):=wf_keep hb (h:=0) (l:=0) (by simp [WC,go_sem]) (by simp [WF,go_sem])
 have B1:Below w.heap.size w w1:=b_trans (b_alloc (b_alloc (Below.refl _ _))) hb
 have r2:=wc_alloc (o:=Obj.cells #[.int .i64 h,.int .u64 l] 187) r1
 have f2:=wf_keep (b_alloc (o:=Obj.cells #[.int .i64 h,.int .u64 l] 187) (Below.refl _ _)) r1 f1
 clear r1 f1 hb
 go_wp2
 exact bodyPost_ret (v:=.tuple #[wv 0 0,.int .i64 c]) (by simp [results,Tryz.results227,go_sem,r2]) rfl ⟨_,_,rfl,isW_zero,b_set (b_set (b_alloc B1) (by simp)) (by simp)⟩
def ef (a b:Int):Int:=near (qf a b) (2*rf a b - (b.natAbs:Int))
theorem rf_bd (a:Int) {b:Int} (b0:b≠0):0≤rf a b∧rf a b<(b.natAbs:Int):=⟨Int.emod_nonneg _ (by omega),Int.emod_lt_of_pos _ (by omega)⟩
theorem qf_half {a b:Int} (x:Fits a) (b0:2≤(b.natAbs:Int)):Fits (qf a b+1):=by
 obtain ⟨x0,x1⟩:=x
 unfold qf sg
 have h:∀ n:Int,-170141183460469231731687303715884105728≤n→n≤170141183460469231731687303715884105728→Fits (n / (b.natAbs:Int)+1):=by
  intro n n0 n1
  have l1:-170141183460469231731687303715884105728≤n / (b.natAbs:Int):=Int.le_ediv_of_mul_le (by omega) (by omega)
  have l2:n / (b.natAbs:Int)<100000000000000000000000000000000000000:=Int.ediv_lt_of_lt_mul (by omega) (by omega)
  exact ⟨by omega,by omega⟩
 split
 ·exact h _ (by omega) (by omega)
 ·exact h _ (by omega) (by omega)
theorem even_ok (ah al a b:Int) (x:IsW ah al a) (b0:b≠0) (bl:-9223372036854775808≤b) (bu:b≤9223372036854775807) (c:¬ (a=-170141183460469231731687303715884105728∧b=-1)) (w:World) :
  Calls Tryz.prog 227 #[wv ah al,.int .i64 b] w (RetWE (ef a b) 0 w):=by
 have cF:=floor_any ah al a b x b0 bl bu c
 have cB:=size_any b bl bu
 obtain ⟨q0,q1⟩:=rf_bd a b0
 have bm:(b.natAbs:Int)≤9223372036854775808:=by omega
 obtain ⟨h,l,hq⟩:∃ h l,IsW h l (qf a b):=⟨_,_,IsW.mk' (qf_fits x.fits b0 c)⟩
 have cC:=cmp_any 0 (rf a b) (rf a b) 0 ((b.natAbs:Int) - rf a b) ((b.natAbs:Int) - rf a b) ⟨by decide,by decide,by omega,by omega,by omega⟩ ⟨by decide,by decide,by omega,by omega,by omega⟩
 generalize hside:cmp3 (rf a b) ((b.natAbs:Int) - rf a b)=side at cC
 have cN:∀ w,Calls Tryz.prog 205 #[wv h l,.int .i64 side] w (RetW (ef a b) w):=by
  intro w
  have sgn:=cmp3_sign (rf a b) ((b.natAbs:Int) - rf a b)
  rw [hside] at sgn
  have e:ef a b=near (qf a b) side:=by
   unfold ef
   apply near_sign
   omega
  rw [e]
  by_cases d:0<side∨(side=0∧qf a b % 2=1)
  ·exact near_ups h l _ side hq d (qf_half x.fits (by omega)) w
  ·exact near_stays h l _ side hq d w
 generalize ef a b=z at *
 generalize qf a b=q at *
 generalize rf a b=r at *
 generalize (b.natAbs:Int)=B at *
 clear hside x b0 bl bu c
 go_enter Tryz.func227,Tryz.ntmps227
 go_wp2_with fail
 refine (cF _).mono ?_
 rintro e w1 ⟨h',l',rfl,hz,hb⟩
 obtain ⟨rfl,rfl⟩:=(hq.inj hz).2 rfl
 clear hz
 have r1:WC w1 (w.heap.size+1) 0 0:=wc_keep hb (by simp [WC,go_sem])
 have f1:WF w1 (w.heap.size+1):=wf_keep hb (h:=0) (l:=0) (by simp [WC,go_sem]) (by simp [WF,go_sem])
 have B1:Below w.heap.size w w1:=b_trans (b_alloc (b_alloc (Below.refl _ _))) hb
 have r2:=wc_alloc (o:=Obj.cells #[.int .i64 h,.int .u64 l] 187) r1
 have f2:=wf_keep (b_alloc (o:=Obj.cells #[.int .i64 h,.int .u64 l] 187) (Below.refl _ _)) r1 f1
 have B2:=b_alloc (o:=Obj.cells #[.int .i64 h,.int .u64 l] 187) B1
 have k2:WC (w1.alloc (Obj.cells #[.int .i64 h,.int .u64 l] 187)) w1.heap.size h l:=by simp [WC,go_sem]
 clear r1 f1 hb B1
 go_wp2_with fail
 refine (cB _).mono ?_
 rintro e w2 ⟨rfl,rfl⟩
 go_wp2
 refine region_each [25,26,27,28,29,30,31] (fun i x u=>match i with | 0=>x=wv h l | 1=>x=.int .u64 r | 2=>x=wv 0 r | 3=>x=.int .u64 (B - r) | 4=>x=wv 0 (B - r) | 5=>x=.int .i64 side | 6=>∃ zh zl,x=wv zh zl∧IsW zh zl z | _=>True) (fun i=>false) (by kernel_rfl) (by kernel_rfl) (by kernel_rfl) (by kernel_rfl) (by kernel_rfl) ?_ ?_ ?_ ?_
 ·intro i x w w' hi h hb
  match i,hi with
  | 0,_=>exact h
  | 1,_=>exact h
  | 2,_=>exact h
  | 3,_=>exact h
  | 4,_=>exact h
  | 5,_=>exact h
  | 6,_=>exact h
  | k+7,hk=>exact absurd hk (by simp)
 ·intro i x w hi ha h
  cases ha
 ·intro i hi v f w' hb hv hB hd
  match i,hi with
  | 0,_ =>
   have b6:f.tmps[6]?=some (.pointer (some ⟨w1.heap.size,0,none⟩)):=(hb 6 (by decide)).trans rfl
   clear hb hv hd
   have c:=wc_keep hB k2
   refine wpOp_step rfl (fun K hK=>?_)
   go_simp
   exact hK _ _ ⟨_,rfl,Below.refl _ _,rfl,fun h=>absurd h (by decide)⟩
  | 1,_ =>
   have b7:f.tmps[7]?=some (.int .u64 r):=(hb 7 (by decide)).trans rfl
   clear hb hv hd
   refine wpOp_step rfl (fun K hK=>?_)
   go_simp
   exact hK _ _ ⟨_,rfl,Below.refl _ _,rfl,fun h=>absurd h (by decide)⟩
  | 2,_ =>
   have h1:v 1=.int .u64 r:=hd 1 (by kernel_rfl)
   have d1:f.tmps[26]?=some (.int .u64 r):=(hv 1 26 rfl).trans (congrArg some h1)
   clear h1
   clear hb hv hd
   refine wpOp_step rfl (fun K hK=>?_)
   go_simp
   exact hK _ _ ⟨_,rfl,Below.refl _ _,rfl,fun h=>absurd h (by decide)⟩
  | 3,_ =>
   have b9:f.tmps[9]?=some (.int .u64 (B - r)):=(hb 9 (by decide)).trans rfl
   clear hb hv hd
   refine wpOp_step rfl (fun K hK=>?_)
   go_simp
   exact hK _ _ ⟨_,rfl,Below.refl _ _,rfl,fun h=>absurd h (by decide)⟩
  | 4,_ =>
   have h3:v 3=.int .u64 (B - r):=hd 3 (by kernel_rfl)
   have d3:f.tmps[28]?=some (.int .u64 (B - r)):=(hv 3 28 rfl).trans (congrArg some h3)
   clear h3
   clear hb hv hd
   refine wpOp_step rfl (fun K hK=>?_)
   go_simp
   exact hK _ _ ⟨_,rfl,Below.refl _ _,rfl,fun h=>absurd h (by decide)⟩
  | 5,_ =>
   have h2:v 2=wv 0 r:=hd 2 (by kernel_rfl)
   have d2:f.tmps[27]?=some (wv 0 r):=(hv 2 27 rfl).trans (congrArg some h2)
   clear h2
   have h4:v 4=wv 0 (B - r):=hd 4 (by kernel_rfl)
   have d4:f.tmps[29]?=some (wv 0 (B - r)):=(hv 4 29 rfl).trans (congrArg some h4)
   clear h4
   clear hb hv hd
   refine wpOp_step rfl (fun K hK=>?_)
   go_simp
   refine (cC _).mono ?_
   rintro e w5 ⟨rfl,hb5⟩
   exact hK _ _ ⟨_,rfl,hb5,rfl,fun h=>absurd h (by decide)⟩
  | 6,_ =>
   have h0:v 0=wv h l:=hd 0 (by kernel_rfl)
   have d0:f.tmps[25]?=some (wv h l):=(hv 0 25 rfl).trans (congrArg some h0)
   clear h0
   have h5:v 5=.int .i64 side:=hd 5 (by kernel_rfl)
   have d5:f.tmps[30]?=some (.int .i64 side):=(hv 5 30 rfl).trans (congrArg some h5)
   clear h5
   clear hb hv hd
   refine wpOp_step rfl (fun K hK=>?_)
   go_simp
   refine (cN _).mono ?_
   rintro e w5 ⟨zh,zl,rfl,hz,hb5⟩
   exact hK _ _ ⟨_,rfl,hb5,⟨zh,zl,rfl,hz⟩,fun h=>absurd h (by decide)⟩
  | k+7,hk=>exact absurd hk (by simp)
 ·intro v w' hB hF hD
  have F0:v 0=wv h l:=hF 0 (by simp)
  have F1:v 1=.int .u64 r:=hF 1 (by simp)
  have F2:v 2=wv 0 r:=hF 2 (by simp)
  have F3:v 3=.int .u64 (B - r):=hF 3 (by simp)
  have F4:v 4=wv 0 (B - r):=hF 4 (by simp)
  have F5:v 5=.int .i64 side:=hF 5 (by simp)
  have F6:∃ zh zl,v 6=wv zh zl∧IsW zh zl z:=hF 6 (by simp)
  clear hF
  obtain ⟨zh,zl,e6,hz'⟩:=F6
  simp only [frOf,frGo,Nat.zero_add,Nat.reduceAdd,F0,F1,F2,F3,F4,F5,e6]
  have r3:=wc_keep hB r2
  have f3:=wf_keep hB r2 f2
  have B3:=b_trans B2 hB
  clear k2 r2 f2 B2 hB hD
  go_wp2
  exact bodyPost_ret (v:=.tuple #[wv zh zl,.int .i64 0]) (by simp [results,Tryz.results227,go_sem,r3]) rfl ⟨_,_,rfl,hz',b_set (b_set B3 (by simp)) (by simp)⟩
theorem even_zero (ah al:Int) (w:World):Calls Tryz.prog 227 #[wv ah al,.int .i64 0] w (RetWE 0 4 w) :=
 even_err ah al 0 4 (by decide) (fun w=>floor_zero ah al w) w
theorem ef_fits {a b:Int} (x:Fits a) (b0:b≠0) (c:¬ (a=-170141183460469231731687303715884105728∧b=-1)):Fits (ef a b):=by
 obtain ⟨q0,q1⟩:=rf_bd a b0
 unfold ef near
 split
 ·exact qf_half x (by omega)
 ·exact qf_fits x b0 c
theorem even_any (ah al a b:Int) (x:IsW ah al a) (b0:b≠0) (bl:-9223372036854775808≤b) (bu:b≤9223372036854775807) (w:World) :
  Calls Tryz.prog 227 #[wv ah al,.int .i64 b] w (RetWE (fz (ef a b)) (fe (ef a b)) w):=by
 by_cases c:a=-170141183460469231731687303715884105728∧b=-1
 ·have e:ef a b=170141183460469231731687303715884105728:=by
   obtain ⟨rfl,rfl⟩:=c
   decide
  rw [e]
  exact even_err ah al b 3 (by decide) (fun w=>floor_bad ah al a x b c w) w
 ·have hf:=ef_fits x.fits b0 c
  rw [fz_of hf,fe_of hf]
  exact even_ok ah al a b x b0 bl bu c w
end Go.Proofs.YtjifkmldigemkaaGreatDoor
namespace Go.Proofs.YtjifkmldigemkaaGreatDoor
open Go.RowKit Go.Shelf
theorem retWE_det {z c h l:Int} (x:IsW h l z) {w:World} {e:Ending} {w':World} (r:RetWE z c w e w'):RetV (.tuple #[wv h l,.int .i64 c]) w e w':=by
 obtain ⟨h',l',he,y,hb⟩:=r
 obtain ⟨rfl,rfl⟩:=(x.inj y).2 rfl
 exact ⟨he,hb⟩
end Go.Proofs.YtjifkmldigemkaaGreatDoor
namespace Go.Proofs.YtjifkmldigemkaaGreatDoor
open Go.RowKit Go.Shelf
theorem sum_fix (a b:Int) (ca:FitP a) (cb:FitP b) (w:World) :
  Calls Tryz.prog 191 #[.int .i64 a,.int .i64 b] w fun e w'=>e=.returned (.tuple #[.int .i64 (a+b),.int .i64 0])∧w=w':=by
 go_enter Tryz.func191,Tryz.ntmps191
 go_wp2
 go_ret2
 refine ⟨?_,rfl⟩
 simp
theorem difference_fix (a b:Int) (ca:FitP a) (cb:FitP b) (w:World) :
  Calls Tryz.prog 174 #[.int .i64 a,.int .i64 b] w fun e w'=>e=.returned (.tuple #[.int .i64 (a - b),.int .i64 0])∧w=w':=by
 go_enter Tryz.func174,Tryz.ntmps174
 go_wp2
 go_ret2
 refine ⟨?_,rfl⟩
 simp
def gz (a b x:Int):Int:=if FitP a∧FitP b then nz x else 0
def ge (a b x:Int):Int:=if FitP a∧FitP b then ne x else 1
theorem gz_of {a b:Int} (h:FitP a∧FitP b) (x:Int):gz a b x=nz x∧ge a b x=ne x:=⟨if_pos h,if_pos h⟩
theorem gz_no {a b:Int} (h:¬ (FitP a∧FitP b)) (x:Int):gz a b x=0∧ge a b x=1:=⟨if_neg h,if_neg h⟩
theorem add_fix (a b:Int) (a0:-9223372036854775808≤a) (a1:a≤9223372036854775807) (b0:-9223372036854775808≤b) (b1:b≤9223372036854775807) (w:World) :
  Calls Tryz.prog 140 #[.int .i64 a,.int .i64 b] w (RetV (.tuple #[.int .i64 (gz a b (a+b)),.int .i64 (ge a b (a+b))]) w):=by
 have cT:Calls Tryz.prog 173 #[.int .i64 a,.int .i64 b,.func (.func 191) #[] #[],.func (.func 175) #[] #[]] w (RetV (.tuple #[.int .i64 (gz a b (a+b)),.int .i64 (ge a b (a+b))]) w):=by
  by_cases c:FitP a∧FitP b
  ·rw [(gz_of c _).1,(gz_of c _).2]
   exact taken_sum a b a0 a1 b0 b1 c.1 c.2 (a+b) _ _ (sum_fix a b c.1 c.2) (fitting_any (a+b) (by omega) (by omega)) w
  ·rw [(gz_no c _).1,(gz_no c _).2]
   exact taken_bad a b a0 a1 b0 b1 c _ _ w
 go_enter Tryz.func140,Tryz.ntmps140
 go_wp2_with fail
 refine (cT).mono ?_
 rintro e w1 ⟨rfl,hb1⟩
 go_wp2
 go_ret2
 exact ⟨rfl,hb1⟩
theorem sub_fix (a b:Int) (a0:-9223372036854775808≤a) (a1:a≤9223372036854775807) (b0:-9223372036854775808≤b) (b1:b≤9223372036854775807) (w:World) :
  Calls Tryz.prog 124 #[.int .i64 a,.int .i64 b] w (RetV (.tuple #[.int .i64 (gz a b (a - b)),.int .i64 (ge a b (a - b))]) w):=by
 have cT:Calls Tryz.prog 173 #[.int .i64 a,.int .i64 b,.func (.func 174) #[] #[],.func (.func 175) #[] #[]] w (RetV (.tuple #[.int .i64 (gz a b (a - b)),.int .i64 (ge a b (a - b))]) w):=by
  by_cases c:FitP a∧FitP b
  ·rw [(gz_of c _).1,(gz_of c _).2]
   exact taken_difference a b a0 a1 b0 b1 c.1 c.2 (a - b) _ _ (difference_fix a b c.1 c.2) (fitting_any (a - b) (by omega) (by omega)) w
  ·rw [(gz_no c _).1,(gz_no c _).2]
   exact taken_bad a b a0 a1 b0 b1 c _ _ w
 go_enter Tryz.func124,Tryz.ntmps124
 go_wp2_with fail
 refine (cT).mono ?_
 rintro e w1 ⟨rfl,hb1⟩
 go_wp2
 go_ret2
 exact ⟨rfl,hb1⟩
theorem mul_bd {a b:Int} (ca:FitP a) (cb:FitP b):-83076749736557242056487941267521536≤a*b∧a*b≤83076749736557242056487941267521536:=by
 have h:a.natAbs*b.natAbs≤288230376151711744*288230376151711744:=Nat.mul_le_mul (by omega) (by omega)
 have e:(a*b).natAbs=a.natAbs*b.natAbs:=Int.natAbs_mul a b
 omega
theorem evn_near (A B:Int):evn A B=A / B∨evn A B=A / B+1:=by unfold evn near; split <;> simp
theorem evn_fits {a b:Int} (ca:FitP a) (cb:FitP b):Fits (evn (a*b) 1099511627776):=by
 have h:=mul_bd ca cb
 have:=evn_near (a*b) 1099511627776
 exact ⟨by omega,by omega⟩
theorem product_any (a b:Int) (a0:-9223372036854775808≤a) (a1:a≤9223372036854775807) (b0:-9223372036854775808≤b) (b1:b≤9223372036854775807) (_ca:FitP a) (_cb:FitP b) (w:World) :
  Calls Tryz.prog 218 #[.int .i64 a,.int .i64 b] w (RetWE (evn (a*b) 1099511627776) 0 w):=by
 go_enter Tryz.func218,Tryz.ntmps218
 go_wp2_with fail
 refine (mul_any a b a0 a1 b0 b1 _).mono ?_
 rintro e w1 ⟨h1,l1,rfl,x1,hb1⟩
 go_wp2_with fail
 refine (half_any _ _ _ 40 x1 (by decide) (by decide) _).mono ?_
 rintro e w2 ⟨h2,l2,rfl,x2,hb2⟩
 have r0:WC w1 w.heap.size 0 0:=wc_keep hb1 (by simp [WC,go_sem])
 have f0:WF w1 w.heap.size:=wf_keep hb1 (h:=0) (l:=0) (by simp [WC,go_sem]) (by simp [WF,go_sem])
 have r1:=wc_keep hb2 r0
 have f1:=wf_keep hb2 r0 f0
 have B1:Below w.heap.size w w2:=b_trans (b_trans (b_alloc (Below.refl _ _)) hb1) hb2
 clear hb1 hb2 x1 r0 f0
 go_wp2
 rw [show (2:Int) ^ (40:Int).toNat=1099511627776 by decide] at x2
 exact bodyPost_ret (v:=.tuple #[wv h2 l2,.int .i64 0]) (by simp [results,Tryz.results218,go_sem,r1]) rfl ⟨_,_,rfl,x2,b_set (b_set B1 (by simp)) (by simp)⟩
theorem mul_fix (a b:Int) (a0:-9223372036854775808≤a) (a1:a≤9223372036854775807) (b0:-9223372036854775808≤b) (b1:b≤9223372036854775807) (w:World) :
  Calls Tryz.prog 197 #[.int .i64 a,.int .i64 b] w (RetV (.tuple #[.int .i64 (gz a b (evn (a*b) 1099511627776)),.int .i64 (ge a b (evn (a*b) 1099511627776))]) w):=by
 have cT:Calls Tryz.prog 217 #[.int .i64 a,.int .i64 b,.func (.func 218) #[] #[],.func (.func 219) #[] #[]] w (RetV (.tuple #[.int .i64 (gz a b (evn (a*b) 1099511627776)),.int .i64 (ge a b (evn (a*b) 1099511627776))]) w):=by
  by_cases c:FitP a∧FitP b
  ·rw [(gz_of c _).1,(gz_of c _).2]
   have x:=IsW.mk' (evn_fits c.1 c.2)
   exact takew_product a b a0 a1 b0 b1 c.1 c.2 _ _ _ _ (fun w=>(product_any a b a0 a1 b0 b1 c.1 c.2 w).mono fun _ _ h=>retWE_det x h) (narrow_any _ _ _ x) w
  ·rw [(gz_no c _).1,(gz_no c _).2]
   exact takew_bad a b a0 a1 b0 b1 c _ _ w
 generalize evn (a*b) 1099511627776=z at *
 go_enter Tryz.func197,Tryz.ntmps197
 go_wp2_with fail
 refine (cT).mono ?_
 rintro e w1 ⟨rfl,hb1⟩
 go_wp2
 go_ret2
 exact ⟨rfl,hb1⟩
theorem one_bd {a:Int} (ca:FitP a):Fits (a*1099511627776)∧¬ (a*1099511627776=-170141183460469231731687303715884105728):=⟨⟨by omega,by omega⟩,by omega⟩
theorem quotient_any (a b:Int) (a0:-9223372036854775808≤a) (a1:a≤9223372036854775807) (b0:-9223372036854775808≤b) (b1:b≤9223372036854775807) (ca:FitP a) (b2:b≠0) (w:World) :
  Calls Tryz.prog 226 #[.int .i64 a,.int .i64 b] w (RetWE (ef (a*1099511627776) b) 0 w):=by
 have hf:=ef_fits (one_bd ca).1 b2 (fun h=>(one_bd ca).2 h.1)
 go_enter Tryz.func226,Tryz.ntmps226
 go_wp2_with fail
 refine (mul_any a 1099511627776 a0 a1 (by decide) (by decide) _).mono ?_
 rintro e w1 ⟨h1,l1,rfl,x1,hb1⟩
 go_wp2_with fail
 refine (even_any _ _ _ b x1 b2 b0 b1 _).mono ?_
 rintro e w2 ⟨h2,l2,rfl,x2,hb2⟩
 have r0:WC w1 w.heap.size 0 0:=wc_keep hb1 (by simp [WC,go_sem])
 have f0:WF w1 w.heap.size:=wf_keep hb1 (h:=0) (l:=0) (by simp [WC,go_sem]) (by simp [WF,go_sem])
 rw [fz_of hf] at x2
 rw [fe_of hf]
 have r1:=wc_keep hb2 r0
 have f1:=wf_keep hb2 r0 f0
 have B1:Below w.heap.size w w2:=b_trans (b_trans (b_alloc (Below.refl _ _)) hb1) hb2
 clear hb1 hb2 x1 r0 f0
 go_wp2
 exact bodyPost_ret (v:=.tuple #[wv h2 l2,.int .i64 0]) (by simp [results,Tryz.results226,go_sem,r1]) rfl ⟨_,_,rfl,x2,b_set (b_set B1 (by simp)) (by simp)⟩
theorem quotient_zero (a:Int) (a0:-9223372036854775808≤a) (a1:a≤9223372036854775807) (w:World) :
  Calls Tryz.prog 226 #[.int .i64 a,.int .i64 0] w (RetWE 0 4 w):=by
 go_enter Tryz.func226,Tryz.ntmps226
 go_wp2_with fail
 refine (mul_any a 1099511627776 a0 a1 (by decide) (by decide) _).mono ?_
 rintro e w1 ⟨h1,l1,rfl,x1,hb1⟩
 go_wp2_with fail
 refine (even_zero _ _ _).mono ?_
 rintro e w2 ⟨h2,l2,rfl,x2,hb2⟩
 have r0:WC w1 w.heap.size 0 0:=wc_keep hb1 (by simp [WC,go_sem])
 have f0:WF w1 w.heap.size:=wf_keep hb1 (h:=0) (l:=0) (by simp [WC,go_sem]) (by simp [WF,go_sem])
 have r1:=wc_keep hb2 r0
 have f1:=wf_keep hb2 r0 f0
 have B1:Below w.heap.size w w2:=b_trans (b_trans (b_alloc (Below.refl _ _)) hb1) hb2
 clear hb1 hb2 x1 r0 f0
 go_wp2
 exact bodyPost_ret (v:=.tuple #[wv h2 l2,.int .i64 4]) (by simp [results,Tryz.results226,go_sem,r1]) rfl ⟨_,_,rfl,x2,b_set (b_set B1 (by simp)) (by simp)⟩
def dz (a b:Int):Int:=if FitP a∧FitP b then (if b=0 then 0 else nz (ef (a*1099511627776) b)) else 0
def de (a b:Int):Int:=if FitP a∧FitP b then (if b=0 then 4 else ne (ef (a*1099511627776) b)) else 1
theorem dz_no {a b:Int} (h:¬ (FitP a∧FitP b)):dz a b=0∧de a b=1:=⟨if_neg h,if_neg h⟩
theorem dz_zero {a b:Int} (h:FitP a∧FitP b) (b0:b=0):dz a b=0∧de a b=4:=by unfold dz de; rw [if_pos h,if_pos h,if_pos b0,if_pos b0]; exact ⟨rfl,rfl⟩
theorem dz_of {a b:Int} (h:FitP a∧FitP b) (b0:b≠0):dz a b=nz (ef (a*1099511627776) b)∧de a b=ne (ef (a*1099511627776) b):=by unfold dz de; rw [if_pos h,if_pos h,if_neg b0,if_neg b0]; exact ⟨rfl,rfl⟩
theorem div_fix (a b:Int) (a0:-9223372036854775808≤a) (a1:a≤9223372036854775807) (b0:-9223372036854775808≤b) (b1:b≤9223372036854775807) (w:World) :
  Calls Tryz.prog 225 #[.int .i64 a,.int .i64 b] w (RetV (.tuple #[.int .i64 (dz a b),.int .i64 (de a b)]) w):=by
 have cT:Calls Tryz.prog 217 #[.int .i64 a,.int .i64 b,.func (.func 226) #[] #[],.func (.func 219) #[] #[]] w (RetV (.tuple #[.int .i64 (dz a b),.int .i64 (de a b)]) w):=by
  by_cases c:FitP a∧FitP b
  ·by_cases d:b=0
   ·rw [(dz_zero c d).1,(dz_zero c d).2]
    subst d
    exact takew_quotient_err a 0 a0 a1 b0 b1 c.1 c.2 _ 0 0 4 (by decide) (fun w=>(quotient_zero a a0 a1 w).mono fun _ _ h=>retWE_det isW_zero h) w
   ·rw [(dz_of c d).1,(dz_of c d).2]
    have x:=IsW.mk' (ef_fits (one_bd c.1).1 d (fun h=>(one_bd c.1).2 h.1))
    exact takew_quotient a b a0 a1 b0 b1 c.1 c.2 _ _ _ _ (fun w=>(quotient_any a b a0 a1 b0 b1 c.1 d w).mono fun _ _ h=>retWE_det x h) (narrow_any _ _ _ x) w
  ·rw [(dz_no c).1,(dz_no c).2]
   exact takew_bad a b a0 a1 b0 b1 c _ _ w
 generalize dz a b=z at *
 generalize de a b=z' at *
 go_enter Tryz.func225,Tryz.ntmps225
 go_wp2_with fail
 refine (cT).mono ?_
 rintro e w1 ⟨rfl,hb1⟩
 go_wp2
 go_ret2
 exact ⟨rfl,hb1⟩
def clz (x m:Int):Int:=if m<0 then 0 else if x < -m then -m else if m<x then m else x
theorem clamp_fix (x m:Int) (_x0:-9223372036854775808≤x) (_x1:x≤9223372036854775807) (m0:-9223372036854775808≤m) (m1:m≤9223372036854775807) (w:World) :
  Calls Tryz.prog 181 #[.int .i64 x,.int .i64 m] w fun e w'=>e=.returned (.int .i64 (clz x m))∧w=w':=by
 by_cases c:m<0
 ·have E:=Lib.hid (show clz x m=0 from if_pos c)
  go_enter Tryz.func181,Tryz.ntmps181
  go_wp2
  go_ret
  exact ⟨by rw [E.out]; rfl,rfl⟩
 ·have n1:wrap64 (-m)=-m:=by unfold wrap64; omega
  by_cases d:x < -m
  ·have E:=Lib.hid (show clz x m=-m by unfold clz; rw [if_neg c,if_pos d])
   have d2:¬ m<x:=by omega
   go_enter Tryz.func181,Tryz.ntmps181
   go_wp2_with (simp only [n1])
   go_ret
   exact ⟨by rw [E.out]; simp,rfl⟩
  ·by_cases d2:m<x
   ·have E:=Lib.hid (show clz x m=m by unfold clz; rw [if_neg c,if_neg d,if_pos d2])
    go_enter Tryz.func181,Tryz.ntmps181
    go_wp2_with (simp only [n1])
    go_ret
    exact ⟨by rw [E.out]; rfl,rfl⟩
   ·have E:=Lib.hid (show clz x m=x by unfold clz; rw [if_neg c,if_neg d,if_neg d2])
    go_enter Tryz.func181,Tryz.ntmps181
    go_wp2_with (simp only [n1])
    go_ret
    exact ⟨by rw [E.out]; rfl,rfl⟩
theorem out_bd {x:Int} (x0:-9223372036854775808≤x) (x1:x≤9223372036854775807):-9223372036854775808≤evn x 16777216∧evn x 16777216≤9223372036854775807:=by
 have:=evn_near x 16777216
 omega
theorem out_fix (x:Int) (x0:-9223372036854775808≤x) (x1:x≤9223372036854775807) (w:World) :
  Calls Tryz.prog 73 #[.int .i64 x] w (RetV (.int .i64 (evn x 16777216)) w):=by
 have E:=Lib.hid (iz_of (out_bd x0 x1))
 go_enter Tryz.func73,Tryz.ntmps73
 go_wp2_with fail
 refine (of_any x x0 x1 _).mono ?_
 rintro e w1 ⟨h1,l1,rfl,y1,hb1⟩
 go_wp2_with fail
 refine (half_any _ _ _ 24 y1 (by decide) (by decide) _).mono ?_
 rintro e w2 ⟨h2,l2,rfl,y2,hb2⟩
 rw [show (2:Int) ^ (24:Int).toNat=16777216 by decide] at y2
 go_wp2_with fail
 refine (int_any _ _ _ y2 _).mono ?_
 rintro e w3 ⟨rfl,hb3⟩
 rw [E.out.1,E.out.2]
 have B:=b_trans (b_alloc (b_trans hb1 hb2)) hb3
 clear hb1 hb2 hb3
 generalize evn x 16777216=z at *
 go_wp2
 go_ret
 exact ⟨rfl,B⟩
end Go.Proofs.YtjifkmldigemkaaGreatDoor
namespace Go.Proofs.YtjifkmldigemkaaGreatDoor
open Go.RowKit Go.Shelf
abbrev I64 (x:Int):Prop:=-9223372036854775808≤x∧x≤9223372036854775807
abbrev tv (x y z:Int):Value:=.agg #[.int .i64 x,.int .i64 y,.int .i64 z]
abbrev TC (w:World) (b:Nat) (x y z:Int):Prop:=w.cell? ⟨b,0,none⟩=some (.int .i64 x)∧w.cell? ⟨b,1,none⟩=some (.int .i64 y)∧w.cell? ⟨b,2,none⟩=some (.int .i64 z)
abbrev TF (w:World) (b:Nat):Prop:=w.frozen? ⟨b,0,none⟩=false∧w.frozen? ⟨b,1,none⟩=false∧w.frozen? ⟨b,2,none⟩=false
theorem tc_keep {w w':World} (hb:Below w.heap.size w w') {b:Nat} {x y z:Int} (c:TC w b x y z):TC w' b x y z:=⟨cell_keep hb c.1,cell_keep hb c.2.1,cell_keep hb c.2.2⟩
theorem tc_alloc {w:World} {o:Obj} {b:Nat} {x y z:Int} (c:TC w b x y z):TC (w.alloc o) b x y z:=tc_keep (b_alloc (Below.refl _ _)) c
theorem tc_lt {w:World} {b:Nat} {x y z:Int} (c:TC w b x y z):b<w.heap.size:=World.block_lt_of_cell? w _ c.1
theorem tf_keep {w w':World} (hb:Below w.heap.size w w') {b:Nat} {x y z:Int} (c:TC w b x y z) (f:TF w b):TF w' b:=by
 have h1:=World.block_lt_of_cell? w _ c.1
 have h2:=World.block_lt_of_cell? w _ c.2.1
 have h3:=World.block_lt_of_cell? w _ c.2.2
 exact ⟨by rw [hb.frozen h1]; exact f.1,by rw [hb.frozen h2]; exact f.2.1,by rw [hb.frozen h3]; exact f.2.2⟩
theorem tc_set {w:World} {b b1 o:Nat} {x y z:Int} {v:Value} (c:TC w b x y z) (hb:b1≠b):TC (w.setCell ⟨b1,o,none⟩ v) b x y z :=
 ⟨by rw [World.cell?_setCell_far _ _ _ _ hb]; exact c.1,by rw [World.cell?_setCell_far _ _ _ _ hb]; exact c.2.1,by rw [World.cell?_setCell_far _ _ _ _ hb]; exact c.2.2⟩
theorem tf_set {w:World} {b b1 o:Nat} {v:Value} (c:TF w b):TF (w.setCell ⟨b1,o,none⟩ v) b :=
 ⟨by rw [World.frozen?_setCell]; exact c.1,by rw [World.frozen?_setCell]; exact c.2.1,by rw [World.frozen?_setCell]; exact c.2.2⟩
theorem tc_new {w:World} {b:Nat} {x y z:Int} {t:TypeId} (hn:b=w.heap.size):TC (w.alloc (Obj.cells #[.int .i64 x,.int .i64 y,.int .i64 z] t)) b x y z:=by subst hn; simp [TC,go_sem]
theorem tf_new {w:World} {b:Nat} {x y z:Int} {t:TypeId} (hn:b=w.heap.size):TF (w.alloc (Obj.cells #[.int .i64 x,.int .i64 y,.int .i64 z] t)) b:=by subst hn; simp [TF,go_sem]
theorem vec_eq (x y z x' y' z':Int) (w:World):(Op.equalIn 10000 23 (tv x y z) (tv x' y' z')).run Tryz.prog w=.ok (x == x' && (y == y' && z == z')) w:=by
 have hs:(Tryz.prog.info? 2).isSome=true:=by kernel_rfl
 obtain ⟨i,hi⟩:=Option.isSome_iff_exists.1 hs
 have hc:Tryz.prog.cellsOf 2=1:=by kernel_rfl
 have hp:Tryz.prog.plainKey 2=true:=by kernel_rfl
 rw [run_equalIn_array w 9999 _ _ Tryz.underlying23 hi]
 rw [hc]
 have P:=fun (a b c:Int) (w:World)=>And.intro (run_part_plain w hp (xs:=#[Value.int IntKind.i64 a,Value.int IntKind.i64 b,Value.int IntKind.i64 c]) (off:=0*1) rfl) (And.intro (run_part_plain w hp (xs:=#[Value.int IntKind.i64 a,Value.int IntKind.i64 b,Value.int IntKind.i64 c]) (off:=1*1) rfl) (run_part_plain w hp (xs:=#[Value.int IntKind.i64 a,Value.int IntKind.i64 b,Value.int IntKind.i64 c]) (off:=2*1) rfl))
 have E:=fun (a b:Int) (w:World)=>run_equalIn_int w 9998 2 .i64 .i64 a b Tryz.underlying2
 simp only [List.range,List.range.loop,Op.eqItems,Sem.run_bind,(P _ _ _ _).1,Result.andThen_ok]
 by_cases a:x=x' <;> by_cases b:y=y' <;> by_cases c:z=z' <;> simp [a,b,c,(P _ _ _ _).2.1,(P _ _ _ _).2.2,E]
theorem vec_eq_self (x y z:Int) (w:World):(Op.equalIn 10000 23 (tv x y z) (tv x y z)).run Tryz.prog w=.ok true w:=by
 rw [vec_eq]; simp
def f3b (x y z:Int):Bool:=fitb x && (fitb y && fitb z)
abbrev F3 (x y z:Int):Prop:=FitP x∧FitP y∧FitP z
theorem f3b_yes {x y z:Int} (h:F3 x y z):f3b x y z=true:=by unfold f3b; rw [fitb_yes h.1,fitb_yes h.2.1,fitb_yes h.2.2]; rfl
theorem f3b_no {x y z:Int} (h:¬ F3 x y z):f3b x y z=false:=by
 unfold f3b
 by_cases a:FitP x
 ·by_cases b:FitP y
  ·rw [fitb_no (x:=z) (fun c=>h ⟨a,b,c⟩)]; simp
  ·rw [fitb_no b]; simp
 ·rw [fitb_no a]; simp
end Go.Proofs.YtjifkmldigemkaaGreatDoor
namespace Go.Proofs.YtjifkmldigemkaaGreatDoor
structure IsRoot (z r:Int):Prop where
 r0:0≤r
 lo:r*r≤z
 hi:z<(r+1)*(r+1)
theorem sq_le {a b:Int} (a0:0≤a) (h:a≤b):a*a≤b*b:=Int.mul_le_mul h h a0 (by omega)
theorem sq_lt {a b:Int} (a0:0≤a) (h:a<b):a*a<b*b:=by
 have h1:=sq_le (show 0≤a+1 by omega) (show a+1≤b by omega)
 have h2:(a+1)*(a+1)=a*a+a+a+1:=by rw [Int.mul_add,Int.add_mul]; omega
 omega
theorem of_sq_lt {a b:Int} (b0:0≤b) (h:a*a<b*b):a<b:=by
 apply Int.lt_of_not_ge
 intro c
 have:=sq_le b0 c
 omega
theorem IsRoot.uniq {z r s:Int} (x:IsRoot z r) (y:IsRoot z s):r=s:=by
 have x0:=x.r0; have y0:=y.r0
 have h1:=of_sq_lt (show 0≤s+1 by omega) (Int.lt_of_le_of_lt x.lo y.hi)
 have h2:=of_sq_lt (show 0≤r+1 by omega) (Int.lt_of_le_of_lt y.lo x.hi)
 omega
theorem IsRoot.lt {z r h:Int} (x:IsRoot z r) (h0:0≤h) (hh:z<h*h):r<h:=of_sq_lt h0 (Int.lt_of_le_of_lt x.lo hh)
theorem IsRoot.ge {z r l:Int} (x:IsRoot z r) (hl:l*l≤z):l≤r:=by
 have r0:=x.r0
 have:=of_sq_lt (show 0≤r+1 by omega) (Int.lt_of_le_of_lt hl x.hi)
 omega
theorem root_some (n:Nat):∃ r:Int,IsRoot n r:=by
 induction n with
 | zero=>exact ⟨0,by decide,by decide,by decide⟩
 | succ n ih =>
  obtain ⟨r,x⟩:=ih
  have r0:=x.r0; have h0:=x.lo; have h1:=x.hi
  by_cases c:((n+1:Nat):Int)<(r+1)*(r+1)
  ·exact ⟨r,r0,by omega,c⟩
  ·refine ⟨r+1,by omega,by omega,?_⟩
   have:=sq_lt (show 0≤r+1 by omega) (show r+1<r+1+1 by omega)
   omega
theorem root_any {z:Int} (h:0≤z):∃ r,IsRoot z r:=by
 obtain ⟨r,x⟩:=root_some z.toNat
 exact ⟨r,by rwa [Int.toNat_of_nonneg h] at x⟩
theorem root_between {x y r:Int} (x0:0≤x) (h:x≤y) (i:IsRoot (x*y) r):x≤r∧r≤y:=by
 have h1:x*x≤x*y:=Int.mul_le_mul_of_nonneg_left h x0
 have h2:x*y≤y*y:=Int.mul_le_mul_of_nonneg_right h (by omega)
 refine ⟨i.ge h1,?_⟩
 have:=i.lt (show 0≤y+1 by omega) (by have:=sq_lt (show 0≤y by omega) (show y<y+1 by omega); omega)
 omega
theorem root_square {x:Int} (x0:0≤x):IsRoot (x*x) x:=⟨x0,Int.le_refl _,sq_lt x0 (by omega)⟩
theorem root_i64 {x y r:Int} (x0:0≤x) (y0:0≤y) (x1:x≤9223372036854775807) (y1:y≤9223372036854775807) (i:IsRoot (x*y) r):r≤9223372036854775807:=by
 by_cases c:x≤y
 ·have:=(root_between x0 c i).2; omega
 ·have:=(root_between y0 (show y≤x by omega) (by rwa [Int.mul_comm] at i)).2; omega
theorem bit_take {z n p:Int} (n0:0≤n) (p0:1≤p) (lo:n*n≤z) (hi:z<(n+2*p)*(n+2*p)) :
  ((n+p)*(n+p)≤z→0≤n+p∧(n+p)*(n+p)≤z∧z<(n+p+p)*(n+p+p))∧(¬ (n+p)*(n+p)≤z→0≤n∧n*n≤z∧z<(n+p)*(n+p)):=by
 rw [show n+p+p=n+2*p by omega]
 exact ⟨fun h=>⟨by omega,h,hi⟩,fun h=>⟨n0,lo,by omega⟩⟩
end Go.Proofs.YtjifkmldigemkaaGreatDoor
namespace Go.Proofs.YtjifkmldigemkaaGreatDoor
open Go.RowKit Go.Shelf
theorem ge_ok {a b x:Int} (h:ge a b x=0):gz a b x=x∧FitP a∧FitP b∧FitP x:=by
 unfold ge at h
 by_cases c:FitP a∧FitP b
 ·rw [if_pos c] at h
  unfold ne at h
  by_cases d:FitP x
  ·exact ⟨by rw [(gz_of c x).1,(nz_of d).1],c.1,c.2,d⟩
  ·rw [if_neg d] at h; cases h
 ·rw [if_neg c] at h; cases h
end Go.Proofs.YtjifkmldigemkaaGreatDoor

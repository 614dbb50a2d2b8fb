import Derived.Orders
import Derived.RegionTactic
import Derived.Below
import Derived.Test.YthnofhjgfhapiaaGreatDoorWab
import Derived.Test.YthnofhjgfhapiaaGreatDoorWaa
set_option maxHeartbeats 1000000
set_option maxRecDepth 10000
namespace Go.Proofs.YthnofhjgfhapiaaGreatDoor
open Go.RowKit
section
variable {P:Program} {ops:Array Oper} {Q:Exit→Act→World→Prop}
def waits (ops:Array Oper) (i j:Nat):Bool:=dep ops i j || (List.range i).any fun k=>dep ops i k && dep ops k j
def lateOK (ops:Array Oper) (m l:Nat):Bool :=
 regionOK ops ops.size && ((List.range ops.size).all fun i=>decide (i<m) || (List.range i).all fun j=>(i == m && j == l) || waits ops i j) && decide (l<m) && decide (m<ops.size)
theorem late_ok {m l:Nat} (h:lateOK ops m l=true):regionOK ops ops.size=true∧l<m∧m<ops.size ∧
  ∀ i,i<ops.size→m≤i→∀ j,j<i→(i=m∧j=l)∨dep ops i j=true∨∃ k,dep ops i k=true∧dep ops k j=true:=by
 unfold lateOK at h
 simp only [Bool.and_eq_true,List.all_eq_true,List.mem_range,Bool.or_eq_true,decide_eq_true_eq,beq_iff_eq] at h
 obtain ⟨⟨⟨h1,h2⟩,h3⟩,h4⟩:=h
 refine ⟨h1,h3,h4,fun i hi hm j hj=>?_⟩
 rcases h2 i hi with h' | h'
 ·omega
 ·rcases h' j hj with h5 | h5
  ·exact Or.inl h5
  ·unfold waits at h5
   simp only [Bool.or_eq_true,List.any_eq_true,Bool.and_eq_true] at h5
   rcases h5 with h5 | ⟨k,_,h5⟩
   ·exact Or.inr (Or.inl h5)
   ·exact Or.inr (Or.inr ⟨k,h5⟩)
theorem wpAny_tailL (ok:regionOK ops ops.size=true) {m:Nat} (hw:∀ i k,i<ops.size→m≤k→k<i→dep ops i k=true∨∃ k2,dep ops i k2=true∧dep ops k2 k=true) :
  ∀ (fuel k:Nat) (listed:Array Bool) (a:Act) (w:World),listed.size=ops.size→m≤k →
  (∀ i,i<ops.size→(listed.getD i false=true↔i<k))→ops.size≤k+fuel→wpList P ops Q (ops.toList.drop k) a w→wpAny P .any ops Q fuel listed a w:=by
 intro fuel
 induction fuel with
 | zero =>
  intro k listed a w hs _ hl hf h
  rw [List.drop_eq_nil_of_le (by simpa using hf)] at h
  refine ⟨?_,h⟩
  apply List.eq_nil_iff_forall_not_mem.2
  intro i hi
  obtain ⟨h1,h2,_⟩:=ready_mem hi
  have:=(hl i h1).2 (by omega)
  simp [Array.getD,hs,h1] at h2 this
  rw [h2] at this; cases this
 | succ fuel ih =>
  intro k listed a w hs hmk hl hf h
  have only:∀ i,i ∈ Region.ready .any ops listed→i=k:=by
   intro i hi
   obtain ⟨h1,h2,h3⟩:=ready_mem hi
   have hik:k≤i:=by
    apply Nat.le_of_not_lt
    intro hc
    have:=(hl i h1).2 hc
    simp [Array.getD,hs,h1] at h2 this
    rw [h2] at this; cases this
   by_cases e:i=k
   ·exact e
   ·have hk:k<i:=by omega
    rcases hw i k h1 hmk hk with h4 | ⟨k2,h4,h5⟩
    ·have:=(hl k (by omega)).1 (h3 k h4)
     omega
    ·have l2:=dep_lt ok h1 h4
     have:=(hl k2 (by omega)).1 (h3 k2 h4)
     have:=dep_lt ok (show k2<ops.size by omega) h5
     omega
  by_cases hk:k<ops.size
  ·have ho:ops[k]?=some ops[k]:=Array.getElem?_eq_getElem hk
   have hd:ops.toList.drop k=ops[k] :: ops.toList.drop (k+1):=by
    rw [List.drop_eq_getElem_cons (by simpa using hk)]; simp
   rw [hd] at h
   refine ⟨?_,?_⟩
   ·intro hr
    have:k ∈ Region.ready .any ops listed:=mem_ready hk (by
     have:¬ listed.getD k false=true:=fun hc=>by have:=(hl k hk).1 hc; omega
     simp [Array.getD,hs,hk] at this ⊢; exact this) (fun o hoo e he hb=>(hl e.on (by have:=ok_lex ok hoo e he hb; omega)).2 (ok_lex ok hoo e he hb))
    rw [hr] at this; cases this
   ·intro i hi
    obtain rfl:=only i hi
    have h':wpOp P ops Q i (wpList P ops Q (ops.toList.drop (i+1))) a w:=by
     unfold wpOp; rw [ho]; exact h
    refine wpOp_mono (fun a' w' hh=>ih (i+1) _ a' w' (by simpa using hs) (by omega) ?_ (by omega) hh) h'
    intro j hj
    by_cases e:j=i
    ·subst e; rw [getD_set_same (by rw [hs]; exact hj)]; simp
    ·rw [getD_set_other e,hl j hj]; omega
  ·rw [List.drop_eq_nil_of_le (by simpa using (by omega:ops.size≤k))] at h
   refine ⟨fun _=>h,fun i hi=>?_⟩
   have:=only i hi
   obtain ⟨h1,_⟩:=ready_mem hi
   omega
theorem left_prefixed {n k:Nat} {listed:Array Bool} (hs:listed.size=n) (hl:∀ i,i<n→(listed.getD i false=true↔i<k)):n≤k+left n listed:=by
 have e:((List.range n).filter fun i=>!listed.getD i true)=(List.range n).filter fun i=>decide (k≤i):=by
  apply List.filter_congr
  intro j hj
  have hj':=List.mem_range.1 hj
  have h1:=hl j hj'
  have h2:listed.getD j true=listed.getD j false:=by simp [Array.getD,hs,hj']
  rw [h2]
  by_cases c:j<k
  ·rw [h1.2 c]; simp; omega
  ·have:listed.getD j false=false:=by
    cases h:listed.getD j false with
    | true=>exact absurd (h1.1 h) c
    | false=>rfl
   rw [this]; simp; omega
 have cnt:∀ n,((List.range n).filter fun i=>decide (k≤i)).length=n - k:=by
  intro n
  induction n with
  | zero=>simp
  | succ n ihn =>
   rw [List.range_succ,List.filter_append,List.length_append,ihn]
   by_cases c:k≤n
   ·simp [c]; omega
   ·simp [c]; omega
 unfold left
 rw [e,cnt]
 omega
theorem unlisted {listed:Array Bool} {n i:Nat} (hs:listed.size=n) (hi:i<n) (h:¬ listed.getD i false=true):listed.getD i true=false:=by
 simp [Array.getD,hs,hi] at h ⊢; exact h
theorem listed_not {listed:Array Bool} {n i:Nat} (hs:listed.size=n) (hi:i<n) (h:listed.getD i true=false):¬ listed.getD i false=true:=by
 simp [Array.getD,hs,hi] at h ⊢; exact h
theorem wpAny_late {m l:Nat} {fr:(Nat→Value)→Act} {Φ:Nat→Value→World→Prop} {A:Nat→Bool} {W:World} (ok:lateOK ops m l=true)
  (hpers:∀ i x w w',i<m→Φ i x w→Below w.heap.size w w'→Φ i x w')
  (hA:∀ i x w,i<m→A i=true→Φ i x w→blk x<w.heap.size)
  (hstep:∀ i,i<m→∀ v w',Below W.heap.size W w'→(∀ j,dep ops i j=true→Φ j (v j) w') →
   wpOp P ops Q i (fun a' w''=>∃ x,a'=fr (upd v i x)∧Below w'.heap.size w' w''∧Φ i x w''∧(A i=true→w'.heap.size≤blk x)) (fr v) w')
  (hend:∀ v w',Below W.heap.size W w'→(∀ i,i<m→Φ i (v i) w')→(∀ i j,i<m→j<m→A i=true→A j=true→i≠j→blk (v i)≠blk (v j))→wpList P ops Q (ops.toList.drop m) (fr v) w')
  (hlate:∀ v w',Below W.heap.size W w'→(∀ i,i<m→i≠l→Φ i (v i) w')→(∀ i j,i<m→j<m→i≠l→j≠l→A i=true→A j=true→i≠j→blk (v i)≠blk (v j))→wpOp P ops Q m (fun a' w''=>wpOp P ops Q l (fun a2 w2=>wpList P ops Q (ops.toList.drop (m+1)) a2 w2) a' w'') (fr v) w') :
  ∀ (fuel:Nat) (listed:Array Bool) (v:Nat→Value) (a:Act) (w:World),left ops.size listed≤fuel→Under ops m fr Φ A W listed v a w→wpAny P .any ops Q fuel listed a w:=by
 obtain ⟨ok0,lm,ms,hwait⟩:=late_ok ok
 have hw:∀ i k,i<ops.size→m≤k→k<i→dep ops i k=true∨∃ k2,dep ops i k2=true∧dep ops k2 k=true:=by
  intro i k hi hk hki
  rcases hwait i hi (by omega) k hki with h | h
  ·omega
  ·exact h
 intro fuel
 induction fuel with
 | zero =>
  intro listed v a w hf u
  have h1:=u.hT m (Nat.le_refl _) ms
  have:m ∈ (List.range ops.size).filter fun i=>!listed.getD i true:=by
   rw [List.mem_filter,unlisted u.hs ms (by rw [h1]; decide)]; exact ⟨List.mem_range.2 ms,rfl⟩
  have h0:((List.range ops.size).filter fun i=>!listed.getD i true)=[]:=List.eq_nil_of_length_eq_zero (by unfold left at hf; omega)
  rw [h0] at this; cases this
 | succ fuel ih =>
  intro listed v a w hf u
  by_cases done:∀ i,i<m→listed.getD i false=true
  ·rw [u.ha]
   have hl:∀ i,i<ops.size→(listed.getD i false=true↔i<m):=by
    intro i hi
    constructor
    ·intro h
     by_cases c:i<m
     ·exact c
     ·rw [u.hT i (by omega) hi] at h; cases h
    ·exact done i
   refine wpAny_tailL ok0 hw (fuel+1) m listed _ w u.hs (Nat.le_refl _) hl (by have:=left_prefixed u.hs hl; omega) ?_
   exact hend v w u.hB (fun i hi=>u.hΦ i hi (done i hi)) (fun i j hi hj=>u.hD i j hi hj (done i hi) (done j hj))
  ·have some_ready:Region.ready .any ops listed≠[]:=by
    have:∃ i,i<m∧listed.getD i false=false∧∀ j,j<i→listed.getD j false=true:=by
     apply Classical.byContradiction
     intro no
     apply done
     intro i
     induction i using Nat.strongRecOn with
     | _ i ihi =>
      intro hi
      cases h:listed.getD i false with
      | true=>rfl
      | false=>exact absurd ⟨i,hi,h,fun j hj=>ihi j hj (by omega)⟩ no
    obtain ⟨i,hi,h1,h2⟩:=this
    intro hr
    have:i ∈ Region.ready .any ops listed:=mem_ready (by omega) (unlisted u.hs (by omega) (by rw [h1]; decide)) (fun o ho e he hb=>h2 e.on (ok_lex ok0 ho e he hb))
    rw [hr] at this; cases this
   refine ⟨fun h=>absurd h some_ready,fun i hi=>?_⟩
   obtain ⟨h1,h2,h3⟩:=ready_mem hi
   by_cases him:i<m
   ·rw [u.ha]
    refine wpOp_mono ?_ (hstep i him v w u.hB (fun j hj=>?_))
    ·rintro a' w' ⟨x,rfl,hb,hx,hf'⟩
     refine ih _ (upd v i x) _ w' ?_ ⟨rfl,by simpa using u.hs,?_,?_,?_,?_,?_⟩
     ·have:=left_set h1 u.hs h2; omega
     ·exact u.hB.trans (hb.mono u.hB.size)
     ·intro j hj hl
      by_cases e:j=i
      ·subst e; rw [upd_same]; exact hx
      ·rw [upd_other v x e]
       rw [getD_set_other e] at hl
       exact hpers j _ w w' hj (u.hΦ j hj hl) hb
     ·intro j k hj hk lj lk aj ak hne
      by_cases e:j=i
      ·subst e
       rw [upd_same,upd_other v x (fun h=>hne h.symm)]
       rw [getD_set_other (fun h=>hne h.symm)] at lk
       have:=hA k _ w hk ak (u.hΦ k hk lk)
       have:=hf' aj
       omega
      ·by_cases e2:k=i
       ·subst e2
        rw [upd_same,upd_other v x e]
        rw [getD_set_other e] at lj
        have:=hA j _ w hj aj (u.hΦ j hj lj)
        have:=hf' ak
        omega
       ·rw [upd_other v x e,upd_other v x e2]
        rw [getD_set_other e] at lj
        rw [getD_set_other e2] at lk
        exact u.hD j k hj hk lj lk aj ak hne
     ·intro j hj hjs
      rw [getD_set_other (by omega)]
      exact u.hT j hj hjs
     ·intro j hj lj k hk
      by_cases e2:k=i
      ·subst e2; exact getD_set_same (by rw [u.hs]; exact h1) false
      ·rw [getD_set_other e2]
       by_cases e:j=i
       ·subst e; exact h3 k hk
       ·rw [getD_set_other e] at lj
        exact u.hC j hj lj k hk
    ·have:=dep_lt ok0 h1 hj
     exact u.hΦ j (by omega) (h3 j hj)
   ·have others:∀ j,j<m→j≠l→listed.getD j false=true:=by
     intro j hj hne
     rcases hwait i h1 (by omega) j (by omega) with h4 | h4 | ⟨k2,h4,h5⟩
     ·exact absurd h4.2 hne
     ·exact h3 j h4
     ·exact u.hC k2 (by have:=dep_lt ok0 h1 h4; omega) (h3 k2 h4) j h5
    have lnot:¬ listed.getD l false=true:=by
     intro hc
     refine done (fun j hj=>?_)
     by_cases e:j=l
     ·rw [e]; exact hc
     ·exact others j hj e
    obtain rfl:i=m:=by
     rcases hwait i h1 (by omega) l (by omega) with h4 | h4 | ⟨k2,h4,h5⟩
     ·exact h4.1
     ·exact absurd (h3 l h4) lnot
     ·exact absurd (u.hC k2 (by have:=dep_lt ok0 h1 h4; omega) (h3 k2 h4) l h5) lnot
    rw [u.ha]
    have lf:=left_set h1 u.hs h2
    have ls:l<ops.size:=by omega
    refine wpOp_mono ?_ (hlate v w u.hB (fun j hj hne=>u.hΦ j hj (others j hj hne)) (fun j k hj hk nj nk=>u.hD j k hj hk (others j hj nj) (others k hk nk)))
    intro a' w' h'
    have hs2:(listed.setIfInBounds i true).size=ops.size:=by simpa using u.hs
    have l2:(listed.setIfInBounds i true).getD l false=listed.getD l false:=getD_set_other (by omega) false
    have l2n:(listed.setIfInBounds i true).getD l true=false:=unlisted hs2 ls (by rw [l2]; exact lnot)
    have lf2:=left_set ls hs2 l2n
    have hl3:∀ j,j<ops.size→(((listed.setIfInBounds i true).setIfInBounds l true).getD j false=true↔j<i+1):=by
     intro j hj
     by_cases e:j=l
     ·subst e; rw [getD_set_same (by rw [hs2]; exact hj)]; simp; omega
     ·rw [getD_set_other e]
      by_cases e2:j=i
      ·subst e2; rw [getD_set_same (by rw [u.hs]; exact hj)]; simp
      ·rw [getD_set_other e2]
       constructor
       ·intro h
        by_cases c:j<i
        ·omega
        ·rw [u.hT j (by omega) hj] at h; cases h
       ·intro h
        exact others j (by omega) e
    match fuel,hf,lf,lf2 with
    | 0,hf,lf,lf2=>omega
    | fuel+1,hf,lf,lf2 =>
     refine ⟨?_,?_⟩
     ·intro hr
      have:l ∈ Region.ready .any ops (listed.setIfInBounds i true):=mem_ready ls l2n (fun o hoo e he hb=>by
       have:=ok_lex ok0 hoo e he hb
       rw [getD_set_other (by omega)]
       exact others e.on (by omega) (by omega))
      rw [hr] at this; cases this
     ·intro j hj
      obtain ⟨j1,j2,j3⟩:=ready_mem hj
      have hjl:j=l:=by
       apply Classical.byContradiction
       intro e
       have jn:=listed_not hs2 j1 j2
       have ji:¬ j<i+1:=by
        intro c
        apply jn
        have:=(hl3 j j1).2 c
        rwa [getD_set_other e] at this
       have lnot2:¬ (listed.setIfInBounds i true).getD l false=true:=by rw [l2]; exact lnot
       rcases hwait j j1 (by omega) l (by omega) with h4 | h4 | ⟨k2,h4,h5⟩
       ·omega
       ·exact lnot2 (j3 l h4)
       ·have hk2:=j3 k2 h4
        have kl:=dep_lt ok0 j1 h4
        by_cases ek:k2=i
        ·subst ek
         exact lnot (h3 l h5)
        ·rw [getD_set_other ek] at hk2
         exact lnot (u.hC k2 (by omega) hk2 l h5)
      subst hjl
      refine wpOp_mono (fun a2 w2 h2'=>?_) h'
      exact wpAny_tailL ok0 hw fuel (i+1) _ a2 w2 (by simpa using hs2) (by omega) hl3 (by have:=left_prefixed (by simpa using hs2) hl3; omega) h2'
theorem region_late {id:Nat} {a:Act} {w:World} (ds:List Tmp) (l:Nat) (Φ:Nat→Value→World→Prop) (A:Nat→Bool)
  (hmix:P.follows .mixedOrders=true) (ok:lateOK ops ds.length l=true) (hn:decide ds.Nodup=true) (hs:ds.all (fun d=>decide (d<a.tmps.size))=true)
  (hpers:∀ i x w w',i<ds.length→Φ i x w→Below w.heap.size w w'→Φ i x w')
  (hA:∀ i x w,i<ds.length→A i=true→Φ i x w→blk x<w.heap.size)
  (hstep:∀ i,i<ds.length→∀ (v:Nat→Value) (f:Act) (w':World),(∀ t,t ∉ ds→f.tmps[t]?=a.tmps[t]?)→(∀ j d,ds[j]?=some d→f.tmps[d]?=some (v j))→Below w.heap.size w w'→(∀ j,dep ops i j=true→Φ j (v j) w') →
   wpOp P ops Q i (fun a' w''=>∃ x,a'=f.put ds[i]? x∧Below w'.heap.size w' w''∧Φ i x w''∧(A i=true→w'.heap.size≤blk x)) f w')
  (hend:∀ v w',Below w.heap.size w w'→(∀ i,i<ds.length→Φ i (v i) w')→(∀ i j,i<ds.length→j<ds.length→A i=true→A j=true→i≠j→blk (v i)≠blk (v j))→wpList P ops Q (ops.toList.drop ds.length) (frOf a ds v) w')
  (hlate:∀ v w',Below w.heap.size w w'→(∀ i,i<ds.length→i≠l→Φ i (v i) w')→(∀ i j,i<ds.length→j<ds.length→i≠l→j≠l→A i=true→A j=true→i≠j→blk (v i)≠blk (v j))→wpOp P ops Q ds.length (fun a' w''=>wpOp P ops Q l (fun a2 w2=>wpList P ops Q (ops.toList.drop (ds.length+1)) a2 w2) a' w'') (frOf a ds v) w') :
  (Code.region id ops true).wp P Q a w:=by
 have hnd:=of_decide_eq_true hn
 have hsz:∀ d ∈ ds,d<a.tmps.size:=fun d hd=>of_decide_eq_true (List.all_eq_true.1 hs d hd)
 refine wp_region_any hmix ?_
 refine wpAny_late (W:=w) (fr:=frOf a ds) ok hpers hA ?_ hend hlate ops.size _ (fun i=>a.tmps.getD (ds.getD i 0) undef) a _ ?_ ⟨frOf_self a ds,by simp,?_,?_,?_,?_,?_⟩
 ·intro i hi v w' hB hd
  refine wpOp_mono ?_ (hstep i hi v (frOf a ds v) w' (fun t ht=>frGo_base v ds 0 a t ht) (fun j d hj=>?_) hB hd)
  ·rintro a' w'' ⟨x,rfl,hb,hx,hf⟩
   refine ⟨x,?_,hb,hx,hf⟩
   rw [List.getElem?_eq_getElem hi]
   exact frOf_upd hnd hsz (List.getElem?_eq_getElem hi)
  ·have:=frGo_get v ds 0 a j d hnd hj (hsz d (List.mem_of_getElem? hj))
   rw [Nat.zero_add] at this
   exact this
 ·unfold left
  exact Nat.le_trans (List.length_filter_le _ _) (by simp)
 ·exact (Below.refl _ _).drew
 ·intro i _ h
  by_cases c:i<ops.size <;> simp [Array.getD,c] at h
 ·intro i j _ _ h
  by_cases c:i<ops.size <;> simp [Array.getD,c] at h
 ·intro i _ hi
  simp [Array.getD,hi]
 ·intro i _ h
  by_cases c:i<ops.size <;> simp [Array.getD,c] at h
theorem region_late_k {id:Nat} {a:Act} {w:World} (ds:List Tmp) (l:Nat) (V:Nat→Value) (T:Act→Act) (ST:World→Prop) (Φ:Nat→Value→World→Prop) (A:Nat→Bool)
  (hmix:P.follows .mixedOrders=true) (ok:lateOK ops ds.length l=true) (hn:decide ds.Nodup=true) (hs:ds.all (fun d=>decide (d<a.tmps.size))=true)
  (hpers:∀ i x w w',i<ds.length→Φ i x w→Below w.heap.size w w'→Φ i x w')
  (hA:∀ i x w,i<ds.length→A i=true→Φ i x w→blk x<w.heap.size)
  (hstep:∀ i,i<ds.length→∀ (v:Nat→Value) (f:Act) (w':World),(∀ t,t ∉ ds→f.tmps[t]?=a.tmps[t]?)→(∀ j d,ds[j]?=some d→f.tmps[d]?=some (v j))→Below w.heap.size w w'→(∀ j,dep ops i j=true→Φ j (v j) w') →
   wpOp P ops (fun e a' w'=>e=Exit.normal∧a'=T (frOf a ds V)∧ST w') i (fun a' w''=>∃ x,a'=f.put ds[i]? x∧Below w'.heap.size w' w''∧Φ i x w''∧(A i=true→w'.heap.size≤blk x)) f w')
  (hend:∀ v w',Below w.heap.size w w'→(∀ i,i<ds.length→Φ i (v i) w')→(∀ i j,i<ds.length→j<ds.length→A i=true→A j=true→i≠j→blk (v i)≠blk (v j))→wpList P ops (fun e a' w'=>e=Exit.normal∧a'=T (frOf a ds V)∧ST w') (ops.toList.drop ds.length) (frOf a ds v) w')
  (hlate:∀ v w',Below w.heap.size w w'→(∀ i,i<ds.length→i≠l→Φ i (v i) w')→(∀ i j,i<ds.length→j<ds.length→i≠l→j≠l→A i=true→A j=true→i≠j→blk (v i)≠blk (v j))→wpOp P ops (fun e a' w'=>e=Exit.normal∧a'=T (frOf a ds V)∧ST w') ds.length (fun a' w''=>wpOp P ops (fun e a' w'=>e=Exit.normal∧a'=T (frOf a ds V)∧ST w') l (fun a2 w2=>wpList P ops (fun e a' w'=>e=Exit.normal∧a'=T (frOf a ds V)∧ST w') (ops.toList.drop (ds.length+1)) a2 w2) a' w'') (frOf a ds v) w')
  (hQ:∀ w',ST w'→Q Exit.normal (T (frOf a ds V)) w') :
  (Code.region id ops true).wp P Q a w:=by
 refine wp_mono (region_late ds l Φ A hmix ok hn hs hpers hA hstep hend hlate) ?_
 rintro e a' w' ⟨rfl,rfl,h⟩
 exact hQ w' h
end
end Go.Proofs.YthnofhjgfhapiaaGreatDoor
namespace Go.Proofs.YthnofhjgfhapiaaGreatDoor
open Go.RowKit Go.Shelf
abbrev FitP (x:Int):Prop:=-288230376151711744≤x∧x≤288230376151711744
def fitb (x:Int):Bool:=decide (FitP x)
theorem fitb_yes {x:Int} (h:FitP x):fitb x=true:=decide_eq_true h
theorem fitb_no {x:Int} (h:¬ FitP x):fitb x=false:=decide_eq_false h
theorem fits_any (x:Int) (x0:-9223372036854775808≤x) (x1:x≤9223372036854775807) (w:World) :
  Calls Tryz.prog 82 #[.int .i64 x] w fun e w'=>e=.returned (.bool (fitb x))∧w=w':=by
 by_cases c:-288230376151711744≤x
 ·by_cases d:x≤288230376151711744
  ·have e:=Lib.hid (fitb_yes ⟨c,d⟩)
   go_enter Tryz.func82,Tryz.ntmps82
   go_wp2
   go_ret
   exact ⟨by rw [e.out]; rfl,rfl⟩
  ·have e:=Lib.hid (fitb_no (x:=x) (by omega))
   go_enter Tryz.func82,Tryz.ntmps82
   go_wp2
   go_ret
   exact ⟨by rw [e.out]; rfl,rfl⟩
 ·have e:=Lib.hid (fitb_no (x:=x) (by omega))
  go_enter Tryz.func82,Tryz.ntmps82
  go_wp2
  go_ret
  exact ⟨by rw [e.out]; rfl,rfl⟩
def nz (x:Int):Int:=if FitP x then x else 0
def ne (x:Int):Int:=if FitP x then 0 else 3
theorem nz_of {x:Int} (h:FitP x):nz x=x∧ne x=0:=⟨if_pos h,if_pos h⟩
theorem nz_no {x:Int} (h:¬ FitP x):nz x=0∧ne x=3:=⟨if_neg h,if_neg h⟩
theorem fitting_any (x:Int) (x0:-9223372036854775808≤x) (x1:x≤9223372036854775807) (w:World) :
  Calls Tryz.prog 130 #[.int .i64 x] w fun e w'=>e=.returned (.tuple #[.int .i64 (nz x),.int .i64 (ne x)])∧w=w':=by
 by_cases c:FitP x
 ·have E:=Lib.hid (nz_of c)
  have ex:=Lib.hid (fitb_yes c)
  clear c
  go_enter Tryz.func130,Tryz.ntmps130
  go_wp2_with fail
  refine (fits_any x x0 x1 _).mono ?_
  rintro e w9 ⟨rfl,rfl⟩
  rw [ex.out]
  go_wp2
  go_ret2
  exact ⟨by rw [E.out.1,E.out.2]; rfl,rfl⟩
 ·have E:=Lib.hid (nz_no c)
  have ex:=Lib.hid (fitb_no c)
  clear c
  go_enter Tryz.func130,Tryz.ntmps130
  go_wp2_with fail
  refine (fits_any x x0 x1 _).mono ?_
  rintro e w9 ⟨rfl,rfl⟩
  rw [ex.out]
  go_wp2
  go_ret2
  exact ⟨by rw [E.out.1,E.out.2]; rfl,rfl⟩
theorem taken_bad (a b:Int) (a0:-9223372036854775808≤a) (a1:a≤9223372036854775807) (b0:-9223372036854775808≤b) (b1:b≤9223372036854775807) (c:¬ (FitP a∧FitP b)) (fs fe:Value) (w:World) :
  Calls Tryz.prog 128 #[.int .i64 a,.int .i64 b,fs,fe] w (RetV (.tuple #[.int .i64 0,.int .i64 1]) w):=by
 by_cases d:FitP a
 ·have ea:=Lib.hid (fitb_yes d)
  have eb:=Lib.hid (fitb_no (fun h=>c ⟨d,h⟩))
  clear c d
  go_enter Tryz.func128,Tryz.ntmps128
  go_wp2_with fail
  refine (fits_any a a0 a1 _).mono ?_
  rintro e w9 ⟨rfl,rfl⟩
  rw [ea.out]
  go_wp2_with fail
  refine (fits_any b b0 b1 _).mono ?_
  rintro e w9 ⟨rfl,rfl⟩
  rw [eb.out]
  go_wp2
  go_ret2
  exact ⟨rfl,Below.refl _ _⟩
 ·have ea:=Lib.hid (fitb_no d)
  clear c d
  go_enter Tryz.func128,Tryz.ntmps128
  go_wp2_with fail
  refine (fits_any a a0 a1 _).mono ?_
  rintro e w9 ⟨rfl,rfl⟩
  rw [ea.out]
  go_wp2
  go_ret2
  exact ⟨rfl,Below.refl _ _⟩
theorem takew_bad (a b:Int) (a0:-9223372036854775808≤a) (a1:a≤9223372036854775807) (b0:-9223372036854775808≤b) (b1:b≤9223372036854775807) (c:¬ (FitP a∧FitP b)) (fs fe:Value) (w:World) :
  Calls Tryz.prog 173 #[.int .i64 a,.int .i64 b,fs,fe] w (RetV (.tuple #[.int .i64 0,.int .i64 1]) w):=by
 by_cases d:FitP a
 ·have ea:=Lib.hid (fitb_yes d)
  have eb:=Lib.hid (fitb_no (fun h=>c ⟨d,h⟩))
  clear c d
  go_enter Tryz.func173,Tryz.ntmps173
  go_wp2_with fail
  refine (fits_any a a0 a1 _).mono ?_
  rintro e w9 ⟨rfl,rfl⟩
  rw [ea.out]
  go_wp2_with fail
  refine (fits_any b b0 b1 _).mono ?_
  rintro e w9 ⟨rfl,rfl⟩
  rw [eb.out]
  go_wp2
  go_ret2
  exact ⟨rfl,Below.refl _ _⟩
 ·have ea:=Lib.hid (fitb_no d)
  clear c d
  go_enter Tryz.func173,Tryz.ntmps173
  go_wp2_with fail
  refine (fits_any a a0 a1 _).mono ?_
  rintro e w9 ⟨rfl,rfl⟩
  rw [ea.out]
  go_wp2
  go_ret2
  exact ⟨rfl,Below.refl _ _⟩
theorem taken_sum (a b:Int) (a0:-9223372036854775808≤a) (a1:a≤9223372036854775807) (b0:-9223372036854775808≤b) (b1:b≤9223372036854775807) (ca:FitP a) (cb:FitP b) (x y e':Int)
  (hs:∀ w,Calls Tryz.prog 140 #[.int .i64 a,.int .i64 b] w fun e w'=>e=.returned (.tuple #[.int .i64 x,.int .i64 0])∧w=w')
  (he:∀ w,Calls Tryz.prog 130 #[.int .i64 x] w fun e w'=>e=.returned (.tuple #[.int .i64 y,.int .i64 e'])∧w=w') (w:World) :
  Calls Tryz.prog 128 #[.int .i64 a,.int .i64 b,.func (.func 140) #[] #[],.func (.func 130) #[] #[]] w (RetV (.tuple #[.int .i64 y,.int .i64 e']) w):=by
 have ea:=Lib.hid (fitb_yes ca)
 have eb:=Lib.hid (fitb_yes cb)
 clear ca cb
 go_enter Tryz.func128,Tryz.ntmps128
 go_wp2_with fail
 refine (fits_any a a0 a1 _).mono ?_
 rintro e w9 ⟨rfl,rfl⟩
 rw [ea.out]
 go_wp2_with fail
 refine (fits_any b b0 b1 _).mono ?_
 rintro e w9 ⟨rfl,rfl⟩
 rw [eb.out]
 go_wp2_with fail
 refine (hs _).mono ?_
 rintro e w9 ⟨rfl,rfl⟩
 go_wp2_with fail
 refine (he _).mono ?_
 rintro e w9 ⟨rfl,rfl⟩
 go_wp2
 go_ret2
 exact ⟨rfl,Below.refl _ _⟩
theorem taken_difference (a b:Int) (a0:-9223372036854775808≤a) (a1:a≤9223372036854775807) (b0:-9223372036854775808≤b) (b1:b≤9223372036854775807) (ca:FitP a) (cb:FitP b) (x y e':Int)
  (hs:∀ w,Calls Tryz.prog 129 #[.int .i64 a,.int .i64 b] w fun e w'=>e=.returned (.tuple #[.int .i64 x,.int .i64 0])∧w=w')
  (he:∀ w,Calls Tryz.prog 130 #[.int .i64 x] w fun e w'=>e=.returned (.tuple #[.int .i64 y,.int .i64 e'])∧w=w') (w:World) :
  Calls Tryz.prog 128 #[.int .i64 a,.int .i64 b,.func (.func 129) #[] #[],.func (.func 130) #[] #[]] w (RetV (.tuple #[.int .i64 y,.int .i64 e']) w):=by
 have ea:=Lib.hid (fitb_yes ca)
 have eb:=Lib.hid (fitb_yes cb)
 clear ca cb
 go_enter Tryz.func128,Tryz.ntmps128
 go_wp2_with fail
 refine (fits_any a a0 a1 _).mono ?_
 rintro e w9 ⟨rfl,rfl⟩
 rw [ea.out]
 go_wp2_with fail
 refine (fits_any b b0 b1 _).mono ?_
 rintro e w9 ⟨rfl,rfl⟩
 rw [eb.out]
 go_wp2_with fail
 refine (hs _).mono ?_
 rintro e w9 ⟨rfl,rfl⟩
 go_wp2_with fail
 refine (he _).mono ?_
 rintro e w9 ⟨rfl,rfl⟩
 go_wp2
 go_ret2
 exact ⟨rfl,Below.refl _ _⟩
theorem takew_product (a b:Int) (a0:-9223372036854775808≤a) (a1:a≤9223372036854775807) (b0:-9223372036854775808≤b) (b1:b≤9223372036854775807) (ca:FitP a) (cb:FitP b) (h l y e':Int)
  (hs:∀ w,Calls Tryz.prog 174 #[.int .i64 a,.int .i64 b] w (RetV (.tuple #[wv h l,.int .i64 0]) w))
  (he:∀ w,Calls Tryz.prog 175 #[wv h l] w (RetV (.tuple #[.int .i64 y,.int .i64 e']) w)) (w:World) :
  Calls Tryz.prog 173 #[.int .i64 a,.int .i64 b,.func (.func 174) #[] #[],.func (.func 175) #[] #[]] w (RetV (.tuple #[.int .i64 y,.int .i64 e']) w):=by
 have ea:=Lib.hid (fitb_yes ca)
 have eb:=Lib.hid (fitb_yes cb)
 clear ca cb
 go_enter Tryz.func173,Tryz.ntmps173
 go_wp2_with fail
 refine (fits_any a a0 a1 _).mono ?_
 rintro e w9 ⟨rfl,rfl⟩
 rw [ea.out]
 go_wp2_with fail
 refine (fits_any b b0 b1 _).mono ?_
 rintro e w9 ⟨rfl,rfl⟩
 rw [eb.out]
 go_wp2_with fail
 refine (hs _).mono ?_
 rintro e w1 ⟨rfl,hb1⟩
 go_wp2_with fail
 refine (he _).mono ?_
 rintro e w2 ⟨rfl,hb2⟩
 have B:=b_trans (b_alloc hb1) hb2
 clear hb1 hb2
 go_wp2
 go_ret2
 exact ⟨rfl,B⟩
theorem takew_quotient (a b:Int) (a0:-9223372036854775808≤a) (a1:a≤9223372036854775807) (b0:-9223372036854775808≤b) (b1:b≤9223372036854775807) (ca:FitP a) (cb:FitP b) (h l y e':Int)
  (hs:∀ w,Calls Tryz.prog 200 #[.int .i64 a,.int .i64 b] w (RetV (.tuple #[wv h l,.int .i64 0]) w))
  (he:∀ w,Calls Tryz.prog 175 #[wv h l] w (RetV (.tuple #[.int .i64 y,.int .i64 e']) w)) (w:World) :
  Calls Tryz.prog 173 #[.int .i64 a,.int .i64 b,.func (.func 200) #[] #[],.func (.func 175) #[] #[]] w (RetV (.tuple #[.int .i64 y,.int .i64 e']) w):=by
 have ea:=Lib.hid (fitb_yes ca)
 have eb:=Lib.hid (fitb_yes cb)
 clear ca cb
 go_enter Tryz.func173,Tryz.ntmps173
 go_wp2_with fail
 refine (fits_any a a0 a1 _).mono ?_
 rintro e w9 ⟨rfl,rfl⟩
 rw [ea.out]
 go_wp2_with fail
 refine (fits_any b b0 b1 _).mono ?_
 rintro e w9 ⟨rfl,rfl⟩
 rw [eb.out]
 go_wp2_with fail
 refine (hs _).mono ?_
 rintro e w1 ⟨rfl,hb1⟩
 go_wp2_with fail
 refine (he _).mono ?_
 rintro e w2 ⟨rfl,hb2⟩
 have B:=b_trans (b_alloc hb1) hb2
 clear hb1 hb2
 go_wp2
 go_ret2
 exact ⟨rfl,B⟩
theorem takew_quotient_err (a b:Int) (a0:-9223372036854775808≤a) (a1:a≤9223372036854775807) (b0:-9223372036854775808≤b) (b1:b≤9223372036854775807) (ca:FitP a) (cb:FitP b) (fe:Value) (h l e':Int) (e0:(e' == 0)=false)
  (hs:∀ w,Calls Tryz.prog 200 #[.int .i64 a,.int .i64 b] w (RetV (.tuple #[wv h l,.int .i64 e']) w)) (w:World) :
  Calls Tryz.prog 173 #[.int .i64 a,.int .i64 b,.func (.func 200) #[] #[],fe] w (RetV (.tuple #[.int .i64 0,.int .i64 e']) w):=by
 have ea:=Lib.hid (fitb_yes ca)
 have eb:=Lib.hid (fitb_yes cb)
 clear ca cb
 go_enter Tryz.func173,Tryz.ntmps173
 go_wp2_with fail
 refine (fits_any a a0 a1 _).mono ?_
 rintro e w9 ⟨rfl,rfl⟩
 rw [ea.out]
 go_wp2_with fail
 refine (fits_any b b0 b1 _).mono ?_
 rintro e w9 ⟨rfl,rfl⟩
 rw [eb.out]
 go_wp2_with fail
 refine (hs _).mono ?_
 rintro e w1 ⟨rfl,hb1⟩
 have B:=b_alloc (o:=Obj.cells #[.int .i64 h,.int .u64 l] 96) hb1
 clear hb1
 go_wp2
 go_ret2
 exact ⟨rfl,B⟩
theorem narrow_any (h l z:Int) (x:IsW h l z) (w:World) :
  Calls Tryz.prog 175 #[wv h l] w (RetV (.tuple #[.int .i64 (nz z),.int .i64 (ne z)]) w):=by
 by_cases c:-9223372036854775808≤z∧z≤9223372036854775807
 ·have E:=Lib.hid (iz_of c)
  go_enter Tryz.func175,Tryz.ntmps175
  go_wp2_with fail
  refine (int_any h l z x _).mono ?_
  rintro e w1 ⟨rfl,hb1⟩
  rw [E.out.1,E.out.2]
  go_wp2_with fail
  refine (fitting_any z c.1 c.2 _).mono ?_
  rintro e w2 ⟨rfl,rfl⟩
  have B:=b_trans (b_alloc (Below.refl _ _)) hb1
  clear hb1
  go_wp2
  go_ret2
  exact ⟨rfl,B⟩
 ·have E:=Lib.hid (iz_no c)
  have N:=Lib.hid (nz_no (x:=z) (by omega))
  clear c
  go_enter Tryz.func175,Tryz.ntmps175
  go_wp2_with fail
  refine (int_any h l z x _).mono ?_
  rintro e w1 ⟨rfl,hb1⟩
  rw [E.out.1,E.out.2]
  have B:=b_trans (b_alloc (Below.refl _ _)) hb1
  clear hb1
  go_wp2
  go_ret2
  exact ⟨by rw [N.out.1,N.out.2]; rfl,B⟩
end Go.Proofs.YthnofhjgfhapiaaGreatDoor

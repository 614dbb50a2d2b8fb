import Derived.Orders
import Derived.RegionTactic
import Derived.Below
import Derived.Test.YtjifkmldigemkaaGreatDoorProg
import Derived.Shelf.Spec.BitsCarry
import Derived.Shelf.Bits.Mul64
import Derived.WalkKit
import Derived.WalkSpells
namespace Go.Proofs.YtjifkmldigemkaaGreatDoor
open Go.RowKit
section
variable {P:Program} {ops:Array Oper} {Q:Exit→Act→World→Prop}
def upd (v:Nat→Value) (i:Nat) (x:Value):Nat→Value:=fun j=>if j=i then x else v j
theorem upd_same (v:Nat→Value) (i:Nat) (x:Value):upd v i x i=x:=if_pos rfl
theorem upd_other (v:Nat→Value) {i j:Nat} (x:Value) (h:j≠i):upd v i x j=v j:=if_neg h
def blk:Value→Nat
 | .pointer (some a)=>a.block
 | _=>0
def dep (ops:Array Oper) (i j:Nat):Bool:=(ops[i]?).any fun o=>o.after.any fun e=>e.on == j && Region.binds .any e
def reach (ops:Array Oper):Nat→Nat→Nat→Bool
 | 0,i,j=>dep ops i j
 | f+1,i,j=>dep ops i j || (List.range i).any fun k=>dep ops i k && reach ops f k j
def regionOK (ops:Array Oper) (m:Nat):Bool :=
 ((List.range ops.size).all fun i=>((ops[i]?).map fun o=>o.after.all fun e=>!Region.binds .any e || decide (e.on<i)).getD true) &&
 ((List.range ops.size).all fun i=>decide (i<m) || (List.range i).all fun j=>reach ops 8 i j)
theorem ready_mem {listed:Array Bool} {i:Nat} (h:i ∈ Region.ready .any ops listed) :
  i<ops.size∧listed.getD i true=false∧∀ j,dep ops i j=true→listed.getD j false=true:=by
 unfold Region.ready at h
 simp only [List.mem_filter,List.mem_range,Bool.and_eq_true,Bool.not_eq_eq_eq_not,Bool.not_true] at h
 obtain ⟨h1,h2,h3⟩:=h
 refine ⟨h1,h2,fun j hj=>?_⟩
 unfold dep at hj
 cases ho:ops[i]? with
 | none=>simp [ho] at hj
 | some o =>
  rw [ho] at hj h3
  simp only [Option.any_some,Option.map_some,Option.getD_some] at hj h3
  rw [Array.any_eq_true'] at hj
  obtain ⟨e,he,hh⟩:=hj
  rw [Array.all_eq_true'] at h3
  have:=h3 e he
  simp only [Bool.and_eq_true,beq_iff_eq] at hh
  obtain ⟨rfl,hb⟩:=hh
  simpa [hb] using this
theorem mem_ready {listed:Array Bool} {i:Nat} (h1:i<ops.size) (h2:listed.getD i true=false) (hl:∀ o,ops[i]?=some o→∀ e ∈ o.after,Region.binds .any e=true→listed.getD e.on false=true) :
  i ∈ Region.ready .any ops listed:=by
 unfold Region.ready
 simp only [List.mem_filter,List.mem_range,Bool.and_eq_true,Bool.not_eq_eq_eq_not,Bool.not_true]
 refine ⟨h1,h2,?_⟩
 have ho:ops[i]?=some ops[i]:=Array.getElem?_eq_getElem h1
 rw [ho]
 simp only [Option.map_some,Option.getD_some]
 rw [Array.all_eq_true']
 intro e he
 cases hb:Region.binds .any e with
 | false=>simp
 | true=>simp [hl _ ho e he hb]
theorem ok_lex {m:Nat} (h:regionOK ops m=true) {i:Nat} {o:Oper} (ho:ops[i]?=some o):∀ e ∈ o.after,Region.binds .any e=true→e.on<i:=by
 unfold regionOK at h
 simp only [Bool.and_eq_true,List.all_eq_true,List.mem_range] at h
 obtain ⟨hi,_⟩:=Array.getElem?_eq_some_iff.1 ho
 have:=h.1 i hi
 rw [ho] at this
 simp only [Option.map_some,Option.getD_some] at this
 rw [Array.all_eq_true'] at this
 intro e he hb
 simpa [hb] using this e he
theorem ok_tail {m:Nat} (h:regionOK ops m=true) {i:Nat} (hi:i<ops.size) (hm:m≤i):∀ j,j<i→reach ops 8 i j=true:=by
 unfold regionOK at h
 simp only [Bool.and_eq_true,List.all_eq_true,List.mem_range,Bool.or_eq_true,decide_eq_true_eq] at h
 rcases h.2 i hi with h' | h'
 ·omega
 ·exact h'
theorem dep_lt {m:Nat} (ok:regionOK ops m=true) {i j:Nat} (hi:i<ops.size) (hj:dep ops i j=true):j<i:=by
 unfold dep at hj
 have ho:ops[i]?=some ops[i]:=Array.getElem?_eq_getElem hi
 rw [ho] at hj
 simp only [Option.any_some] at hj
 rw [Array.any_eq_true'] at hj
 obtain ⟨e,he,hh⟩:=hj
 simp only [Bool.and_eq_true,beq_iff_eq] at hh
 rw [← hh.1]
 exact ok_lex ok ho e he hh.2
theorem reach_to {m:Nat} (ok:regionOK ops m=true) {j:Nat}:∀ (f i:Nat),i<ops.size→reach ops f i j=true→∃ k,dep ops i k=true∧j≤k:=by
 intro f
 induction f with
 | zero=>exact fun i _ h=>⟨j,h,Nat.le_refl _⟩
 | succ f ih =>
  intro i hi h
  simp only [reach,Bool.or_eq_true,List.any_eq_true,List.mem_range,Bool.and_eq_true] at h
  rcases h with h | ⟨k,hk,h4,h5⟩
  ·exact ⟨j,h,Nat.le_refl _⟩
  ·obtain ⟨k',h6,h7⟩:=ih k (by omega) h5
   have:=dep_lt ok (show k<ops.size by omega) h6
   exact ⟨k,h4,by omega⟩
theorem reach_in {listed:Array Bool} (hC:∀ i,i<ops.size→listed.getD i false=true→∀ j,dep ops i j=true→listed.getD j false=true) {j:Nat}:∀ (f i:Nat),i<ops.size→(∀ k,dep ops i k=true→listed.getD k false=true)→reach ops f i j=true→listed.getD j false=true:=by
 intro f
 induction f with
 | zero=>exact fun i _ hl h=>hl j h
 | succ f ih =>
  intro i hi hl h
  simp only [reach,Bool.or_eq_true,List.any_eq_true,List.mem_range,Bool.and_eq_true] at h
  rcases h with h | ⟨k,hk,h4,h5⟩
  ·exact hl j h
  ·exact ih k (by omega) (hC k (by omega) (hl k h4)) h5
theorem wpAny_tail {m:Nat} (ok:regionOK ops m=true):∀ (fuel k:Nat) (listed:Array Bool) (a:Act) (w:World),listed.size=ops.size→m≤k →
  (∀ i,i<ops.size→(listed.getD i false=true↔i<k))→ops.size≤k+fuel→wpList P ops Q (ops.toList.drop k) a w→wpAny P .any ops Q fuel listed a w:=by
 intro fuel
 induction fuel with
 | zero =>
  intro k listed a w hs _ hl hf h
  rw [List.drop_eq_nil_of_le (by simpa using hf)] at h
  refine ⟨?_,h⟩
  apply List.eq_nil_iff_forall_not_mem.2
  intro i hi
  obtain ⟨h1,h2,_⟩:=ready_mem hi
  have:=(hl i h1).2 (by omega)
  simp [Array.getD,hs,h1] at h2 this
  rw [h2] at this; cases this
 | succ fuel ih =>
  intro k listed a w hs hmk hl hf h
  have only:∀ i,i ∈ Region.ready .any ops listed→i=k:=by
   intro i hi
   obtain ⟨h1,h2,h3⟩:=ready_mem hi
   have hik:k≤i:=by
    apply Nat.le_of_not_lt
    intro hc
    have:=(hl i h1).2 hc
    simp [Array.getD,hs,h1] at h2 this
    rw [h2] at this; cases this
   by_cases e:i=k
   ·exact e
   ·have hk:k<i:=by omega
    obtain ⟨k2,h4,h5⟩:=reach_to ok 8 i h1 (ok_tail ok h1 (by omega) k hk)
    have l2:=dep_lt ok h1 h4
    have:=(hl k2 (by omega)).1 (h3 k2 h4)
    omega
  by_cases hk:k<ops.size
  ·have ho:ops[k]?=some ops[k]:=Array.getElem?_eq_getElem hk
   have hd:ops.toList.drop k=ops[k] :: ops.toList.drop (k+1):=by
    rw [List.drop_eq_getElem_cons (by simpa using hk)]; simp
   rw [hd] at h
   refine ⟨?_,?_⟩
   ·intro hr
    have:k ∈ Region.ready .any ops listed:=mem_ready hk (by
     have:¬ listed.getD k false=true:=fun hc=>by have:=(hl k hk).1 hc; omega
     simp [Array.getD,hs,hk] at this ⊢; exact this) (fun o hoo e he hb=>(hl e.on (by have:=ok_lex ok hoo e he hb; omega)).2 (ok_lex ok hoo e he hb))
    rw [hr] at this; cases this
   ·intro i hi
    obtain rfl:=only i hi
    have h':wpOp P ops Q i (wpList P ops Q (ops.toList.drop (i+1))) a w:=by
     unfold wpOp; rw [ho]; exact h
    refine wpOp_mono (fun a' w' hh=>ih (i+1) _ a' w' (by simpa using hs) (by omega) ?_ (by omega) hh) h'
    intro j hj
    by_cases e:j=i
    ·subst e; simp [Array.getD,hs,hk]
    ·have:=hl j hj
     simp only [Array.getD,hs,hj,Array.size_setIfInBounds,dif_pos] at this ⊢
     rw [show (listed.setIfInBounds i true).getInternal j (by simpa [hs] using hj)=listed.getInternal j (by simpa [hs] using hj) from Array.getElem_setIfInBounds_ne (by simpa [hs] using hj) (fun h=>e h.symm)]
     rw [this]; omega
  ·rw [List.drop_eq_nil_of_le (by simpa using (by omega:ops.size≤k))] at h
   refine ⟨fun _=>h,fun i hi=>?_⟩
   have:=only i hi
   obtain ⟨h1,_⟩:=ready_mem hi
   omega
def left (n:Nat) (listed:Array Bool):Nat:=((List.range n).filter fun i=>!listed.getD i true).length
theorem getD_set_same {listed:Array Bool} {i:Nat} (h:i<listed.size) (d:Bool):(listed.setIfInBounds i true).getD i d=true:=by
 simp [Array.getD,h]
theorem getD_set_other {listed:Array Bool} {i j:Nat} (h:j≠i) (d:Bool):(listed.setIfInBounds i true).getD j d=listed.getD j d:=by
 by_cases hj:j<listed.size
 ·simp only [Array.getD,hj,Array.size_setIfInBounds,dif_pos]
  exact Array.getElem_setIfInBounds_ne (by simpa using hj) (fun e=>h e.symm)
 ·simp [Array.getD,hj]
theorem left_set {n:Nat} {listed:Array Bool} {i:Nat} (hi:i<n) (hs:listed.size=n) (h:listed.getD i true=false):left n (listed.setIfInBounds i true)<left n listed:=by
 unfold left
 have e:((List.range n).filter fun j=>!(listed.setIfInBounds i true).getD j true)=((List.range n).filter fun j=>!listed.getD j true).filter fun j=>!(listed.setIfInBounds i true).getD j true:=by
  rw [List.filter_filter]
  apply List.filter_congr
  intro j _
  by_cases e:j=i
  ·subst e; simp [getD_set_same (hs ▸ hi)]
  ·rw [getD_set_other e]; simp
 rw [e]
 apply List.length_filter_lt_length_iff_exists.2
 refine ⟨i,?_,?_⟩
 ·rw [List.mem_filter,h]; exact ⟨List.mem_range.2 hi,rfl⟩
 ·simp only [getD_set_same (hs ▸ hi)]; decide
structure Under (ops:Array Oper) (m:Nat) (fr:(Nat→Value)→Act) (Φ:Nat→Value→World→Prop) (A:Nat→Bool) (W:World) (listed:Array Bool) (v:Nat→Value) (a:Act) (w:World):Prop where
 ha:a=fr v
 hs:listed.size=ops.size
 hB:Below W.heap.size W w
 hΦ:∀ i,i<m→listed.getD i false=true→Φ i (v i) w
 hD:∀ i j,i<m→j<m→listed.getD i false=true→listed.getD j false=true→A i=true→A j=true→i≠j→blk (v i)≠blk (v j)
 hT:∀ i,m≤i→i<ops.size→listed.getD i false=false
 hC:∀ i,i<ops.size→listed.getD i false=true→∀ j,dep ops i j=true→listed.getD j false=true
theorem wpAny_facts {m:Nat} {fr:(Nat→Value)→Act} {Φ:Nat→Value→World→Prop} {A:Nat→Bool} {W:World} (ok:regionOK ops m=true) (hm:m≤ops.size)
  (hpers:∀ i x w w',i<m→Φ i x w→Below w.heap.size w w'→Φ i x w')
  (hA:∀ i x w,i<m→A i=true→Φ i x w→blk x<w.heap.size)
  (hstep:∀ i,i<m→∀ v w',Below W.heap.size W w'→(∀ j,dep ops i j=true→Φ j (v j) w') →
   wpOp P ops Q i (fun a' w''=>∃ x,a'=fr (upd v i x)∧Below w'.heap.size w' w''∧Φ i x w''∧(A i=true→w'.heap.size≤blk x)) (fr v) w')
  (hend:∀ v w',Below W.heap.size W w'→(∀ i,i<m→Φ i (v i) w')→(∀ i j,i<m→j<m→A i=true→A j=true→i≠j→blk (v i)≠blk (v j))→wpList P ops Q (ops.toList.drop m) (fr v) w') :
  ∀ (fuel:Nat) (listed:Array Bool) (v:Nat→Value) (a:Act) (w:World),left ops.size listed≤fuel→Under ops m fr Φ A W listed v a w→wpAny P .any ops Q fuel listed a w:=by
 intro fuel
 induction fuel with
 | zero =>
  intro listed v a w hf u
  have all:∀ i,i<ops.size→listed.getD i false=true:=by
   intro i hi
   cases h:listed.getD i true with
   | false =>
    have:i ∈ (List.range ops.size).filter fun i=>!listed.getD i true:=by rw [List.mem_filter,h]; exact ⟨List.mem_range.2 hi,rfl⟩
    have h0:((List.range ops.size).filter fun i=>!listed.getD i true)=[]:=List.eq_nil_of_length_eq_zero (by unfold left at hf; omega)
    rw [h0] at this; cases this
   | true=>have:=u.hs; simp [Array.getD,this,hi] at h ⊢; exact h
  have e:m=ops.size:=by
   by_cases h:m<ops.size
   ·have h1:=u.hT m (Nat.le_refl _) h
    rw [all m h] at h1; cases h1
   ·omega
  rw [u.ha]
  refine wpAny_tail ok 0 m listed _ w u.hs (Nat.le_refl _) (fun i hi=>⟨fun _=>by omega,fun _=>all i hi⟩) (by omega) ?_
  exact hend v w u.hB (fun i hi=>u.hΦ i hi (all i (by omega))) (fun i j hi hj=>u.hD i j hi hj (all i (by omega)) (all j (by omega)))
 | succ fuel ih =>
  intro listed v a w hf u
  by_cases done:∀ i,i<m→listed.getD i false=true
  ·rw [u.ha]
   have hlf:ops.size≤m+(fuel+1):=by
    have:((List.range ops.size).filter fun i=>!listed.getD i true).length=left ops.size listed:=rfl
    have sub:((List.range ops.size).filter fun i=>decide (m≤i)).length≤left ops.size listed:=by
     rw [← this]
     have e:((List.range ops.size).filter fun i=>decide (m≤i))=((List.range ops.size).filter fun i=>!listed.getD i true).filter fun i=>decide (m≤i):=by
      rw [List.filter_filter]
      apply List.filter_congr
      intro j hj
      by_cases c:m≤j
      ·have h1:=u.hT j c (List.mem_range.1 hj)
       have:=u.hs
       have hj':=List.mem_range.1 hj
       simp [Array.getD,this,hj'] at h1 ⊢
       simp [h1]
      ·simp [c]
     rw [e]
     exact List.length_filter_le _ _
    have cnt:∀ n,((List.range n).filter fun i=>decide (m≤i)).length=n - m:=by
     intro n
     induction n with
     | zero=>simp
     | succ n ihn =>
      rw [List.range_succ,List.filter_append,List.length_append,ihn]
      by_cases c:m≤n
      ·simp [c]; omega
      ·simp [c]; omega
    rw [cnt] at sub
    omega
   refine wpAny_tail ok (fuel+1) m listed _ w u.hs (Nat.le_refl _) ?_ hlf ?_
   ·intro i hi
    constructor
    ·intro h
     by_cases c:i<m
     ·exact c
     ·rw [u.hT i (by omega) hi] at h; cases h
    ·exact done i
   ·exact hend v w u.hB (fun i hi=>u.hΦ i hi (done i hi)) (fun i j hi hj=>u.hD i j hi hj (done i hi) (done j hj))
  ·have some_ready:Region.ready .any ops listed≠[]:=by
    have:∃ i,i<m∧listed.getD i false=false∧∀ j,j<i→listed.getD j false=true:=by
     apply Classical.byContradiction
     intro no
     apply done
     intro i
     induction i using Nat.strongRecOn with
     | _ i ihi =>
      intro hi
      cases h:listed.getD i false with
      | true=>rfl
      | false=>exact absurd ⟨i,hi,h,fun j hj=>ihi j hj (by omega)⟩ no
    obtain ⟨i,hi,h1,h2⟩:=this
    intro hr
    have:i ∈ Region.ready .any ops listed:=mem_ready (by omega) (by
     have:=u.hs
     simp [Array.getD,this,show i<ops.size by omega] at h1 ⊢; exact h1) (fun o ho e he hb=>h2 e.on (ok_lex ok ho e he hb))
    rw [hr] at this; cases this
   refine ⟨fun h=>absurd h some_ready,fun i hi=>?_⟩
   obtain ⟨h1,h2,h3⟩:=ready_mem hi
   have him:i<m:=by
    apply Nat.lt_of_not_le
    intro hc
    refine done (fun j hj=>?_)
    exact reach_in u.hC 8 i h1 h3 (ok_tail ok h1 hc j (by omega))
   rw [u.ha]
   refine wpOp_mono ?_ (hstep i him v w u.hB (fun j hj=>?_))
   ·rintro a' w' ⟨x,rfl,hb,hx,hf'⟩
    refine ih _ (upd v i x) _ w' ?_ ⟨rfl,by simpa using u.hs,?_,?_,?_,?_,?_⟩
    ·have:=left_set h1 u.hs h2; omega
    ·exact u.hB.trans (hb.mono u.hB.size)
    ·intro j hj hl
     by_cases e:j=i
     ·subst e; rw [upd_same]; exact hx
     ·rw [upd_other v x e]
      rw [getD_set_other e] at hl
      exact hpers j _ w w' hj (u.hΦ j hj hl) hb
    ·intro j k hj hk lj lk aj ak hne
     by_cases e:j=i
     ·subst e
      rw [upd_same,upd_other v x (fun h=>hne h.symm)]
      rw [getD_set_other (fun h=>hne h.symm)] at lk
      have:=hA k _ w hk ak (u.hΦ k hk lk)
      have:=hf' aj
      omega
     ·by_cases e2:k=i
      ·subst e2
       rw [upd_same,upd_other v x e]
       rw [getD_set_other e] at lj
       have:=hA j _ w hj aj (u.hΦ j hj lj)
       have:=hf' ak
       omega
      ·rw [upd_other v x e,upd_other v x e2]
       rw [getD_set_other e] at lj
       rw [getD_set_other e2] at lk
       exact u.hD j k hj hk lj lk aj ak hne
    ·intro j hj hjs
     rw [getD_set_other (by omega)]
     exact u.hT j hj hjs
    ·intro j hj lj k hk
     have lt:=dep_lt ok hj hk
     by_cases e2:k=i
     ·subst e2; exact getD_set_same (by rw [u.hs]; exact h1) false
     ·rw [getD_set_other e2]
      by_cases e:j=i
      ·subst e; exact h3 k hk
      ·rw [getD_set_other e] at lj
       exact u.hC j hj lj k hk
   ·have hl:=h3 j hj
    have hjm:j<m:=by
     have:j<i:=by
      unfold dep at hj
      have ho:ops[i]?=some ops[i]:=Array.getElem?_eq_getElem h1
      rw [ho] at hj
      simp only [Option.any_some] at hj
      rw [Array.any_eq_true'] at hj
      obtain ⟨e,he,hh⟩:=hj
      simp only [Bool.and_eq_true,beq_iff_eq] at hh
      rw [← hh.1]
      exact ok_lex ok ho e he hh.2
     omega
    exact u.hΦ j hjm hl
theorem region_facts {id:Nat} {a:Act} {w:World} (m:Nat) (fr:(Nat→Value)→Act) (v0:Nat→Value) (Φ:Nat→Value→World→Prop) (A:Nat→Bool)
  (hmix:P.follows .mixedOrders=true) (ok:regionOK ops m=true) (hm:decide (m≤ops.size)=true) (ha:a=fr v0)
  (hpers:∀ i x w w',i<m→Φ i x w→Below w.heap.size w w'→Φ i x w')
  (hA:∀ i x w,i<m→A i=true→Φ i x w→blk x<w.heap.size)
  (hstep:∀ i,i<m→∀ v w',Below w.heap.size w w'→(∀ j,dep ops i j=true→Φ j (v j) w') →
   wpOp P ops Q i (fun a' w''=>∃ x,a'=fr (upd v i x)∧Below w'.heap.size w' w''∧Φ i x w''∧(A i=true→w'.heap.size≤blk x)) (fr v) w')
  (hend:∀ v w',Below w.heap.size w w'→(∀ i,i<m→Φ i (v i) w')→(∀ i j,i<m→j<m→A i=true→A j=true→i≠j→blk (v i)≠blk (v j))→wpList P ops Q (ops.toList.drop m) (fr v) w') :
  (Code.region id ops true).wp P Q a w:=by
 refine wp_region_any hmix ?_
 refine wpAny_facts (W:=w) ok (of_decide_eq_true hm) hpers hA hstep hend ops.size _ v0 a _ ?_ ⟨ha,by simp,?_,?_,?_,?_,?_⟩
 ·unfold left
  exact Nat.le_trans (List.length_filter_le _ _) (by simp)
 ·exact (Below.refl _ _).drew
 ·intro i _ h
  by_cases c:i<ops.size <;> simp [Array.getD,c] at h
 ·intro i j _ _ h
  by_cases c:i<ops.size <;> simp [Array.getD,c] at h
 ·intro i _ hi
  simp [Array.getD,hi]
 ·intro i _ h
  by_cases c:i<ops.size <;> simp [Array.getD,c] at h
def frGo:List Tmp→Nat→(Nat→Value)→Act→Act
 | [],_,_,a=>a
 | d :: ds,k,v,a=>frGo ds (k+1) v (a.put (some d) (v k))
def frOf (a:Act) (ds:List Tmp) (v:Nat→Value):Act:=frGo ds 0 v a
theorem put_self (a:Act) (d:Tmp):a.put (some d) (a.tmps.getD d undef)=a:=by
 unfold Act.put
 simp only
 have:a.tmps.setIfInBounds d (a.tmps.getD d undef)=a.tmps:=by
  apply Array.ext_getElem?
  intro i
  rw [Array.getElem?_setIfInBounds]
  split
  ·rename_i h
   subst h
   split
   ·rename_i h
    rw [Array.getElem?_eq_getElem h]
    simp
   ·rename_i h
    rw [Array.getElem?_eq_none (by omega)]
  ·rfl
 rw [this]
theorem frGo_self (a:Act) (v:Nat→Value):∀ (ds:List Tmp) (k:Nat),(∀ j d,ds[j]?=some d→v (k+j)=a.tmps.getD d undef)→frGo ds k v a=a:=by
 intro ds
 induction ds with
 | nil=>intro k _; rfl
 | cons d ds ih =>
  intro k h
  have h0:v k=a.tmps.getD d undef:=by simpa using h 0 d rfl
  show frGo ds (k+1) v (a.put (some d) (v k))=a
  rw [h0,put_self]
  refine ih (k+1) (fun j d' hj=>?_)
  have:=h (j+1) d' (by simpa using hj)
  rwa [show k+(j+1)=k+1+j by omega] at this
theorem frOf_self (a:Act) (ds:List Tmp):a=frOf a ds (fun i=>a.tmps.getD (ds.getD i 0) undef):=by
 symm
 refine frGo_self a _ ds 0 (fun j d hj=>?_)
 simp only [Nat.zero_add]
 rw [List.getD_eq_getElem?_getD,hj]
 rfl
theorem region_slots {id:Nat} {a:Act} {w:World} (ds:List Tmp) (Φ:Nat→Value→World→Prop) (A:Nat→Bool)
  (hmix:P.follows .mixedOrders=true) (ok:regionOK ops ds.length=true) (hm:decide (ds.length≤ops.size)=true)
  (hpers:∀ i x w w',i<ds.length→Φ i x w→Below w.heap.size w w'→Φ i x w')
  (hA:∀ i x w,i<ds.length→A i=true→Φ i x w→blk x<w.heap.size)
  (hstep:∀ i,i<ds.length→∀ v w',Below w.heap.size w w'→(∀ j,dep ops i j=true→Φ j (v j) w') →
   wpOp P ops Q i (fun a' w''=>∃ x,a'=frOf a ds (upd v i x)∧Below w'.heap.size w' w''∧Φ i x w''∧(A i=true→w'.heap.size≤blk x)) (frOf a ds v) w')
  (hend:∀ v w',Below w.heap.size w w'→(∀ i,i<ds.length→Φ i (v i) w')→(∀ i j,i<ds.length→j<ds.length→A i=true→A j=true→i≠j→blk (v i)≠blk (v j))→wpList P ops Q (ops.toList.drop ds.length) (frOf a ds v) w') :
  (Code.region id ops true).wp P Q a w :=
 region_facts ds.length (frOf a ds) _ Φ A hmix ok hm (frOf_self a ds) hpers hA hstep hend
theorem put_get_ne (a:Act) {d t:Tmp} (x:Value) (h:t≠d):(a.put (some d) x).tmps[t]?=a.tmps[t]?:=by
 unfold Act.put
 simp only
 exact Array.getElem?_setIfInBounds_ne (fun e=>h e.symm)
theorem put_get (a:Act) {d:Tmp} (x:Value) (h:d<a.tmps.size):(a.put (some d) x).tmps[d]?=some x:=by
 unfold Act.put
 simp only
 rw [Array.getElem?_setIfInBounds_self_of_lt h]
theorem put_size (a:Act) (d:Tmp) (x:Value):(a.put (some d) x).tmps.size=a.tmps.size:=by unfold Act.put; simp
theorem act_ext {a b:Act} (h:∀ t:Nat,a.tmps[t]?=b.tmps[t]?) (h2:a.defers=b.defers):a=b:=by
 cases a; cases b
 simp only [Act.mk.injEq] at *
 exact ⟨Array.ext_getElem? h,h2⟩
theorem put_defers (a:Act) (d:Option Tmp) (x:Value):(a.put d x).defers=a.defers:=by unfold Act.put; split <;> rfl
theorem frGo_defers (v:Nat→Value):∀ (ds:List Tmp) (k:Nat) (a:Act),(frGo ds k v a).defers=a.defers:=by
 intro ds
 induction ds with
 | nil=>intro k a; rfl
 | cons d ds ih=>intro k a; show (frGo ds (k+1) v (a.put (some d) (v k))).defers=_; rw [ih,put_defers]
theorem frGo_size (v:Nat→Value):∀ (ds:List Tmp) (k:Nat) (a:Act),(frGo ds k v a).tmps.size=a.tmps.size:=by
 intro ds
 induction ds with
 | nil=>intro k a; rfl
 | cons d ds ih=>intro k a; show (frGo ds (k+1) v (a.put (some d) (v k))).tmps.size=_; rw [ih,put_size]
theorem frGo_base (v:Nat→Value):∀ (ds:List Tmp) (k:Nat) (a:Act) (t:Tmp),t ∉ ds→(frGo ds k v a).tmps[t]?=a.tmps[t]?:=by
 intro ds
 induction ds with
 | nil=>intro k a t _; rfl
 | cons d ds ih =>
  intro k a t h
  show (frGo ds (k+1) v (a.put (some d) (v k))).tmps[t]?=_
  rw [ih _ _ _ (fun hc=>h (List.mem_cons_of_mem _ hc)),put_get_ne (d:=d) (t:=t) _ _ (fun e=>h (by subst e; exact List.mem_cons_self))]
theorem frGo_get (v:Nat→Value):∀ (ds:List Tmp) (k:Nat) (a:Act) (j:Nat) (d:Tmp),ds.Nodup→ds[j]?=some d→d<a.tmps.size→(frGo ds k v a).tmps[d]?=some (v (k+j)):=by
 intro ds
 induction ds with
 | nil=>intro k a j d _ h; simp at h
 | cons c ds ih =>
  intro k a j d hn h hd
  rw [List.nodup_cons] at hn
  show (frGo ds (k+1) v (a.put (some c) (v k))).tmps[d]?=_
  cases j with
  | zero =>
   simp only [List.getElem?_cons_zero,Option.some.injEq] at h
   subst h
   rw [frGo_base v ds _ _ _ hn.1,put_get _ _ hd]; rfl
  | succ j =>
   rw [List.getElem?_cons_succ] at h
   rw [ih (k+1) _ j d hn.2 h (by rw [put_size]; exact hd),show k+1+j=k+(j+1) by omega]
theorem frOf_upd {a:Act} {ds:List Tmp} {v:Nat→Value} {i:Nat} {d:Tmp} {x:Value} (hn:ds.Nodup) (hs:∀ d ∈ ds,d<a.tmps.size) (hi:ds[i]?=some d) :
  (frOf a ds v).put (some d) x=frOf a ds (upd v i x):=by
 have hd:d<a.tmps.size:=hs d (List.mem_of_getElem? hi)
 apply act_ext
 ·intro t
  by_cases ht:t ∈ ds
  ·obtain ⟨j,hj⟩:=List.mem_iff_getElem?.1 ht
   have h1:=frGo_get (upd v i x) ds 0 a j t hn hj (hs t ht)
   have h2:=frGo_get v ds 0 a j t hn hj (hs t ht)
   rw [Nat.zero_add] at h1 h2
   unfold frOf
   rw [h1]
   by_cases e:t=d
   ·subst e
    have:j=i:=by
     obtain ⟨hj',ej⟩:=List.getElem?_eq_some_iff.1 hj
     obtain ⟨hi',ei⟩:=List.getElem?_eq_some_iff.1 hi
     have hp:=List.pairwise_iff_getElem.1 hn
     rcases Nat.lt_trichotomy j i with c | c | c
     ·exact absurd (ej.trans ei.symm) (hp j i hj' hi' c)
     ·exact c
     ·exact absurd (ei.trans ej.symm) (hp i j hi' hj' c)
    subst this
    rw [put_get _ _ (by rw [frGo_size]; exact hd),upd_same]
   ·have:j≠i:=by
     intro c; subst c
     rw [hi] at hj
     exact e (Option.some.inj hj).symm
    rw [put_get_ne _ _ e,h2,upd_other v x this]
  ·have e:t≠d:=fun h=>ht (h ▸ List.mem_of_getElem? hi)
   unfold frOf
   rw [put_get_ne _ _ e,frGo_base _ _ _ _ _ ht,frGo_base _ _ _ _ _ ht]
 ·rw [put_defers]
  unfold frOf
  rw [frGo_defers,frGo_defers]
theorem region_each {id:Nat} {a:Act} {w:World} (ds:List Tmp) (Φ:Nat→Value→World→Prop) (A:Nat→Bool)
  (hmix:P.follows .mixedOrders=true) (ok:regionOK ops ds.length=true) (hm:decide (ds.length≤ops.size)=true) (hn:decide ds.Nodup=true) (hs:ds.all (fun d=>decide (d<a.tmps.size))=true)
  (hpers:∀ i x w w',i<ds.length→Φ i x w→Below w.heap.size w w'→Φ i x w')
  (hA:∀ i x w,i<ds.length→A i=true→Φ i x w→blk x<w.heap.size)
  (hstep:∀ i,i<ds.length→∀ (v:Nat→Value) (f:Act) (w':World),(∀ t,t ∉ ds→f.tmps[t]?=a.tmps[t]?)→(∀ j d,ds[j]?=some d→f.tmps[d]?=some (v j))→Below w.heap.size w w'→(∀ j,dep ops i j=true→Φ j (v j) w') →
   wpOp P ops Q i (fun a' w''=>∃ x,a'=f.put ds[i]? x∧Below w'.heap.size w' w''∧Φ i x w''∧(A i=true→w'.heap.size≤blk x)) f w')
  (hend:∀ v w',Below w.heap.size w w'→(∀ i,i<ds.length→Φ i (v i) w')→(∀ i j,i<ds.length→j<ds.length→A i=true→A j=true→i≠j→blk (v i)≠blk (v j))→wpList P ops Q (ops.toList.drop ds.length) (frOf a ds v) w') :
  (Code.region id ops true).wp P Q a w:=by
 have hnd:=of_decide_eq_true hn
 have hsz:∀ d ∈ ds,d<a.tmps.size:=fun d hd=>of_decide_eq_true (List.all_eq_true.1 hs d hd)
 refine region_slots ds Φ A hmix ok hm hpers hA ?_ hend
 intro i hi v w' hB hd
 refine wpOp_mono ?_ (hstep i hi v (frOf a ds v) w' (fun t ht=>frGo_base v ds 0 a t ht) (fun j d hj=>?_) hB hd)
 ·rintro a' w'' ⟨x,rfl,hb,hx,hf⟩
  refine ⟨x,?_,hb,hx,hf⟩
  rw [List.getElem?_eq_getElem hi]
  exact frOf_upd hnd hsz (List.getElem?_eq_getElem hi)
 ·have:=frGo_get v ds 0 a j d hnd hj (hsz d (List.mem_of_getElem? hj))
  rw [Nat.zero_add] at this
  exact this
theorem up0 {P:Nat→Prop}:∀ i,i<0→P i:=fun _ h=>absurd h (by omega)
theorem upS {P:Nat→Prop} {n:Nat} (h:∀ i,i<n→P i) (l:P n):∀ i,i<n+1→P i:=fun i hi=>if e:i=n then e ▸ l else h i (by omega)
theorem swp {n:Nat} {Φ:Nat→Value→World→Prop} (h:∀ i,i<n→∀ x w w',Φ i x w→Below w.heap.size w w'→Φ i x w'):∀ i x w w',i<n→Φ i x w→Below w.heap.size w w'→Φ i x w':=fun i x w w' hi=>h i hi x w w'
theorem swa {n:Nat} {Φ:Nat→Value→World→Prop} {A:Nat→Bool} (h:∀ i,i<n→∀ x w,A i=true→Φ i x w→blk x<w.heap.size):∀ i x w,i<n→A i=true→Φ i x w→blk x<w.heap.size:=fun i x w hi=>h i hi x w
theorem got {o:Option Value} {x y:Value} (h:o=some x) (e:x=y):o=some y:=e ▸ h
end
theorem eval_tmp {f:Act} {t:Tmp} {v:Value} (h:f.tmps[t]?=some v):f.eval (.tmp t)=v:=by
 simp [Act.eval,h]
theorem args1 {f:Act} {x:Operand} {u:Value} (h:f.eval x=u):(#[x]:Array Operand).map f.eval=#[u]:=by simp [h]
theorem args2 {f:Act} {x y:Operand} {u v:Value} (h:f.eval x=u) (k:f.eval y=v):(#[x,y]:Array Operand).map f.eval=#[u,v]:=by simp [h,k]
theorem args3 {f:Act} {x y z:Operand} {u v t:Value} (h:f.eval x=u) (k:f.eval y=v) (l:f.eval z=t):(#[x,y,z]:Array Operand).map f.eval=#[u,v,t]:=by simp [h,k,l]
theorem args4 {f:Act} {x y z q:Operand} {u v t s:Value} (h:f.eval x=u) (k:f.eval y=v) (l:f.eval z=t) (m:f.eval q=s):(#[x,y,z,q]:Array Operand).map f.eval=#[u,v,t,s]:=by simp [h,k,l,m]
theorem wpOp_call {P:Program} {ops:Array Oper} {Q:Exit→Act→World→Prop} {i:Nat} {K:Act→World→Prop} {f:Act} {w:World} {dst:Option Tmp} {fid:FuncId} {xs:Array Operand} {ats:Array TypeId} {ty:TypeId} {pos:String} {after:Array Edge} {vs:Array Value} {R:Ending→World→Prop}
  (ho:ops[i]?=some { dst,op:=.call { callee:=.value (.func fid),args:=xs,argTypes:=ats },type:=ty,pos,after,guard:=none })
  (hr:∀ args w,(callFunc fid args).run P w=.ok (.enter fid args) w) (hv:xs.map f.eval=vs) (hc:Calls P fid vs w R)
  (hR:∀ e w',R e w'→∃ v,e=.returned v∧K (f.put dst v) w'):wpOp P ops Q i K f w:=by
 refine wpOp_step ho fun K' hK=>?_
 rw [if_pos (by simp [Region.wanted])]
 unfold Oper.wp
 rw [show execOp f.eval { dst,op:=.call { callee:=.value (.func fid),args:=xs,argTypes:=ats },type:=ty,pos,after,guard:=none }=callFunc fid (#[] ++ xs.map f.eval ++ #[]) from rfl]
 simp only [hv,Array.empty_append,Array.append_empty,hr,Oper.upon_enter]
 refine hc.mono ?_
 intro e w' h
 obtain ⟨v,rfl,k⟩:=hR e w' h
 exact hK _ _ k
end Go.Proofs.YtjifkmldigemkaaGreatDoor
namespace Go.Proofs.YtjifkmldigemkaaGreatDoor
structure IsW (h l z:Int):Prop where
 h0:-9223372036854775808≤h
 h1:h≤9223372036854775807
 l0:0≤l
 l1:l≤18446744073709551615
 e:h*18446744073709551616+l=z
structure Fits (z:Int):Prop where
 lo:-170141183460469231731687303715884105728≤z
 hi:z≤170141183460469231731687303715884105727
def w128 (z:Int):Int:=(z+170141183460469231731687303715884105728) % 340282366920938463463374607431768211456 - 170141183460469231731687303715884105728
theorem IsW.fits {h l z:Int} (x:IsW h l z):Fits z:=by
 obtain ⟨a,b,c,d,e⟩:=x
 exact ⟨by omega,by omega⟩
theorem w128_fits (z:Int):Fits (w128 z):=by unfold w128; exact ⟨by omega,by omega⟩
theorem w128_of {z:Int} (h:Fits z):w128 z=z:=by
 obtain ⟨a,b⟩:=h
 unfold w128; omega
theorem IsW.hi {h l z:Int} (x:IsW h l z):h=z / 18446744073709551616:=by obtain ⟨a,b,c,d,e⟩:=x; omega
theorem IsW.lo {h l z:Int} (x:IsW h l z):l=z % 18446744073709551616:=by obtain ⟨a,b,c,d,e⟩:=x; omega
theorem IsW.mk' {z:Int} (x:Fits z):IsW (z / 18446744073709551616) (z % 18446744073709551616) z:=by
 obtain ⟨a,b⟩:=x
 exact ⟨by omega,by omega,by omega,by omega,by omega⟩
theorem IsW.inj {h l h' l' z z':Int} (x:IsW h l z) (y:IsW h' l' z'):(h=h'∧l=l')↔z=z':=by
 obtain ⟨a,b,c,d,e⟩:=x; obtain ⟨a',b',c',d',e'⟩:=y
 constructor
 ·rintro ⟨rfl,rfl⟩; omega
 ·intro; constructor <;> omega
theorem IsW.neg {h l z:Int} (x:IsW h l z):h<0↔z<0:=by obtain ⟨a,b,c,d,e⟩:=x; omega
theorem IsW.ltw {h l h' l' z z':Int} (x:IsW h l z) (y:IsW h' l' z'):(h<h'∨h=h'∧l<l')↔z<z':=by
 obtain ⟨a,b,c,d,e⟩:=x; obtain ⟨a',b',c',d',e'⟩:=y
 omega
def s64 (x:Int):Int:=(x+9223372036854775808) % 18446744073709551616 - 9223372036854775808
theorem isW_mk (H L z:Int) (e:H*18446744073709551616+L=z):IsW (s64 (H+L / 18446744073709551616)) (L % 18446744073709551616) (w128 z):=by
 subst e
 unfold s64 w128
 exact ⟨by omega,by omega,by omega,by omega,by omega⟩
theorem s64_mod (x y:Int) (h:x % 18446744073709551616=y % 18446744073709551616):s64 x=s64 y:=by unfold s64; omega
structure Pq (p q:Int):Prop where
 p0:1≤p
 q0:1≤q
 e:p*q=18446744073709551616
theorem pq_of (n:Int) (h0:0≤n) (h1:n≤64):Pq (2 ^ n.toNat) (2 ^ (64 - n).toNat):=by
 obtain ⟨n,rfl⟩:=Int.eq_ofNat_of_zero_le h0
 have e1:((n:Int)).toNat=n:=by omega
 have e2:((64:Int) - n).toNat=64 - n:=by omega
 rw [e1,e2]
 refine ⟨?_,?_,?_⟩
 ·have:(0:Int)<2 ^ n:=Int.pow_pos (by decide); omega
 ·have:(0:Int)<2 ^ (64 - n):=Int.pow_pos (by decide); omega
 ·rw [← Int.pow_add,show n+(64 - n)=64 by omega]; decide
theorem Pq.up {p q:Int} (h:Pq p q) (l:Int) (l0:0≤l):l*p / 18446744073709551616=l / q∧0≤l / q:=by
 obtain ⟨p0,q0,e⟩:=h
 rw [← e,Int.mul_comm p q]
 exact ⟨Int.mul_ediv_mul_of_pos_left l q (by omega),Int.ediv_nonneg l0 (by omega)⟩
theorem Pq.up_lt {p q:Int} (h:Pq p q) (l:Int) (l1:l≤18446744073709551615):l / q<p:=by
 obtain ⟨p0,q0,e⟩:=h
 exact Int.ediv_lt_of_lt_mul (by omega) (by omega)
theorem Pq.isW_up {p q:Int} (h:Pq p q) {ah al a:Int} (x:IsW ah al a):IsW (s64 (ah*p+al / q)) (al*p % 18446744073709551616) (w128 (a*p)):=by
 rw [← (h.up al x.l0).1]
 exact isW_mk (ah*p) (al*p) (a*p) (by rw [← x.e,Int.add_mul]; congr 1; rw [Int.mul_assoc,Int.mul_assoc,Int.mul_comm p])
theorem isW_upHigh {ah al a:Int} (x:IsW ah al a) (m:Int):IsW (s64 (al*m)) 0 (w128 (a*(18446744073709551616*m))):=by
 have h:=isW_mk (ah*(18446744073709551616*m)+al*m) 0 (a*(18446744073709551616*m)) (by rw [← x.e,Int.add_mul,Int.add_mul,show ah*18446744073709551616*(18446744073709551616*m)=ah*(18446744073709551616*m)*18446744073709551616 from Int.mul_right_comm _ _ _,show al*(18446744073709551616*m)=al*m*18446744073709551616 by rw [Int.mul_comm 18446744073709551616 m,Int.mul_assoc]]; omega)
 have e1:s64 (ah*(18446744073709551616*m)+al*m+0 / 18446744073709551616)=s64 (al*m):=by
  apply s64_mod
  rw [show ah*(18446744073709551616*m)=18446744073709551616*(ah*m) by simp only [Int.mul_left_comm]]
  omega
 rw [e1] at h
 simpa using h
theorem Pq.down {p q:Int} (h:Pq p q) {ah al a:Int} (x:IsW ah al a):IsW (ah / p) (al / p+ah*q % 18446744073709551616) (a / p):=by
 obtain ⟨p0,q0,e⟩:=h
 obtain ⟨x0,x1,x2,x3,x4⟩:=x
 have e1:ah*q % 18446744073709551616=ah % p*q:=by
  rw [← e,Int.mul_comm ah q,Int.mul_comm p q,Int.mul_emod_mul_of_pos _ _ (by omega),Int.mul_comm]
 have hr0:0≤ah % p:=Int.emod_nonneg _ (by omega)
 have hr1:ah % p≤p - 1:=by have:=Int.emod_lt_of_pos ah (show 0<p by omega); omega
 have hc:p*(ah / p)+ah % p=ah:=Int.mul_ediv_add_emod ah p
 have hl0:0≤al / p:=Int.ediv_nonneg x2 (by omega)
 have hl1:al / p≤q - 1:=by
  have:al / p<q:=Int.ediv_lt_of_lt_mul (by omega) (by rw [Int.mul_comm q p]; omega)
  omega
 have m0:0≤ah % p*q:=Int.mul_nonneg hr0 (by omega)
 have m1:ah % p*q≤(p - 1)*q:=Int.mul_le_mul_of_nonneg_right hr1 (by omega)
 have m2:(p - 1)*q=18446744073709551616 - q:=by rw [Int.sub_mul,e]; omega
 have ea:a=al+p*(ah*q):=by
  rw [← x4,← e,Int.mul_left_comm]; omega
 have eq1:a / p=al / p+ah*q:=by rw [ea,Int.add_mul_ediv_left _ _ (by omega)]
 have eq2:ah*q=ah / p*18446744073709551616+ah % p*q:=by
  conv=>lhs; rw [← hc]
  rw [Int.add_mul,← e,Int.mul_comm p (ah / p),Int.mul_assoc]
 have d0:-9223372036854775808≤ah / p:=by
  have:(-9223372036854775808)*p≤-9223372036854775808:=by omega
  exact Int.le_ediv_of_mul_le (by omega) (by omega)
 have d1:ah / p≤9223372036854775807:=by
  have:ah / p<9223372036854775808:=Int.ediv_lt_of_lt_mul (by omega) (by omega)
  omega
 rw [e1]
 refine ⟨d0,d1,by omega,by omega,?_⟩
 rw [eq1,eq2]; omega
theorem downHigh {ah al a:Int} (x:IsW ah al a) (m:Int) (m0:1≤m):a / (18446744073709551616*m)=ah / m∧-9223372036854775808≤ah / m∧ah / m≤9223372036854775807:=by
 obtain ⟨x0,x1,x2,x3,x4⟩:=x
 refine ⟨?_,?_,?_⟩
 ·rw [← Int.ediv_ediv_of_nonneg (by decide)]
  congr 1
  omega
 ·have:(-9223372036854775808)*m≤-9223372036854775808:=by omega
  exact Int.le_ediv_of_mul_le (by omega) (by omega)
 ·have:ah / m<9223372036854775808:=Int.ediv_lt_of_lt_mul (by omega) (by omega)
  omega
theorem pow_high (n:Int) (h0:64≤n):(2:Int) ^ n.toNat=18446744073709551616*2 ^ (n - 64).toNat:=by
 rw [show n.toNat=64+(n - 64).toNat by omega,Int.pow_add]
 rfl
def fz (z:Int):Int:=if -170141183460469231731687303715884105728≤z∧z≤170141183460469231731687303715884105727 then z else 0
def fe (z:Int):Int:=if -170141183460469231731687303715884105728≤z∧z≤170141183460469231731687303715884105727 then 0 else 3
theorem fz_of {z:Int} (h:Fits z):fz z=z:=if_pos ⟨h.lo,h.hi⟩
theorem fe_of {z:Int} (h:Fits z):fe z=0:=if_pos ⟨h.lo,h.hi⟩
theorem fz_no {z:Int} (h:¬ (-170141183460469231731687303715884105728≤z∧z≤170141183460469231731687303715884105727)):fz z=0:=if_neg h
theorem fe_no {z:Int} (h:¬ (-170141183460469231731687303715884105728≤z∧z≤170141183460469231731687303715884105727)):fe z=3:=if_neg h
theorem isW_zero:IsW 0 0 0:=⟨by decide,by decide,by decide,by decide,by decide⟩
theorem add_no {a b:Int} (x:Fits a) (y:Fits b) (h:(a<0↔b<0)∧¬ (w128 (a+b)<0↔a<0)):fz (a+b)=0∧fe (a+b)=3:=by
 obtain ⟨x0,x1⟩:=x; obtain ⟨y0,y1⟩:=y
 unfold w128 at h
 have:¬ (-170141183460469231731687303715884105728≤a+b∧a+b≤170141183460469231731687303715884105727):=by omega
 exact ⟨fz_no this,fe_no this⟩
theorem add_yes {a b:Int} (x:Fits a) (y:Fits b) (h:¬ ((a<0↔b<0)∧¬ (w128 (a+b)<0↔a<0))):w128 (a+b)=fz (a+b)∧fe (a+b)=0:=by
 obtain ⟨x0,x1⟩:=x; obtain ⟨y0,y1⟩:=y
 have:Fits (a+b):=by unfold w128 at h; exact ⟨by omega,by omega⟩
 exact ⟨by rw [w128_of this,fz_of this],fe_of this⟩
end Go.Proofs.YtjifkmldigemkaaGreatDoor
namespace Go.Proofs.YtjifkmldigemkaaGreatDoor
open Go.RowKit Go.Shelf
theorem add64 (x y c:Int) (hx:0≤x) (hy:0≤y) (hc0:0≤c) (hc:c≤1) (w:World):(callFunc 222 #[.int .u64 x,.int .u64 y,.int .u64 c]).run Tryz.prog w =
  .ok (.value (.tuple #[.int .u64 ((x+y+c) % 18446744073709551616),.int .u64 ((x+y+c) / 18446744073709551616)])) w:=by
 obtain ⟨x,rfl⟩:=Int.eq_ofNat_of_zero_le hx
 obtain ⟨y,rfl⟩:=Int.eq_ofNat_of_zero_le hy
 obtain ⟨c,rfl⟩:=Int.eq_ofNat_of_zero_le hc0
 rw [run_callFunc_extern Tryz.func222 (by kernel_rfl) (by kernel_rfl) (by kernel_rfl) (e:=add64Entry) (by kernel_rfl),run_add64 x y c (by omega) (by omega) (by omega) (by omega)]
 simp only [Result.andThen]
theorem sub64 (x y b:Int) (hx:0≤x) (hy:0≤y) (hy':y≤18446744073709551615) (hb0:0≤b) (hb:b≤1) (w:World):(callFunc 221 #[.int .u64 x,.int .u64 y,.int .u64 b]).run Tryz.prog w =
  .ok (.value (.tuple #[.int .u64 ((x - y - b) % 18446744073709551616),.int .u64 (if x<y+b then 1 else 0)])) w:=by
 obtain ⟨x,rfl⟩:=Int.eq_ofNat_of_zero_le hx
 obtain ⟨y,rfl⟩:=Int.eq_ofNat_of_zero_le hy
 obtain ⟨b,rfl⟩:=Int.eq_ofNat_of_zero_le hb0
 have e1:(((x+18446744073709551616 - y - b) % 18446744073709551616:Nat):Int)=((x:Int) - y - b) % 18446744073709551616:=by omega
 have e2:((if x<y+b then 1 else 0:Nat):Int)=if (x:Int)<y+b then 1 else 0:=by split <;> split <;> omega
 rw [← e1,← e2,run_callFunc_extern Tryz.func221 (by kernel_rfl) (by kernel_rfl) (by kernel_rfl) (e:=sub64Entry) (by kernel_rfl),run_sub64 x y b (by omega)]
 rfl
def bor (x y:Int):Int:=if x<y then 1 else 0
theorem bor_01 (x y:Int):0≤bor x y∧bor x y≤1:=by unfold bor; split <;> decide
theorem add64_0 (x y:Int) (hx:0≤x) (hy:0≤y) (w:World):(callFunc 222 #[.int .u64 x,.int .u64 y,.int .u64 0]).run Tryz.prog w =
  .ok (.value (.tuple #[.int .u64 ((x+y) % 18446744073709551616),.int .u64 ((x+y) / 18446744073709551616)])) w:=by
 simpa using add64 x y 0 hx hy (Int.le_refl 0) (by decide) w
theorem sub64_0 (x y:Int) (hx:0≤x) (hy:0≤y) (hy':y≤18446744073709551615) (w:World):(callFunc 221 #[.int .u64 x,.int .u64 y,.int .u64 0]).run Tryz.prog w =
  .ok (.value (.tuple #[.int .u64 ((x - y) % 18446744073709551616),.int .u64 (bor x y)])) w:=by
 simpa [bor] using sub64 x y 0 hx hy hy' (Int.le_refl 0) (by decide) w
theorem sub64_b (x y b:Int) (hx:0≤x) (hy:0≤y) (hy':y≤18446744073709551615) (hb0:0≤b) (hb:b≤1) (w:World):(callFunc 221 #[.int .u64 x,.int .u64 y,.int .u64 b]).run Tryz.prog w =
  .ok (.value (.tuple #[.int .u64 ((x - y - b) % 18446744073709551616),.int .u64 (bor x (y+b))])) w:=sub64 x y b hx hy hy' hb0 hb w
def lays264_ren:Go.Shelf.Ren:=⟨fun | 264=>177 | n=>n,fun | 53=>171 | 46=>229 | n=>n,fun | n=>n⟩
theorem lays264:Go.Proofs.Lays.n264 Tryz.prog lays264_ren:={
 mixed:=by kernel_rfl
 f264:=Tryz.func177.trans (congrArg some (by kernel_rfl))
 t46:=Tryz.underlying229
 a46:=Tryz.isAgg229
 z46:=Tryz.sizeOf229
 v46:=Tryz.zeroValue229
 t53:=Tryz.underlying171
 a53:=Tryz.isAgg171
 z53:=Tryz.sizeOf171
 v53:=Tryz.zeroValue171 }
def RetMul (x y:Int) (w:World) (e:Ending) (w':World):Prop :=
 ∃ h l:Int,e=.returned (.tuple #[.int .u64 h,.int .u64 l])∧0≤h∧h≤18446744073709551615∧0≤l∧l≤18446744073709551615∧Hid (h*18446744073709551616+l=x*y)∧w=w'
theorem mul64 (x y:Int) (hx:0≤x) (hx':x≤18446744073709551615) (hy:0≤y) (hy':y≤18446744073709551615) (w:World) :
  Calls Tryz.prog 177 #[.int .u64 x,.int .u64 y] w (RetMul x y w):=by
 obtain ⟨x,rfl⟩:=Int.eq_ofNat_of_zero_le hx
 obtain ⟨y,rfl⟩:=Int.eq_ofNat_of_zero_le hy
 refine (Any.bits_Mul64 lays264 x y (by omega) (by omega) w).mono ?_
 rintro e w' ⟨rfl,rfl⟩
 have h1:x*y≤18446744073709551615*18446744073709551615:=Nat.mul_le_mul (by omega) (by omega)
 have h2:x*y / 18446744073709551616<18446744073709551616:=by omega
 have h3:x*y % 18446744073709551616<18446744073709551616:=Nat.mod_lt _ (by decide)
 have h4:x*y / 18446744073709551616*18446744073709551616+x*y % 18446744073709551616=x*y:=by omega
 refine ⟨_,_,rfl,by omega,by omega,by omega,by omega,?_,rfl⟩
 show (_:Int)=_
 rw [← Int.natCast_mul x y]
 generalize x*y=p at *
 omega
end Go.Proofs.YtjifkmldigemkaaGreatDoor

import Derived.Orders
import Derived.RegionTactic
import Derived.Below
import Derived.Test.YthnofhjgfhapiaaGreatDoorWaa
import Derived.StillTactics
import Derived.Laws.Pointers
import Derived.Deep.RegionHeld3
import Derived.Deep.QuietTactic
import Derived.BigQuiet
import Derived.RowKit3
import Derived.Lib.Hide
import Derived.Lib.QuietBelow
import Derived.Laws.Bits64b
import Derived.Laws.AppendOwn
import Derived.OwnWalk
import Derived.Lib.SmallJoins
set_option maxHeartbeats 1000000
set_option maxRecDepth 10000
namespace Go.Proofs.YthnofhjgfhapiaaGreatDoor
open Go.RowKit
section
variable {P:Program} {ops:Array Oper} {Q:Exit→Act→World→Prop}
def upd (v:Nat→Value) (i:Nat) (x:Value):Nat→Value:=fun j=>if j=i then x else v j
theorem upd_same (v:Nat→Value) (i:Nat) (x:Value):upd v i x i=x:=if_pos rfl
theorem upd_other (v:Nat→Value) {i j:Nat} (x:Value) (h:j≠i):upd v i x j=v j:=if_neg h
def blk:Value→Nat
 | .pointer (some a)=>a.block
 | _=>0
def dep (ops:Array Oper) (i j:Nat):Bool:=(ops[i]?).any fun o=>o.after.any fun e=>e.on == j && Region.binds .any e
def reach (ops:Array Oper):Nat→Nat→Nat→Bool
 | 0,i,j=>dep ops i j
 | f+1,i,j=>dep ops i j || (List.range i).any fun k=>dep ops i k && reach ops f k j
def regionOK (ops:Array Oper) (m:Nat):Bool :=
 ((List.range ops.size).all fun i=>((ops[i]?).map fun o=>o.after.all fun e=>!Region.binds .any e || decide (e.on<i)).getD true) &&
 ((List.range ops.size).all fun i=>decide (i<m) || (List.range i).all fun j=>reach ops 8 i j)
theorem ready_mem {listed:Array Bool} {i:Nat} (h:i ∈ Region.ready .any ops listed) :
  i<ops.size∧listed.getD i true=false∧∀ j,dep ops i j=true→listed.getD j false=true:=by
 unfold Region.ready at h
 simp only [List.mem_filter,List.mem_range,Bool.and_eq_true,Bool.not_eq_eq_eq_not,Bool.not_true] at h
 obtain ⟨h1,h2,h3⟩:=h
 refine ⟨h1,h2,fun j hj=>?_⟩
 unfold dep at hj
 cases ho:ops[i]? with
 | none=>simp [ho] at hj
 | some o =>
  rw [ho] at hj h3
  simp only [Option.any_some,Option.map_some,Option.getD_some] at hj h3
  rw [Array.any_eq_true'] at hj
  obtain ⟨e,he,hh⟩:=hj
  rw [Array.all_eq_true'] at h3
  have:=h3 e he
  simp only [Bool.and_eq_true,beq_iff_eq] at hh
  obtain ⟨rfl,hb⟩:=hh
  simpa [hb] using this
theorem mem_ready {listed:Array Bool} {i:Nat} (h1:i<ops.size) (h2:listed.getD i true=false) (hl:∀ o,ops[i]?=some o→∀ e ∈ o.after,Region.binds .any e=true→listed.getD e.on false=true) :
  i ∈ Region.ready .any ops listed:=by
 unfold Region.ready
 simp only [List.mem_filter,List.mem_range,Bool.and_eq_true,Bool.not_eq_eq_eq_not,Bool.not_true]
 refine ⟨h1,h2,?_⟩
 have ho:ops[i]?=some ops[i]:=Array.getElem?_eq_getElem h1
 rw [ho]
 simp only [Option.map_some,Option.getD_some]
 rw [Array.all_eq_true']
 intro e he
 cases hb:Region.binds .any e with
 | false=>simp
 | true=>simp [hl _ ho e he hb]
theorem ok_lex {m:Nat} (h:regionOK ops m=true) {i:Nat} {o:Oper} (ho:ops[i]?=some o):∀ e ∈ o.after,Region.binds .any e=true→e.on<i:=by
 unfold regionOK at h
 simp only [Bool.and_eq_true,List.all_eq_true,List.mem_range] at h
 obtain ⟨hi,_⟩:=Array.getElem?_eq_some_iff.1 ho
 have:=h.1 i hi
 rw [ho] at this
 simp only [Option.map_some,Option.getD_some] at this
 rw [Array.all_eq_true'] at this
 intro e he hb
 simpa [hb] using this e he
theorem ok_tail {m:Nat} (h:regionOK ops m=true) {i:Nat} (hi:i<ops.size) (hm:m≤i):∀ j,j<i→reach ops 8 i j=true:=by
 unfold regionOK at h
 simp only [Bool.and_eq_true,List.all_eq_true,List.mem_range,Bool.or_eq_true,decide_eq_true_eq] at h
 rcases h.2 i hi with h' | h'
 ·omega
 ·exact h'
theorem dep_lt {m:Nat} (ok:regionOK ops m=true) {i j:Nat} (hi:i<ops.size) (hj:dep ops i j=true):j<i:=by
 unfold dep at hj
 have ho:ops[i]?=some ops[i]:=Array.getElem?_eq_getElem hi
 rw [ho] at hj
 simp only [Option.any_some] at hj
 rw [Array.any_eq_true'] at hj
 obtain ⟨e,he,hh⟩:=hj
 simp only [Bool.and_eq_true,beq_iff_eq] at hh
 rw [← hh.1]
 exact ok_lex ok ho e he hh.2
theorem reach_to {m:Nat} (ok:regionOK ops m=true) {j:Nat}:∀ (f i:Nat),i<ops.size→reach ops f i j=true→∃ k,dep ops i k=true∧j≤k:=by
 intro f
 induction f with
 | zero=>exact fun i _ h=>⟨j,h,Nat.le_refl _⟩
 | succ f ih =>
  intro i hi h
  simp only [reach,Bool.or_eq_true,List.any_eq_true,List.mem_range,Bool.and_eq_true] at h
  rcases h with h | ⟨k,hk,h4,h5⟩
  ·exact ⟨j,h,Nat.le_refl _⟩
  ·obtain ⟨k',h6,h7⟩:=ih k (by omega) h5
   have:=dep_lt ok (show k<ops.size by omega) h6
   exact ⟨k,h4,by omega⟩
theorem reach_in {listed:Array Bool} (hC:∀ i,i<ops.size→listed.getD i false=true→∀ j,dep ops i j=true→listed.getD j false=true) {j:Nat}:∀ (f i:Nat),i<ops.size→(∀ k,dep ops i k=true→listed.getD k false=true)→reach ops f i j=true→listed.getD j false=true:=by
 intro f
 induction f with
 | zero=>exact fun i _ hl h=>hl j h
 | succ f ih =>
  intro i hi hl h
  simp only [reach,Bool.or_eq_true,List.any_eq_true,List.mem_range,Bool.and_eq_true] at h
  rcases h with h | ⟨k,hk,h4,h5⟩
  ·exact hl j h
  ·exact ih k (by omega) (hC k (by omega) (hl k h4)) h5
theorem wpAny_tail {m:Nat} (ok:regionOK ops m=true):∀ (fuel k:Nat) (listed:Array Bool) (a:Act) (w:World),listed.size=ops.size→m≤k →
  (∀ i,i<ops.size→(listed.getD i false=true↔i<k))→ops.size≤k+fuel→wpList P ops Q (ops.toList.drop k) a w→wpAny P .any ops Q fuel listed a w:=by
 intro fuel
 induction fuel with
 | zero =>
  intro k listed a w hs _ hl hf h
  rw [List.drop_eq_nil_of_le (by simpa using hf)] at h
  refine ⟨?_,h⟩
  apply List.eq_nil_iff_forall_not_mem.2
  intro i hi
  obtain ⟨h1,h2,_⟩:=ready_mem hi
  have:=(hl i h1).2 (by omega)
  simp [Array.getD,hs,h1] at h2 this
  rw [h2] at this; cases this
 | succ fuel ih =>
  intro k listed a w hs hmk hl hf h
  have only:∀ i,i ∈ Region.ready .any ops listed→i=k:=by
   intro i hi
   obtain ⟨h1,h2,h3⟩:=ready_mem hi
   have hik:k≤i:=by
    apply Nat.le_of_not_lt
    intro hc
    have:=(hl i h1).2 hc
    simp [Array.getD,hs,h1] at h2 this
    rw [h2] at this; cases this
   by_cases e:i=k
   ·exact e
   ·have hk:k<i:=by omega
    obtain ⟨k2,h4,h5⟩:=reach_to ok 8 i h1 (ok_tail ok h1 (by omega) k hk)
    have l2:=dep_lt ok h1 h4
    have:=(hl k2 (by omega)).1 (h3 k2 h4)
    omega
  by_cases hk:k<ops.size
  ·have ho:ops[k]?=some ops[k]:=Array.getElem?_eq_getElem hk
   have hd:ops.toList.drop k=ops[k] :: ops.toList.drop (k+1):=by
    rw [List.drop_eq_getElem_cons (by simpa using hk)]; simp
   rw [hd] at h
   refine ⟨?_,?_⟩
   ·intro hr
    have:k ∈ Region.ready .any ops listed:=mem_ready hk (by
     have:¬ listed.getD k false=true:=fun hc=>by have:=(hl k hk).1 hc; omega
     simp [Array.getD,hs,hk] at this ⊢; exact this) (fun o hoo e he hb=>(hl e.on (by have:=ok_lex ok hoo e he hb; omega)).2 (ok_lex ok hoo e he hb))
    rw [hr] at this; cases this
   ·intro i hi
    obtain rfl:=only i hi
    have h':wpOp P ops Q i (wpList P ops Q (ops.toList.drop (i+1))) a w:=by
     unfold wpOp; rw [ho]; exact h
    refine wpOp_mono (fun a' w' hh=>ih (i+1) _ a' w' (by simpa using hs) (by omega) ?_ (by omega) hh) h'
    intro j hj
    by_cases e:j=i
    ·subst e; simp [Array.getD,hs,hk]
    ·have:=hl j hj
     simp only [Array.getD,hs,hj,Array.size_setIfInBounds,dif_pos] at this ⊢
     rw [show (listed.setIfInBounds i true).getInternal j (by simpa [hs] using hj)=listed.getInternal j (by simpa [hs] using hj) from Array.getElem_setIfInBounds_ne (by simpa [hs] using hj) (fun h=>e h.symm)]
     rw [this]; omega
  ·rw [List.drop_eq_nil_of_le (by simpa using (by omega:ops.size≤k))] at h
   refine ⟨fun _=>h,fun i hi=>?_⟩
   have:=only i hi
   obtain ⟨h1,_⟩:=ready_mem hi
   omega
def left (n:Nat) (listed:Array Bool):Nat:=((List.range n).filter fun i=>!listed.getD i true).length
theorem getD_set_same {listed:Array Bool} {i:Nat} (h:i<listed.size) (d:Bool):(listed.setIfInBounds i true).getD i d=true:=by
 simp [Array.getD,h]
theorem getD_set_other {listed:Array Bool} {i j:Nat} (h:j≠i) (d:Bool):(listed.setIfInBounds i true).getD j d=listed.getD j d:=by
 by_cases hj:j<listed.size
 ·simp only [Array.getD,hj,Array.size_setIfInBounds,dif_pos]
  exact Array.getElem_setIfInBounds_ne (by simpa using hj) (fun e=>h e.symm)
 ·simp [Array.getD,hj]
theorem left_set {n:Nat} {listed:Array Bool} {i:Nat} (hi:i<n) (hs:listed.size=n) (h:listed.getD i true=false):left n (listed.setIfInBounds i true)<left n listed:=by
 unfold left
 have e:((List.range n).filter fun j=>!(listed.setIfInBounds i true).getD j true)=((List.range n).filter fun j=>!listed.getD j true).filter fun j=>!(listed.setIfInBounds i true).getD j true:=by
  rw [List.filter_filter]
  apply List.filter_congr
  intro j _
  by_cases e:j=i
  ·subst e; simp [getD_set_same (hs ▸ hi)]
  ·rw [getD_set_other e]; simp
 rw [e]
 apply List.length_filter_lt_length_iff_exists.2
 refine ⟨i,?_,?_⟩
 ·rw [List.mem_filter,h]; exact ⟨List.mem_range.2 hi,rfl⟩
 ·simp only [getD_set_same (hs ▸ hi)]; decide
structure Under (ops:Array Oper) (m:Nat) (fr:(Nat→Value)→Act) (Φ:Nat→Value→World→Prop) (A:Nat→Bool) (W:World) (listed:Array Bool) (v:Nat→Value) (a:Act) (w:World):Prop where
 ha:a=fr v
 hs:listed.size=ops.size
 hB:Below W.heap.size W w
 hΦ:∀ i,i<m→listed.getD i false=true→Φ i (v i) w
 hD:∀ i j,i<m→j<m→listed.getD i false=true→listed.getD j false=true→A i=true→A j=true→i≠j→blk (v i)≠blk (v j)
 hT:∀ i,m≤i→i<ops.size→listed.getD i false=false
 hC:∀ i,i<ops.size→listed.getD i false=true→∀ j,dep ops i j=true→listed.getD j false=true
theorem wpAny_facts {m:Nat} {fr:(Nat→Value)→Act} {Φ:Nat→Value→World→Prop} {A:Nat→Bool} {W:World} (ok:regionOK ops m=true) (hm:m≤ops.size)
  (hpers:∀ i x w w',i<m→Φ i x w→Below w.heap.size w w'→Φ i x w')
  (hA:∀ i x w,i<m→A i=true→Φ i x w→blk x<w.heap.size)
  (hstep:∀ i,i<m→∀ v w',Below W.heap.size W w'→(∀ j,dep ops i j=true→Φ j (v j) w') →
   wpOp P ops Q i (fun a' w''=>∃ x,a'=fr (upd v i x)∧Below w'.heap.size w' w''∧Φ i x w''∧(A i=true→w'.heap.size≤blk x)) (fr v) w')
  (hend:∀ v w',Below W.heap.size W w'→(∀ i,i<m→Φ i (v i) w')→(∀ i j,i<m→j<m→A i=true→A j=true→i≠j→blk (v i)≠blk (v j))→wpList P ops Q (ops.toList.drop m) (fr v) w') :
  ∀ (fuel:Nat) (listed:Array Bool) (v:Nat→Value) (a:Act) (w:World),left ops.size listed≤fuel→Under ops m fr Φ A W listed v a w→wpAny P .any ops Q fuel listed a w:=by
 intro fuel
 induction fuel with
 | zero =>
  intro listed v a w hf u
  have all:∀ i,i<ops.size→listed.getD i false=true:=by
   intro i hi
   cases h:listed.getD i true with
   | false =>
    have:i ∈ (List.range ops.size).filter fun i=>!listed.getD i true:=by rw [List.mem_filter,h]; exact ⟨List.mem_range.2 hi,rfl⟩
    have h0:((List.range ops.size).filter fun i=>!listed.getD i true)=[]:=List.eq_nil_of_length_eq_zero (by unfold left at hf; omega)
    rw [h0] at this; cases this
   | true=>have:=u.hs; simp [Array.getD,this,hi] at h ⊢; exact h
  have e:m=ops.size:=by
   by_cases h:m<ops.size
   ·have h1:=u.hT m (Nat.le_refl _) h
    rw [all m h] at h1; cases h1
   ·omega
  rw [u.ha]
  refine wpAny_tail ok 0 m listed _ w u.hs (Nat.le_refl _) (fun i hi=>⟨fun _=>by omega,fun _=>all i hi⟩) (by omega) ?_
  exact hend v w u.hB (fun i hi=>u.hΦ i hi (all i (by omega))) (fun i j hi hj=>u.hD i j hi hj (all i (by omega)) (all j (by omega)))
 | succ fuel ih =>
  intro listed v a w hf u
  by_cases done:∀ i,i<m→listed.getD i false=true
  ·rw [u.ha]
   have hlf:ops.size≤m+(fuel+1):=by
    have:((List.range ops.size).filter fun i=>!listed.getD i true).length=left ops.size listed:=rfl
    have sub:((List.range ops.size).filter fun i=>decide (m≤i)).length≤left ops.size listed:=by
     rw [← this]
     have e:((List.range ops.size).filter fun i=>decide (m≤i))=((List.range ops.size).filter fun i=>!listed.getD i true).filter fun i=>decide (m≤i):=by
      rw [List.filter_filter]
      apply List.filter_congr
      intro j hj
      by_cases c:m≤j
      ·have h1:=u.hT j c (List.mem_range.1 hj)
       have:=u.hs
       have hj':=List.mem_range.1 hj
       simp [Array.getD,this,hj'] at h1 ⊢
       simp [h1]
      ·simp [c]
     rw [e]
     exact List.length_filter_le _ _
    have cnt:∀ n,((List.range n).filter fun i=>decide (m≤i)).length=n - m:=by
     intro n
     induction n with
     | zero=>simp
     | succ n ihn =>
      rw [List.range_succ,List.filter_append,List.length_append,ihn]
      by_cases c:m≤n
      ·simp [c]; omega
      ·simp [c]; omega
    rw [cnt] at sub
    omega
   refine wpAny_tail ok (fuel+1) m listed _ w u.hs (Nat.le_refl _) ?_ hlf ?_
   ·intro i hi
    constructor
    ·intro h
     by_cases c:i<m
     ·exact c
     ·rw [u.hT i (by omega) hi] at h; cases h
    ·exact done i
   ·exact hend v w u.hB (fun i hi=>u.hΦ i hi (done i hi)) (fun i j hi hj=>u.hD i j hi hj (done i hi) (done j hj))
  ·have some_ready:Region.ready .any ops listed≠[]:=by
    have:∃ i,i<m∧listed.getD i false=false∧∀ j,j<i→listed.getD j false=true:=by
     apply Classical.byContradiction
     intro no
     apply done
     intro i
     induction i using Nat.strongRecOn with
     | _ i ihi =>
      intro hi
      cases h:listed.getD i false with
      | true=>rfl
      | false=>exact absurd ⟨i,hi,h,fun j hj=>ihi j hj (by omega)⟩ no
    obtain ⟨i,hi,h1,h2⟩:=this
    intro hr
    have:i ∈ Region.ready .any ops listed:=mem_ready (by omega) (by
     have:=u.hs
     simp [Array.getD,this,show i<ops.size by omega] at h1 ⊢; exact h1) (fun o ho e he hb=>h2 e.on (ok_lex ok ho e he hb))
    rw [hr] at this; cases this
   refine ⟨fun h=>absurd h some_ready,fun i hi=>?_⟩
   obtain ⟨h1,h2,h3⟩:=ready_mem hi
   have him:i<m:=by
    apply Nat.lt_of_not_le
    intro hc
    refine done (fun j hj=>?_)
    exact reach_in u.hC 8 i h1 h3 (ok_tail ok h1 hc j (by omega))
   rw [u.ha]
   refine wpOp_mono ?_ (hstep i him v w u.hB (fun j hj=>?_))
   ·rintro a' w' ⟨x,rfl,hb,hx,hf'⟩
    refine ih _ (upd v i x) _ w' ?_ ⟨rfl,by simpa using u.hs,?_,?_,?_,?_,?_⟩
    ·have:=left_set h1 u.hs h2; omega
    ·exact u.hB.trans (hb.mono u.hB.size)
    ·intro j hj hl
     by_cases e:j=i
     ·subst e; rw [upd_same]; exact hx
     ·rw [upd_other v x e]
      rw [getD_set_other e] at hl
      exact hpers j _ w w' hj (u.hΦ j hj hl) hb
    ·intro j k hj hk lj lk aj ak hne
     by_cases e:j=i
     ·subst e
      rw [upd_same,upd_other v x (fun h=>hne h.symm)]
      rw [getD_set_other (fun h=>hne h.symm)] at lk
      have:=hA k _ w hk ak (u.hΦ k hk lk)
      have:=hf' aj
      omega
     ·by_cases e2:k=i
      ·subst e2
       rw [upd_same,upd_other v x e]
       rw [getD_set_other e] at lj
       have:=hA j _ w hj aj (u.hΦ j hj lj)
       have:=hf' ak
       omega
      ·rw [upd_other v x e,upd_other v x e2]
       rw [getD_set_other e] at lj
       rw [getD_set_other e2] at lk
       exact u.hD j k hj hk lj lk aj ak hne
    ·intro j hj hjs
     rw [getD_set_other (by omega)]
     exact u.hT j hj hjs
    ·intro j hj lj k hk
     have lt:=dep_lt ok hj hk
     by_cases e2:k=i
     ·subst e2; exact getD_set_same (by rw [u.hs]; exact h1) false
     ·rw [getD_set_other e2]
      by_cases e:j=i
      ·subst e; exact h3 k hk
      ·rw [getD_set_other e] at lj
       exact u.hC j hj lj k hk
   ·have hl:=h3 j hj
    have hjm:j<m:=by
     have:j<i:=by
      unfold dep at hj
      have ho:ops[i]?=some ops[i]:=Array.getElem?_eq_getElem h1
      rw [ho] at hj
      simp only [Option.any_some] at hj
      rw [Array.any_eq_true'] at hj
      obtain ⟨e,he,hh⟩:=hj
      simp only [Bool.and_eq_true,beq_iff_eq] at hh
      rw [← hh.1]
      exact ok_lex ok ho e he hh.2
     omega
    exact u.hΦ j hjm hl
theorem region_facts {id:Nat} {a:Act} {w:World} (m:Nat) (fr:(Nat→Value)→Act) (v0:Nat→Value) (Φ:Nat→Value→World→Prop) (A:Nat→Bool)
  (hmix:P.follows .mixedOrders=true) (ok:regionOK ops m=true) (hm:decide (m≤ops.size)=true) (ha:a=fr v0)
  (hpers:∀ i x w w',i<m→Φ i x w→Below w.heap.size w w'→Φ i x w')
  (hA:∀ i x w,i<m→A i=true→Φ i x w→blk x<w.heap.size)
  (hstep:∀ i,i<m→∀ v w',Below w.heap.size w w'→(∀ j,dep ops i j=true→Φ j (v j) w') →
   wpOp P ops Q i (fun a' w''=>∃ x,a'=fr (upd v i x)∧Below w'.heap.size w' w''∧Φ i x w''∧(A i=true→w'.heap.size≤blk x)) (fr v) w')
  (hend:∀ v w',Below w.heap.size w w'→(∀ i,i<m→Φ i (v i) w')→(∀ i j,i<m→j<m→A i=true→A j=true→i≠j→blk (v i)≠blk (v j))→wpList P ops Q (ops.toList.drop m) (fr v) w') :
  (Code.region id ops true).wp P Q a w:=by
 refine wp_region_any hmix ?_
 refine wpAny_facts (W:=w) ok (of_decide_eq_true hm) hpers hA hstep hend ops.size _ v0 a _ ?_ ⟨ha,by simp,?_,?_,?_,?_,?_⟩
 ·unfold left
  exact Nat.le_trans (List.length_filter_le _ _) (by simp)
 ·exact (Below.refl _ _).drew
 ·intro i _ h
  by_cases c:i<ops.size <;> simp [Array.getD,c] at h
 ·intro i j _ _ h
  by_cases c:i<ops.size <;> simp [Array.getD,c] at h
 ·intro i _ hi
  simp [Array.getD,hi]
 ·intro i _ h
  by_cases c:i<ops.size <;> simp [Array.getD,c] at h
def frGo:List Tmp→Nat→(Nat→Value)→Act→Act
 | [],_,_,a=>a
 | d :: ds,k,v,a=>frGo ds (k+1) v (a.put (some d) (v k))
def frOf (a:Act) (ds:List Tmp) (v:Nat→Value):Act:=frGo ds 0 v a
theorem put_self (a:Act) (d:Tmp):a.put (some d) (a.tmps.getD d undef)=a:=by
 unfold Act.put
 simp only
 have:a.tmps.setIfInBounds d (a.tmps.getD d undef)=a.tmps:=by
  apply Array.ext_getElem?
  intro i
  rw [Array.getElem?_setIfInBounds]
  split
  ·rename_i h
   subst h
   split
   ·rename_i h
    rw [Array.getElem?_eq_getElem h]
    simp
   ·rename_i h
    rw [Array.getElem?_eq_none (by omega)]
  ·rfl
 rw [this]
theorem frGo_self (a:Act) (v:Nat→Value):∀ (ds:List Tmp) (k:Nat),(∀ j d,ds[j]?=some d→v (k+j)=a.tmps.getD d undef)→frGo ds k v a=a:=by
 intro ds
 induction ds with
 | nil=>intro k _; rfl
 | cons d ds ih =>
  intro k h
  have h0:v k=a.tmps.getD d undef:=by simpa using h 0 d rfl
  show frGo ds (k+1) v (a.put (some d) (v k))=a
  rw [h0,put_self]
  refine ih (k+1) (fun j d' hj=>?_)
  have:=h (j+1) d' (by simpa using hj)
  rwa [show k+(j+1)=k+1+j by omega] at this
theorem frOf_self (a:Act) (ds:List Tmp):a=frOf a ds (fun i=>a.tmps.getD (ds.getD i 0) undef):=by
 symm
 refine frGo_self a _ ds 0 (fun j d hj=>?_)
 simp only [Nat.zero_add]
 rw [List.getD_eq_getElem?_getD,hj]
 rfl
theorem region_slots {id:Nat} {a:Act} {w:World} (ds:List Tmp) (Φ:Nat→Value→World→Prop) (A:Nat→Bool)
  (hmix:P.follows .mixedOrders=true) (ok:regionOK ops ds.length=true) (hm:decide (ds.length≤ops.size)=true)
  (hpers:∀ i x w w',i<ds.length→Φ i x w→Below w.heap.size w w'→Φ i x w')
  (hA:∀ i x w,i<ds.length→A i=true→Φ i x w→blk x<w.heap.size)
  (hstep:∀ i,i<ds.length→∀ v w',Below w.heap.size w w'→(∀ j,dep ops i j=true→Φ j (v j) w') →
   wpOp P ops Q i (fun a' w''=>∃ x,a'=frOf a ds (upd v i x)∧Below w'.heap.size w' w''∧Φ i x w''∧(A i=true→w'.heap.size≤blk x)) (frOf a ds v) w')
  (hend:∀ v w',Below w.heap.size w w'→(∀ i,i<ds.length→Φ i (v i) w')→(∀ i j,i<ds.length→j<ds.length→A i=true→A j=true→i≠j→blk (v i)≠blk (v j))→wpList P ops Q (ops.toList.drop ds.length) (frOf a ds v) w') :
  (Code.region id ops true).wp P Q a w :=
 region_facts ds.length (frOf a ds) _ Φ A hmix ok hm (frOf_self a ds) hpers hA hstep hend
theorem put_get_ne (a:Act) {d t:Tmp} (x:Value) (h:t≠d):(a.put (some d) x).tmps[t]?=a.tmps[t]?:=by
 unfold Act.put
 simp only
 exact Array.getElem?_setIfInBounds_ne (fun e=>h e.symm)
theorem put_get (a:Act) {d:Tmp} (x:Value) (h:d<a.tmps.size):(a.put (some d) x).tmps[d]?=some x:=by
 unfold Act.put
 simp only
 rw [Array.getElem?_setIfInBounds_self_of_lt h]
theorem put_size (a:Act) (d:Tmp) (x:Value):(a.put (some d) x).tmps.size=a.tmps.size:=by unfold Act.put; simp
theorem act_ext {a b:Act} (h:∀ t:Nat,a.tmps[t]?=b.tmps[t]?) (h2:a.defers=b.defers):a=b:=by
 cases a; cases b
 simp only [Act.mk.injEq] at *
 exact ⟨Array.ext_getElem? h,h2⟩
theorem put_defers (a:Act) (d:Option Tmp) (x:Value):(a.put d x).defers=a.defers:=by unfold Act.put; split <;> rfl
theorem frGo_defers (v:Nat→Value):∀ (ds:List Tmp) (k:Nat) (a:Act),(frGo ds k v a).defers=a.defers:=by
 intro ds
 induction ds with
 | nil=>intro k a; rfl
 | cons d ds ih=>intro k a; show (frGo ds (k+1) v (a.put (some d) (v k))).defers=_; rw [ih,put_defers]
theorem frGo_size (v:Nat→Value):∀ (ds:List Tmp) (k:Nat) (a:Act),(frGo ds k v a).tmps.size=a.tmps.size:=by
 intro ds
 induction ds with
 | nil=>intro k a; rfl
 | cons d ds ih=>intro k a; show (frGo ds (k+1) v (a.put (some d) (v k))).tmps.size=_; rw [ih,put_size]
theorem frGo_base (v:Nat→Value):∀ (ds:List Tmp) (k:Nat) (a:Act) (t:Tmp),t ∉ ds→(frGo ds k v a).tmps[t]?=a.tmps[t]?:=by
 intro ds
 induction ds with
 | nil=>intro k a t _; rfl
 | cons d ds ih =>
  intro k a t h
  show (frGo ds (k+1) v (a.put (some d) (v k))).tmps[t]?=_
  rw [ih _ _ _ (fun hc=>h (List.mem_cons_of_mem _ hc)),put_get_ne (d:=d) (t:=t) _ _ (fun e=>h (by subst e; exact List.mem_cons_self))]
theorem frGo_get (v:Nat→Value):∀ (ds:List Tmp) (k:Nat) (a:Act) (j:Nat) (d:Tmp),ds.Nodup→ds[j]?=some d→d<a.tmps.size→(frGo ds k v a).tmps[d]?=some (v (k+j)):=by
 intro ds
 induction ds with
 | nil=>intro k a j d _ h; simp at h
 | cons c ds ih =>
  intro k a j d hn h hd
  rw [List.nodup_cons] at hn
  show (frGo ds (k+1) v (a.put (some c) (v k))).tmps[d]?=_
  cases j with
  | zero =>
   simp only [List.getElem?_cons_zero,Option.some.injEq] at h
   subst h
   rw [frGo_base v ds _ _ _ hn.1,put_get _ _ hd]; rfl
  | succ j =>
   rw [List.getElem?_cons_succ] at h
   rw [ih (k+1) _ j d hn.2 h (by rw [put_size]; exact hd),show k+1+j=k+(j+1) by omega]
theorem frOf_upd {a:Act} {ds:List Tmp} {v:Nat→Value} {i:Nat} {d:Tmp} {x:Value} (hn:ds.Nodup) (hs:∀ d ∈ ds,d<a.tmps.size) (hi:ds[i]?=some d) :
  (frOf a ds v).put (some d) x=frOf a ds (upd v i x):=by
 have hd:d<a.tmps.size:=hs d (List.mem_of_getElem? hi)
 apply act_ext
 ·intro t
  by_cases ht:t ∈ ds
  ·obtain ⟨j,hj⟩:=List.mem_iff_getElem?.1 ht
   have h1:=frGo_get (upd v i x) ds 0 a j t hn hj (hs t ht)
   have h2:=frGo_get v ds 0 a j t hn hj (hs t ht)
   rw [Nat.zero_add] at h1 h2
   unfold frOf
   rw [h1]
   by_cases e:t=d
   ·subst e
    have:j=i:=by
     obtain ⟨hj',ej⟩:=List.getElem?_eq_some_iff.1 hj
     obtain ⟨hi',ei⟩:=List.getElem?_eq_some_iff.1 hi
     have hp:=List.pairwise_iff_getElem.1 hn
     rcases Nat.lt_trichotomy j i with c | c | c
     ·exact absurd (ej.trans ei.symm) (hp j i hj' hi' c)
     ·exact c
     ·exact absurd (ei.trans ej.symm) (hp i j hi' hj' c)
    subst this
    rw [put_get _ _ (by rw [frGo_size]; exact hd),upd_same]
   ·have:j≠i:=by
     intro c; subst c
     rw [hi] at hj
     exact e (Option.some.inj hj).symm
    rw [put_get_ne _ _ e,h2,upd_other v x this]
  ·have e:t≠d:=fun h=>ht (h ▸ List.mem_of_getElem? hi)
   unfold frOf
   rw [put_get_ne _ _ e,frGo_base _ _ _ _ _ ht,frGo_base _ _ _ _ _ ht]
 ·rw [put_defers]
  unfold frOf
  rw [frGo_defers,frGo_defers]
theorem region_each {id:Nat} {a:Act} {w:World} (ds:List Tmp) (Φ:Nat→Value→World→Prop) (A:Nat→Bool)
  (hmix:P.follows .mixedOrders=true) (ok:regionOK ops ds.length=true) (hm:decide (ds.length≤ops.size)=true) (hn:decide ds.Nodup=true) (hs:ds.all (fun d=>decide (d<a.tmps.size))=true)
  (hpers:∀ i x w w',i<ds.length→Φ i x w→Below w.heap.size w w'→Φ i x w')
  (hA:∀ i x w,i<ds.length→A i=true→Φ i x w→blk x<w.heap.size)
  (hstep:∀ i,i<ds.length→∀ (v:Nat→Value) (f:Act) (w':World),(∀ t,t ∉ ds→f.tmps[t]?=a.tmps[t]?)→(∀ j d,ds[j]?=some d→f.tmps[d]?=some (v j))→Below w.heap.size w w'→(∀ j,dep ops i j=true→Φ j (v j) w') →
   wpOp P ops Q i (fun a' w''=>∃ x,a'=f.put ds[i]? x∧Below w'.heap.size w' w''∧Φ i x w''∧(A i=true→w'.heap.size≤blk x)) f w')
  (hend:∀ v w',Below w.heap.size w w'→(∀ i,i<ds.length→Φ i (v i) w')→(∀ i j,i<ds.length→j<ds.length→A i=true→A j=true→i≠j→blk (v i)≠blk (v j))→wpList P ops Q (ops.toList.drop ds.length) (frOf a ds v) w') :
  (Code.region id ops true).wp P Q a w:=by
 have hnd:=of_decide_eq_true hn
 have hsz:∀ d ∈ ds,d<a.tmps.size:=fun d hd=>of_decide_eq_true (List.all_eq_true.1 hs d hd)
 refine region_slots ds Φ A hmix ok hm hpers hA ?_ hend
 intro i hi v w' hB hd
 refine wpOp_mono ?_ (hstep i hi v (frOf a ds v) w' (fun t ht=>frGo_base v ds 0 a t ht) (fun j d hj=>?_) hB hd)
 ·rintro a' w'' ⟨x,rfl,hb,hx,hf⟩
  refine ⟨x,?_,hb,hx,hf⟩
  rw [List.getElem?_eq_getElem hi]
  exact frOf_upd hnd hsz (List.getElem?_eq_getElem hi)
 ·have:=frGo_get v ds 0 a j d hnd hj (hsz d (List.mem_of_getElem? hj))
  rw [Nat.zero_add] at this
  exact this
theorem up0 {P:Nat→Prop}:∀ i,i<0→P i:=fun _ h=>absurd h (by omega)
theorem upS {P:Nat→Prop} {n:Nat} (h:∀ i,i<n→P i) (l:P n):∀ i,i<n+1→P i:=fun i hi=>if e:i=n then e ▸ l else h i (by omega)
theorem swp {n:Nat} {Φ:Nat→Value→World→Prop} (h:∀ i,i<n→∀ x w w',Φ i x w→Below w.heap.size w w'→Φ i x w'):∀ i x w w',i<n→Φ i x w→Below w.heap.size w w'→Φ i x w':=fun i x w w' hi=>h i hi x w w'
theorem swa {n:Nat} {Φ:Nat→Value→World→Prop} {A:Nat→Bool} (h:∀ i,i<n→∀ x w,A i=true→Φ i x w→blk x<w.heap.size):∀ i x w,i<n→A i=true→Φ i x w→blk x<w.heap.size:=fun i x w hi=>h i hi x w
theorem got {o:Option Value} {x y:Value} (h:o=some x) (e:x=y):o=some y:=e ▸ h
end
theorem eval_tmp {f:Act} {t:Tmp} {v:Value} (h:f.tmps[t]?=some v):f.eval (.tmp t)=v:=by
 simp [Act.eval,h]
theorem args1 {f:Act} {x:Operand} {u:Value} (h:f.eval x=u):(#[x]:Array Operand).map f.eval=#[u]:=by simp [h]
theorem args2 {f:Act} {x y:Operand} {u v:Value} (h:f.eval x=u) (k:f.eval y=v):(#[x,y]:Array Operand).map f.eval=#[u,v]:=by simp [h,k]
theorem args3 {f:Act} {x y z:Operand} {u v t:Value} (h:f.eval x=u) (k:f.eval y=v) (l:f.eval z=t):(#[x,y,z]:Array Operand).map f.eval=#[u,v,t]:=by simp [h,k,l]
theorem args4 {f:Act} {x y z q:Operand} {u v t s:Value} (h:f.eval x=u) (k:f.eval y=v) (l:f.eval z=t) (m:f.eval q=s):(#[x,y,z,q]:Array Operand).map f.eval=#[u,v,t,s]:=by simp [h,k,l,m]
theorem wpOp_call {P:Program} {ops:Array Oper} {Q:Exit→Act→World→Prop} {i:Nat} {K:Act→World→Prop} {f:Act} {w:World} {dst:Option Tmp} {fid:FuncId} {xs:Array Operand} {ats:Array TypeId} {ty:TypeId} {pos:String} {after:Array Edge} {vs:Array Value} {R:Ending→World→Prop}
  (ho:ops[i]?=some { dst,op:=.call { callee:=.value (.func fid),args:=xs,argTypes:=ats },type:=ty,pos,after,guard:=none })
  (hr:∀ args w,(callFunc fid args).run P w=.ok (.enter fid args) w) (hv:xs.map f.eval=vs) (hc:Calls P fid vs w R)
  (hR:∀ e w',R e w'→∃ v,e=.returned v∧K (f.put dst v) w'):wpOp P ops Q i K f w:=by
 refine wpOp_step ho fun K' hK=>?_
 rw [if_pos (by simp [Region.wanted])]
 unfold Oper.wp
 rw [show execOp f.eval { dst,op:=.call { callee:=.value (.func fid),args:=xs,argTypes:=ats },type:=ty,pos,after,guard:=none }=callFunc fid (#[] ++ xs.map f.eval ++ #[]) from rfl]
 simp only [hv,Array.empty_append,Array.append_empty,hr,Oper.upon_enter]
 refine hc.mono ?_
 intro e w' h
 obtain ⟨v,rfl,k⟩:=hR e w' h
 exact hK _ _ k
end Go.Proofs.YthnofhjgfhapiaaGreatDoor
namespace Go.Proofs.YthnofhjgfhapiaaGreatDoor
open Go.RowKit Go.Shelf
def iz (z:Int):Int:=if -9223372036854775808≤z∧z≤9223372036854775807 then z else 0
def ie (z:Int):Int:=if -9223372036854775808≤z∧z≤9223372036854775807 then 0 else 3
theorem iz_of {z:Int} (f:-9223372036854775808≤z∧z≤9223372036854775807):iz z=z∧ie z=0:=⟨if_pos f,if_pos f⟩
theorem iz_no {z:Int} (f:¬ (-9223372036854775808≤z∧z≤9223372036854775807)):iz z=0∧ie z=3:=⟨if_neg f,if_neg f⟩
theorem retW_det {z h l:Int} (x:IsW h l z) {w:World} {e:Ending} {w':World} (r:RetW z w e w'):RetV (wv h l) w e w':=by
 obtain ⟨h',l',he,y,hb⟩:=r
 obtain ⟨rfl,rfl⟩:=(x.inj y).2 rfl
 exact ⟨he,hb⟩
theorem int_fits {h l z:Int} (x:IsW h l z) (f:-9223372036854775808≤z∧z≤9223372036854775807):wrap64 l=z:=by
 obtain ⟨a,b,c,d,e⟩:=x
 rw [wrapi]; unfold s64; omega
theorem int_not {h l z oh ol:Int} (x:IsW h l z) (f:¬ (-9223372036854775808≤z∧z≤9223372036854775807)) (y:IsW oh ol (wrap64 l)):oh≠h∧ol=l:=by
 obtain ⟨a,b,c,d,e⟩:=x; obtain ⟨a',b',c',d',e'⟩:=y
 rw [wrapi] at e'; unfold s64 at e'; omega
theorem int_any (h l z:Int) (x:IsW h l z) (w:World) :
  Calls Tryz.prog 119 #[wv h l] w (RetV (.tuple #[.int .i64 (iz z),.int .i64 (ie z)]) w):=by
 have b0:-9223372036854775808≤wrap64 l∧wrap64 l≤9223372036854775807:=by rw [wrapi]; unfold s64; omega
 have x0:=x.l0; have x1:=x.l1
 obtain ⟨oh,ol,y⟩:∃ oh ol,IsW oh ol (wrap64 l):=⟨_,_,IsW.mk' ⟨by omega,by omega⟩⟩
 have cO:=fun w=>(of_any (wrap64 l) b0.1 b0.2 w).mono fun _ _=>retW_det y
 by_cases f:-9223372036854775808≤z∧z≤9223372036854775807
 ·have e1:=int_fits x f
  obtain ⟨rfl,rfl⟩:=(x.inj y).2 e1.symm
  have E:=Lib.hid (And.intro (iz_of f).1 (And.intro (iz_of f).2 e1))
  clear e1 x y f b0
  go_enter Tryz.func119,Tryz.ntmps119
  go_wp2
  have cO1:=retV_regrown (w:=w.alloc (Obj.cells #[.int .i64 h,.int .u64 l] 96)) cO
  have g0:∀ d os,WC (Sort.grow (redrawn (w.alloc (Obj.cells #[.int .i64 h,.int .u64 l] 96)) d) os) w.heap.size h l:=wc_regrown (by simp [WC,go_sem])
  clear cO
  refine wp_region_quiet_below (by kernel_rfl) (by kernel_rfl) ?_
  repeat (quiet_step (first | exact cO1 _ _))
  refine wpQuiet_nil ?_
  intro _ hw'
  obtain ⟨⟨dq,osq⟩,hw''⟩:=hw'
  subst hw''
  have B:=b_trans (b_alloc (Below.refl _ w)) (below_regrown (w.alloc (Obj.cells #[.int .i64 h,.int .u64 l] 96)) dq osq)
  clear g0 cO1
  go_wp2
  go_ret2
  exact ⟨by rw [E.out.1,E.out.2.1,← E.out.2.2]; rfl,B⟩
 ·obtain ⟨e1,rfl⟩:=int_not x f y
  have E:=Lib.hid (iz_no f)
  have e2:(oh == h)=false:=by rw [beq_eq_false_iff_ne]; exact e1
  clear e1 x y f b0
  go_enter Tryz.func119,Tryz.ntmps119
  go_wp2
  have cO1:=retV_regrown (w:=w.alloc (Obj.cells #[.int .i64 h,.int .u64 ol] 96)) cO
  have g0:∀ d os,WC (Sort.grow (redrawn (w.alloc (Obj.cells #[.int .i64 h,.int .u64 ol] 96)) d) os) w.heap.size h ol:=wc_regrown (by simp [WC,go_sem])
  clear cO
  refine wp_region_quiet_below (by kernel_rfl) (by kernel_rfl) ?_
  repeat (quiet_step (first | exact cO1 _ _))
  refine wpQuiet_nil ?_
  intro _ hw'
  obtain ⟨⟨dq,osq⟩,hw''⟩:=hw'
  subst hw''
  have B:=b_trans (b_alloc (Below.refl _ w)) (below_regrown (w.alloc (Obj.cells #[.int .i64 h,.int .u64 ol] 96)) dq osq)
  clear g0 cO1
  go_wp2
  go_ret2
  exact ⟨by rw [E.out.1,E.out.2]; rfl,B⟩
theorem mul_fits {x y:Int} (x0:-9223372036854775808≤x) (x1:x≤9223372036854775807) (y0:-9223372036854775808≤y) (y1:y≤9223372036854775807):Fits (x*y):=by
 have h1:x.natAbs*y.natAbs≤9223372036854775808*9223372036854775808:=Nat.mul_le_mul (by omega) (by omega)
 have h2:(x*y).natAbs=x.natAbs*y.natAbs:=Int.natAbs_mul x y
 generalize x.natAbs*y.natAbs=m at *
 generalize x*y=p at *
 exact ⟨by omega,by omega⟩
theorem mul_num {x y u v h l:Int} (X:Fits (x*y)) (e:h*18446744073709551616+l=u*v) (l0:0≤l) (l1:l≤18446744073709551615)
  (c d:Int) (hu:u=x+c*18446744073709551616) (hv:v=y+d*18446744073709551616) (k:Int) (hk:k % 18446744073709551616=(h - c*y - d*x) % 18446744073709551616):IsW (s64 k) l (x*y):=by
 have e2:(h - c*y - d*x - c*d*18446744073709551616)*18446744073709551616+l=x*y:=by
  have:u*v=x*y+(c*y+d*x+c*d*18446744073709551616)*18446744073709551616:=by
   rw [hu,hv]; simp only [Int.add_mul,Int.mul_add,Int.mul_assoc,Int.mul_comm,Int.mul_left_comm]; omega
  rw [this] at e
  simp only [Int.sub_mul,Int.add_mul] at *
  omega
 have q:=isW_mk (h - c*y - d*x - c*d*18446744073709551616) l (x*y) e2
 rw [w128_of X,show l / 18446744073709551616=0 by omega,show l % 18446744073709551616=l by omega] at q
 rw [s64_mod k (h - c*y - d*x - c*d*18446744073709551616+0) (by omega)]
 exact q
theorem mul_any (x y:Int) (x0:-9223372036854775808≤x) (x1:x≤9223372036854775807) (y0:-9223372036854775808≤y) (y1:y≤9223372036854775807) (w:World) :
  Calls Tryz.prog 32 #[.int .i64 x,.int .i64 y] w (RetW (x*y) w):=by
 have X:=Lib.hid (mul_fits x0 x1 y0 y1)
 have U:=fun x=>Lib.hid (wrapu x)
 have k0:0≤IntKind.u64.wrap x∧IntKind.u64.wrap x≤18446744073709551615:=by rw [wrapu]; omega
 have k1:0≤IntKind.u64.wrap y∧IntKind.u64.wrap y≤18446744073709551615:=by rw [wrapu]; omega
 by_cases c:x<0 <;> by_cases d:y<0
 ·go_enter Tryz.func32,Tryz.ntmps32
  go_wp2_with (go_at_call 83; refine (mul64 _ _ (by omega) (by omega) (by omega) (by omega) _).mono ?_; rintro e w1 ⟨rh,rl,rfl,a0,a1,b0,b1,E,rfl⟩)
  refine bodyPost_ret (v:=wv (wrap64 (IntKind.u64.wrap (IntKind.u64.wrap (rh - IntKind.u64.wrap y) - IntKind.u64.wrap x))) rl) (by simp [results,Tryz.results32,go_sem]) rfl ⟨_,_,rfl,?_,b_alloc (Below.refl _ _)⟩
  have e1:=(U x).out; have e2:=(U y).out
  rw [wrapi]
  exact mul_num X.out E.out b0 b1 1 1 (by omega) (by omega) _ (by rw [wrapu,wrapu]; omega)
 ·go_enter Tryz.func32,Tryz.ntmps32
  go_wp2_with (go_at_call 83; refine (mul64 _ _ (by omega) (by omega) (by omega) (by omega) _).mono ?_; rintro e w1 ⟨rh,rl,rfl,a0,a1,b0,b1,E,rfl⟩)
  refine bodyPost_ret (v:=wv (wrap64 (IntKind.u64.wrap (rh - y))) rl) (by simp [results,Tryz.results32,go_sem]) rfl ⟨_,_,rfl,?_,b_alloc (Below.refl _ _)⟩
  have e1:=(U x).out; have e2:=(U y).out
  rw [wrapi]
  exact mul_num X.out E.out b0 b1 1 0 (by omega) (by omega) _ (by rw [wrapu]; omega)
 ·go_enter Tryz.func32,Tryz.ntmps32
  go_wp2_with (go_at_call 83; refine (mul64 _ _ (by omega) (by omega) (by omega) (by omega) _).mono ?_; rintro e w1 ⟨rh,rl,rfl,a0,a1,b0,b1,E,rfl⟩)
  refine bodyPost_ret (v:=wv (wrap64 (IntKind.u64.wrap (rh - x))) rl) (by simp [results,Tryz.results32,go_sem]) rfl ⟨_,_,rfl,?_,b_alloc (Below.refl _ _)⟩
  have e1:=(U x).out; have e2:=(U y).out
  rw [wrapi]
  exact mul_num X.out E.out b0 b1 0 1 (by omega) (by omega) _ (by rw [wrapu]; omega)
 ·go_enter Tryz.func32,Tryz.ntmps32
  go_wp2_with (go_at_call 83; refine (mul64 _ _ (by omega) (by omega) (by omega) (by omega) _).mono ?_; rintro e w1 ⟨rh,rl,rfl,a0,a1,b0,b1,E,rfl⟩)
  refine bodyPost_ret (v:=wv (wrap64 rh) rl) (by simp [results,Tryz.results32,go_sem]) rfl ⟨_,_,rfl,?_,b_alloc (Below.refl _ _)⟩
  rw [wrapi]
  exact mul_num X.out E.out b0 b1 0 0 (by omega) (by omega) _ (by omega)
theorem wsize_neg (h l z:Int) (x:IsW h l z) (z0:z<0) (w:World) :
  Calls Tryz.prog 207 #[wv h l] w (RetW (w128 (-z)) w):=by
 have d1:decide (z<0)=true:=by simpa using z0
 go_enter Tryz.func207,Tryz.ntmps207
 go_wp2_with (go_at_call 169; refine (neg_any h l z x _).mono ?_; rintro e w1 ⟨rfl,hb⟩; have k:WC w1 w.heap.size h l:=wc_keep hb (by simp [WC,go_sem,World.cell?_alloc_past]); have r1:WC w1 (w.heap.size+1) 0 0:=wc_keep hb (by simp [WC,go_sem]); have f1:WF w1 (w.heap.size+1):=wf_keep hb (h:=0) (l:=0) (by simp [WC,go_sem]) (by simp [WF,go_sem]))
 have B1:Below w.heap.size w w1:=b_trans (b_alloc (b_alloc (Below.refl _ _))) hb
 go_region_held3 (fun w'=>Below w.heap.size w w'∧WC w' w.heap.size h l) (first | assumption | exact s1_keep (by assumption) (by assumption) | exact s1_set (by assumption) (by omega) (by omega) | exact s1_keep ⟨B1,k⟩ (b_drew (Below.refl _ _)))
  (first
   | (go_at_call 95; refine (of_any 0 (by decide) (by decide) _).mono ?_; rintro e w2 ⟨oh,ol,rfl,ho,hb2⟩; have r2:=wc_keep hb2 r1; have f2:=wf_keep hb2 r1 f1)
   | (go_at_call 153; refine (minus_any _ _ _ _ _ _ ho x _).mono ?_; rintro e w3 ⟨rh,rl,rfl,hr,hb3⟩; have r3:=wc_keep hb3 r2; have f3:=wf_keep hb3 r2 f2))
 rename_i hS
 go_wp2
 refine bodyPost_ret (v:=wv rh rl) (by simp [results,Tryz.results207,go_sem,r3]) rfl ⟨_,_,rfl,by rw [Int.zero_sub] at hr; exact hr,hS.1⟩
theorem wsize_pos (h l z:Int) (x:IsW h l z) (z0:0≤z) (w:World) :
  Calls Tryz.prog 207 #[wv h l] w (RetW z w):=by
 have d1:decide (z<0)=false:=by simpa using z0
 go_enter Tryz.func207,Tryz.ntmps207
 go_wp2_with (go_at_call 169; refine (neg_any h l z x _).mono ?_; rintro e w1 ⟨rfl,hb⟩; have k:WC w1 w.heap.size h l:=wc_keep hb (by simp [WC,go_sem,World.cell?_alloc_past]); have r1:WC w1 (w.heap.size+1) 0 0:=wc_keep hb (by simp [WC,go_sem]); have f1:WF w1 (w.heap.size+1):=wf_keep hb (h:=0) (l:=0) (by simp [WC,go_sem]) (by simp [WF,go_sem]))
 have B1:Below w.heap.size w w1:=b_trans (b_alloc (b_alloc (Below.refl _ _))) hb
 refine bodyPost_ret (v:=wv h l) (by simp [results,Tryz.results207,go_sem,r1]) rfl ⟨_,_,rfl,x,b_set (b_set B1 (by simp)) (by simp)⟩
def near (q side:Int):Int:=if 0<side∨(side=0∧q % 2=1) then q+1 else q
theorem odd_num {h l q:Int} (x:IsW h l q):bits .and .u64 l 1=q % 2:=by
 obtain ⟨a,b,c,d,e⟩:=x
 obtain ⟨l,rfl⟩:=Int.eq_ofNat_of_zero_le c
 have:=bits_and_u64_nat l 1 (by omega) (by decide)
 rw [Nat.and_one_is_mod] at this
 have h2:bits .and .u64 (l:Int) 1=((l % 2:Nat):Int):=this
 rw [h2]; omega
theorem near_up {q side:Int} (h:0<side∨(side=0∧q % 2=1)):near q side=q+1:=if_pos h
theorem near_stay {q side:Int} (h:¬ (0<side∨(side=0∧q % 2=1))):near q side=q:=if_neg h
theorem near_stays (h l q side:Int) (x:IsW h l q) (c:¬ (0<side∨(side=0∧q % 2=1))) (w:World) :
  Calls Tryz.prog 154 #[wv h l,.int .i64 side] w (RetW (near q side) w):=by
 rw [near_stay c]
 by_cases s0:side=0
 ·subst s0
  have o1:(bits .and .u64 l 1 == 1)=false:=by rw [odd_num x,beq_eq_false_iff_ne]; omega
  clear c
  go_enter Tryz.func154,Tryz.ntmps154
  go_wp2
  refine bodyPost_ret (v:=wv h l) (by simp [results,Tryz.results154,go_sem]) rfl ⟨_,_,rfl,x,b_alloc (b_alloc (Below.refl _ _))⟩
 ·have s1:(side == 0)=false:=by rw [beq_eq_false_iff_ne]; exact s0
  have s2:¬ 0<side:=by omega
  clear c s0
  generalize ho:(bits .and .u64 l 1 == 1)=o
  have O:=Lib.hid ho; clear ho
  go_enter Tryz.func154,Tryz.ntmps154
  go_wp2
  refine bodyPost_ret (v:=wv h l) (by simp [results,Tryz.results154,go_sem]) rfl ⟨_,_,rfl,x,b_alloc (b_alloc (Below.refl _ _))⟩
theorem near_ups (h l q side:Int) (x:IsW h l q) (c:0<side∨(side=0∧q % 2=1)) (f:Fits (q+1)) (w:World) :
  Calls Tryz.prog 154 #[wv h l,.int .i64 side] w (RetW (near q side) w):=by
 rw [near_up c]
 have E:=Lib.hid (w128_of f)
 have c':(0<side)∨(side=0∧(bits .and .u64 l 1 == 1)=true):=by rw [odd_num x]; simpa using c
 clear c f
 rcases c' with c1 | ⟨rfl,c1⟩
 all_goals
  go_enter Tryz.func154,Tryz.ntmps154
  go_wp2
  have k:WC ((w.alloc (Obj.cells #[.int .i64 h,.int .u64 l] 96)).alloc (Obj.cells #[.int .i64 0,.int .u64 0] 96)) w.heap.size h l:=by simp [WC,go_sem,World.cell?_alloc_past]
  have r1:WC ((w.alloc (Obj.cells #[.int .i64 h,.int .u64 l] 96)).alloc (Obj.cells #[.int .i64 0,.int .u64 0] 96)) (w.heap.size+1) 0 0:=by simp [WC,go_sem]
  have f1:WF ((w.alloc (Obj.cells #[.int .i64 h,.int .u64 l] 96)).alloc (Obj.cells #[.int .i64 0,.int .u64 0] 96)) (w.heap.size+1):=by simp [WF,go_sem]
  go_region_held3 (fun w'=>Below w.heap.size w w'∧WC w' w.heap.size h l) (first | assumption | exact s1_keep (by assumption) (by assumption) | exact s1_set (by assumption) (by omega) (by omega) | exact s1_keep ⟨b_alloc (b_alloc (Below.refl _ _)),k⟩ (b_drew (Below.refl _ _)))
   (first
    | (go_at_call 95; refine (of_any 1 (by decide) (by decide) _).mono ?_; rintro e w2 ⟨oh,ol,rfl,ho,hb2⟩; have r2:=wc_keep hb2 r1; have f2:=wf_keep hb2 r1 f1)
    | (go_at_call 168; refine (plus_any _ _ _ _ _ _ x ho _).mono ?_; rintro e w3 ⟨rh,rl,rfl,hr,hb3⟩; have r3:=wc_keep hb3 r2; have f3:=wf_keep hb3 r2 f2))
  rename_i hS
  go_wp2
  refine bodyPost_ret (v:=wv rh rl) (by simp [results,Tryz.results154,go_sem,r3]) rfl ⟨_,_,rfl,by rw [E.out] at hr; exact hr,hS.1⟩
end Go.Proofs.YthnofhjgfhapiaaGreatDoor
namespace Go.Proofs.YthnofhjgfhapiaaGreatDoor
open Go.RowKit Go.Shelf Go.Joins
def sgn (n:Bool) (x:Int):Int:=if n then -x else x
end Go.Proofs.YthnofhjgfhapiaaGreatDoor
namespace Go.Proofs.YthnofhjgfhapiaaGreatDoor
open Go.RowKit Go.Shelf Go.Joins
def zs (k:Nat):List Int:=List.replicate k 0
end Go.Proofs.YthnofhjgfhapiaaGreatDoor

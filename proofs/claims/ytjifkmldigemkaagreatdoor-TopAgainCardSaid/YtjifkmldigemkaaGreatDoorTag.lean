import Derived.StillTactics
import Derived.Laws.Pointers
import Derived.Deep.RegionHeld3
import Derived.Deep.QuietTactic
import Derived.BigQuiet
import Derived.RowKit3
import Derived.Lib.Hide
import Derived.Lib.QuietBelow
import Derived.Laws.Bits64b
import Derived.Lib.SmallJoins
import Derived.Deep.WholeRow
import Derived.Test.YtjifkmldigemkaaGreatDoorTab
import Derived.Test.YtjifkmldigemkaaGreatDoorTaa
import Derived.Orders
import Derived.RegionTactic
import Derived.Below
import Derived.Laws.AppendOwn
import Derived.OwnWalk
import Derived.Maps.AppendAt
import Derived.Laws.OwnMore
import Derived.Deep.AppendLies
set_option maxHeartbeats 4000000
set_option maxRecDepth 10000
namespace Go.Proofs.YtjifkmldigemkaaGreatDoor
open Go.RowKit Go.Shelf Go.Joins
def Stopped (p:Prop):Prop:=p
theorem unstop {p:Prop} (h:p):Stopped p:=h
theorem stop_at (d:Option Tmp) {P:Program} {ops:Array Oper} {rest:List Oper} {o:Oper} {a:Act} {w:World} {Q:Exit→Act→World→Prop} (_hd:o.dst=d) (h:Stopped (wpList P ops Q (o :: rest) a w)):wpList P ops Q (o :: rest) a w:=h
theorem run_loadVar_part {P:Program} (w:World) (g o:Nat) (t ty:TypeId) (row cs:Array Value) (fr:Nat × Nat) (d:TypeDesc) (hg:w.heap[g]?=some (.cells row t fr)) (hp:row.extract o (o+cs.size)=cs)
  (hu:P.underlying ty=some d) (hd:(match d with | .struct _ | .array _ _=>true | _=>false)=true) (hi:(P.info? ty).map (·.size)=some cs.size) :
  (loadVar ty ⟨g,o,none⟩).run P w=.ok (.agg cs) w:=by
 have hl:(loadCells ⟨g,o,none⟩ cs.toList.length).run P w=.ok cs.toList.toArray w :=
  run_loadCells_list (P:=P) w ⟨g,o,none⟩ cs.toList (fun j v hv=>by
   have hadd:(⟨g,o,none⟩:Addr).add j=⟨g,o+j,none⟩:=by unfold Addr.add; split <;> simp_all
   rw [hadd,cell_of_row w g (o+j) row t fr hg]
   have hv':cs[j]?=some v:=by simpa using hv
   rw [← hp,Array.getElem?_extract] at hv'
   split at hv'
   ·exact hv'
   ·cases hv')
 cases hq:P.info? ty with
 | none=>simp [hq] at hi
 | some i =>
  have hs:i.size=cs.size:=by simpa [hq] using hi
  have hagg:(isAgg ty).run P w=.ok true w:=by
   unfold isAgg
   rw [Sem.run_bind,run_underlying hu w]
   cases d <;> simp_all
  simp only [Array.length_toList,Array.toArray_toList] at hl
  simp [loadVar,Sem.run_bind,hagg,sizeOf,typeInfo,hq,hs,hl]
theorem wp_load_part {P:Program} {o:Oper} {a:Act} {w:World} {K:Act→World→Prop} {Q:Exit→Act→World→Prop} (ty:TypeId) (x:Operand) (ho:o.op=.load ty x)
  (g n:Nat) (hx:a.eval x=.pointer (some ⟨g,n,none⟩)) (t:TypeId) (row cs:Array Value) (fr:Nat × Nat) (d:TypeDesc) (hg:w.heap[g]?=some (.cells row t fr)) (hp:row.extract n (n+cs.size)=cs)
  (hu:P.underlying ty=some d) (hd:(match d with | .struct _ | .array _ _=>true | _=>false)=true) (hi:(P.info? ty).map (·.size)=some cs.size)
  (h:K (a.put o.dst (.agg cs)) w):o.wp P a w K Q:=by
 unfold Oper.wp execOp
 simp only [ho,hx,Instr.loadAt,Instr.sureAddr,Sem.run_bind,Sem.run_pure,Result.andThen_ok,run_loadVar_part w g n t ty row cs fr d hg hp hu hd hi]
 exact h
theorem wpList_load_part {P:Program} {ops:Array Oper} {rest:List Oper} {o:Oper} {a:Act} {w:World} {Q:Exit→Act→World→Prop} (hw:Region.wanted o (yielded ops a.tmps)=true) (ty:TypeId) (x:Operand) (ho:o.op=.load ty x)
  (g n:Nat) (hx:a.eval x=.pointer (some ⟨g,n,none⟩)) (t:TypeId) (row cs:Array Value) (fr:Nat × Nat) (d:TypeDesc) (hg:w.heap[g]?=some (.cells row t fr)) (hp:row.extract n (n+cs.size)=cs)
  (hu:P.underlying ty=some d) (hd:(match d with | .struct _ | .array _ _=>true | _=>false)=true) (hi:(P.info? ty).map (·.size)=some cs.size)
  (h:wpList P ops Q rest (a.put o.dst (.agg cs)) w):wpList P ops Q (o :: rest) a w :=
 wpList_step fun K hK=>by
  rw [if_pos hw]
  exact wp_load_part ty x ho g n hx t row cs fr d hg hp hu hd hi (hK _ _ h)
structure But (b:Nat) (w w':World):Prop where
 os:w'.os=w.os
 tape:w'.tape=w.tape
 output:w'.output=w.output
 size:w.heap.size≤w'.heap.size
 block:∀ k,k<w.heap.size→k≠b→w'.heap[k]?=w.heap[k]?
theorem but_refl (b:Nat) (w:World):But b w w:=⟨rfl,rfl,rfl,Nat.le_refl _,fun _ _ _=>rfl⟩
theorem but_trans {b:Nat} {u v w:World} (h:But b u v) (k:But b v w):But b u w :=
 ⟨k.os.trans h.os,k.tape.trans h.tape,k.output.trans h.output,Nat.le_trans h.size k.size,fun i hi hb=>(k.block i (Nat.lt_of_lt_of_le hi h.size) hb).trans (h.block i hi hb)⟩
theorem but_below {b:Nat} {w w':World} (h:Below w.heap.size w w'):But b w w':=⟨h.os,h.tape,h.output,h.size,fun i hi _=>h.block i hi⟩
theorem but_set {b i:Nat} {w:World} {v:Value}:But b w (w.setCell ⟨b,i,none⟩ v) :=
 ⟨rfl,rfl,rfl,by simp [World.setCell],fun k _ hk=>heap_setCell_other w ⟨b,i,none⟩ k v hk⟩
theorem but_row {b:Nat} {w w':World} (h:But b w w') {k:Nat} {o:Obj} (hk:k≠b) (c:w.heap[k]?=some o):w'.heap[k]?=some o :=
 (h.block k (Array.getElem?_eq_some_iff.1 c).1 hk).trans c
theorem below_but {a w w':World} {b:Nat} (E:Below a.heap.size a w) (hb:a.heap.size≤b) (h:But b w w'):Below a.heap.size a w' :=
 ⟨h.os.trans E.os,h.tape.trans E.tape,h.output.trans E.output,Nat.le_trans E.size h.size,fun k hk=>(h.block k (Nat.lt_of_lt_of_le hk E.size) (by omega)).trans (E.block k hk)⟩
theorem row_keep {w w':World} (hb:Below w.heap.size w w') {k:Nat} {o:Obj} (c:w.heap[k]?=some o):w'.heap[k]?=some o :=
 (hb.block k (Array.getElem?_eq_some_iff.1 c).1).trans c
end Go.Proofs.YtjifkmldigemkaaGreatDoor
namespace Go.Proofs.YtjifkmldigemkaaGreatDoor
open Go.RowKit Go.Shelf Go.Joins
def gd (p:Int):Bool:=decide (90528≤p) && decide (p≤430515)
theorem gd_lo {p:Int} (c:¬ 90528≤p):gd p=false:=by simp [gd,c]
theorem gd_in {p:Int} (c:90528≤p) (d:p≤430515):gd p=true:=by simp [gd,c,d]
theorem gd_hi {p:Int} (d:¬ p≤430515):gd p=false:=by simp [gd,d]
theorem gd_range {p:Int} (h:gd p=true):90528≤p∧p≤430515:=by
 unfold gd at h
 simpa using h
theorem good_any (p:Int) (w:World):Calls Tryz.prog 116 #[.int .i64 p] w (RetV (.bool (gd p)) w):=by
 by_cases c:90528≤p
 ·have c0:90528≤p:=by omega
  by_cases d:p≤430515
  ·rw [gd_in c d]
   have c1:p≤430515:=by omega
   clear c d
   go_enter Tryz.func116,Tryz.ntmps116
   go_wp2
   go_ret
   exact ⟨rfl,Below.refl _ _⟩
  ·rw [gd_hi d]
   have c1:¬ p≤430515:=by omega
   clear c d
   go_enter Tryz.func116,Tryz.ntmps116
   go_wp2
   go_ret
   exact ⟨rfl,Below.refl _ _⟩
 ·rw [gd_lo c]
  have c0:¬ 90528≤p:=by omega
  clear c
  go_enter Tryz.func116,Tryz.ntmps116
  go_wp2
  go_ret
  exact ⟨rfl,Below.refl _ _⟩
theorem rgood_any (p:Int) (w:World):Calls Tryz.prog 15 #[.int .i64 p] w (RetV (.bool (gd p)) w):=by
 by_cases c:90528≤p
 ·have c0:90527<p:=by omega
  by_cases d:p≤430515
  ·rw [gd_in c d]
   have c1:p<430516:=by omega
   clear c d
   go_enter Tryz.func15,Tryz.ntmps15
   go_wp2
   go_ret
   exact ⟨rfl,Below.refl _ _⟩
  ·rw [gd_hi d]
   have c1:¬ p<430516:=by omega
   clear c d
   go_enter Tryz.func15,Tryz.ntmps15
   go_wp2
   go_ret
   exact ⟨rfl,Below.refl _ _⟩
 ·rw [gd_lo c]
  have c0:¬ 90527<p:=by omega
  clear c
  go_enter Tryz.func15,Tryz.ntmps15
  go_wp2
  go_ret
  exact ⟨rfl,Below.refl _ _⟩
end Go.Proofs.YtjifkmldigemkaaGreatDoor
namespace Go.Proofs.YtjifkmldigemkaaGreatDoor
open Go.RowKit Go.Shelf Go.Joins
def tbl:List Int:=[430515,417754,405300,393149,381294,369731,358453,347455,336732,326279,316090,306161,296485,287058,277876,268933,260224,251746,243492,235459,227641,220036,212637,205441,198444,191640,185027,178600,172355,166288,160395,154672,149116,143723,138488,133409,128482,123703,119069,114577,110223,106004,101917,97958,94125,90414,86822]
def tb (i:Nat):Int:=tbl.getD i 0
theorem tb_steps:∀ i:Fin 46,1≤tb i - tb (i+1)∧tb i - tb (i+1)≤16384:=by decide
theorem tb_step {i:Nat} (h:i≤45):1≤tb i - tb (i+1)∧tb i - tb (i+1)≤16384:=tb_steps ⟨i,by omega⟩
theorem tb_ranges:∀ i:Fin 47,86822≤tb i∧tb i≤430515:=by decide
theorem tb_range {i:Nat} (h:i≤46):86822≤tb i∧tb i≤430515:=tb_ranges ⟨i,by omega⟩
theorem tb_fall {i j:Nat} (h:i<j) (hj:j≤46):tb j<tb i:=by
 induction j with
 | zero=>omega
 | succ k ih =>
  have s:=tb_step (i:=k) (by omega)
  rcases Nat.lt_or_ge i k with c | c
  ·have:=ih c (by omega)
   omega
  ·have:i=k:=by omega
   subst this
   omega
abbrev TB (w:World):Prop:=∀ i,i<47→w.cell? ⟨1,i,none⟩=some (.int .i64 (tb i))
theorem tb_keep {w w':World} (hb:Below w.heap.size w w') (h:TB w):TB w':=fun i hi=>cell_keep hb (h i hi)
theorem tb_lt {w:World} (h:TB w):1<w.heap.size:=World.block_lt_of_cell? w _ (h 0 (by decide))
theorem tb_but {w w':World} {b:Nat} (hb:But b w w') (h1:1<b) (h:TB w):TB w':=fun i hi=>(World.cell?_of_block (a:=⟨1,i,none⟩) (hb.block 1 (tb_lt h) (by omega))).trans (h i hi)
def lat (p:Int):Nat→Nat
 | 0=>0
 | k+1=>if p≤tb (k+1) then k+1 else lat p k
theorem lat_le (p:Int) (k:Nat):lat p k≤k:=by
 induction k with
 | zero=>exact Nat.le_refl _
 | succ k ih =>
  unfold lat
  split <;> omega
theorem lat_at {p:Int} (h:p≤430515) (k:Nat):p≤tb (lat p k):=by
 induction k with
 | zero=>exact h
 | succ k ih =>
  unfold lat
  split
  ·assumption
  ·exact ih
theorem lat_behind {p:Int} (k:Nat):∀ j,lat p k<j→j≤k→tb j<p:=by
 induction k with
 | zero=>intro j h h'; omega
 | succ k ih =>
  intro j h h'
  unfold lat at h
  split at h
  ·omega
  ·rename_i c
   rcases Nat.lt_or_ge k j with d | d
   ·have:j=k+1:=by omega
    subst this
    omega
   ·exact ih j h d
def un (p:Int):Nat:=lat p 46
theorem un_spec {p:Int} (g:gd p=true):un p≤45∧p≤tb (un p)∧tb (un p+1)<p:=by
 have r:=gd_range g
 have a:=lat_le p 46
 have b:=lat_at r.2 46
 have c:lat p 46≠46:=fun e=>by
  rw [e] at b
  have:tb 46=86822:=rfl
  omega
 exact ⟨by unfold un; omega,b,lat_behind 46 _ (Nat.lt_succ_self _) (by unfold un; omega)⟩
theorem un_only {p:Int} (g:gd p=true) {i:Nat} (h0:i≤45) (h1:p≤tb i) (h2:tb (i+1)<p):i=un p:=by
 obtain ⟨u0,u1,u2⟩:=un_spec g
 rcases Nat.lt_trichotomy i (un p) with c | c | c
 ·rcases Nat.lt_or_ge (i+1) (un p) with d | d
  ·have:=tb_fall d (by omega)
   omega
  ·have:i+1=un p:=by omega
   rw [this] at h2
   omega
 ·exact c
 ·rcases Nat.lt_or_ge (un p+1) i with d | d
  ·have:=tb_fall d (by omega)
   omega
  ·have:un p+1=i:=by omega
   rw [this] at u2
   omega
def dn (p:Int):Int:=tb (un p) - p
def wd (p:Int):Int:=tb (un p) - tb (un p+1)
theorem dn_wd {p:Int} (g:gd p=true):0≤dn p∧dn p<wd p∧wd p≤16384:=by
 obtain ⟨u0,u1,u2⟩:=un_spec g
 have s:=tb_step u0
 unfold dn wd
 omega
def pt (p:Int):Int:=281474976710656*dn p / wd p
def ht (i:Nat):Int:=-562949953421312+281474976710656*i
def al (p:Int):Int:=ht (un p)+pt p
theorem pt_range {p:Int} (g:gd p=true):0≤pt p∧pt p<281474976710656:=by
 obtain ⟨d0,d1,d2⟩:=dn_wd g
 unfold pt
 refine ⟨Int.ediv_nonneg (by omega) (by omega),?_⟩
 refine Int.ediv_lt_of_lt_mul (by omega) ?_
 exact Int.mul_lt_mul_of_pos_left d1 (by omega)
theorem al_range {p:Int} (g:gd p=true):-562949953421312≤al p∧al p<12385899975268864:=by
 have h:=pt_range g
 have u:=(un_spec g).1
 unfold al ht
 omega
def az (p:Int):Int:=if gd p=true then al p else 0
def ae (p:Int):Int:=if gd p=true then 0 else 2
theorem az_ok {p:Int} (g:gd p=true):az p=al p:=if_pos g
theorem ae_ok {p:Int} (g:gd p=true):ae p=0:=if_pos g
theorem az_bad {p:Int} (g:gd p=false):az p=0:=by simp [az,g]
theorem ae_bad {p:Int} (g:gd p=false):ae p=2:=by simp [ae,g]
def nr (c b p:Int):Bool:=gd p && decide (c≠0) && decide (c - b≤p)
end Go.Proofs.YtjifkmldigemkaaGreatDoor
namespace Go.Proofs.YtjifkmldigemkaaGreatDoor
open Go.RowKit
section
variable {P:Program} {ops:Array Oper} {Q:Exit→Act→World→Prop}
def waits (ops:Array Oper) (i j:Nat):Bool:=dep ops i j || (List.range i).any fun k=>dep ops i k && dep ops k j
def lateOK (ops:Array Oper) (m l:Nat):Bool :=
 regionOK ops ops.size && ((List.range ops.size).all fun i=>decide (i<m) || (List.range i).all fun j=>(i == m && j == l) || waits ops i j) && decide (l<m) && decide (m<ops.size)
theorem late_ok {m l:Nat} (h:lateOK ops m l=true):regionOK ops ops.size=true∧l<m∧m<ops.size ∧
  ∀ i,i<ops.size→m≤i→∀ j,j<i→(i=m∧j=l)∨dep ops i j=true∨∃ k,dep ops i k=true∧dep ops k j=true:=by
 unfold lateOK at h
 simp only [Bool.and_eq_true,List.all_eq_true,List.mem_range,Bool.or_eq_true,decide_eq_true_eq,beq_iff_eq] at h
 obtain ⟨⟨⟨h1,h2⟩,h3⟩,h4⟩:=h
 refine ⟨h1,h3,h4,fun i hi hm j hj=>?_⟩
 rcases h2 i hi with h' | h'
 ·omega
 ·rcases h' j hj with h5 | h5
  ·exact Or.inl h5
  ·unfold waits at h5
   simp only [Bool.or_eq_true,List.any_eq_true,Bool.and_eq_true] at h5
   rcases h5 with h5 | ⟨k,_,h5⟩
   ·exact Or.inr (Or.inl h5)
   ·exact Or.inr (Or.inr ⟨k,h5⟩)
theorem wpAny_tailL (ok:regionOK ops ops.size=true) {m:Nat} (hw:∀ i k,i<ops.size→m≤k→k<i→dep ops i k=true∨∃ k2,dep ops i k2=true∧dep ops k2 k=true) :
  ∀ (fuel k:Nat) (listed:Array Bool) (a:Act) (w:World),listed.size=ops.size→m≤k →
  (∀ i,i<ops.size→(listed.getD i false=true↔i<k))→ops.size≤k+fuel→wpList P ops Q (ops.toList.drop k) a w→wpAny P .any ops Q fuel listed a w:=by
 intro fuel
 induction fuel with
 | zero =>
  intro k listed a w hs _ hl hf h
  rw [List.drop_eq_nil_of_le (by simpa using hf)] at h
  refine ⟨?_,h⟩
  apply List.eq_nil_iff_forall_not_mem.2
  intro i hi
  obtain ⟨h1,h2,_⟩:=ready_mem hi
  have:=(hl i h1).2 (by omega)
  simp [Array.getD,hs,h1] at h2 this
  rw [h2] at this; cases this
 | succ fuel ih =>
  intro k listed a w hs hmk hl hf h
  have only:∀ i,i ∈ Region.ready .any ops listed→i=k:=by
   intro i hi
   obtain ⟨h1,h2,h3⟩:=ready_mem hi
   have hik:k≤i:=by
    apply Nat.le_of_not_lt
    intro hc
    have:=(hl i h1).2 hc
    simp [Array.getD,hs,h1] at h2 this
    rw [h2] at this; cases this
   by_cases e:i=k
   ·exact e
   ·have hk:k<i:=by omega
    rcases hw i k h1 hmk hk with h4 | ⟨k2,h4,h5⟩
    ·have:=(hl k (by omega)).1 (h3 k h4)
     omega
    ·have l2:=dep_lt ok h1 h4
     have:=(hl k2 (by omega)).1 (h3 k2 h4)
     have:=dep_lt ok (show k2<ops.size by omega) h5
     omega
  by_cases hk:k<ops.size
  ·have ho:ops[k]?=some ops[k]:=Array.getElem?_eq_getElem hk
   have hd:ops.toList.drop k=ops[k] :: ops.toList.drop (k+1):=by
    rw [List.drop_eq_getElem_cons (by simpa using hk)]; simp
   rw [hd] at h
   refine ⟨?_,?_⟩
   ·intro hr
    have:k ∈ Region.ready .any ops listed:=mem_ready hk (by
     have:¬ listed.getD k false=true:=fun hc=>by have:=(hl k hk).1 hc; omega
     simp [Array.getD,hs,hk] at this ⊢; exact this) (fun o hoo e he hb=>(hl e.on (by have:=ok_lex ok hoo e he hb; omega)).2 (ok_lex ok hoo e he hb))
    rw [hr] at this; cases this
   ·intro i hi
    obtain rfl:=only i hi
    have h':wpOp P ops Q i (wpList P ops Q (ops.toList.drop (i+1))) a w:=by
     unfold wpOp; rw [ho]; exact h
    refine wpOp_mono (fun a' w' hh=>ih (i+1) _ a' w' (by simpa using hs) (by omega) ?_ (by omega) hh) h'
    intro j hj
    by_cases e:j=i
    ·subst e; rw [getD_set_same (by rw [hs]; exact hj)]; simp
    ·rw [getD_set_other e,hl j hj]; omega
  ·rw [List.drop_eq_nil_of_le (by simpa using (by omega:ops.size≤k))] at h
   refine ⟨fun _=>h,fun i hi=>?_⟩
   have:=only i hi
   obtain ⟨h1,_⟩:=ready_mem hi
   omega
theorem left_prefixed {n k:Nat} {listed:Array Bool} (hs:listed.size=n) (hl:∀ i,i<n→(listed.getD i false=true↔i<k)):n≤k+left n listed:=by
 have e:((List.range n).filter fun i=>!listed.getD i true)=(List.range n).filter fun i=>decide (k≤i):=by
  apply List.filter_congr
  intro j hj
  have hj':=List.mem_range.1 hj
  have h1:=hl j hj'
  have h2:listed.getD j true=listed.getD j false:=by simp [Array.getD,hs,hj']
  rw [h2]
  by_cases c:j<k
  ·rw [h1.2 c]; simp; omega
  ·have:listed.getD j false=false:=by
    cases h:listed.getD j false with
    | true=>exact absurd (h1.1 h) c
    | false=>rfl
   rw [this]; simp; omega
 have cnt:∀ n,((List.range n).filter fun i=>decide (k≤i)).length=n - k:=by
  intro n
  induction n with
  | zero=>simp
  | succ n ihn =>
   rw [List.range_succ,List.filter_append,List.length_append,ihn]
   by_cases c:k≤n
   ·simp [c]; omega
   ·simp [c]; omega
 unfold left
 rw [e,cnt]
 omega
theorem unlisted {listed:Array Bool} {n i:Nat} (hs:listed.size=n) (hi:i<n) (h:¬ listed.getD i false=true):listed.getD i true=false:=by
 simp [Array.getD,hs,hi] at h ⊢; exact h
theorem listed_not {listed:Array Bool} {n i:Nat} (hs:listed.size=n) (hi:i<n) (h:listed.getD i true=false):¬ listed.getD i false=true:=by
 simp [Array.getD,hs,hi] at h ⊢; exact h
theorem wpAny_late {m l:Nat} {fr:(Nat→Value)→Act} {Φ:Nat→Value→World→Prop} {A:Nat→Bool} {W:World} (ok:lateOK ops m l=true)
  (hpers:∀ i x w w',i<m→Φ i x w→Below w.heap.size w w'→Φ i x w')
  (hA:∀ i x w,i<m→A i=true→Φ i x w→blk x<w.heap.size)
  (hstep:∀ i,i<m→∀ v w',Below W.heap.size W w'→(∀ j,dep ops i j=true→Φ j (v j) w') →
   wpOp P ops Q i (fun a' w''=>∃ x,a'=fr (upd v i x)∧Below w'.heap.size w' w''∧Φ i x w''∧(A i=true→w'.heap.size≤blk x)) (fr v) w')
  (hend:∀ v w',Below W.heap.size W w'→(∀ i,i<m→Φ i (v i) w')→(∀ i j,i<m→j<m→A i=true→A j=true→i≠j→blk (v i)≠blk (v j))→wpList P ops Q (ops.toList.drop m) (fr v) w')
  (hlate:∀ v w',Below W.heap.size W w'→(∀ i,i<m→i≠l→Φ i (v i) w')→(∀ i j,i<m→j<m→i≠l→j≠l→A i=true→A j=true→i≠j→blk (v i)≠blk (v j))→wpOp P ops Q m (fun a' w''=>wpOp P ops Q l (fun a2 w2=>wpList P ops Q (ops.toList.drop (m+1)) a2 w2) a' w'') (fr v) w') :
  ∀ (fuel:Nat) (listed:Array Bool) (v:Nat→Value) (a:Act) (w:World),left ops.size listed≤fuel→Under ops m fr Φ A W listed v a w→wpAny P .any ops Q fuel listed a w:=by
 obtain ⟨ok0,lm,ms,hwait⟩:=late_ok ok
 have hw:∀ i k,i<ops.size→m≤k→k<i→dep ops i k=true∨∃ k2,dep ops i k2=true∧dep ops k2 k=true:=by
  intro i k hi hk hki
  rcases hwait i hi (by omega) k hki with h | h
  ·omega
  ·exact h
 intro fuel
 induction fuel with
 | zero =>
  intro listed v a w hf u
  have h1:=u.hT m (Nat.le_refl _) ms
  have:m ∈ (List.range ops.size).filter fun i=>!listed.getD i true:=by
   rw [List.mem_filter,unlisted u.hs ms (by rw [h1]; decide)]; exact ⟨List.mem_range.2 ms,rfl⟩
  have h0:((List.range ops.size).filter fun i=>!listed.getD i true)=[]:=List.eq_nil_of_length_eq_zero (by unfold left at hf; omega)
  rw [h0] at this; cases this
 | succ fuel ih =>
  intro listed v a w hf u
  by_cases done:∀ i,i<m→listed.getD i false=true
  ·rw [u.ha]
   have hl:∀ i,i<ops.size→(listed.getD i false=true↔i<m):=by
    intro i hi
    constructor
    ·intro h
     by_cases c:i<m
     ·exact c
     ·rw [u.hT i (by omega) hi] at h; cases h
    ·exact done i
   refine wpAny_tailL ok0 hw (fuel+1) m listed _ w u.hs (Nat.le_refl _) hl (by have:=left_prefixed u.hs hl; omega) ?_
   exact hend v w u.hB (fun i hi=>u.hΦ i hi (done i hi)) (fun i j hi hj=>u.hD i j hi hj (done i hi) (done j hj))
  ·have some_ready:Region.ready .any ops listed≠[]:=by
    have:∃ i,i<m∧listed.getD i false=false∧∀ j,j<i→listed.getD j false=true:=by
     apply Classical.byContradiction
     intro no
     apply done
     intro i
     induction i using Nat.strongRecOn with
     | _ i ihi =>
      intro hi
      cases h:listed.getD i false with
      | true=>rfl
      | false=>exact absurd ⟨i,hi,h,fun j hj=>ihi j hj (by omega)⟩ no
    obtain ⟨i,hi,h1,h2⟩:=this
    intro hr
    have:i ∈ Region.ready .any ops listed:=mem_ready (by omega) (unlisted u.hs (by omega) (by rw [h1]; decide)) (fun o ho e he hb=>h2 e.on (ok_lex ok0 ho e he hb))
    rw [hr] at this; cases this
   refine ⟨fun h=>absurd h some_ready,fun i hi=>?_⟩
   obtain ⟨h1,h2,h3⟩:=ready_mem hi
   by_cases him:i<m
   ·rw [u.ha]
    refine wpOp_mono ?_ (hstep i him v w u.hB (fun j hj=>?_))
    ·rintro a' w' ⟨x,rfl,hb,hx,hf'⟩
     refine ih _ (upd v i x) _ w' ?_ ⟨rfl,by simpa using u.hs,?_,?_,?_,?_,?_⟩
     ·have:=left_set h1 u.hs h2; omega
     ·exact u.hB.trans (hb.mono u.hB.size)
     ·intro j hj hl
      by_cases e:j=i
      ·subst e; rw [upd_same]; exact hx
      ·rw [upd_other v x e]
       rw [getD_set_other e] at hl
       exact hpers j _ w w' hj (u.hΦ j hj hl) hb
     ·intro j k hj hk lj lk aj ak hne
      by_cases e:j=i
      ·subst e
       rw [upd_same,upd_other v x (fun h=>hne h.symm)]
       rw [getD_set_other (fun h=>hne h.symm)] at lk
       have:=hA k _ w hk ak (u.hΦ k hk lk)
       have:=hf' aj
       omega
      ·by_cases e2:k=i
       ·subst e2
        rw [upd_same,upd_other v x e]
        rw [getD_set_other e] at lj
        have:=hA j _ w hj aj (u.hΦ j hj lj)
        have:=hf' ak
        omega
       ·rw [upd_other v x e,upd_other v x e2]
        rw [getD_set_other e] at lj
        rw [getD_set_other e2] at lk
        exact u.hD j k hj hk lj lk aj ak hne
     ·intro j hj hjs
      rw [getD_set_other (by omega)]
      exact u.hT j hj hjs
     ·intro j hj lj k hk
      by_cases e2:k=i
      ·subst e2; exact getD_set_same (by rw [u.hs]; exact h1) false
      ·rw [getD_set_other e2]
       by_cases e:j=i
       ·subst e; exact h3 k hk
       ·rw [getD_set_other e] at lj
        exact u.hC j hj lj k hk
    ·have:=dep_lt ok0 h1 hj
     exact u.hΦ j (by omega) (h3 j hj)
   ·have others:∀ j,j<m→j≠l→listed.getD j false=true:=by
     intro j hj hne
     rcases hwait i h1 (by omega) j (by omega) with h4 | h4 | ⟨k2,h4,h5⟩
     ·exact absurd h4.2 hne
     ·exact h3 j h4
     ·exact u.hC k2 (by have:=dep_lt ok0 h1 h4; omega) (h3 k2 h4) j h5
    have lnot:¬ listed.getD l false=true:=by
     intro hc
     refine done (fun j hj=>?_)
     by_cases e:j=l
     ·rw [e]; exact hc
     ·exact others j hj e
    obtain rfl:i=m:=by
     rcases hwait i h1 (by omega) l (by omega) with h4 | h4 | ⟨k2,h4,h5⟩
     ·exact h4.1
     ·exact absurd (h3 l h4) lnot
     ·exact absurd (u.hC k2 (by have:=dep_lt ok0 h1 h4; omega) (h3 k2 h4) l h5) lnot
    rw [u.ha]
    have lf:=left_set h1 u.hs h2
    have ls:l<ops.size:=by omega
    refine wpOp_mono ?_ (hlate v w u.hB (fun j hj hne=>u.hΦ j hj (others j hj hne)) (fun j k hj hk nj nk=>u.hD j k hj hk (others j hj nj) (others k hk nk)))
    intro a' w' h'
    have hs2:(listed.setIfInBounds i true).size=ops.size:=by simpa using u.hs
    have l2:(listed.setIfInBounds i true).getD l false=listed.getD l false:=getD_set_other (by omega) false
    have l2n:(listed.setIfInBounds i true).getD l true=false:=unlisted hs2 ls (by rw [l2]; exact lnot)
    have lf2:=left_set ls hs2 l2n
    have hl3:∀ j,j<ops.size→(((listed.setIfInBounds i true).setIfInBounds l true).getD j false=true↔j<i+1):=by
     intro j hj
     by_cases e:j=l
     ·subst e; rw [getD_set_same (by rw [hs2]; exact hj)]; simp; omega
     ·rw [getD_set_other e]
      by_cases e2:j=i
      ·subst e2; rw [getD_set_same (by rw [u.hs]; exact hj)]; simp
      ·rw [getD_set_other e2]
       constructor
       ·intro h
        by_cases c:j<i
        ·omega
        ·rw [u.hT j (by omega) hj] at h; cases h
       ·intro h
        exact others j (by omega) e
    match fuel,hf,lf,lf2 with
    | 0,hf,lf,lf2=>omega
    | fuel+1,hf,lf,lf2 =>
     refine ⟨?_,?_⟩
     ·intro hr
      have:l ∈ Region.ready .any ops (listed.setIfInBounds i true):=mem_ready ls l2n (fun o hoo e he hb=>by
       have:=ok_lex ok0 hoo e he hb
       rw [getD_set_other (by omega)]
       exact others e.on (by omega) (by omega))
      rw [hr] at this; cases this
     ·intro j hj
      obtain ⟨j1,j2,j3⟩:=ready_mem hj
      have hjl:j=l:=by
       apply Classical.byContradiction
       intro e
       have jn:=listed_not hs2 j1 j2
       have ji:¬ j<i+1:=by
        intro c
        apply jn
        have:=(hl3 j j1).2 c
        rwa [getD_set_other e] at this
       have lnot2:¬ (listed.setIfInBounds i true).getD l false=true:=by rw [l2]; exact lnot
       rcases hwait j j1 (by omega) l (by omega) with h4 | h4 | ⟨k2,h4,h5⟩
       ·omega
       ·exact lnot2 (j3 l h4)
       ·have hk2:=j3 k2 h4
        have kl:=dep_lt ok0 j1 h4
        by_cases ek:k2=i
        ·subst ek
         exact lnot (h3 l h5)
        ·rw [getD_set_other ek] at hk2
         exact lnot (u.hC k2 (by omega) hk2 l h5)
      subst hjl
      refine wpOp_mono (fun a2 w2 h2'=>?_) h'
      exact wpAny_tailL ok0 hw fuel (i+1) _ a2 w2 (by simpa using hs2) (by omega) hl3 (by have:=left_prefixed (by simpa using hs2) hl3; omega) h2'
theorem region_late {id:Nat} {a:Act} {w:World} (ds:List Tmp) (l:Nat) (Φ:Nat→Value→World→Prop) (A:Nat→Bool)
  (hmix:P.follows .mixedOrders=true) (ok:lateOK ops ds.length l=true) (hn:decide ds.Nodup=true) (hs:ds.all (fun d=>decide (d<a.tmps.size))=true)
  (hpers:∀ i x w w',i<ds.length→Φ i x w→Below w.heap.size w w'→Φ i x w')
  (hA:∀ i x w,i<ds.length→A i=true→Φ i x w→blk x<w.heap.size)
  (hstep:∀ i,i<ds.length→∀ (v:Nat→Value) (f:Act) (w':World),(∀ t,t ∉ ds→f.tmps[t]?=a.tmps[t]?)→(∀ j d,ds[j]?=some d→f.tmps[d]?=some (v j))→Below w.heap.size w w'→(∀ j,dep ops i j=true→Φ j (v j) w') →
   wpOp P ops Q i (fun a' w''=>∃ x,a'=f.put ds[i]? x∧Below w'.heap.size w' w''∧Φ i x w''∧(A i=true→w'.heap.size≤blk x)) f w')
  (hend:∀ v w',Below w.heap.size w w'→(∀ i,i<ds.length→Φ i (v i) w')→(∀ i j,i<ds.length→j<ds.length→A i=true→A j=true→i≠j→blk (v i)≠blk (v j))→wpList P ops Q (ops.toList.drop ds.length) (frOf a ds v) w')
  (hlate:∀ v w',Below w.heap.size w w'→(∀ i,i<ds.length→i≠l→Φ i (v i) w')→(∀ i j,i<ds.length→j<ds.length→i≠l→j≠l→A i=true→A j=true→i≠j→blk (v i)≠blk (v j))→wpOp P ops Q ds.length (fun a' w''=>wpOp P ops Q l (fun a2 w2=>wpList P ops Q (ops.toList.drop (ds.length+1)) a2 w2) a' w'') (frOf a ds v) w') :
  (Code.region id ops true).wp P Q a w:=by
 have hnd:=of_decide_eq_true hn
 have hsz:∀ d ∈ ds,d<a.tmps.size:=fun d hd=>of_decide_eq_true (List.all_eq_true.1 hs d hd)
 refine wp_region_any hmix ?_
 refine wpAny_late (W:=w) (fr:=frOf a ds) ok hpers hA ?_ hend hlate ops.size _ (fun i=>a.tmps.getD (ds.getD i 0) undef) a _ ?_ ⟨frOf_self a ds,by simp,?_,?_,?_,?_,?_⟩
 ·intro i hi v w' hB hd
  refine wpOp_mono ?_ (hstep i hi v (frOf a ds v) w' (fun t ht=>frGo_base v ds 0 a t ht) (fun j d hj=>?_) hB hd)
  ·rintro a' w'' ⟨x,rfl,hb,hx,hf⟩
   refine ⟨x,?_,hb,hx,hf⟩
   rw [List.getElem?_eq_getElem hi]
   exact frOf_upd hnd hsz (List.getElem?_eq_getElem hi)
  ·have:=frGo_get v ds 0 a j d hnd hj (hsz d (List.mem_of_getElem? hj))
   rw [Nat.zero_add] at this
   exact this
 ·unfold left
  exact Nat.le_trans (List.length_filter_le _ _) (by simp)
 ·exact (Below.refl _ _).drew
 ·intro i _ h
  by_cases c:i<ops.size <;> simp [Array.getD,c] at h
 ·intro i j _ _ h
  by_cases c:i<ops.size <;> simp [Array.getD,c] at h
 ·intro i _ hi
  simp [Array.getD,hi]
 ·intro i _ h
  by_cases c:i<ops.size <;> simp [Array.getD,c] at h
theorem region_late_k {id:Nat} {a:Act} {w:World} (ds:List Tmp) (l:Nat) (V:Nat→Value) (T:Act→Act) (ST:World→Prop) (Φ:Nat→Value→World→Prop) (A:Nat→Bool)
  (hmix:P.follows .mixedOrders=true) (ok:lateOK ops ds.length l=true) (hn:decide ds.Nodup=true) (hs:ds.all (fun d=>decide (d<a.tmps.size))=true)
  (hpers:∀ i x w w',i<ds.length→Φ i x w→Below w.heap.size w w'→Φ i x w')
  (hA:∀ i x w,i<ds.length→A i=true→Φ i x w→blk x<w.heap.size)
  (hstep:∀ i,i<ds.length→∀ (v:Nat→Value) (f:Act) (w':World),(∀ t,t ∉ ds→f.tmps[t]?=a.tmps[t]?)→(∀ j d,ds[j]?=some d→f.tmps[d]?=some (v j))→Below w.heap.size w w'→(∀ j,dep ops i j=true→Φ j (v j) w') →
   wpOp P ops (fun e a' w'=>e=Exit.normal∧a'=T (frOf a ds V)∧ST w') i (fun a' w''=>∃ x,a'=f.put ds[i]? x∧Below w'.heap.size w' w''∧Φ i x w''∧(A i=true→w'.heap.size≤blk x)) f w')
  (hend:∀ v w',Below w.heap.size w w'→(∀ i,i<ds.length→Φ i (v i) w')→(∀ i j,i<ds.length→j<ds.length→A i=true→A j=true→i≠j→blk (v i)≠blk (v j))→wpList P ops (fun e a' w'=>e=Exit.normal∧a'=T (frOf a ds V)∧ST w') (ops.toList.drop ds.length) (frOf a ds v) w')
  (hlate:∀ v w',Below w.heap.size w w'→(∀ i,i<ds.length→i≠l→Φ i (v i) w')→(∀ i j,i<ds.length→j<ds.length→i≠l→j≠l→A i=true→A j=true→i≠j→blk (v i)≠blk (v j))→wpOp P ops (fun e a' w'=>e=Exit.normal∧a'=T (frOf a ds V)∧ST w') ds.length (fun a' w''=>wpOp P ops (fun e a' w'=>e=Exit.normal∧a'=T (frOf a ds V)∧ST w') l (fun a2 w2=>wpList P ops (fun e a' w'=>e=Exit.normal∧a'=T (frOf a ds V)∧ST w') (ops.toList.drop (ds.length+1)) a2 w2) a' w'') (frOf a ds v) w')
  (hQ:∀ w',ST w'→Q Exit.normal (T (frOf a ds V)) w') :
  (Code.region id ops true).wp P Q a w:=by
 refine wp_mono (region_late ds l Φ A hmix ok hn hs hpers hA hstep hend hlate) ?_
 rintro e a' w' ⟨rfl,rfl,h⟩
 exact hQ w' h
end
end Go.Proofs.YtjifkmldigemkaaGreatDoor
namespace Go.Proofs.YtjifkmldigemkaaGreatDoor
open Go.RowKit Go.Shelf
theorem add_any (ah al a bh bl b:Int) (x:IsW ah al a) (y:IsW bh bl b) (w:World) :
    Calls Tryz.prog 176 #[wv ah al,wv bh bl] w (RetWE (fz (a+b)) (fe (a+b)) w):=by
  have A1:=Lib.hid (add_yes x.fits y.fits)
  have A2:=Lib.hid (add_no x.fits y.fits)
  cases d1:decide (a<0) <;> cases d2:decide (b<0) <;> cases d3:decide (w128 (a+b)<0)
  all_goals
    have D:=Lib.hid (And.intro d1 (And.intro d2 d3))
    go_enter Tryz.func176,Tryz.ntmps176
    go_wp2_with (go_at_call 212; refine (plus_any _ _ _ _ _ _ x y _).mono ?_; rintro e w1 ⟨rh,rl,rfl,hr,hb⟩; have k:WC w1 w.heap.size ah al∧WC w1 (w.heap.size+1) bh bl:=wc_keep2 hb (by simp [WC,go_sem,World.cell?_alloc_past]))
    have r1:WC w1 (w.heap.size+1+1) 0 0:=wc_keep hb (by simp [WC,go_sem])
    have f1:WF w1 (w.heap.size+1+1):=wf_keep hb (h:=0) (l:=0) (by simp [WC,go_sem]) (by simp [WF,go_sem])
    have cN:=neg_any ah al a x
    rw [d1] at cN
    have cN1:=retV_regrown (w:=(w1.alloc (Obj.cells #[.int .i64 rh,.int .u64 rl] 187))) cN
    have cN:=neg_any bh bl b y
    rw [d2] at cN
    have cN2:=retV_regrown (w:=(w1.alloc (Obj.cells #[.int .i64 rh,.int .u64 rl] 187))) cN
    have cN:=neg_any rh rl _ hr
    rw [d3] at cN
    have cN3:=retV_regrown (w:=(w1.alloc (Obj.cells #[.int .i64 rh,.int .u64 rl] 187))) cN
    clear cN
    have g0:=wc_regrown (wc_alloc (o:=Obj.cells #[.int .i64 rh,.int .u64 rl] 187) k.1)
    have g1:=wc_regrown (wc_alloc (o:=Obj.cells #[.int .i64 rh,.int .u64 rl] 187) k.2)
    have g2:∀ d os,WC (Sort.grow (redrawn (w1.alloc (Obj.cells #[.int .i64 rh,.int .u64 rl] 187)) d) os) w1.heap.size rh rl:=wc_regrown (by simp [WC,go_sem])
    refine wp_region_quiet_below (by kernel_rfl) (by kernel_rfl) ?_
    repeat (quiet_step (first | exact cN1 _ _ | exact cN2 _ _ | exact cN3 _ _))
    refine wpQuiet_nil ?_
    intro _ hw'
    obtain ⟨⟨dq,osq⟩,hw''⟩:=hw'
    subst hw''
    have B2:Below w.heap.size w (w1.alloc (Obj.cells #[.int .i64 rh,.int .u64 rl] 187)):=b_alloc (b_trans (b_alloc (b_alloc (b_alloc (Below.refl _ _)))) hb)
    have B3:=b_trans B2 (below_regrown (w1.alloc (Obj.cells #[.int .i64 rh,.int .u64 rl] 187)) dq osq)
    have k2:=g2 dq osq
    have k3:=wc_keep (below_regrown (w1.alloc (Obj.cells #[.int .i64 rh,.int .u64 rl] 187)) dq osq) (wc_alloc r1)
    have k4:=wf_keep (below_regrown (w1.alloc (Obj.cells #[.int .i64 rh,.int .u64 rl] 187)) dq osq) (wc_alloc r1) (wf_keep (b_alloc (Below.refl _ _)) r1 f1)
    clear cN1 cN2 cN3 g0 g1 g2 B2
    generalize Sort.grow (redrawn (w1.alloc (Obj.cells #[.int .i64 rh,.int .u64 rl] 187)) dq) osq=w2 at *
    go_wp2
    first
      | (refine bodyPost_ret (v:=.tuple #[wv rh rl,.int .i64 0]) (by simp [results,Tryz.results176,go_sem,k3]) rfl ⟨rh,rl,?_,?_,b_set (b_set B3 (by simp; omega)) (by simp; omega)⟩
         · rw [(A1.out (by have:=D.out; simp at this; omega)).2]
         · rw [← (A1.out (by have:=D.out; simp at this; omega)).1]; exact hr)
      | (refine bodyPost_ret (v:=.tuple #[wv 0 0,.int .i64 3]) (by simp [results,Tryz.results176,go_sem,k3]) rfl ⟨0,0,?_,?_,b_set (b_set B3 (by simp; omega)) (by simp; omega)⟩
         · rw [(A2.out (by have:=D.out; simp at this; omega)).2]
         · rw [(A2.out (by have:=D.out; simp at this; omega)).1]; exact isW_zero)
end Go.Proofs.YtjifkmldigemkaaGreatDoor
namespace Go.Proofs.YtjifkmldigemkaaGreatDoor
open Go.RowKit Go.Shelf Go.Joins
def sgn (n:Bool) (x:Int):Int:=if n then -x else x
end Go.Proofs.YtjifkmldigemkaaGreatDoor
namespace Go.Proofs.YtjifkmldigemkaaGreatDoor
open Go.RowKit Go.Shelf Go.Joins
def zs (k:Nat):List Int:=List.replicate k 0
end Go.Proofs.YtjifkmldigemkaaGreatDoor
namespace Go.Proofs.YtjifkmldigemkaaGreatDoor
open Go.RowKit Go.Shelf Go.Joins
def IS (w:World) (B:Nat) (sa:Option Addr) (n:Nat) (z:Nat→Int):Prop :=
 ∀ k,k<n→∃ gb off,sa=some ⟨gb,off,none⟩∧B≤gb∧w.cell? ⟨gb,off+k,none⟩=some (.int .i64 (z k))
theorem is_none {w:World} {B:Nat} {sa:Option Addr} {z:Nat→Int}:IS w B sa 0 z:=fun _ h=>absurd h (Nat.not_lt_zero _)
def ints (z:Nat→Int) (n:Nat):List Value:=(List.range n).map fun k=>.int .i64 (z k)
theorem ints_get {z:Nat→Int} {n j:Nat} (h:j<n):(ints z n)[j]?=some (.int .i64 (z j)):=by simp [ints,h]
theorem ints_snoc (z:Nat→Int) (n:Nat):ints z (n+1)=ints z n ++ [.int .i64 (z n)]:=by simp [ints,List.range_succ]
theorem ints_same {y z:Nat→Int} {n:Nat} (e:∀ k,k<n→y k=z k):ints y n=ints z n:=by
 unfold ints
 apply List.map_congr_left
 intro k hk
 rw [e k (List.mem_range.1 hk)]
def more (z:Nat→Int) (n:Nat) (c:Int):Nat→Int:=fun k=>if k<n then z k else c
theorem more_old {z:Nat→Int} {n k:Nat} {c:Int} (h:k<n):more z n c k=z k:=if_pos h
theorem more_new {z:Nat→Int} {n:Nat} {c:Int}:more z n c n=c:=if_neg (Nat.lt_irrefl _)
theorem ints_more (z:Nat→Int) (n:Nat) (c:Int):ints (more z n c) (n+1)=ints z n ++ [.int .i64 c]:=by
 rw [ints_snoc,more_new,ints_same (fun k hk=>more_old hk)]
theorem is_own {w:World} {B:Nat} {t:TypeId} {v:Value} {n:Nat} {z:Nat→Int} (h:w.ownsRow B t 1 v n (ints z n)):∃ sb cap,v=.slice sb n cap∧IS w B sb n z:=by
 rcases h.2 with ⟨rfl,rfl⟩ | ⟨g,cap,cur,rfl,hB,hg,hc,_,hs,ht⟩
 ·exact ⟨none,0,rfl,is_none⟩
 ·refine ⟨_,cap,rfl,fun k hk=>⟨g,0,rfl,hB,?_⟩⟩
  have hk':(ints z n)[k]?=some (.int .i64 (z k)):=ints_get hk
  rw [← ht,List.getElem?_take_of_lt (by omega)] at hk'
  rw [Nat.zero_add,cell_of_row _ _ k _ _ _ hg]
  simpa using hk'
theorem info_whole:∃ i0,Tryz.prog.info? 2=some i0∧i0.zero=some (.int .i64 0)∧i0.size=1∧i0.bytes=8:=by
 have h:(Tryz.prog.info? 2).map (fun i=>(i.zero,i.size,i.bytes))=some (some (.int .i64 0),1,8):=by kernel_rfl
 revert h
 cases Tryz.prog.info? 2 with
 | none=>intro h; cases h
 | some i =>
  intro h
  simp at h
  exact ⟨i,rfl,h⟩
end Go.Proofs.YtjifkmldigemkaaGreatDoor
namespace Go.Proofs.YtjifkmldigemkaaGreatDoor
open Go.RowKit Go.Shelf Go.Joins
abbrev tk (a:Int) (h:Bool) (p:Int) (s:Bool):Value:=.agg #[.int .i64 a,.bool h,.int .i64 p,.bool s]
abbrev TW (w:World) (g o:Nat) (a:Int) (h:Bool) (p:Int) (s:Bool):Prop :=
 w.cell? ⟨g,o,none⟩=some (.int .i64 a)∧w.cell? ⟨g,o+1,none⟩=some (.bool h)∧w.cell? ⟨g,o+2,none⟩=some (.int .i64 p)∧w.cell? ⟨g,o+3,none⟩=some (.bool s)
theorem tw_keep {w w':World} (hb:Below w.heap.size w w') {g o:Nat} {a:Int} {h:Bool} {p:Int} {s:Bool} (t:TW w g o a h p s):TW w' g o a h p s :=
 ⟨cell_keep hb t.1,cell_keep hb t.2.1,cell_keep hb t.2.2.1,cell_keep hb t.2.2.2⟩
theorem tw_new {w:World} {a:Int} {h:Bool} {p:Int} {s:Bool} {t:TypeId}:TW (w.alloc (Obj.cells #[.int .i64 a,.bool h,.int .i64 p,.bool s] t)) w.heap.size 0 a h p s :=
 ⟨(cell_of_row _ _ 0 _ _ _ (heap_alloc_last _ _)).trans rfl,(cell_of_row _ _ 1 _ _ _ (heap_alloc_last _ _)).trans rfl,(cell_of_row _ _ 2 _ _ _ (heap_alloc_last _ _)).trans rfl,(cell_of_row _ _ 3 _ _ _ (heap_alloc_last _ _)).trans rfl⟩
end Go.Proofs.YtjifkmldigemkaaGreatDoor

import Derived.StillTactics
import Derived.Laws.Pointers
import Derived.Deep.RegionHeld3
import Derived.Deep.QuietTactic
import Derived.BigQuiet
import Derived.RowKit3
import Derived.Lib.Hide
import Derived.Lib.QuietBelow
import Derived.Laws.Bits64b
import Derived.Lib.SmallJoins
import Derived.Deep.WholeRow
import Derived.Test.YthnofhjgfhapiaaGreatDoorWaa
import Derived.Maps.AppendAt
import Derived.Laws.OwnMore
import Derived.Deep.AppendLies
set_option maxHeartbeats 4000000
set_option maxRecDepth 10000
namespace Go.Proofs.YthnofhjgfhapiaaGreatDoor
open Go.RowKit Go.Shelf Go.Joins
def Stopped (p:Prop):Prop:=p
theorem unstop {p:Prop} (h:p):Stopped p:=h
theorem stop_at (d:Option Tmp) {P:Program} {ops:Array Oper} {rest:List Oper} {o:Oper} {a:Act} {w:World} {Q:Exit→Act→World→Prop} (_hd:o.dst=d) (h:Stopped (wpList P ops Q (o :: rest) a w)):wpList P ops Q (o :: rest) a w:=h
theorem run_loadVar_part {P:Program} (w:World) (g o:Nat) (t ty:TypeId) (row cs:Array Value) (fr:Nat × Nat) (d:TypeDesc) (hg:w.heap[g]?=some (.cells row t fr)) (hp:row.extract o (o+cs.size)=cs)
  (hu:P.underlying ty=some d) (hd:(match d with | .struct _ | .array _ _=>true | _=>false)=true) (hi:(P.info? ty).map (·.size)=some cs.size) :
  (loadVar ty ⟨g,o,none⟩).run P w=.ok (.agg cs) w:=by
 have hl:(loadCells ⟨g,o,none⟩ cs.toList.length).run P w=.ok cs.toList.toArray w :=
  run_loadCells_list (P:=P) w ⟨g,o,none⟩ cs.toList (fun j v hv=>by
   have hadd:(⟨g,o,none⟩:Addr).add j=⟨g,o+j,none⟩:=by unfold Addr.add; split <;> simp_all
   rw [hadd,cell_of_row w g (o+j) row t fr hg]
   have hv':cs[j]?=some v:=by simpa using hv
   rw [← hp,Array.getElem?_extract] at hv'
   split at hv'
   ·exact hv'
   ·cases hv')
 cases hq:P.info? ty with
 | none=>simp [hq] at hi
 | some i =>
  have hs:i.size=cs.size:=by simpa [hq] using hi
  have hagg:(isAgg ty).run P w=.ok true w:=by
   unfold isAgg
   rw [Sem.run_bind,run_underlying hu w]
   cases d <;> simp_all
  simp only [Array.length_toList,Array.toArray_toList] at hl
  simp [loadVar,Sem.run_bind,hagg,sizeOf,typeInfo,hq,hs,hl]
theorem wp_load_part {P:Program} {o:Oper} {a:Act} {w:World} {K:Act→World→Prop} {Q:Exit→Act→World→Prop} (ty:TypeId) (x:Operand) (ho:o.op=.load ty x)
  (g n:Nat) (hx:a.eval x=.pointer (some ⟨g,n,none⟩)) (t:TypeId) (row cs:Array Value) (fr:Nat × Nat) (d:TypeDesc) (hg:w.heap[g]?=some (.cells row t fr)) (hp:row.extract n (n+cs.size)=cs)
  (hu:P.underlying ty=some d) (hd:(match d with | .struct _ | .array _ _=>true | _=>false)=true) (hi:(P.info? ty).map (·.size)=some cs.size)
  (h:K (a.put o.dst (.agg cs)) w):o.wp P a w K Q:=by
 unfold Oper.wp execOp
 simp only [ho,hx,Instr.loadAt,Instr.sureAddr,Sem.run_bind,Sem.run_pure,Result.andThen_ok,run_loadVar_part w g n t ty row cs fr d hg hp hu hd hi]
 exact h
theorem wpList_load_part {P:Program} {ops:Array Oper} {rest:List Oper} {o:Oper} {a:Act} {w:World} {Q:Exit→Act→World→Prop} (hw:Region.wanted o (yielded ops a.tmps)=true) (ty:TypeId) (x:Operand) (ho:o.op=.load ty x)
  (g n:Nat) (hx:a.eval x=.pointer (some ⟨g,n,none⟩)) (t:TypeId) (row cs:Array Value) (fr:Nat × Nat) (d:TypeDesc) (hg:w.heap[g]?=some (.cells row t fr)) (hp:row.extract n (n+cs.size)=cs)
  (hu:P.underlying ty=some d) (hd:(match d with | .struct _ | .array _ _=>true | _=>false)=true) (hi:(P.info? ty).map (·.size)=some cs.size)
  (h:wpList P ops Q rest (a.put o.dst (.agg cs)) w):wpList P ops Q (o :: rest) a w :=
 wpList_step fun K hK=>by
  rw [if_pos hw]
  exact wp_load_part ty x ho g n hx t row cs fr d hg hp hu hd hi (hK _ _ h)
structure But (b:Nat) (w w':World):Prop where
 os:w'.os=w.os
 tape:w'.tape=w.tape
 output:w'.output=w.output
 size:w.heap.size≤w'.heap.size
 block:∀ k,k<w.heap.size→k≠b→w'.heap[k]?=w.heap[k]?
theorem but_refl (b:Nat) (w:World):But b w w:=⟨rfl,rfl,rfl,Nat.le_refl _,fun _ _ _=>rfl⟩
theorem but_trans {b:Nat} {u v w:World} (h:But b u v) (k:But b v w):But b u w :=
 ⟨k.os.trans h.os,k.tape.trans h.tape,k.output.trans h.output,Nat.le_trans h.size k.size,fun i hi hb=>(k.block i (Nat.lt_of_lt_of_le hi h.size) hb).trans (h.block i hi hb)⟩
theorem but_below {b:Nat} {w w':World} (h:Below w.heap.size w w'):But b w w':=⟨h.os,h.tape,h.output,h.size,fun i hi _=>h.block i hi⟩
theorem but_set {b i:Nat} {w:World} {v:Value}:But b w (w.setCell ⟨b,i,none⟩ v) :=
 ⟨rfl,rfl,rfl,by simp [World.setCell],fun k _ hk=>heap_setCell_other w ⟨b,i,none⟩ k v hk⟩
theorem but_row {b:Nat} {w w':World} (h:But b w w') {k:Nat} {o:Obj} (hk:k≠b) (c:w.heap[k]?=some o):w'.heap[k]?=some o :=
 (h.block k (Array.getElem?_eq_some_iff.1 c).1 hk).trans c
theorem below_but {a w w':World} {b:Nat} (E:Below a.heap.size a w) (hb:a.heap.size≤b) (h:But b w w'):Below a.heap.size a w' :=
 ⟨h.os.trans E.os,h.tape.trans E.tape,h.output.trans E.output,Nat.le_trans E.size h.size,fun k hk=>(h.block k (Nat.lt_of_lt_of_le hk E.size) (by omega)).trans (E.block k hk)⟩
theorem row_keep {w w':World} (hb:Below w.heap.size w w') {k:Nat} {o:Obj} (c:w.heap[k]?=some o):w'.heap[k]?=some o :=
 (hb.block k (Array.getElem?_eq_some_iff.1 c).1).trans c
end Go.Proofs.YthnofhjgfhapiaaGreatDoor
namespace Go.Proofs.YthnofhjgfhapiaaGreatDoor
open Go.RowKit Go.Shelf Go.Joins
def gd (p:Int):Bool:=decide (90528≤p) && decide (p≤430515)
theorem gd_lo {p:Int} (c:¬ 90528≤p):gd p=false:=by simp [gd,c]
theorem gd_in {p:Int} (c:90528≤p) (d:p≤430515):gd p=true:=by simp [gd,c,d]
theorem gd_hi {p:Int} (d:¬ p≤430515):gd p=false:=by simp [gd,d]
theorem gd_range {p:Int} (h:gd p=true):90528≤p∧p≤430515:=by
 unfold gd at h
 simpa using h
theorem good_any (p:Int) (w:World):Calls Tryz.prog 87 #[.int .i64 p] w (RetV (.bool (gd p)) w):=by
 by_cases c:90528≤p
 ·have c0:90528≤p:=by omega
  by_cases d:p≤430515
  ·rw [gd_in c d]
   have c1:p≤430515:=by omega
   clear c d
   go_enter Tryz.func87,Tryz.ntmps87
   go_wp2
   go_ret
   exact ⟨rfl,Below.refl _ _⟩
  ·rw [gd_hi d]
   have c1:¬ p≤430515:=by omega
   clear c d
   go_enter Tryz.func87,Tryz.ntmps87
   go_wp2
   go_ret
   exact ⟨rfl,Below.refl _ _⟩
 ·rw [gd_lo c]
  have c0:¬ 90528≤p:=by omega
  clear c
  go_enter Tryz.func87,Tryz.ntmps87
  go_wp2
  go_ret
  exact ⟨rfl,Below.refl _ _⟩
end Go.Proofs.YthnofhjgfhapiaaGreatDoor
namespace Go.Proofs.YthnofhjgfhapiaaGreatDoor
open Go.RowKit Go.Shelf Go.Joins
def tbl:List Int:=[430515,417754,405300,393149,381294,369731,358453,347455,336732,326279,316090,306161,296485,287058,277876,268933,260224,251746,243492,235459,227641,220036,212637,205441,198444,191640,185027,178600,172355,166288,160395,154672,149116,143723,138488,133409,128482,123703,119069,114577,110223,106004,101917,97958,94125,90414,86822]
def tb (i:Nat):Int:=tbl.getD i 0
theorem tb_steps:∀ i:Fin 46,1≤tb i - tb (i+1)∧tb i - tb (i+1)≤16384:=by decide
theorem tb_step {i:Nat} (h:i≤45):1≤tb i - tb (i+1)∧tb i - tb (i+1)≤16384:=tb_steps ⟨i,by omega⟩
theorem tb_ranges:∀ i:Fin 47,86822≤tb i∧tb i≤430515:=by decide
theorem tb_range {i:Nat} (h:i≤46):86822≤tb i∧tb i≤430515:=tb_ranges ⟨i,by omega⟩
theorem tb_fall {i j:Nat} (h:i<j) (hj:j≤46):tb j<tb i:=by
 induction j with
 | zero=>omega
 | succ k ih =>
  have s:=tb_step (i:=k) (by omega)
  rcases Nat.lt_or_ge i k with c | c
  ·have:=ih c (by omega)
   omega
  ·have:i=k:=by omega
   subst this
   omega
abbrev TB (w:World):Prop:=∀ i,i<47→w.cell? ⟨1,i,none⟩=some (.int .i64 (tb i))
theorem tb_keep {w w':World} (hb:Below w.heap.size w w') (h:TB w):TB w':=fun i hi=>cell_keep hb (h i hi)
theorem tb_lt {w:World} (h:TB w):1<w.heap.size:=World.block_lt_of_cell? w _ (h 0 (by decide))
theorem tb_but {w w':World} {b:Nat} (hb:But b w w') (h1:1<b) (h:TB w):TB w':=fun i hi=>(World.cell?_of_block (a:=⟨1,i,none⟩) (hb.block 1 (tb_lt h) (by omega))).trans (h i hi)
def lat (p:Int):Nat→Nat
 | 0=>0
 | k+1=>if p≤tb (k+1) then k+1 else lat p k
theorem lat_le (p:Int) (k:Nat):lat p k≤k:=by
 induction k with
 | zero=>exact Nat.le_refl _
 | succ k ih =>
  unfold lat
  split <;> omega
theorem lat_at {p:Int} (h:p≤430515) (k:Nat):p≤tb (lat p k):=by
 induction k with
 | zero=>exact h
 | succ k ih =>
  unfold lat
  split
  ·assumption
  ·exact ih
theorem lat_behind {p:Int} (k:Nat):∀ j,lat p k<j→j≤k→tb j<p:=by
 induction k with
 | zero=>intro j h h'; omega
 | succ k ih =>
  intro j h h'
  unfold lat at h
  split at h
  ·omega
  ·rename_i c
   rcases Nat.lt_or_ge k j with d | d
   ·have:j=k+1:=by omega
    subst this
    omega
   ·exact ih j h d
def un (p:Int):Nat:=lat p 46
theorem un_spec {p:Int} (g:gd p=true):un p≤45∧p≤tb (un p)∧tb (un p+1)<p:=by
 have r:=gd_range g
 have a:=lat_le p 46
 have b:=lat_at r.2 46
 have c:lat p 46≠46:=fun e=>by
  rw [e] at b
  have:tb 46=86822:=rfl
  omega
 exact ⟨by unfold un; omega,b,lat_behind 46 _ (Nat.lt_succ_self _) (by unfold un; omega)⟩
theorem un_only {p:Int} (g:gd p=true) {i:Nat} (h0:i≤45) (h1:p≤tb i) (h2:tb (i+1)<p):i=un p:=by
 obtain ⟨u0,u1,u2⟩:=un_spec g
 rcases Nat.lt_trichotomy i (un p) with c | c | c
 ·rcases Nat.lt_or_ge (i+1) (un p) with d | d
  ·have:=tb_fall d (by omega)
   omega
  ·have:i+1=un p:=by omega
   rw [this] at h2
   omega
 ·exact c
 ·rcases Nat.lt_or_ge (un p+1) i with d | d
  ·have:=tb_fall d (by omega)
   omega
  ·have:un p+1=i:=by omega
   rw [this] at u2
   omega
def dn (p:Int):Int:=tb (un p) - p
def wd (p:Int):Int:=tb (un p) - tb (un p+1)
theorem dn_wd {p:Int} (g:gd p=true):0≤dn p∧dn p<wd p∧wd p≤16384:=by
 obtain ⟨u0,u1,u2⟩:=un_spec g
 have s:=tb_step u0
 unfold dn wd
 omega
def pt (p:Int):Int:=281474976710656*dn p / wd p
def ht (i:Nat):Int:=-562949953421312+281474976710656*i
def al (p:Int):Int:=ht (un p)+pt p
theorem pt_range {p:Int} (g:gd p=true):0≤pt p∧pt p<281474976710656:=by
 obtain ⟨d0,d1,d2⟩:=dn_wd g
 unfold pt
 refine ⟨Int.ediv_nonneg (by omega) (by omega),?_⟩
 refine Int.ediv_lt_of_lt_mul (by omega) ?_
 exact Int.mul_lt_mul_of_pos_left d1 (by omega)
theorem al_range {p:Int} (g:gd p=true):-562949953421312≤al p∧al p<12385899975268864:=by
 have h:=pt_range g
 have u:=(un_spec g).1
 unfold al ht
 omega
def az (p:Int):Int:=if gd p=true then al p else 0
def ae (p:Int):Int:=if gd p=true then 0 else 2
theorem az_ok {p:Int} (g:gd p=true):az p=al p:=if_pos g
theorem ae_ok {p:Int} (g:gd p=true):ae p=0:=if_pos g
theorem az_bad {p:Int} (g:gd p=false):az p=0:=by simp [az,g]
theorem ae_bad {p:Int} (g:gd p=false):ae p=2:=by simp [ae,g]
def nr (c b p:Int):Bool:=gd p && decide (c≠0) && decide (c - b≤p)
end Go.Proofs.YthnofhjgfhapiaaGreatDoor
namespace Go.Proofs.YthnofhjgfhapiaaGreatDoor
open Go.RowKit Go.Shelf Go.Joins
abbrev ckv (c:Int × Int):Value:=.agg #[.int .i64 c.1,.int .i64 c.2]
def vld (m:Int):Bool:=decide (m=1) || decide (m=2)
def sks (m:Int):Bool:=decide (m=0) || decide (m=3)
def msd (s co ou:Int):Int × Int:=if ou≤s then (3,0) else if co≤s+1 then (2,s+1) else (1,s+1)
def nxt (c:Int × Int) (e co ou:Int):Int × Int :=
 if vld c.1=false∧sks c.1=false then c
 else if e=0∨(e=1∧vld c.1=true) then (1,0)
 else if e=3 then (3,0)
 else if e=2∧vld c.1=true then msd c.2 co ou
 else c
abbrev KR (w:World) (b:Nat) (t:TypeId) (m s:Int):Prop:=w.heap[b]?=some (.cells #[.int .i64 m,.int .i64 s] t (0,0))
theorem lay_old (w:World) (o p:Obj):((w.alloc o).alloc p).heap[w.heap.size]?=some o:=(heap_alloc_old _ _ (by simp)).trans (heap_alloc_last w _)
theorem lay_new (w:World) (o p:Obj):((w.alloc o).alloc p).heap[w.heap.size+1]?=some p:=by
 have:=heap_alloc_last (w.alloc o) p
 rwa [World.size_alloc] at this
theorem kr_set {w:World} {b:Nat} {t:TypeId} {m s m' s':Int} (h:KR w b t m s):KR ((w.setCell ⟨b,0,none⟩ (.int .i64 m')).setCell ⟨b,1,none⟩ (.int .i64 s')) b t m' s':=by
 have h0:KR (w.setCell ⟨b,0,none⟩ (.int .i64 m')) b t m' s:=(heap_setCell_same w b 0 _ _ _ h).trans rfl
 exact (heap_setCell_same _ b 1 _ _ _ h0).trans rfl
theorem valid_any (m s:Int) (w:World):Calls Tryz.prog 80 #[ckv (m,s)] w (RetV (.bool (vld m)) w):=by
 by_cases c:m=1
 ·subst c
  rw [show vld 1=true from rfl]
  go_enter Tryz.func80,Tryz.ntmps80
  go_wp2
  go_ret
  exact ⟨rfl,b_alloc (Below.refl _ _)⟩
 ·have d:(m == 2)=vld m:=by simp [vld,c,Bool.beq_eq_decide_eq]
  have c':(m == 1)=false:=by simpa using c
  generalize vld m=b at *
  clear c
  go_enter Tryz.func80,Tryz.ntmps80
  go_wp2
  go_ret
  exact ⟨rfl,b_alloc (Below.refl _ _)⟩
theorem seeks_any (m s:Int) (w:World):Calls Tryz.prog 23 #[ckv (m,s)] w (RetV (.bool (sks m)) w):=by
 by_cases c:m=0
 ·subst c
  rw [show sks 0=true from rfl]
  go_enter Tryz.func23,Tryz.ntmps23
  go_wp2
  go_ret
  exact ⟨rfl,b_alloc (Below.refl _ _)⟩
 ·have d:(m == 3)=sks m:=by simp [sks,c,Bool.beq_eq_decide_eq]
  have c':(m == 0)=false:=by simpa using c
  generalize sks m=b at *
  clear c
  go_enter Tryz.func23,Tryz.ntmps23
  go_wp2
  go_ret
  exact ⟨rfl,b_alloc (Below.refl _ _)⟩
theorem missed_any (m s co ou:Int) (hs:-9223372036854775808≤s) (ho:ou≤9223372036854775807) (w:World):Calls Tryz.prog 117 #[ckv (m,s),.int .i64 co,.int .i64 ou] w (RetV (ckv (msd s co ou)) w):=by
 by_cases c:ou≤s
 ·have c':decide (ou≤s)=true:=by simpa using c
  rw [show msd s co ou=(3,0) by simp [msd,c]]
  clear c
  go_enter Tryz.func117,Tryz.ntmps117
  go_wp2
  exact bodyPost_ret (v:=ckv (3,0)) (by simp [results,Tryz.results117,go_sem]) rfl ⟨rfl,b_alloc (b_alloc (Below.refl _ _))⟩
 ·obtain ⟨t,ht⟩:∃ t,t=s+1:=⟨_,rfl⟩
  have e:IntKind.i64.wrap (s+1)=t:=by rw [IntKind.wrap_i64]; omega
  have c':¬ ou≤s:=c
  by_cases d:co≤t
  ·rw [show msd s co ou=(2,t) by rw [ht] at d; simp [msd,c,d,ht]]
   clear ht
   go_enter Tryz.func117,Tryz.ntmps117
   go_wp2
   exact bodyPost_ret (v:=ckv (2,t)) (by simp [results,Tryz.results117,go_sem]) rfl ⟨rfl,b_alloc (b_alloc (Below.refl _ _))⟩
  ·rw [show msd s co ou=(1,t) by rw [ht] at d; simp [msd,c,d,ht]]
   clear ht
   go_enter Tryz.func117,Tryz.ntmps117
   go_wp2
   exact bodyPost_ret (v:=ckv (1,t)) (by simp [results,Tryz.results117,go_sem]) rfl ⟨rfl,b_alloc (b_alloc (Below.refl _ _))⟩
theorem kr_facts {w:World} {a b:Nat} {t u:TypeId} {m s:Int} (h:KR w a t m s) (k:KR w b u 0 0):w.cell? ⟨a,0,none⟩=some (.int .i64 m)∧w.cell? ⟨a,1,none⟩=some (.int .i64 s) ∧
  w.cell? ⟨b,0,none⟩=some (.int .i64 0)∧w.cell? ⟨b,1,none⟩=some (.int .i64 0)∧w.frozen? ⟨b,0,none⟩=false∧w.frozen? ⟨b,1,none⟩=false :=
 ⟨(cell_of_row _ _ 0 _ _ _ h).trans rfl,(cell_of_row _ _ 1 _ _ _ h).trans rfl,(cell_of_row _ _ 0 _ _ _ k).trans rfl,(cell_of_row _ _ 1 _ _ _ k).trans rfl,frozen_of_row w b 0 _ _ k,frozen_of_row w b 1 _ _ k⟩
theorem on_clock (m s e co ou:Int) (hs:-9223372036854775808≤s) (ho:ou≤9223372036854775807) (w:World):Calls Tryz.prog 79 #[ckv (m,s),.int .i64 e,.int .i64 co,.int .i64 ou] w (RetV (ckv (nxt (m,s) e co ou)) w):=by
 go_enter Tryz.func79,Tryz.ntmps79
 go_wp2_with fail
 refine (seeks_any m s _).mono ?_
 rintro x_ y_ ⟨rfl,hb⟩
 have R0:Hid (KR y_ w.heap.size 58 m s):=Lib.hid (row_keep hb (lay_old _ _ _))
 have R1:Hid (KR y_ (w.heap.size+1) 58 0 0):=Lib.hid (row_keep hb (lay_new _ _ _))
 have E:=Lib.hid (b_trans (b_alloc (b_alloc (Below.refl _ _))) hb)
 clear hb
 obtain ⟨g0,g1,h0,h1,z0,z1⟩:=kr_facts R0.out R1.out
 cases k:sks m
 ·have K:=Lib.hid k
  go_wp2_with fail
  refine (valid_any m s _).mono ?_
  rintro x_ y_ ⟨rfl,hb⟩
  replace R0:=Lib.hid (row_keep hb R0.out)
  replace R1:=Lib.hid (row_keep hb R1.out)
  replace E:=Lib.hid (b_trans E.out hb)
  clear g0 g1 h0 h1 z0 z1
  clear hb
  obtain ⟨g0,g1,h0,h1,z0,z1⟩:=kr_facts R0.out R1.out
  cases v:vld m
  ·have V:=Lib.hid v
   clear k v
   go_wp2
   exact bodyPost_ret (v:=ckv (m,s)) (results_cell_row Tryz.results79 _ _ (w.heap.size+1) 58 _ (0,0) _ rfl (kr_set R1.out) Tryz.underlying58 rfl (by kernel_rfl)) rfl ⟨by rw [show nxt (m,s) _ co ou=(m,s) from by simp [nxt,K.out,V.out]],b_set (b_set E.out (Nat.le_succ _)) (Nat.le_succ _)⟩
  ·have V:=Lib.hid v
   clear k v
   by_cases e0:e=0
   ·subst e0
    go_wp2
    exact bodyPost_ret (v:=ckv (1,0)) (results_cell_row Tryz.results79 _ _ (w.heap.size+1) 58 _ (0,0) _ rfl (kr_set R1.out) Tryz.underlying58 rfl (by kernel_rfl)) rfl ⟨by rw [show nxt (m,s) _ co ou=(1,0) from by simp [nxt,K.out,V.out]],b_set (b_set E.out (Nat.le_succ _)) (Nat.le_succ _)⟩
   have Q0:=Lib.hid e0
   replace e0:(e == 0)=false:=by simpa using e0
   by_cases e1:e=1
   ·subst e1
    go_wp2_with fail
    refine (valid_any m s _).mono ?_
    rintro x_ y_ ⟨rfl,hb⟩
    replace R0:=Lib.hid (row_keep hb R0.out)
    replace R1:=Lib.hid (row_keep hb R1.out)
    replace E:=Lib.hid (b_trans E.out hb)
    clear g0 g1 h0 h1 z0 z1
    clear hb
    obtain ⟨g0,g1,h0,h1,z0,z1⟩:=kr_facts R0.out R1.out
    rw [V.out]
    go_wp2
    exact bodyPost_ret (v:=ckv (1,0)) (results_cell_row Tryz.results79 _ _ (w.heap.size+1) 58 _ (0,0) _ rfl (kr_set R1.out) Tryz.underlying58 rfl (by kernel_rfl)) rfl ⟨by rw [show nxt (m,s) _ co ou=(1,0) from by simp [nxt,K.out,V.out]],b_set (b_set E.out (Nat.le_succ _)) (Nat.le_succ _)⟩
   have Q1:=Lib.hid e1
   replace e1:(e == 1)=false:=by simpa using e1
   by_cases e3:e=3
   ·subst e3
    go_wp2
    exact bodyPost_ret (v:=ckv (3,0)) (results_cell_row Tryz.results79 _ _ (w.heap.size+1) 58 _ (0,0) _ rfl (kr_set R1.out) Tryz.underlying58 rfl (by kernel_rfl)) rfl ⟨by rw [show nxt (m,s) _ co ou=(3,0) from by simp [nxt,K.out,V.out]],b_set (b_set E.out (Nat.le_succ _)) (Nat.le_succ _)⟩
   have Q3:=Lib.hid e3
   replace e3:(e == 3)=false:=by simpa using e3
   by_cases e2:e=2
   ·subst e2
    go_wp2_with fail
    refine (valid_any m s _).mono ?_
    rintro x_ y_ ⟨rfl,hb⟩
    replace R0:=Lib.hid (row_keep hb R0.out)
    replace R1:=Lib.hid (row_keep hb R1.out)
    replace E:=Lib.hid (b_trans E.out hb)
    clear g0 g1 h0 h1 z0 z1
    clear hb
    obtain ⟨g0,g1,h0,h1,z0,z1⟩:=kr_facts R0.out R1.out
    rw [V.out]
    obtain ⟨⟨m2,s2⟩,M2⟩:∃ p,msd s co ou=p:=⟨_,rfl⟩
    have HM:=Lib.hid M2
    have cM:∀ w,Calls Tryz.prog 117 #[ckv (m,s),.int .i64 co,.int .i64 ou] w (RetV (ckv (m2,s2)) w):=fun w=>by rw [← M2]; exact missed_any m s co ou hs ho w
    clear M2
    go_wp2_with fail
    refine (cM _).mono ?_
    rintro x_ y_ ⟨rfl,hb⟩
    replace R0:=Lib.hid (row_keep hb R0.out)
    replace R1:=Lib.hid (row_keep hb R1.out)
    replace E:=Lib.hid (b_trans E.out hb)
    clear g0 g1 h0 h1 z0 z1
    clear hb
    obtain ⟨g0,g1,h0,h1,z0,z1⟩:=kr_facts R0.out R1.out
    go_wp2
    exact bodyPost_ret (v:=ckv (m2,s2)) (results_cell_row Tryz.results79 _ _ (w.heap.size+1) 58 _ (0,0) _ rfl (kr_set R1.out) Tryz.underlying58 rfl (by kernel_rfl)) rfl ⟨by rw [show nxt (m,s) _ co ou=(m2,s2) from by rw [← HM.out]; simp [nxt,K.out,V.out]],b_set (b_set E.out (Nat.le_succ _)) (Nat.le_succ _)⟩
   have Q2:=Lib.hid e2
   replace e2:(e == 2)=false:=by simpa using e2
   go_wp2
   exact bodyPost_ret (v:=ckv (m,s)) (results_cell_row Tryz.results79 _ _ (w.heap.size+1) 58 _ (0,0) _ rfl (kr_set R1.out) Tryz.underlying58 rfl (by kernel_rfl)) rfl ⟨by rw [show nxt (m,s) _ co ou=(m,s) from by simp [nxt,K.out,V.out,Q0.out,Q1.out,Q2.out,Q3.out]],b_set (b_set E.out (Nat.le_succ _)) (Nat.le_succ _)⟩
 ·have K:=Lib.hid k
  have V:Hid (vld m=false):=Lib.hid (by simp [sks] at k; rcases k with h | h <;> rw [h] <;> rfl)
  clear k
  by_cases e0:e=0
  ·subst e0
   go_wp2
   exact bodyPost_ret (v:=ckv (1,0)) (results_cell_row Tryz.results79 _ _ (w.heap.size+1) 58 _ (0,0) _ rfl (kr_set R1.out) Tryz.underlying58 rfl (by kernel_rfl)) rfl ⟨by rw [show nxt (m,s) _ co ou=(1,0) from by simp [nxt,K.out,V.out]],b_set (b_set E.out (Nat.le_succ _)) (Nat.le_succ _)⟩
  have Q0:=Lib.hid e0
  replace e0:(e == 0)=false:=by simpa using e0
  by_cases e1:e=1
  ·subst e1
   go_wp2_with fail
   refine (valid_any m s _).mono ?_
   rintro x_ y_ ⟨rfl,hb⟩
   replace R0:=Lib.hid (row_keep hb R0.out)
   replace R1:=Lib.hid (row_keep hb R1.out)
   replace E:=Lib.hid (b_trans E.out hb)
   clear g0 g1 h0 h1 z0 z1
   clear hb
   obtain ⟨g0,g1,h0,h1,z0,z1⟩:=kr_facts R0.out R1.out
   rw [V.out]
   go_wp2
   exact bodyPost_ret (v:=ckv (m,s)) (results_cell_row Tryz.results79 _ _ (w.heap.size+1) 58 _ (0,0) _ rfl (kr_set R1.out) Tryz.underlying58 rfl (by kernel_rfl)) rfl ⟨by rw [show nxt (m,s) _ co ou=(m,s) from by simp [nxt,K.out,V.out]],b_set (b_set E.out (Nat.le_succ _)) (Nat.le_succ _)⟩
  have Q1:=Lib.hid e1
  replace e1:(e == 1)=false:=by simpa using e1
  by_cases e3:e=3
  ·subst e3
   go_wp2
   exact bodyPost_ret (v:=ckv (3,0)) (results_cell_row Tryz.results79 _ _ (w.heap.size+1) 58 _ (0,0) _ rfl (kr_set R1.out) Tryz.underlying58 rfl (by kernel_rfl)) rfl ⟨by rw [show nxt (m,s) _ co ou=(3,0) from by simp [nxt,K.out,V.out]],b_set (b_set E.out (Nat.le_succ _)) (Nat.le_succ _)⟩
  have Q3:=Lib.hid e3
  replace e3:(e == 3)=false:=by simpa using e3
  by_cases e2:e=2
  ·subst e2
   go_wp2_with fail
   refine (valid_any m s _).mono ?_
   rintro x_ y_ ⟨rfl,hb⟩
   replace R0:=Lib.hid (row_keep hb R0.out)
   replace R1:=Lib.hid (row_keep hb R1.out)
   replace E:=Lib.hid (b_trans E.out hb)
   clear g0 g1 h0 h1 z0 z1
   clear hb
   obtain ⟨g0,g1,h0,h1,z0,z1⟩:=kr_facts R0.out R1.out
   rw [V.out]
   go_wp2
   exact bodyPost_ret (v:=ckv (m,s)) (results_cell_row Tryz.results79 _ _ (w.heap.size+1) 58 _ (0,0) _ rfl (kr_set R1.out) Tryz.underlying58 rfl (by kernel_rfl)) rfl ⟨by rw [show nxt (m,s) _ co ou=(m,s) from by simp [nxt,K.out,V.out]],b_set (b_set E.out (Nat.le_succ _)) (Nat.le_succ _)⟩
  have Q2:=Lib.hid e2
  replace e2:(e == 2)=false:=by simpa using e2
  go_wp2
  exact bodyPost_ret (v:=ckv (m,s)) (results_cell_row Tryz.results79 _ _ (w.heap.size+1) 58 _ (0,0) _ rfl (kr_set R1.out) Tryz.underlying58 rfl (by kernel_rfl)) rfl ⟨by rw [show nxt (m,s) _ co ou=(m,s) from by simp [nxt,K.out,V.out,Q0.out,Q1.out,Q2.out,Q3.out]],b_set (b_set E.out (Nat.le_succ _)) (Nat.le_succ _)⟩
end Go.Proofs.YthnofhjgfhapiaaGreatDoor
namespace Go.Proofs.YthnofhjgfhapiaaGreatDoor
open Go.RowKit Go.Shelf Go.Joins
def IS (w:World) (B:Nat) (sa:Option Addr) (n:Nat) (z:Nat→Int):Prop :=
 ∀ k,k<n→∃ gb off,sa=some ⟨gb,off,none⟩∧B≤gb∧w.cell? ⟨gb,off+k,none⟩=some (.int .i64 (z k))
theorem is_none {w:World} {B:Nat} {sa:Option Addr} {z:Nat→Int}:IS w B sa 0 z:=fun _ h=>absurd h (Nat.not_lt_zero _)
def ints (z:Nat→Int) (n:Nat):List Value:=(List.range n).map fun k=>.int .i64 (z k)
theorem ints_get {z:Nat→Int} {n j:Nat} (h:j<n):(ints z n)[j]?=some (.int .i64 (z j)):=by simp [ints,h]
theorem ints_snoc (z:Nat→Int) (n:Nat):ints z (n+1)=ints z n ++ [.int .i64 (z n)]:=by simp [ints,List.range_succ]
theorem ints_same {y z:Nat→Int} {n:Nat} (e:∀ k,k<n→y k=z k):ints y n=ints z n:=by
 unfold ints
 apply List.map_congr_left
 intro k hk
 rw [e k (List.mem_range.1 hk)]
def more (z:Nat→Int) (n:Nat) (c:Int):Nat→Int:=fun k=>if k<n then z k else c
theorem more_old {z:Nat→Int} {n k:Nat} {c:Int} (h:k<n):more z n c k=z k:=if_pos h
theorem more_new {z:Nat→Int} {n:Nat} {c:Int}:more z n c n=c:=if_neg (Nat.lt_irrefl _)
theorem ints_more (z:Nat→Int) (n:Nat) (c:Int):ints (more z n c) (n+1)=ints z n ++ [.int .i64 c]:=by
 rw [ints_snoc,more_new,ints_same (fun k hk=>more_old hk)]
theorem is_own {w:World} {B:Nat} {t:TypeId} {v:Value} {n:Nat} {z:Nat→Int} (h:w.ownsRow B t 1 v n (ints z n)):∃ sb cap,v=.slice sb n cap∧IS w B sb n z:=by
 rcases h.2 with ⟨rfl,rfl⟩ | ⟨g,cap,cur,rfl,hB,hg,hc,_,hs,ht⟩
 ·exact ⟨none,0,rfl,is_none⟩
 ·refine ⟨_,cap,rfl,fun k hk=>⟨g,0,rfl,hB,?_⟩⟩
  have hk':(ints z n)[k]?=some (.int .i64 (z k)):=ints_get hk
  rw [← ht,List.getElem?_take_of_lt (by omega)] at hk'
  rw [Nat.zero_add,cell_of_row _ _ k _ _ _ hg]
  simpa using hk'
theorem info_whole:∃ i0,Tryz.prog.info? 2=some i0∧i0.zero=some (.int .i64 0)∧i0.size=1∧i0.bytes=8:=by
 have h:(Tryz.prog.info? 2).map (fun i=>(i.zero,i.size,i.bytes))=some (some (.int .i64 0),1,8):=by kernel_rfl
 revert h
 cases Tryz.prog.info? 2 with
 | none=>intro h; cases h
 | some i =>
  intro h
  simp at h
  exact ⟨i,rfl,h⟩
end Go.Proofs.YthnofhjgfhapiaaGreatDoor
namespace Go.Proofs.YthnofhjgfhapiaaGreatDoor
open Go.RowKit Go.Shelf Go.Joins
abbrev tk (a:Int) (h:Bool) (p:Int) (s:Bool):Value:=.agg #[.int .i64 a,.bool h,.int .i64 p,.bool s]
abbrev TW (w:World) (g o:Nat) (a:Int) (h:Bool) (p:Int) (s:Bool):Prop :=
 w.cell? ⟨g,o,none⟩=some (.int .i64 a)∧w.cell? ⟨g,o+1,none⟩=some (.bool h)∧w.cell? ⟨g,o+2,none⟩=some (.int .i64 p)∧w.cell? ⟨g,o+3,none⟩=some (.bool s)
theorem tw_keep {w w':World} (hb:Below w.heap.size w w') {g o:Nat} {a:Int} {h:Bool} {p:Int} {s:Bool} (t:TW w g o a h p s):TW w' g o a h p s :=
 ⟨cell_keep hb t.1,cell_keep hb t.2.1,cell_keep hb t.2.2.1,cell_keep hb t.2.2.2⟩
theorem tw_new {w:World} {a:Int} {h:Bool} {p:Int} {s:Bool} {t:TypeId}:TW (w.alloc (Obj.cells #[.int .i64 a,.bool h,.int .i64 p,.bool s] t)) w.heap.size 0 a h p s :=
 ⟨(cell_of_row _ _ 0 _ _ _ (heap_alloc_last _ _)).trans rfl,(cell_of_row _ _ 1 _ _ _ (heap_alloc_last _ _)).trans rfl,(cell_of_row _ _ 2 _ _ _ (heap_alloc_last _ _)).trans rfl,(cell_of_row _ _ 3 _ _ _ (heap_alloc_last _ _)).trans rfl⟩
end Go.Proofs.YthnofhjgfhapiaaGreatDoor

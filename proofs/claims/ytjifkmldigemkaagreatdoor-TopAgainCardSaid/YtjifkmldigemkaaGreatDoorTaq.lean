import Derived.Lib.SmallJoins
import Derived.Deep.WholeRow
import Derived.Test.YtjifkmldigemkaaGreatDoorTag
import Derived.Test.YtjifkmldigemkaaGreatDoorTab
set_option maxHeartbeats 4000000
set_option maxRecDepth 10000
namespace Go.Proofs.YtjifkmldigemkaaGreatDoor
open Go.RowKit Go.Shelf Go.Joins
abbrev ckv (c:Int × Int):Value:=.agg #[.int .i64 c.1,.int .i64 c.2]
def vld (m:Int):Bool:=decide (m=1) || decide (m=2)
def sks (m:Int):Bool:=decide (m=0) || decide (m=3)
def msd (s co ou:Int):Int × Int:=if ou≤s then (3,0) else if co≤s+1 then (2,s+1) else (1,s+1)
def nxt (c:Int × Int) (e co ou:Int):Int × Int :=
 if vld c.1=false∧sks c.1=false then c
 else if e=0∨(e=1∧vld c.1=true) then (1,0)
 else if e=3 then (3,0)
 else if e=2∧vld c.1=true then msd c.2 co ou
 else c
abbrev KR (w:World) (b:Nat) (t:TypeId) (m s:Int):Prop:=w.heap[b]?=some (.cells #[.int .i64 m,.int .i64 s] t (0,0))
theorem lay_old (w:World) (o p:Obj):((w.alloc o).alloc p).heap[w.heap.size]?=some o:=(heap_alloc_old _ _ (by simp)).trans (heap_alloc_last w _)
theorem lay_new (w:World) (o p:Obj):((w.alloc o).alloc p).heap[w.heap.size+1]?=some p:=by
 have:=heap_alloc_last (w.alloc o) p
 rwa [World.size_alloc] at this
theorem kr_set {w:World} {b:Nat} {t:TypeId} {m s m' s':Int} (h:KR w b t m s):KR ((w.setCell ⟨b,0,none⟩ (.int .i64 m')).setCell ⟨b,1,none⟩ (.int .i64 s')) b t m' s':=by
 have h0:KR (w.setCell ⟨b,0,none⟩ (.int .i64 m')) b t m' s:=(heap_setCell_same w b 0 _ _ _ h).trans rfl
 exact (heap_setCell_same _ b 1 _ _ _ h0).trans rfl
theorem valid_any (m s:Int) (w:World):Calls Tryz.prog 72 #[ckv (m,s)] w (RetV (.bool (vld m)) w):=by
 by_cases c:m=1
 ·subst c
  rw [show vld 1=true from rfl]
  go_enter Tryz.func72,Tryz.ntmps72
  go_wp2
  go_ret
  exact ⟨rfl,b_alloc (Below.refl _ _)⟩
 ·have d:(m == 2)=vld m:=by simp [vld,c,Bool.beq_eq_decide_eq]
  have c':(m == 1)=false:=by simpa using c
  generalize vld m=b at *
  clear c
  go_enter Tryz.func72,Tryz.ntmps72
  go_wp2
  go_ret
  exact ⟨rfl,b_alloc (Below.refl _ _)⟩
theorem seeks_any (m s:Int) (w:World):Calls Tryz.prog 28 #[ckv (m,s)] w (RetV (.bool (sks m)) w):=by
 by_cases c:m=0
 ·subst c
  rw [show sks 0=true from rfl]
  go_enter Tryz.func28,Tryz.ntmps28
  go_wp2
  go_ret
  exact ⟨rfl,b_alloc (Below.refl _ _)⟩
 ·have d:(m == 3)=sks m:=by simp [sks,c,Bool.beq_eq_decide_eq]
  have c':(m == 0)=false:=by simpa using c
  generalize sks m=b at *
  clear c
  go_enter Tryz.func28,Tryz.ntmps28
  go_wp2
  go_ret
  exact ⟨rfl,b_alloc (Below.refl _ _)⟩
theorem missed_any (m s co ou:Int) (hs:-9223372036854775808≤s) (ho:ou≤9223372036854775807) (w:World):Calls Tryz.prog 152 #[ckv (m,s),.int .i64 co,.int .i64 ou] w (RetV (ckv (msd s co ou)) w):=by
 by_cases c:ou≤s
 ·have c':decide (ou≤s)=true:=by simpa using c
  rw [show msd s co ou=(3,0) by simp [msd,c]]
  clear c
  go_enter Tryz.func152,Tryz.ntmps152
  go_wp2
  exact bodyPost_ret (v:=ckv (3,0)) (by simp [results,Tryz.results152,go_sem]) rfl ⟨rfl,b_alloc (b_alloc (Below.refl _ _))⟩
 ·obtain ⟨t,ht⟩:∃ t,t=s+1:=⟨_,rfl⟩
  have e:IntKind.i64.wrap (s+1)=t:=by rw [IntKind.wrap_i64]; omega
  have c':¬ ou≤s:=c
  by_cases d:co≤t
  ·rw [show msd s co ou=(2,t) by rw [ht] at d; simp [msd,c,d,ht]]
   clear ht
   go_enter Tryz.func152,Tryz.ntmps152
   go_wp2
   exact bodyPost_ret (v:=ckv (2,t)) (by simp [results,Tryz.results152,go_sem]) rfl ⟨rfl,b_alloc (b_alloc (Below.refl _ _))⟩
  ·rw [show msd s co ou=(1,t) by rw [ht] at d; simp [msd,c,d,ht]]
   clear ht
   go_enter Tryz.func152,Tryz.ntmps152
   go_wp2
   exact bodyPost_ret (v:=ckv (1,t)) (by simp [results,Tryz.results152,go_sem]) rfl ⟨rfl,b_alloc (b_alloc (Below.refl _ _))⟩
theorem kr_facts {w:World} {a b:Nat} {t u:TypeId} {m s:Int} (h:KR w a t m s) (k:KR w b u 0 0):w.cell? ⟨a,0,none⟩=some (.int .i64 m)∧w.cell? ⟨a,1,none⟩=some (.int .i64 s) ∧
  w.cell? ⟨b,0,none⟩=some (.int .i64 0)∧w.cell? ⟨b,1,none⟩=some (.int .i64 0)∧w.frozen? ⟨b,0,none⟩=false∧w.frozen? ⟨b,1,none⟩=false :=
 ⟨(cell_of_row _ _ 0 _ _ _ h).trans rfl,(cell_of_row _ _ 1 _ _ _ h).trans rfl,(cell_of_row _ _ 0 _ _ _ k).trans rfl,(cell_of_row _ _ 1 _ _ _ k).trans rfl,frozen_of_row w b 0 _ _ k,frozen_of_row w b 1 _ _ k⟩
theorem on_clock (m s e co ou:Int) (hs:-9223372036854775808≤s) (ho:ou≤9223372036854775807) (w:World):Calls Tryz.prog 71 #[ckv (m,s),.int .i64 e,.int .i64 co,.int .i64 ou] w (RetV (ckv (nxt (m,s) e co ou)) w):=by
 go_enter Tryz.func71,Tryz.ntmps71
 go_wp2_with fail
 refine (seeks_any m s _).mono ?_
 rintro x_ y_ ⟨rfl,hb⟩
 have R0:Hid (KR y_ w.heap.size 80 m s):=Lib.hid (row_keep hb (lay_old _ _ _))
 have R1:Hid (KR y_ (w.heap.size+1) 80 0 0):=Lib.hid (row_keep hb (lay_new _ _ _))
 have E:=Lib.hid (b_trans (b_alloc (b_alloc (Below.refl _ _))) hb)
 clear hb
 obtain ⟨g0,g1,h0,h1,z0,z1⟩:=kr_facts R0.out R1.out
 cases k:sks m
 ·have K:=Lib.hid k
  go_wp2_with fail
  refine (valid_any m s _).mono ?_
  rintro x_ y_ ⟨rfl,hb⟩
  replace R0:=Lib.hid (row_keep hb R0.out)
  replace R1:=Lib.hid (row_keep hb R1.out)
  replace E:=Lib.hid (b_trans E.out hb)
  clear g0 g1 h0 h1 z0 z1
  clear hb
  obtain ⟨g0,g1,h0,h1,z0,z1⟩:=kr_facts R0.out R1.out
  cases v:vld m
  ·have V:=Lib.hid v
   clear k v
   go_wp2
   exact bodyPost_ret (v:=ckv (m,s)) (results_cell_row Tryz.results71 _ _ (w.heap.size+1) 80 _ (0,0) _ rfl (kr_set R1.out) Tryz.underlying80 rfl (by kernel_rfl)) rfl ⟨by rw [show nxt (m,s) _ co ou=(m,s) from by simp [nxt,K.out,V.out]],b_set (b_set E.out (Nat.le_succ _)) (Nat.le_succ _)⟩
  ·have V:=Lib.hid v
   clear k v
   by_cases e0:e=0
   ·subst e0
    go_wp2
    exact bodyPost_ret (v:=ckv (1,0)) (results_cell_row Tryz.results71 _ _ (w.heap.size+1) 80 _ (0,0) _ rfl (kr_set R1.out) Tryz.underlying80 rfl (by kernel_rfl)) rfl ⟨by rw [show nxt (m,s) _ co ou=(1,0) from by simp [nxt,K.out,V.out]],b_set (b_set E.out (Nat.le_succ _)) (Nat.le_succ _)⟩
   have Q0:=Lib.hid e0
   replace e0:(e == 0)=false:=by simpa using e0
   by_cases e1:e=1
   ·subst e1
    go_wp2_with fail
    refine (valid_any m s _).mono ?_
    rintro x_ y_ ⟨rfl,hb⟩
    replace R0:=Lib.hid (row_keep hb R0.out)
    replace R1:=Lib.hid (row_keep hb R1.out)
    replace E:=Lib.hid (b_trans E.out hb)
    clear g0 g1 h0 h1 z0 z1
    clear hb
    obtain ⟨g0,g1,h0,h1,z0,z1⟩:=kr_facts R0.out R1.out
    rw [V.out]
    go_wp2
    exact bodyPost_ret (v:=ckv (1,0)) (results_cell_row Tryz.results71 _ _ (w.heap.size+1) 80 _ (0,0) _ rfl (kr_set R1.out) Tryz.underlying80 rfl (by kernel_rfl)) rfl ⟨by rw [show nxt (m,s) _ co ou=(1,0) from by simp [nxt,K.out,V.out]],b_set (b_set E.out (Nat.le_succ _)) (Nat.le_succ _)⟩
   have Q1:=Lib.hid e1
   replace e1:(e == 1)=false:=by simpa using e1
   by_cases e3:e=3
   ·subst e3
    go_wp2
    exact bodyPost_ret (v:=ckv (3,0)) (results_cell_row Tryz.results71 _ _ (w.heap.size+1) 80 _ (0,0) _ rfl (kr_set R1.out) Tryz.underlying80 rfl (by kernel_rfl)) rfl ⟨by rw [show nxt (m,s) _ co ou=(3,0) from by simp [nxt,K.out,V.out]],b_set (b_set E.out (Nat.le_succ _)) (Nat.le_succ _)⟩
   have Q3:=Lib.hid e3
   replace e3:(e == 3)=false:=by simpa using e3
   by_cases e2:e=2
   ·subst e2
    go_wp2_with fail
    refine (valid_any m s _).mono ?_
    rintro x_ y_ ⟨rfl,hb⟩
    replace R0:=Lib.hid (row_keep hb R0.out)
    replace R1:=Lib.hid (row_keep hb R1.out)
    replace E:=Lib.hid (b_trans E.out hb)
    clear g0 g1 h0 h1 z0 z1
    clear hb
    obtain ⟨g0,g1,h0,h1,z0,z1⟩:=kr_facts R0.out R1.out
    rw [V.out]
    obtain ⟨⟨m2,s2⟩,M2⟩:∃ p,msd s co ou=p:=⟨_,rfl⟩
    have HM:=Lib.hid M2
    have cM:∀ w,Calls Tryz.prog 152 #[ckv (m,s),.int .i64 co,.int .i64 ou] w (RetV (ckv (m2,s2)) w):=fun w=>by rw [← M2]; exact missed_any m s co ou hs ho w
    clear M2
    go_wp2_with fail
    refine (cM _).mono ?_
    rintro x_ y_ ⟨rfl,hb⟩
    replace R0:=Lib.hid (row_keep hb R0.out)
    replace R1:=Lib.hid (row_keep hb R1.out)
    replace E:=Lib.hid (b_trans E.out hb)
    clear g0 g1 h0 h1 z0 z1
    clear hb
    obtain ⟨g0,g1,h0,h1,z0,z1⟩:=kr_facts R0.out R1.out
    go_wp2
    exact bodyPost_ret (v:=ckv (m2,s2)) (results_cell_row Tryz.results71 _ _ (w.heap.size+1) 80 _ (0,0) _ rfl (kr_set R1.out) Tryz.underlying80 rfl (by kernel_rfl)) rfl ⟨by rw [show nxt (m,s) _ co ou=(m2,s2) from by rw [← HM.out]; simp [nxt,K.out,V.out]],b_set (b_set E.out (Nat.le_succ _)) (Nat.le_succ _)⟩
   have Q2:=Lib.hid e2
   replace e2:(e == 2)=false:=by simpa using e2
   go_wp2
   exact bodyPost_ret (v:=ckv (m,s)) (results_cell_row Tryz.results71 _ _ (w.heap.size+1) 80 _ (0,0) _ rfl (kr_set R1.out) Tryz.underlying80 rfl (by kernel_rfl)) rfl ⟨by rw [show nxt (m,s) _ co ou=(m,s) from by simp [nxt,K.out,V.out,Q0.out,Q1.out,Q2.out,Q3.out]],b_set (b_set E.out (Nat.le_succ _)) (Nat.le_succ _)⟩
 ·have K:=Lib.hid k
  have V:Hid (vld m=false):=Lib.hid (by simp [sks] at k; rcases k with h | h <;> rw [h] <;> rfl)
  clear k
  by_cases e0:e=0
  ·subst e0
   go_wp2
   exact bodyPost_ret (v:=ckv (1,0)) (results_cell_row Tryz.results71 _ _ (w.heap.size+1) 80 _ (0,0) _ rfl (kr_set R1.out) Tryz.underlying80 rfl (by kernel_rfl)) rfl ⟨by rw [show nxt (m,s) _ co ou=(1,0) from by simp [nxt,K.out,V.out]],b_set (b_set E.out (Nat.le_succ _)) (Nat.le_succ _)⟩
  have Q0:=Lib.hid e0
  replace e0:(e == 0)=false:=by simpa using e0
  by_cases e1:e=1
  ·subst e1
   go_wp2_with fail
   refine (valid_any m s _).mono ?_
   rintro x_ y_ ⟨rfl,hb⟩
   replace R0:=Lib.hid (row_keep hb R0.out)
   replace R1:=Lib.hid (row_keep hb R1.out)
   replace E:=Lib.hid (b_trans E.out hb)
   clear g0 g1 h0 h1 z0 z1
   clear hb
   obtain ⟨g0,g1,h0,h1,z0,z1⟩:=kr_facts R0.out R1.out
   rw [V.out]
   go_wp2
   exact bodyPost_ret (v:=ckv (m,s)) (results_cell_row Tryz.results71 _ _ (w.heap.size+1) 80 _ (0,0) _ rfl (kr_set R1.out) Tryz.underlying80 rfl (by kernel_rfl)) rfl ⟨by rw [show nxt (m,s) _ co ou=(m,s) from by simp [nxt,K.out,V.out]],b_set (b_set E.out (Nat.le_succ _)) (Nat.le_succ _)⟩
  have Q1:=Lib.hid e1
  replace e1:(e == 1)=false:=by simpa using e1
  by_cases e3:e=3
  ·subst e3
   go_wp2
   exact bodyPost_ret (v:=ckv (3,0)) (results_cell_row Tryz.results71 _ _ (w.heap.size+1) 80 _ (0,0) _ rfl (kr_set R1.out) Tryz.underlying80 rfl (by kernel_rfl)) rfl ⟨by rw [show nxt (m,s) _ co ou=(3,0) from by simp [nxt,K.out,V.out]],b_set (b_set E.out (Nat.le_succ _)) (Nat.le_succ _)⟩
  have Q3:=Lib.hid e3
  replace e3:(e == 3)=false:=by simpa using e3
  by_cases e2:e=2
  ·subst e2
   go_wp2_with fail
   refine (valid_any m s _).mono ?_
   rintro x_ y_ ⟨rfl,hb⟩
   replace R0:=Lib.hid (row_keep hb R0.out)
   replace R1:=Lib.hid (row_keep hb R1.out)
   replace E:=Lib.hid (b_trans E.out hb)
   clear g0 g1 h0 h1 z0 z1
   clear hb
   obtain ⟨g0,g1,h0,h1,z0,z1⟩:=kr_facts R0.out R1.out
   rw [V.out]
   go_wp2
   exact bodyPost_ret (v:=ckv (m,s)) (results_cell_row Tryz.results71 _ _ (w.heap.size+1) 80 _ (0,0) _ rfl (kr_set R1.out) Tryz.underlying80 rfl (by kernel_rfl)) rfl ⟨by rw [show nxt (m,s) _ co ou=(m,s) from by simp [nxt,K.out,V.out]],b_set (b_set E.out (Nat.le_succ _)) (Nat.le_succ _)⟩
  have Q2:=Lib.hid e2
  replace e2:(e == 2)=false:=by simpa using e2
  go_wp2
  exact bodyPost_ret (v:=ckv (m,s)) (results_cell_row Tryz.results71 _ _ (w.heap.size+1) 80 _ (0,0) _ rfl (kr_set R1.out) Tryz.underlying80 rfl (by kernel_rfl)) rfl ⟨by rw [show nxt (m,s) _ co ou=(m,s) from by simp [nxt,K.out,V.out,Q0.out,Q1.out,Q2.out,Q3.out]],b_set (b_set E.out (Nat.le_succ _)) (Nat.le_succ _)⟩
end Go.Proofs.YtjifkmldigemkaaGreatDoor

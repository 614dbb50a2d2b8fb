import Derived.Test.YtjifkmldigemkaaGreatDoorTan
import Derived.Test.YtjifkmldigemkaaGreatDoorTak
import Derived.Test.YtjifkmldigemkaaGreatDoorTau
import Derived.Test.YtjifkmldigemkaaGreatDoorTad
import Derived.Test.YtjifkmldigemkaaGreatDoorTab
import Derived.Test.YtjifkmldigemkaaGreatDoorTae
import Derived.Test.YtjifkmldigemkaaGreatDoorTap
import Derived.Test.YtjifkmldigemkaaGreatDoorTaa
import Derived.Test.YtjifkmldigemkaaGreatDoorTaf
import Derived.Test.YtjifkmldigemkaaGreatDoorTag
set_option maxHeartbeats 8000000
set_option maxRecDepth 10000
namespace Go.Proofs.YtjifkmldigemkaaGreatDoor
open Go.RowKit Go.Shelf
theorem evn30_bd {z:Int} (h:z.natAbs≤2785365088392105618523029504):-2594073385365405697≤evn z 1073741824∧evn z 1073741824≤2594073385365405697:=by
 unfold evn near
 split <;> omega
theorem rounded_go (h l hz lz q:Int) (hF:∀ w,Calls Tryz.prog 153 #[wv h l,.int .i64 30] w (RetV (.tuple #[wv hz lz,.int .i64 0]) w))
  (hI:∀ w,Calls Tryz.prog 154 #[wv hz lz] w (RetV (.tuple #[.int .i64 q,.int .i64 0]) w)) (iq:I64 q) (w:World) :
  Calls Tryz.prog 131 #[wv h l] w (RetV (.tuple #[.int .i64 (nz q),.int .i64 (ne q)]) w):=by
 have B0:Below w.heap.size w (w.alloc (Obj.cells #[.int .i64 h,.int .u64 l] 187)):=b_alloc (Below.refl _ _)
 go_enter Tryz.func131,Tryz.ntmps131
 go_wp2_with fail
 refine (hF _).mono ?_
 rintro e5 w5 ⟨rfl,hb5⟩
 replace B0:=b_alloc (o:=(Obj.cells #[.int .i64 hz,.int .u64 lz] 187)) (b_trans B0 hb5)
 clear hb5 hF
 go_wp2_with fail
 refine (hI _).mono ?_
 rintro e6 w6 ⟨rfl,hb6⟩
 replace B0:=b_trans B0 hb6
 clear hb6 hI
 by_cases c:FitP q
 ·have ea:=Lib.hid (fitb_yes c)
  have en:=Lib.hid (nz_of c)
  clear c
  go_wp2_with fail
  refine (fits_any q iq.1 iq.2 _).mono ?_
  rintro e7 w7 ⟨rfl,rfl⟩
  rw [ea.out]
  go_wp2
  go_ret2
  exact ⟨by rw [en.out.1,en.out.2]; rfl,B0⟩
 ·have ea:=Lib.hid (fitb_no c)
  have en:=Lib.hid (nz_no c)
  clear c
  go_wp2_with fail
  refine (fits_any q iq.1 iq.2 _).mono ?_
  rintro e7 w7 ⟨rfl,rfl⟩
  rw [ea.out]
  go_wp2
  go_ret2
  exact ⟨by rw [en.out.1,en.out.2]; rfl,B0⟩
theorem rounded_spr (z:Int) (h:z.natAbs≤2785365088392105618523029504) (w:World) :
  Calls Tryz.prog 131 #[wof z] w (RetV (.tuple #[.int .i64 (nz (evn z 1073741824)),.int .i64 (ne (evn z 1073741824))]) w):=by
 have b:=evn30_bd h
 have e1:(2:Int) ^ (30:Int).toNat=1073741824:=by decide
 exact rounded_go _ _ _ _ _ (fun w=>by have k:=half_any _ _ z 30 (IsW.mk' ⟨by omega,by omega⟩) (by decide) (by decide) w; rw [e1] at k; exact k.mono fun _ _=>retWE_det (IsW.mk' ⟨by omega,by omega⟩))
  (fun w=>by have k:=int_any _ _ (evn z 1073741824) (IsW.mk' ⟨by omega,by omega⟩) w; rwa [(iz_of ⟨by omega,by omega⟩).1,(iz_of ⟨by omega,by omega⟩).2] at k) ⟨by omega,by omega⟩ w
theorem ix_wide (f g:Nat→Int) {k:Nat} (hk:k<6) (w:World):(Instr.index 191 (srv f g) (.int .i64 k)).run Tryz.prog w=.ok (wv (f k) (g k)) w:=by
 rcases (show k=0∨k=1∨k=2∨k=3∨k=4∨k=5 by omega) with rfl | rfl | rfl | rfl | rfl | rfl
 all_goals kernel_rfl
theorem rawn_bd {m:Nat→Int} (h:F6 m) (k:Nat):(rawn m k).natAbs≤2785365088392105618523029504:=by
 have B:∀ i j,(rwn m i j).natAbs≤2785365088392105618523029504:=fun i j=>by
  have:=smT_bd (tmn_bd h i j) (List.range 9)
  simpa [rwn] using this
 unfold rawn
 split <;> exact B _ _
def qun (m:Nat→Int) (k:Nat):Int:=evn (rawn m k) 1073741824
def onz (m:Nat→Int) (d0 d1 d2:Int):Nat→Int:=if F6 m∧F3 d0 d1 d2 then (if F6 (qun m) then sumz (qun m) (dgm d0 d1 d2) else fun _=>0) else fun _=>0
def one (m:Nat→Int) (d0 d1 d2:Int):Int:=if F6 m∧F3 d0 d1 d2 then (if F6 (qun m) then sume (qun m) (dgm d0 d1 d2) else 3) else 1
theorem on_bad {m:Nat→Int} {d0 d1 d2:Int} (h:¬ (F6 m∧F3 d0 d1 d2)):onz m d0 d1 d2=(fun _=>0)∧one m d0 d1 d2=1:=⟨if_neg h,if_neg h⟩
theorem on_far {m:Nat→Int} {d0 d1 d2:Int} (h:F6 m∧F3 d0 d1 d2) (k:¬ F6 (qun m)):onz m d0 d1 d2=(fun _=>0)∧one m d0 d1 d2=3:=⟨(if_pos h).trans (if_neg k),(if_pos h).trans (if_neg k)⟩
theorem on_good {m:Nat→Int} {d0 d1 d2:Int} (h:F6 m∧F3 d0 d1 d2) (k:F6 (qun m)):onz m d0 d1 d2=sumz (qun m) (dgm d0 d1 d2)∧one m d0 d1 d2=sume (qun m) (dgm d0 d1 d2):=⟨(if_pos h).trans (if_pos k),(if_pos h).trans (if_pos k)⟩
structure ON (W:World) (A B R:Nat) (m:Nat→Int) (d0 d1 d2:Int) (U:World):Prop where
 b:Below W.heap.size W U
 a:SC U A m
 d:TC U B d0 d1 d2
 r:SC U R (fun _=>0)
 rf:SF U R
 pl:PL U
theorem on_keep {W U U':World} {A B R:Nat} {m:Nat→Int} {d0 d1 d2:Int} (h:ON W A B R m d0 d1 d2 U) (hb:Below U.heap.size U U'):ON W A B R m d0 d1 d2 U' :=
 ⟨b_trans h.b hb,sc_keep hb h.a,tc_keep hb h.d,sc_keep hb h.r,sf_keep hb h.r h.rf,pl_keep hb h.pl⟩
structure OQ (W:World) (A B R Q:Nat) (m:Nat→Int) (d0 d1 d2:Int) (q:Nat→Int) (k:Nat) (U:World):Prop where
 o:ON W A B R m d0 d1 d2 U
 q:SC U Q (fun i=>if i<k then q i else 0)
 f:SF U Q
theorem oq_keep {W U U':World} {A B R Q:Nat} {m:Nat→Int} {d0 d1 d2:Int} {q:Nat→Int} {k:Nat} (h:OQ W A B R Q m d0 d1 d2 q k U) (hb:Below U.heap.size U U'):OQ W A B R Q m d0 d1 d2 q k U' :=
 ⟨on_keep h.o hb,sc_keep hb h.q,sf_keep hb h.q h.f⟩
theorem oq_put {W U:World} {A B R Q:Nat} {m:Nat→Int} {d0 d1 d2:Int} {q:Nat→Int} {k:Nat} (h:OQ W A B R Q m d0 d1 d2 q k U) (hk:k<6) (z:W.heap.size≤Q) (z0:0<Q) (qa:Q≠A) (qb:Q≠B) (qr:Q≠R) :
  OQ W A B R Q m d0 d1 d2 q (k+1) (U.setCell ⟨Q,k,none⟩ (.int .i64 (q k))):=by
 refine ⟨⟨b_set h.o.b z,sc_set h.o.a qa,tc_set h.o.d qb,sc_set h.o.r qr,sf_set h.o.rf,pl_put h.o.pl z0⟩,?_,sf_set h.f⟩
 intro i hi
 by_cases e:i=k
 ·subst e
  rw [World.cell?_setCell_same' _ _ _ (by rw [h.q i hi]; rfl)]
  dsimp only
  rw [if_pos (by omega)]
 ·rw [World.cell?_setCell_other _ _ _ _ (by intro c; simp at c <;> omega)]
  rw [h.q i hi]
  dsimp only
  by_cases d:i<k
  ·rw [if_pos d,if_pos (by omega)]
  ·rw [if_neg d,if_neg (by omega)]
theorem on_spr_no (m:Nat→Int) (d0 d1 d2:Int) (hm:I6 m) (ca:¬ F6 m) (w:World) (hl:ML w) (hp:PL w) :
  Calls Tryz.prog 62 #[sv m,tv d0 d1 d2] w (RetV (.tuple #[sv (onz m d0 d1 d2),.int .i64 (one m d0 d1 d2)]) w):=by
 have eq:=Lib.hid (on_bad (m:=m) (d0:=d0) (d1:=d1) (d2:=d2) (fun h=>ca h.1))
 have CA:=Lib.hid ca
 clear ca
 have z1:=ml_lt hl
 have zp:=pl_lt hp
 have s0:ON w w.heap.size (w.heap.size+1) (w.heap.size+1+1) m d0 d1 d2 (((w.alloc (Obj.cells #[.int .i64 (m 0),.int .i64 (m 1),.int .i64 (m 2),.int .i64 (m 3),.int .i64 (m 4),.int .i64 (m 5)] 40)).alloc (Obj.cells #[.int .i64 d0,.int .i64 d1,.int .i64 d2] 23)).alloc (Obj.cells #[.int .i64 0,.int .i64 0,.int .i64 0,.int .i64 0,.int .i64 0,.int .i64 0] 40)):=⟨b_alloc (b_alloc (b_alloc (Below.refl _ _))),sc_alloc (sc_alloc (sc_new (w:=w) (m:=m) (t:=40) rfl)),tc_alloc (tc_new (by simp)),sc_new (m:=fun _=>0) (by simp),sf_new (by simp),pl_keep (b_alloc (b_alloc (b_alloc (Below.refl _ _)))) hp⟩
 replace hl:=ml_keep (b_alloc (o:=(Obj.cells #[.int .i64 0,.int .i64 0,.int .i64 0,.int .i64 0,.int .i64 0,.int .i64 0] 40)) (b_alloc (o:=(Obj.cells #[.int .i64 d0,.int .i64 d1,.int .i64 d2] 23)) (b_alloc (o:=(Obj.cells #[.int .i64 (m 0),.int .i64 (m 1),.int .i64 (m 2),.int .i64 (m 3),.int .i64 (m 4),.int .i64 (m 5)] 40)) (Below.refl _ _)))) hl
 clear hp
 have l6:=sc_six s0.a
 go_enter Tryz.func62,Tryz.ntmps62
 go_wp2_with fail
 refine (raw_bad m hm CA.out _ hl s0.pl).mono ?_
 rintro e1 w1 ⟨rfl,hb9⟩
 replace s0:=on_keep s0 hb9
 clear hb9 l6 hl
 replace s0:=on_keep s0 (b_alloc (o:=(Obj.cells #[.int .i64 0,.int .u64 0,.int .i64 0,.int .u64 0,.int .i64 0,.int .u64 0,.int .i64 0,.int .u64 0,.int .i64 0,.int .u64 0,.int .i64 0,.int .u64 0] 191)) (Below.refl _ _))
 have r6:=sc_six s0.r
 have f6:=sf_six s0.rf
 have B9:=s0.b
 clear s0
 go_wp2
 obtain ⟨r0,r1,r2,r3,r4,r5⟩:=r6
 refine bodyPost_ret (v:=.tuple #[sv (fun _=>0),.int .i64 1]) (by simp [results,Tryz.results62,go_sem,r0,r1,r2,r3,r4,r5]) rfl ⟨by rw [eq.out.1,eq.out.2],?_⟩
 exact bb_set B9 (by omega)
theorem on_spr_add (m:Nat→Int) (d0 d1 d2:Int) (hm:I6 m) (hd0:I64 d0) (hd1:I64 d1) (hd2:I64 d2) (ca:F6 m) (cb:¬ F3 d0 d1 d2) (w:World) (hl:ML w) (hp:PL w) :
  Calls Tryz.prog 62 #[sv m,tv d0 d1 d2] w (RetV (.tuple #[sv (onz m d0 d1 d2),.int .i64 (one m d0 d1 d2)]) w):=by
 have eq:=Lib.hid (on_bad (m:=m) (d0:=d0) (d1:=d1) (d2:=d2) (fun h=>cb h.2))
 have CA:=Lib.hid ca
 have eb:=Lib.hid (f3b_no cb)
 clear ca cb
 have z1:=ml_lt hl
 have zp:=pl_lt hp
 have s0:ON w w.heap.size (w.heap.size+1) (w.heap.size+1+1) m d0 d1 d2 (((w.alloc (Obj.cells #[.int .i64 (m 0),.int .i64 (m 1),.int .i64 (m 2),.int .i64 (m 3),.int .i64 (m 4),.int .i64 (m 5)] 40)).alloc (Obj.cells #[.int .i64 d0,.int .i64 d1,.int .i64 d2] 23)).alloc (Obj.cells #[.int .i64 0,.int .i64 0,.int .i64 0,.int .i64 0,.int .i64 0,.int .i64 0] 40)):=⟨b_alloc (b_alloc (b_alloc (Below.refl _ _))),sc_alloc (sc_alloc (sc_new (w:=w) (m:=m) (t:=40) rfl)),tc_alloc (tc_new (by simp)),sc_new (m:=fun _=>0) (by simp),sf_new (by simp),pl_keep (b_alloc (b_alloc (b_alloc (Below.refl _ _)))) hp⟩
 replace hl:=ml_keep (b_alloc (o:=(Obj.cells #[.int .i64 0,.int .i64 0,.int .i64 0,.int .i64 0,.int .i64 0,.int .i64 0] 40)) (b_alloc (o:=(Obj.cells #[.int .i64 d0,.int .i64 d1,.int .i64 d2] 23)) (b_alloc (o:=(Obj.cells #[.int .i64 (m 0),.int .i64 (m 1),.int .i64 (m 2),.int .i64 (m 3),.int .i64 (m 4),.int .i64 (m 5)] 40)) (Below.refl _ _)))) hl
 clear hp
 have l6:=sc_six s0.a
 go_enter Tryz.func62,Tryz.ntmps62
 go_wp2_with fail
 refine (raw_ok m hm CA.out _ hl s0.pl).mono ?_
 rintro e1 w1 ⟨rfl,hb9⟩
 replace s0:=on_keep s0 hb9
 clear hb9 l6 hl
 generalize hin (rawn m)=f at *
 generalize lon (rawn m)=g at *
 replace s0:=on_keep s0 (b_alloc (o:=(Obj.cells #[.int .i64 (f 0),.int .u64 (g 0),.int .i64 (f 1),.int .u64 (g 1),.int .i64 (f 2),.int .u64 (g 2),.int .i64 (f 3),.int .u64 (g 3),.int .i64 (f 4),.int .u64 (g 4),.int .i64 (f 5),.int .u64 (g 5)] 191)) (Below.refl _ _))
 have l3:=s0.d
 go_wp2_with fail
 refine (fits3_vec d0 d1 d2 hd0 hd1 hd2 _).mono ?_
 rintro e2 w2 ⟨rfl,hb9⟩
 rw [eb.out]
 replace s0:=on_keep s0 hb9
 clear hb9 l3
 have r6:=sc_six s0.r
 have f6:=sf_six s0.rf
 have B9:=s0.b
 clear s0
 go_wp2
 obtain ⟨r0,r1,r2,r3,r4,r5⟩:=r6
 refine bodyPost_ret (v:=.tuple #[sv (fun _=>0),.int .i64 1]) (by simp [results,Tryz.results62,go_sem,r0,r1,r2,r3,r4,r5]) rfl ⟨by rw [eq.out.1,eq.out.2],?_⟩
 exact bb_set B9 (by omega)
theorem dgm_i6 {x y z:Int} (hx:I64 x) (hy:I64 y) (hz:I64 z):I6 (dgm x y z):=six (P:=fun i=>I64 (dgm x y z i)) hx (show I64 0 by decide) (show I64 0 by decide) hy (show I64 0 by decide) hz
theorem on_spr_go (m:Nat→Int) (d0 d1 d2:Int) (hm:I6 m) (hd0:I64 d0) (hd1:I64 d1) (hd2:I64 d2) (ca:F6 m) (cb:F3 d0 d1 d2) (w:World) (hl:ML w) (hp:PL w) :
  Calls Tryz.prog 62 #[sv m,tv d0 d1 d2] w (RetV (.tuple #[sv (onz m d0 d1 d2),.int .i64 (one m d0 d1 d2)]) w):=by
 have AB:=Lib.hid (And.intro ca cb)
 have CA:=Lib.hid ca
 have eb:=Lib.hid (f3b_yes cb)
 clear ca cb
 have z1:=ml_lt hl
 have zp:=pl_lt hp
 have s0:ON w w.heap.size (w.heap.size+1) (w.heap.size+1+1) m d0 d1 d2 (((w.alloc (Obj.cells #[.int .i64 (m 0),.int .i64 (m 1),.int .i64 (m 2),.int .i64 (m 3),.int .i64 (m 4),.int .i64 (m 5)] 40)).alloc (Obj.cells #[.int .i64 d0,.int .i64 d1,.int .i64 d2] 23)).alloc (Obj.cells #[.int .i64 0,.int .i64 0,.int .i64 0,.int .i64 0,.int .i64 0,.int .i64 0] 40)):=⟨b_alloc (b_alloc (b_alloc (Below.refl _ _))),sc_alloc (sc_alloc (sc_new (w:=w) (m:=m) (t:=40) rfl)),tc_alloc (tc_new (by simp)),sc_new (m:=fun _=>0) (by simp),sf_new (by simp),pl_keep (b_alloc (b_alloc (b_alloc (Below.refl _ _)))) hp⟩
 replace hl:=ml_keep (b_alloc (o:=(Obj.cells #[.int .i64 0,.int .i64 0,.int .i64 0,.int .i64 0,.int .i64 0,.int .i64 0] 40)) (b_alloc (o:=(Obj.cells #[.int .i64 d0,.int .i64 d1,.int .i64 d2] 23)) (b_alloc (o:=(Obj.cells #[.int .i64 (m 0),.int .i64 (m 1),.int .i64 (m 2),.int .i64 (m 3),.int .i64 (m 4),.int .i64 (m 5)] 40)) (Below.refl _ _)))) hl
 clear hp
 have l6:=sc_six s0.a
 go_enter Tryz.func62,Tryz.ntmps62
 go_wp2_with fail
 refine (raw_ok m hm CA.out _ hl s0.pl).mono ?_
 rintro e1 w1 ⟨rfl,hb9⟩
 replace s0:=on_keep s0 hb9
 clear hb9 l6 hl
 have hz:∀ k,k<6→∀ w,Calls Tryz.prog 131 #[wv (hin (rawn m) k) (lon (rawn m) k)] w (RetV (.tuple #[.int .i64 (nz (qun m k)),.int .i64 (ne (qun m k))]) w):=fun k _ w=>rounded_spr (rawn m k) (rawn_bd CA.out k) w
 have IX:=fun (k:Nat) (hk:k<6)=>ix_wide (hin (rawn m)) (lon (rawn m)) hk
 generalize hin (rawn m)=f at *
 generalize lon (rawn m)=g at *
 have kX:YC (w1.alloc (Obj.cells #[.int .i64 (f 0),.int .u64 (g 0),.int .i64 (f 1),.int .u64 (g 1),.int .i64 (f 2),.int .u64 (g 2),.int .i64 (f 3),.int .u64 (g 3),.int .i64 (f 4),.int .u64 (g 4),.int .i64 (f 5),.int .u64 (g 5)] 191)) w1.heap.size f g:=yc_of (by simp [YC12,go_sem])
 replace s0:=on_keep s0 (b_alloc (o:=(Obj.cells #[.int .i64 (f 0),.int .u64 (g 0),.int .i64 (f 1),.int .u64 (g 1),.int .i64 (f 2),.int .u64 (g 2),.int .i64 (f 3),.int .u64 (g 3),.int .i64 (f 4),.int .u64 (g 4),.int .i64 (f 5),.int .u64 (g 5)] 191)) (Below.refl _ _))
 have l3:=s0.d
 go_wp2_with fail
 refine (fits3_vec d0 d1 d2 hd0 hd1 hd2 _).mono ?_
 rintro e2 w2 ⟨rfl,hb9⟩
 rw [eb.out]
 replace s0:=on_keep s0 hb9
 replace kX:=yc_keep hb9 kX
 clear hb9 l3
 generalize w1.heap.size=X at *
 have zr:=sc_lt s0.r
 have z2:=s0.b.size
 have j0:OQ w w.heap.size (w.heap.size+1) (w.heap.size+1+1) w2.heap.size m d0 d1 d2 (qun m) 0 (w2.alloc (Obj.cells #[.int .i64 0,.int .i64 0,.int .i64 0,.int .i64 0,.int .i64 0,.int .i64 0] 40)):=⟨on_keep s0 (b_alloc (Below.refl _ _)),by rw [show (fun i=>if i<0 then qun m i else 0)=(fun _=>0) by funext i; rw [if_neg (Nat.not_lt_zero i)]]; exact sc_new (m:=fun _=>0) rfl,sf_new rfl⟩
 have x12:=yc_12 (yc_keep (b_alloc (o:=(Obj.cells #[.int .i64 0,.int .i64 0,.int .i64 0,.int .i64 0,.int .i64 0,.int .i64 0] 40)) (Below.refl _ _)) kX)
 clear kX s0
 replace j0:=Lib.hid j0
 go_wp2
 generalize w2.heap.size=Q at *
 clear x12
 go_loopw [27] (fun iv wr=>∃ k:Nat,k≤6∧iv=.int .i64 k∧Hid (OQ w w.heap.size (w.heap.size+1) (w.heap.size+1+1) Q m d0 d1 d2 (qun m) k wr)∧Hid (∀ i,i<k→FitP (qun m i))) (fun iv _=>6 - (intOf iv).toNat)
 case atStart=>exact ⟨0,by decide,rfl,j0,Lib.hid (fun i hi=>absurd hi (by omega))⟩
 case round =>
  obtain ⟨k,hk,rfl,hj,hq⟩:=hrel
  clear j0
  by_cases c:k=6
  ·subst c
   have FQ:=Lib.hid hq.out
   have eq:=Lib.hid (on_good (m:=m) (d0:=d0) (d1:=d1) (d2:=d2) AB.out hq.out)
   have iq:I6 (qun m):=fun i hi=>by have:=hq.out i hi; exact ⟨by omega,by omega⟩
   have id:I6 (dgm d0 d1 d2):=dgm_i6 hd0 hd1 hd2
   have kQ:SC wr Q (qun m):=fun i hi=>by have:=hj.out.q i hi; dsimp only at this; rwa [if_pos hi] at this
   have s0:=hj.out.o
   have cD:=fun w h=>diag_any d0 d1 d2 w h
   have cS:=add_sym (qun m) (dgm d0 d1 d2) iq id
   clear hj hq hd0 hd1 hd2 hz IX iq id
   have r6:=sc_six s0.r
   have f6:=sf_six s0.rf
   go_wp2
   refine region_late [44,45,46,47,48,49] 5 (fun i_ X_ U_=>match i_ with | 0=>X_=sv (qun m) | 1=>X_=tv d0 d1 d2 | 2=>X_=sv (dgm d0 d1 d2) | 3=>X_=.tuple #[sv (sumz (qun m) (dgm d0 d1 d2)),.int .i64 (sume (qun m) (dgm d0 d1 d2))] | 4=>X_=sv (sumz (qun m) (dgm d0 d1 d2)) | 5=>X_=.int .i64 (sume (qun m) (dgm d0 d1 d2)) | _=>True) (fun i_=>false) (by kernel_rfl) (by kernel_rfl) (by kernel_rfl) (by kernel_rfl) ?_ (fun i x w hi ha h=>by cases ha) ?_ ?_ ?_
   ·refine swp (upS (upS (upS (upS (upS (upS up0 ?_) ?_) ?_) ?_) ?_) ?_)
    all_goals exact fun _ _ _ h _=>h
   ·refine upS (upS (upS (upS (upS (upS up0 ?_) ?_) ?_) ?_) ?_) ?_
    all_goals intro v f w' hb hv hB hd
    ·have b8:f.tmps[8]?=some (.pointer (some ⟨Q,0,none⟩)):=(hb 8 (by decide)).trans rfl
     clear hb hv hd
     have c:=sc_six (sc_keep hB kQ)
     refine wpOp_step rfl fun K hK=>?_
     go_simp
     exact hK _ _ ⟨_,rfl,Below.refl _ _,rfl,fun h=>absurd h (by decide)⟩
    ·have b3:f.tmps[3]?=some (.pointer (some ⟨w.heap.size+1,0,none⟩)):=(hb 3 (by decide)).trans rfl
     clear hb hv hd
     have c:=tc_keep hB s0.d
     refine wpOp_step rfl fun K hK=>?_
     go_simp
     exact hK _ _ ⟨_,rfl,Below.refl _ _,rfl,fun h=>absurd h (by decide)⟩
    ·have d1:=got (hv 1 45 rfl) (hd 1 (by kernel_rfl))
     clear hb hv hd
     refine wpOp_call rfl Tryz.call18 (args1 (eval_tmp d1)) (cD _ (pl_keep hB s0.pl)) ?_
     rintro e5 w5 ⟨rfl,hb5⟩
     exact ⟨_,rfl,_,rfl,hb5,rfl,fun h=>absurd h (by decide)⟩
    ·have d0:=got (hv 0 44 rfl) (hd 0 (by kernel_rfl))
     have d2:=got (hv 2 46 rfl) (hd 2 (by kernel_rfl))
     clear hb hv hd
     refine wpOp_call rfl Tryz.call132 (args2 (eval_tmp d0) (eval_tmp d2)) (cS _) ?_
     rintro e5 w5 ⟨rfl,hb5⟩
     exact ⟨_,rfl,_,rfl,hb5,rfl,fun h=>absurd h (by decide)⟩
    ·have d3:=got (hv 3 47 rfl) (hd 3 (by kernel_rfl))
     clear hb hv hd
     refine wpOp_step rfl fun K hK=>?_
     go_simp
     exact hK _ _ ⟨_,rfl,Below.refl _ _,rfl,fun h=>absurd h (by decide)⟩
    ·have d3:=got (hv 3 47 rfl) (hd 3 (by kernel_rfl))
     clear hb hv hd
     refine wpOp_step rfl fun K hK=>?_
     go_simp
     exact hK _ _ ⟨_,rfl,Below.refl _ _,rfl,fun h=>absurd h (by decide)⟩
   ·intro v w' hB hF hD
    have F0:v 0=_:=hF 0 (by simp)
    have F1:v 1=_:=hF 1 (by simp)
    have F2:v 2=_:=hF 2 (by simp)
    have F3:v 3=_:=hF 3 (by simp)
    have F4:v 4=_:=hF 4 (by simp)
    have F5:v 5=_:=hF 5 (by simp)
    clear hF
    simp only [frOf,frGo,Nat.zero_add,Nat.reduceAdd,F0,F1,F2,F3,F4,F5]
    replace s0:=on_keep s0 hB
    clear F0 F1 F2 F3 F4 F5 hD hB cD cS kQ r6 f6
    have r6:=sc_six s0.r
    have f6:=sf_six s0.rf
    have B9:=s0.b
    clear s0
    generalize sumz (qun m) (dgm d0 d1 d2)=x at *
    generalize sume (qun m) (dgm d0 d1 d2)=e at *
    go_wp2
    obtain ⟨r0,r1,r2,r3,r4,r5⟩:=r6
    refine bodyPost_ret (v:=.tuple #[sv x,.int .i64 e]) (by simp [results,Tryz.results62,go_sem,r0,r1,r2,r3,r4,r5]) rfl ⟨by rw [eq.out.1,eq.out.2],?_⟩
    exact bb_set B9 (by omega)
   ·intro v w' hB hF hD
    have F0:v 0=_:=hF 0 (by simp) (by decide)
    have F1:v 1=_:=hF 1 (by simp) (by decide)
    have F2:v 2=_:=hF 2 (by simp) (by decide)
    have F3:v 3=_:=hF 3 (by simp) (by decide)
    have F4:v 4=_:=hF 4 (by simp) (by decide)
    clear hF
    simp only [frOf,frGo,Nat.zero_add,Nat.reduceAdd,F0,F1,F2,F3,F4]
    replace s0:=on_keep s0 hB
    clear F0 F1 F2 F3 F4 hD hB cD cS kQ r6 f6
    have r6:=sc_six s0.r
    have f6:=sf_six s0.rf
    have B9:=s0.b
    clear s0
    generalize sumz (qun m) (dgm d0 d1 d2)=x at *
    generalize sume (qun m) (dgm d0 d1 d2)=e at *
    refine wpOp_step rfl (fun K hK=>?_)
    go_simp
    refine hK _ _ ?_
    clear hK K
    refine wpOp_step rfl (fun K hK=>?_)
    go_simp
    refine hK _ _ ?_
    clear hK K
    go_wp2
    obtain ⟨r0,r1,r2,r3,r4,r5⟩:=r6
    refine bodyPost_ret (v:=.tuple #[sv x,.int .i64 e]) (by simp [results,Tryz.results62,go_sem,r0,r1,r2,r3,r4,r5]) rfl ⟨by rw [eq.out.1,eq.out.2],?_⟩
    exact bb_set B9 (by omega)
  replace hk:k<6:=by omega
  clear c
  have hk0:(0:Int)≤(k:Int):=by omega
  have hk6:(k:Int)<6:=by omega
  have ix:=IX k hk
  have hzk:=hz k hk
  go_wp2_with fail
  refine (hzk _).mono ?_
  rintro e5 w5 ⟨rfl,hb9⟩
  have j1:=oq_keep (oq_keep hj.out (b_alloc (o:=(Obj.cells #[.int .i64 (f k),.int .u64 (g k)] 187)) (Below.refl _ _))) hb9
  clear hb9 hj ix IX hz hzk
  by_cases cq:FitP (qun m k)
  ·have hN:=nz_of cq
   rw [hN.1,hN.2]
   have CQ:=Lib.hid cq
   clear cq hN
   have q1:=j1.q k hk
   have q2:=j1.f k hk
   have j2:=Lib.hid (oq_put j1 hk (by omega) (by omega) (by omega) (by omega) (by omega))
   clear j1
   generalize hqk:qun m k=x at *
   replace hqk:=Lib.hid hqk
   go_wp2
   go_roundw
   case rel=>exact ⟨k+1,hk,by go_num,j2,Lib.hid (less_succ hq.out (by rw [hqk.out]; exact CQ.out))⟩
   case measure=>simp [intOf]; omega
  ·have hN:=nz_no cq
   rw [hN.1,hN.2]
   have eq:=Lib.hid (on_far (m:=m) (d0:=d0) (d1:=d1) (d2:=d2) AB.out (fun h=>cq (h k hk)))
   clear cq hN hq hk0 hk6
   have s0:=j1.o
   clear j1
   have r6:=sc_six s0.r
   have f6:=sf_six s0.rf
   have B9:=s0.b
   clear s0
   go_wp2
   obtain ⟨r0,r1,r2,r3,r4,r5⟩:=r6
   refine bodyPost_ret (v:=.tuple #[sv (fun _=>0),.int .i64 3]) (by simp [results,Tryz.results62,go_sem,r0,r1,r2,r3,r4,r5]) rfl ⟨by rw [eq.out.1,eq.out.2],?_⟩
   exact bb_set B9 (by omega)
theorem on_spr (m:Nat→Int) (d0 d1 d2:Int) (hm:I6 m) (hd0:I64 d0) (hd1:I64 d1) (hd2:I64 d2) (w:World) (hl:ML w) (hp:PL w) :
  Calls Tryz.prog 62 #[sv m,tv d0 d1 d2] w (RetV (.tuple #[sv (onz m d0 d1 d2),.int .i64 (one m d0 d1 d2)]) w):=by
 by_cases ca:F6 m
 ·by_cases cb:F3 d0 d1 d2
  ·exact on_spr_go m d0 d1 d2 hm hd0 hd1 hd2 ca cb w hl hp
  ·exact on_spr_add m d0 d1 d2 hm hd0 hd1 hd2 ca cb w hl hp
 ·exact on_spr_no m d0 d1 d2 hm ca w hl hp
end Go.Proofs.YtjifkmldigemkaaGreatDoor

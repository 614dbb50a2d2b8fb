import Derived.Deep.RegionWith
import Derived.Deep.DeepCutAuto
import Derived.Deep.CutBlock
import Derived.LoopN
import Derived.Laws.Cover1
import Derived.ChangeKeysEq
import Derived.Orders
import Derived.RegionTactic
import Derived.Below
import Derived.StillTactics
import Derived.Laws.Pointers
import Derived.Deep.RegionHeld3
import Derived.Deep.QuietTactic
import Derived.BigQuiet
import Derived.RowKit3
import Derived.Lib.Hide
import Derived.Lib.QuietBelow
import Derived.Laws.Bits64b
import Derived.Test.YtmcchknilnejgaaGreatDoorProg
import Derived.Shelf.Spec.BitsCarry
import Derived.Shelf.Bits.Mul64
import Derived.WalkKit
import Derived.WalkSpells
import Derived.ScopeJumps
import Derived.WalkMore
import Derived.Lib.SmallJoins
import Derived.Deep.WholeRow
import Derived.BigRegion
import Derived.Laws.AppendOwn
import Derived.OwnWalk
import Derived.Defers
import Derived.Tactics
import Derived.RangeFuncNested
import Derived.RangeFuncLeaves
import Derived.RangeFuncCalls
import Derived.Shelf.Abstract
import Derived.OwnWalkIn
import Derived.TacticsInMore
import Derived.LoopNIn
import Derived.LoopIn
import Derived.Deep.LoopGhost
import Derived.Maps.AppendAt
import Derived.Laws.OwnMore
import Derived.Deep.AppendLies
import Derived.DeepKeys
import Derived.Test.YtmcchknilnejgaaGreatDoorPad
import Derived.Test.YtmcchknilnejgaaGreatDoorKbf
import Derived.Test.YtmcchknilnejgaaGreatDoorKbe
import Derived.Test.YtmcchknilnejgaaGreatDoorKar
import Derived.Test.YtmcchknilnejgaaGreatDoorKao
import Derived.Test.YtmcchknilnejgaaGreatDoorKaj
import Derived.Test.YtmcchknilnejgaaGreatDoorKaf
import Derived.Test.YtmcchknilnejgaaGreatDoorPac
import Derived.Test.YtmcchknilnejgaaGreatDoorKae
import Derived.Test.YtmcchknilnejgaaGreatDoorKab
import Derived.Test.YtmcchknilnejgaaGreatDoorKaa
import Derived.Test.YtmcchknilnejgaaGreatDoorKad
import Derived.Test.YtmcchknilnejgaaGreatDoorKac
import Derived.Test.YtmcchknilnejgaaGreatDoorKag
import Derived.Test.YtmcchknilnejgaaGreatDoorKai
import Derived.Test.YtmcchknilnejgaaGreatDoorKah
import Derived.Test.YtmcchknilnejgaaGreatDoorKak
import Derived.Test.YtmcchknilnejgaaGreatDoorPax
import Derived.Test.YtmcchknilnejgaaGreatDoorKan
import Derived.Test.YtmcchknilnejgaaGreatDoorKap
import Derived.Test.YtmcchknilnejgaaGreatDoorPay
import Derived.Test.YtmcchknilnejgaaGreatDoorKaq
import Derived.Test.YtmcchknilnejgaaGreatDoorKas
import Derived.Test.YtmcchknilnejgaaGreatDoorKbd
import Derived.Test.YtmcchknilnejgaaGreatDoorKav
import Derived.Test.YtmcchknilnejgaaGreatDoorKau
import Derived.Test.YtmcchknilnejgaaGreatDoorKat
import Derived.Test.YtmcchknilnejgaaGreatDoorKaw
import Derived.Test.YtmcchknilnejgaaGreatDoorKax
import Derived.Test.YtmcchknilnejgaaGreatDoorKay
import Derived.Test.YtmcchknilnejgaaGreatDoorKaz
import Derived.Test.YtmcchknilnejgaaGreatDoorKbc
import Derived.Test.YtmcchknilnejgaaGreatDoorKbb
import Derived.Test.YtmcchknilnejgaaGreatDoorKba
import Derived.Test.YtmcchknilnejgaaGreatDoorPaz
import Derived.Test.YtmcchknilnejgaaGreatDoorPaa
import Derived.Test.YtmcchknilnejgaaGreatDoorPab
import Derived.Test.YtmcchknilnejgaaGreatDoorKbg
set_option maxHeartbeats 8000000
set_option maxRecDepth 20000
namespace Go.Proofs.YtmcchknilnejgaaGreatDoor
open Go.RowKit Go.Shelf Go.Joins
theorem own_base {w:World} {B:Nat} {t:TypeId} {v:Value} {n:Nat} {xs:List Value} (h:w.ownsRow B t 1 v n xs):w.ownsRow 0 t 1 v n xs:=by
 refine ⟨h.1,?_⟩
 rcases h.2 with h | ⟨g,cap,cur,h1,_,h4⟩
 ·exact Or.inl h
 ·exact Or.inr ⟨g,cap,cur,h1,Nat.zero_le _,h4⟩
theorem eq_nil_nil (w:World):Sem.run Tryz.prog (binOp BinOp.eql 34 (.slice none 0 0) (.slice none 0 0)) w=.ok (.bool true) w:=by kernel_rfl
theorem eq_some_nil (a:Addr) (n c:Nat) (w:World):Sem.run Tryz.prog (binOp BinOp.eql 34 (.slice (some a) n c) (.slice none 0 0)) w=.ok (.bool false) w:=by kernel_rfl
theorem clone_any (v:Value) (n:Nat) (z:Nat→Int) (hn:n≤1000) (w:World) (h:HS w v n z):Calls Tryz.prog 67 #[v] w fun e w'=>∃ v',e=.returned v'∧HS w' v' n z∧(∀ k,v'.ownBlock=some k→w.heap.size≤k)∧Below w.heap.size w w':=by
 obtain ⟨i0,hi,hz0,hz1,hz2⟩:=info_whole
 have q1:=eq_nil_nil
 have q2:=eq_some_nil
 rcases h.2 with ⟨rfl,rfl⟩ | ⟨g,cap,cur,rfl,q⟩
 ·go_enter Tryz.func67,Tryz.ntmps67
  go_wp2
  go_ret
  exact ⟨_,rfl,hs_nil,fun k hk=>(by cases hk),Below.refl _ _⟩
 ·obtain ⟨sa,cap',e,hs⟩:=is_own h
  injection e with e1 e2 e3
  subst e1
  have hr:=Lib.hid (is_keep (b_alloc (o:=Obj.cells #[] 2) (Below.refl _ _)) hs)
  clear h hs q
  go_enter Tryz.func67,Tryz.ntmps67
  go_wp2_with (with_reducible refine stop_at (some 7) rfl ?_)
  refine unstop ?_
  refine wpList_append_ints rfl (.tmp 5) (.tmp 6) 34 rfl w.heap.size 2 i0 (.int .i64 0) 8 Tryz.underlying34 hi hz0 hz1 hz2 rfl _ 0 [] rfl (oi_empty w _) 0 _ n _ z rfl hr.out (by unfold maxLen; omega) (by omega) (by simp) ?_
  intro v1 w1 ho hg
  have HB:=below_grown (a:=w) (b_alloc (Below.refl _ _)) hg (fun q hq=>oi_part (oi_empty w 2) q hq)
  have HP:=oi_part ho
  have HO:HS w1 v1 n z:=by
   have:=own_base ho
   rwa [Nat.zero_add,List.nil_append] at this
  clear ho hg
  go_wp2
  go_ret
  exact ⟨_,rfl,HO,HP,HB⟩
theorem cb_putf {w:World} {b fb gb f1:Nat} {hv:Value} {x:Nat→Int} {m s:Int} {v u:Nat→Int} (h:CB w b fb gb hv x m s v u):CB (w.setCell ⟨b,31,none⟩ (.pointer (some ⟨f1,0,none⟩))) b f1 gb hv x m s v u:=(heap_setCell_same _ b 31 _ _ _ h).trans rfl
theorem cb_putgp {w:World} {b fb gb g1:Nat} {hv:Value} {x:Nat→Int} {m s:Int} {v u:Nat→Int} (h:CB w b fb gb hv x m s v u):CB (w.setCell ⟨b,33,none⟩ (.pointer (some ⟨g1,0,none⟩))) b fb g1 hv x m s v u:=(heap_setCell_same _ b 33 _ _ _ h).trans rfl
theorem ch_made {w:World} {D f g:Nat} {hl:Value} {x:Nat→Int} {C:Cn} (c:CB w D f g hl x C.m C.s C.v C.u) (fr:FR w f x C.l C.r) (gr:GR w g C.g (bd (x 30)) (x 6) (x 7)) (hs:HS w hl C.n C.z) (fg:f<g) (ng:D<g∧∀ k,hl.ownBlock=some k→k<g) (nf:D<f) (nv:∀ k,hl.ownBlock=some k→f<k∧D<k) (u:Up D):CH w D f g hl x C :=
 ⟨c,fr,gr,hs,Nat.ne_of_gt nf,Nat.ne_of_gt ng.1,Nat.ne_of_lt fg,fun k hk=>⟨Nat.ne_of_gt (nv k hk).2,Nat.ne_of_gt (nv k hk).1,Nat.ne_of_lt (ng.2 k hk)⟩,fun k hk=>by
  rcases hk with rfl | rfl | rfl | hk
  ·exact u
  ·exact up_le u (Nat.le_of_lt nf)
  ·exact up_le u (Nat.le_of_lt ng.1)
  ·exact up_le u (Nat.le_of_lt (nv k hk).2)⟩
theorem chcopy_any (b fb gb:Nat) (hl:Value) (x:Nat→Int) (C:Cn) (hn:C.n≤1000) (hg:GK C.g) (w:World) (H:CH w b fb gb hl x C) (T:Tb3 w):Calls Tryz.prog 28 #[.pointer (some ⟨b,0,none⟩)] w fun e w'=>∃ n fb1 gb1 h1,e=.returned (.pointer (some ⟨n,0,none⟩))∧CH w' n fb1 gb1 h1 x C∧w.heap.size≤n∧w.heap.size≤fb1∧w.heap.size≤gb1∧(∀ k,h1.ownBlock=some k→w.heap.size≤k)∧Below w.heap.size w w':=by
 have OWN:Hid (∀ q,Ow b fb gb hl q→q<w.heap.size):=Lib.hid (ch_own H)
 have U0:Hid (Up w.heap.size):=Lib.hid (up_of T (Nat.le_refl _))
 clear T
 obtain ⟨sa,cap,rfl,-⟩:=is_own H.h
 have hlD:b<w.heap.size:=(Array.getElem?_eq_some_iff.1 H.c).1
 have E:=Lib.hid (b_alloc (o:=Obj.cells #[.int .i64 (x 0),.int .i64 (x 1),.int .i64 (x 2),.int .i64 (x 3),.int .i64 (x 4),.int .i64 (x 5),.int .i64 (x 6),.int .i64 (x 7),.int .i64 (x 8),.int .i64 (x 9),.int .i64 (x 10),.int .i64 (x 11),.int .i64 (x 12),.int .i64 (x 13),.int .i64 (x 14),.int .i64 (x 15),.int .i64 (x 16),.int .i64 (x 17),.int .i64 (x 18),.int .i64 (x 19),.int .i64 (x 20),.int .i64 (x 21),.int .i64 (x 22),.int .i64 (x 23),.int .i64 (x 24),.int .i64 (x 25),.int .i64 (x 26),.int .i64 (x 27),.int .i64 (x 28),.int .i64 (x 29),.int .i64 (x 30),.pointer (some ⟨fb,0,none⟩),(.slice sa C.n cap),.pointer (some ⟨gb,0,none⟩),.int .i64 C.m,.int .i64 C.s,.int .i64 (C.v 0),.int .i64 (C.v 1),.int .i64 (C.v 2),.int .i64 (C.u 0),.int .i64 (C.u 1),.int .i64 (C.u 2),.int .i64 (C.u 3),.int .i64 (C.u 4),.int .i64 (C.u 5)] 90) (Below.refl w.heap.size w))
 have d0:CB (w.alloc (Obj.cells #[.int .i64 (x 0),.int .i64 (x 1),.int .i64 (x 2),.int .i64 (x 3),.int .i64 (x 4),.int .i64 (x 5),.int .i64 (x 6),.int .i64 (x 7),.int .i64 (x 8),.int .i64 (x 9),.int .i64 (x 10),.int .i64 (x 11),.int .i64 (x 12),.int .i64 (x 13),.int .i64 (x 14),.int .i64 (x 15),.int .i64 (x 16),.int .i64 (x 17),.int .i64 (x 18),.int .i64 (x 19),.int .i64 (x 20),.int .i64 (x 21),.int .i64 (x 22),.int .i64 (x 23),.int .i64 (x 24),.int .i64 (x 25),.int .i64 (x 26),.int .i64 (x 27),.int .i64 (x 28),.int .i64 (x 29),.int .i64 (x 30),.pointer (some ⟨fb,0,none⟩),(.slice sa C.n cap),.pointer (some ⟨gb,0,none⟩),.int .i64 C.m,.int .i64 C.s,.int .i64 (C.v 0),.int .i64 (C.v 1),.int .i64 (C.v 2),.int .i64 (C.u 0),.int .i64 (C.u 1),.int .i64 (C.u 2),.int .i64 (C.u 3),.int .i64 (C.u 4),.int .i64 (C.u 5)] 90)) w.heap.size fb gb (.slice sa C.n cap) x C.m C.s C.v C.u:=heap_alloc_last _ _
 have HK:=Lib.hid (ch_keep H E.out)
 have kf:=cb_fe HK.out.c
 go_enter Tryz.func28,Tryz.ntmps28
 go_wp2_with (with_reducible refine stop_at (some 8) rfl ?_)
 refine unstop ?_
 refine wpList_load_row rfl 90 (.tmp 7) rfl b rfl 90 _ (0,0) _ H.c Tryz.underlying90 rfl (by kernel_rfl) ?_
 clear H
 go_wp2_with (with_reducible refine stop_at none rfl ?_)
 refine unstop ?_
 refine wpList_store_row rfl 90 (.tmp 3) (.tmp 8) rfl w.heap.size #[.int .i64 (x 0),.int .i64 (x 1),.int .i64 (x 2),.int .i64 (x 3),.int .i64 (x 4),.int .i64 (x 5),.int .i64 (x 6),.int .i64 (x 7),.int .i64 (x 8),.int .i64 (x 9),.int .i64 (x 10),.int .i64 (x 11),.int .i64 (x 12),.int .i64 (x 13),.int .i64 (x 14),.int .i64 (x 15),.int .i64 (x 16),.int .i64 (x 17),.int .i64 (x 18),.int .i64 (x 19),.int .i64 (x 20),.int .i64 (x 21),.int .i64 (x 22),.int .i64 (x 23),.int .i64 (x 24),.int .i64 (x 25),.int .i64 (x 26),.int .i64 (x 27),.int .i64 (x 28),.int .i64 (x 29),.int .i64 (x 30),.pointer (some ⟨fb,0,none⟩),(.slice sa C.n cap),.pointer (some ⟨gb,0,none⟩),.int .i64 C.m,.int .i64 C.s,.int .i64 (C.v 0),.int .i64 (C.v 1),.int .i64 (C.v 2),.int .i64 (C.u 0),.int .i64 (C.u 1),.int .i64 (C.u 2),.int .i64 (C.u 3),.int .i64 (C.u 4),.int .i64 (C.u 5)] rfl rfl 90 _ (heap_alloc_last w _) (by kernel_rfl) rfl (by kernel_rfl) ?_
 rw [World.setRow_alloc_new]
 generalize (w.alloc (Obj.cells #[.int .i64 (x 0),.int .i64 (x 1),.int .i64 (x 2),.int .i64 (x 3),.int .i64 (x 4),.int .i64 (x 5),.int .i64 (x 6),.int .i64 (x 7),.int .i64 (x 8),.int .i64 (x 9),.int .i64 (x 10),.int .i64 (x 11),.int .i64 (x 12),.int .i64 (x 13),.int .i64 (x 14),.int .i64 (x 15),.int .i64 (x 16),.int .i64 (x 17),.int .i64 (x 18),.int .i64 (x 19),.int .i64 (x 20),.int .i64 (x 21),.int .i64 (x 22),.int .i64 (x 23),.int .i64 (x 24),.int .i64 (x 25),.int .i64 (x 26),.int .i64 (x 27),.int .i64 (x 28),.int .i64 (x 29),.int .i64 (x 30),.pointer (some ⟨fb,0,none⟩),(.slice sa C.n cap),.pointer (some ⟨gb,0,none⟩),.int .i64 C.m,.int .i64 C.s,.int .i64 (C.v 0),.int .i64 (C.v 1),.int .i64 (C.v 2),.int .i64 (C.u 0),.int .i64 (C.u 1),.int .i64 (C.u 2),.int .i64 (C.u 3),.int .i64 (C.u 4),.int .i64 (C.u 5)] 90))=z1 at *
 have nbD:b≠w.heap.size:=Nat.ne_of_lt hlD
 have hno:Hid (∀ q,Ow b fb gb (.slice sa C.n cap) q→¬ q=w.heap.size):=Lib.hid (fun q hq e=>by have:=OWN.out q hq; omega)
 replace d0:=Lib.hid d0
 have lD:w.heap.size<z1.heap.size:=(Array.getElem?_eq_some_iff.1 d0.out).1
 go_wp2_with fail
 refine (copy_any fb x C.l C.r _ HK.out.f).mono ?_
 clear kf
 rintro e_ y1 ⟨f1,rfl,hf1,fr1,hb1⟩
 have nf1:f1≠w.heap.size:=by omega
 have nf1b:Hid (w.heap.size<f1):=Lib.hid (by omega)
 replace fr1:=Lib.hid fr1
 replace E:=Lib.hid (b_trans E.out hb1)
 replace d0:=Lib.hid (row_keep hb1 d0.out)
 replace HK:=Lib.hid (ch_keep HK.out hb1)
 replace lD:=Nat.lt_of_lt_of_le lD (Below.size hb1)
 have lf1:f1<y1.heap.size:=(Array.getElem?_eq_some_iff.1 fr1.out).1
 clear hb1 hf1
 have zf:=cb_fz d0.out 31
 have zc:=cb_fe d0.out
 have d1:=Lib.hid ((cb_putf (f1:=f1)) d0.out)
 have kb:But w.heap.size y1 (y1.setCell ⟨w.heap.size,31,none⟩ (.pointer (some ⟨f1,0,none⟩))):=but_set
 have E1:Hid (Below w.heap.size w (y1.setCell ⟨w.heap.size,31,none⟩ (.pointer (some ⟨f1,0,none⟩)))):=Lib.hid (b_set E.out (Nat.le_refl _))
 have HK1:=Lib.hid (ch_chs (S:=fun q=>q=w.heap.size) HK.out (chs_of_but kb rfl) hno.out)
 have fr1_:=Lib.hid (but_row kb nf1 fr1.out)
 have lD1:w.heap.size<(y1.setCell ⟨w.heap.size,31,none⟩ (.pointer (some ⟨f1,0,none⟩))).heap.size:=by simpa using lD
 clear d0 E HK lD kb fr1
 have kh:=cb_he HK1.out.c
 have lf2:f1<(y1.setCell ⟨w.heap.size,31,none⟩ (.pointer (some ⟨f1,0,none⟩))).heap.size:=by simpa using lf1
 clear lf1
 go_wp2_with fail
 generalize (y1.setCell ⟨w.heap.size,31,none⟩ (.pointer (some ⟨f1,0,none⟩)))=z2 at *
 have d0:=d1
 have E:=E1
 have HK:=HK1
 have lD:=lD1
 have fr1:=fr1_
 clear d1 E1 HK1 lD1 zf zc fr1_
 refine (clone_any _ C.n C.z hn z2 HK.out.h).mono ?_
 clear kh
 rintro e_ y2 ⟨v2,rfl,hs2,hv2,hb2⟩
 obtain ⟨sa2,cap2,rfl,-⟩:=is_own hs2
 replace hs2:=Lib.hid hs2
 have nv2:Hid (∀ k,(Value.slice sa2 C.n cap2).ownBlock=some k→f1<k∧w.heap.size<k∧k<y2.heap.size):=Lib.hid (fun k hk=>⟨Nat.lt_of_lt_of_le lf2 (hv2 k hk),Nat.lt_of_lt_of_le lD (hv2 k hk),hs_lt hs2.out k hk⟩)
 have lf3:f1<y2.heap.size:=Nat.lt_of_lt_of_le lf2 hb2.size
 clear hv2 lf2
 replace E:=Lib.hid (b_trans E.out hb2)
 replace d0:=Lib.hid (row_keep hb2 d0.out)
 replace HK:=Lib.hid (ch_keep HK.out hb2)
 replace fr1:=Lib.hid (row_keep hb2 fr1.out)
 replace lD:=Nat.lt_of_lt_of_le lD (Below.size hb2)
 clear hb2
 have zf:=cb_fz d0.out 32
 have zc:=cb_he d0.out
 have d1:=Lib.hid ((cb_puth (hw:=.slice sa2 C.n cap2)) d0.out)
 have kb:But w.heap.size y2 (y2.setCell ⟨w.heap.size,32,none⟩ (.slice sa2 C.n cap2)):=but_set
 have E1:Hid (Below w.heap.size w (y2.setCell ⟨w.heap.size,32,none⟩ (.slice sa2 C.n cap2))):=Lib.hid (b_set E.out (Nat.le_refl _))
 have HK1:=Lib.hid (ch_chs (S:=fun q=>q=w.heap.size) HK.out (chs_of_but kb rfl) hno.out)
 have fr1_:=Lib.hid (but_row kb nf1 fr1.out)
 have hs2_:=Lib.hid (hs_but kb (fun k hk=>Nat.ne_of_gt (nv2.out k hk).2.1) hs2.out)
 have lD1:w.heap.size<(y2.setCell ⟨w.heap.size,32,none⟩ (.slice sa2 C.n cap2)).heap.size:=by simpa using lD
 clear d0 E HK lD kb fr1 hs2
 have sz2:y2.heap.size=(y2.setCell ⟨w.heap.size,32,none⟩ (.slice sa2 C.n cap2)).heap.size:=by simp
 rw [sz2] at nv2 lf3
 clear sz2
 go_wp2_with (with_reducible refine stop_at (some 24) rfl ?_)
 generalize (y2.setCell ⟨w.heap.size,32,none⟩ (.slice sa2 C.n cap2))=z3 at *
 have d0:=d1
 have E:=E1
 have HK:=HK1
 have lD:=lD1
 have fr1:=fr1_
 have hs2:=hs2_
 clear d1 E1 HK1 lD1 zf zc fr1_ hs2_
 refine unstop ?_
 refine wpList_load_part rfl 25 (.tmp 23) rfl b 0 rfl 90 _ #[.int .i64 (x 0),.int .i64 (x 1),.int .i64 (x 2),.int .i64 (x 3),.int .i64 (x 4),.int .i64 (x 5),.int .i64 (x 6),.int .i64 (x 7),.int .i64 (x 8),.int .i64 (x 9),.int .i64 (x 10),.int .i64 (x 11),.int .i64 (x 12),.int .i64 (x 13),.int .i64 (x 14),.int .i64 (x 15),.int .i64 (x 16),.int .i64 (x 17),.int .i64 (x 18),.int .i64 (x 19),.int .i64 (x 20),.int .i64 (x 21),.int .i64 (x 22),.int .i64 (x 23),.int .i64 (x 24),.int .i64 (x 25),.int .i64 (x 26),.int .i64 (x 27),.int .i64 (x 28),.int .i64 (x 29),.int .i64 (x 30)] (0,0) _ HK.out.c (by kernel_rfl) Tryz.underlying25 rfl (by kernel_rfl) ?_
 go_wp2_with fail
 refine (unknown_any x z3).mono ?_
 rintro e_ y3 ⟨g3,rfl,hg3,gr3,hb3⟩
 have ng3:Hid (f1<g3∧w.heap.size<g3∧∀ k,(Value.slice sa2 C.n cap2).ownBlock=some k→k<g3):=Lib.hid ⟨Nat.lt_of_lt_of_le lf3 hg3,Nat.lt_of_lt_of_le lD hg3,fun k hk=>Nat.lt_of_lt_of_le (nv2.out k hk).2.2 hg3⟩
 have nv3:Hid (∀ k,(Value.slice sa2 C.n cap2).ownBlock=some k→f1<k∧w.heap.size<k):=Lib.hid (fun k hk=>⟨(nv2.out k hk).1,(nv2.out k hk).2.1⟩)
 clear nv2 lf3 hg3
 replace gr3:=Lib.hid gr3
 replace E:=Lib.hid (b_trans E.out hb3)
 replace d0:=Lib.hid (row_keep hb3 d0.out)
 replace HK:=Lib.hid (ch_keep HK.out hb3)
 replace fr1:=Lib.hid (row_keep hb3 fr1.out)
 replace hs2:=Lib.hid (hs_keep hb3 hs2.out)
 replace lD:=Nat.lt_of_lt_of_le lD (Below.size hb3)
 clear hb3
 have zf:=cb_fz d0.out 33
 have zc:=cb_gr d0.out
 have d1:=Lib.hid ((cb_putgp (g1:=g3)) d0.out)
 have kb:But w.heap.size y3 (y3.setCell ⟨w.heap.size,33,none⟩ (.pointer (some ⟨g3,0,none⟩))):=but_set
 have E1:Hid (Below w.heap.size w (y3.setCell ⟨w.heap.size,33,none⟩ (.pointer (some ⟨g3,0,none⟩)))):=Lib.hid (b_set E.out (Nat.le_refl _))
 have HK1:=Lib.hid (ch_chs (S:=fun q=>q=w.heap.size) HK.out (chs_of_but kb rfl) hno.out)
 have fr1_:=Lib.hid (but_row kb nf1 fr1.out)
 have gr3_:=Lib.hid (but_row kb (Nat.ne_of_gt ng3.out.2.1) gr3.out)
 have hs2_:=Lib.hid (hs_but kb (fun k hk=>Nat.ne_of_gt (nv3.out k hk).2) hs2.out)
 have lD1:w.heap.size<(y3.setCell ⟨w.heap.size,33,none⟩ (.pointer (some ⟨g3,0,none⟩))).heap.size:=by simpa using lD
 clear d0 E HK lD kb fr1 gr3 hs2
 have kg:=cb_gr HK1.out.c
 go_wp2_with fail
 generalize (y3.setCell ⟨w.heap.size,33,none⟩ (.pointer (some ⟨g3,0,none⟩)))=z4 at *
 have d0:=d1
 have E:=E1
 have HK:=HK1
 have lD:=lD1
 have fr1:=fr1_
 have gr3:=gr3_
 have hs2:=hs2_
 clear d1 E1 HK1 lD1 zf zc fr1_ gr3_ hs2_
 have ka:=Known_any gb C.g (bd (x 30)) (x 6) (x 7) z4 HK.out.g
 by_cases g0:C.g=0
 ·have gd0:decide (C.g≠0)=false:=by simp [g0]
  rw [gd0] at ka
  refine ka.mono ?_
  clear ka kg
  rintro e_ y5 ⟨rfl,hb5⟩
  replace E:=Lib.hid (b_trans E.out hb5)
  replace d0:=Lib.hid (row_keep hb5 d0.out)
  replace HK:=Lib.hid (ch_keep HK.out hb5)
  replace fr1:=Lib.hid (row_keep hb5 fr1.out)
  replace gr3:=Lib.hid (row_keep hb5 gr3.out)
  replace hs2:=Lib.hid (hs_keep hb5 hs2.out)
  replace lD:=Nat.lt_of_lt_of_le lD (Below.size hb5)
  clear hb5
  rw [← g0] at gr3
  go_wp2
  go_ret
  exact ⟨_,f1,g3,_,rfl,ch_made d0.out fr1.out gr3.out hs2.out ng3.out.1 ng3.out.2 nf1b.out nv3.out U0.out,Nat.le_refl _,Nat.le_of_lt nf1b.out,Nat.le_of_lt ng3.out.2.1,fun k hk=>Nat.le_of_lt (nv3.out k hk).2,E.out⟩
 ·have gd0:decide (C.g≠0)=true:=by simp [g0]
  rw [gd0] at ka
  refine ka.mono ?_
  clear ka kg
  rintro e_ y5 ⟨rfl,hb5⟩
  replace E:=Lib.hid (b_trans E.out hb5)
  replace d0:=Lib.hid (row_keep hb5 d0.out)
  replace HK:=Lib.hid (ch_keep HK.out hb5)
  replace fr1:=Lib.hid (row_keep hb5 fr1.out)
  replace gr3:=Lib.hid (row_keep hb5 gr3.out)
  replace hs2:=Lib.hid (hs_keep hb5 hs2.out)
  replace lD:=Nat.lt_of_lt_of_le lD (Below.size hb5)
  clear hb5
  have kd:=cb_gr d0.out
  have cg:gd C.g=true:=hg.resolve_left g0
  have sa3:=set_any g3 0 _ _ _ C.g y5 gr3.out
  rw [(s_ok cg).1] at sa3
  clear cg
  go_wp2_with fail
  refine sa3.mono ?_
  clear sa3 kd
  rintro e_ y6 ⟨rfl,gr4,kb⟩
  replace gr4:=Lib.hid gr4
  have d6:=Lib.hid (but_row kb (Nat.ne_of_lt ng3.out.2.1) d0.out)
  have fr6:=Lib.hid (but_row kb (Nat.ne_of_lt ng3.out.1) fr1.out)
  have hs6:=Lib.hid (hs_but kb (fun k hk=>Nat.ne_of_lt (ng3.out.2.2 k hk)) hs2.out)
  have E6:=Lib.hid (below_but E.out (Nat.le_of_lt ng3.out.2.1) kb)
  clear kb
  go_wp2
  go_ret
  exact ⟨_,f1,g3,_,rfl,ch_made d6.out fr6.out gr4.out hs6.out ng3.out.1 ng3.out.2 nf1b.out nv3.out U0.out,Nat.le_refl _,Nat.le_of_lt nf1b.out,Nat.le_of_lt ng3.out.2.1,fun k hk=>Nat.le_of_lt (nv3.out k hk).2,E6.out⟩
end Go.Proofs.YtmcchknilnejgaaGreatDoor

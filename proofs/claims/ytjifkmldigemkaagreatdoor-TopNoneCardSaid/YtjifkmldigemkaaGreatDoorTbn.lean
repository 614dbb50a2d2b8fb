import Derived.DeepKeys
import Derived.Deep.RegionWith
import Derived.Deep.DeepCutAuto
import Derived.Deep.CutBlock
import Derived.LoopN
import Derived.Laws.Cover1
import Derived.ChangeKeysEq
import Derived.Orders
import Derived.RegionTactic
import Derived.Below
import Derived.StillTactics
import Derived.Laws.Pointers
import Derived.Deep.RegionHeld3
import Derived.Deep.QuietTactic
import Derived.BigQuiet
import Derived.RowKit3
import Derived.Lib.Hide
import Derived.Lib.QuietBelow
import Derived.Laws.Bits64b
import Derived.Test.YtjifkmldigemkaaGreatDoorProg
import Derived.Shelf.Spec.BitsCarry
import Derived.Shelf.Bits.Mul64
import Derived.WalkKit
import Derived.WalkSpells
import Derived.ScopeJumps
import Derived.WalkMore
import Derived.Lib.SmallJoins
import Derived.Deep.WholeRow
import Derived.BigRegion
import Derived.Laws.AppendOwn
import Derived.OwnWalk
import Derived.Defers
import Derived.Tactics
import Derived.RangeFuncNested
import Derived.RangeFuncLeaves
import Derived.RangeFuncCalls
import Derived.Shelf.Abstract
import Derived.OwnWalkIn
import Derived.TacticsInMore
import Derived.LoopNIn
import Derived.LoopIn
import Derived.Deep.LoopGhost
import Derived.Maps.AppendAt
import Derived.Laws.OwnMore
import Derived.Deep.AppendLies
import Derived.Test.YtjifkmldigemkaaGreatDoorTbi
import Derived.Test.YtjifkmldigemkaaGreatDoorTbh
import Derived.Test.YtjifkmldigemkaaGreatDoorTbg
import Derived.Test.YtjifkmldigemkaaGreatDoorTbf
import Derived.Test.YtjifkmldigemkaaGreatDoorTar
import Derived.Test.YtjifkmldigemkaaGreatDoorTao
import Derived.Test.YtjifkmldigemkaaGreatDoorTaj
import Derived.Test.YtjifkmldigemkaaGreatDoorTaf
import Derived.Test.YtjifkmldigemkaaGreatDoorTae
import Derived.Test.YtjifkmldigemkaaGreatDoorTab
import Derived.Test.YtjifkmldigemkaaGreatDoorTaa
import Derived.Test.YtjifkmldigemkaaGreatDoorTad
import Derived.Test.YtjifkmldigemkaaGreatDoorTac
import Derived.Test.YtjifkmldigemkaaGreatDoorTag
import Derived.Test.YtjifkmldigemkaaGreatDoorTai
import Derived.Test.YtjifkmldigemkaaGreatDoorTah
import Derived.Test.YtjifkmldigemkaaGreatDoorTak
import Derived.Test.YtjifkmldigemkaaGreatDoorTbj
import Derived.Test.YtjifkmldigemkaaGreatDoorTan
import Derived.Test.YtjifkmldigemkaaGreatDoorTap
import Derived.Test.YtjifkmldigemkaaGreatDoorTbk
import Derived.Test.YtjifkmldigemkaaGreatDoorTaq
import Derived.Test.YtjifkmldigemkaaGreatDoorTas
import Derived.Test.YtjifkmldigemkaaGreatDoorTbe
import Derived.Test.YtjifkmldigemkaaGreatDoorTbd
import Derived.Test.YtjifkmldigemkaaGreatDoorTav
import Derived.Test.YtjifkmldigemkaaGreatDoorTau
import Derived.Test.YtjifkmldigemkaaGreatDoorTat
import Derived.Test.YtjifkmldigemkaaGreatDoorTaw
import Derived.Test.YtjifkmldigemkaaGreatDoorTax
import Derived.Test.YtjifkmldigemkaaGreatDoorTay
import Derived.Test.YtjifkmldigemkaaGreatDoorTaz
import Derived.Test.YtjifkmldigemkaaGreatDoorTbc
import Derived.Test.YtjifkmldigemkaaGreatDoorTbb
import Derived.Test.YtjifkmldigemkaaGreatDoorTba
import Derived.Test.YtjifkmldigemkaaGreatDoorTbl
import Derived.Test.YtjifkmldigemkaaGreatDoorTbm
import Derived.Test.YtjifkmldigemkaaGreatDoorTam
set_option maxHeartbeats 8000000
set_option maxRecDepth 20000
namespace Go.Proofs.YtjifkmldigemkaaGreatDoor
open Go.RowKit Go.Shelf Go.Joins
abbrev tdl (t:Td):List Value:=[.int .i64 t.m,.bool t.vd,.bool t.ac,.bool t.rf,.bool t.hl,.bool t.gr,.int .i64 t.al,.int .i64 t.sp,.int .i64 t.bi]
def trow (T:Nat→Td):Nat→List Value
 | 0=>[]
 | n+1=>trow T n ++ tdl (T n)
theorem trow_len (T:Nat→Td) (n:Nat):(trow T n).length=n*9:=by
 induction n with
 | zero=>rfl
 | succ n ih=>rw [trow,List.length_append,ih]; simp; omega
theorem trow_at (T:Nat→Td) (n k i:Nat) (h:k<n) (hi:i<9):(trow T n)[k*9+i]?=(tdl (T k))[i]?:=by
 induction n with
 | zero=>omega
 | succ n ih =>
  rw [trow]
  by_cases e:k=n
  ·subst e
   rw [List.getElem?_append_right (by rw [trow_len]; omega),trow_len]
   congr 1
   omega
  ·rw [List.getElem?_append_left (by rw [trow_len]; omega)]
   exact ih (by omega)
theorem info_told:(Tryz.prog.info? 51).map (fun i=>(i.zero,i.size,i.bytes))=some (some (tdv 0 false false false false false 0 0 0),9,40):=by kernel_rfl
theorem td_new (w:World) (T:Td) (t:TypeId):∀ j u,(tdl T)[j]?=some u→(w.alloc (Obj.cells #[.int .i64 T.m,.bool T.vd,.bool T.ac,.bool T.rf,.bool T.hl,.bool T.gr,.int .i64 T.al,.int .i64 T.sp,.int .i64 T.bi] t)).cell? ((⟨w.heap.size,0,none⟩:Addr).add j)=some u:=fun j u hu=>by
 have hadd:(⟨w.heap.size,0,none⟩:Addr).add j=⟨w.heap.size,j,none⟩:=by unfold Addr.add; split <;> simp_all
 rw [hadd,cell_of_row _ _ j _ _ _ (heap_alloc_last w _)]
 simpa using hu
def TR9 (w:World) (g n:Nat) (T:Nat→Td):Prop:=∀ k,k<n→∀ i,i<9→w.cell? ⟨g,k*9+i,none⟩=(tdl (T k))[i]?
theorem tr9_own {w:World} {B g n m cap:Nat} {t:TypeId} {T:Nat→Td} (h:w.ownsRow B t 9 (.slice (some ⟨g,0,none⟩) m cap) n (trow T n)):TR9 w g n T:=fun k hk i hi=>by
 have add:∀ j,(⟨g,0,none⟩:Addr).add j=⟨g,j,none⟩:=fun j=>by unfold Addr.add; split <;> simp_all
 have e:=trow_at T n k i hk hi
 obtain ⟨u,hu⟩:∃ u,(tdl (T k))[i]?=some u:=⟨(tdl (T k))[i]'hi,List.getElem?_eq_getElem _⟩
 have c:=h.cells rfl _ _ (e.trans hu)
 rw [add] at c
 rw [c,hu]
theorem tr9_keep {w w':World} {g n:Nat} {T:Nat→Td} (hb:Below w.heap.size w w') (h:TR9 w g n T):TR9 w' g n T:=fun k hk i hi=>by
 obtain ⟨u,hu⟩:∃ u,(tdl (T k))[i]?=some u:=⟨(tdl (T k))[i]'hi,List.getElem?_eq_getElem _⟩
 have c:=h k hk i hi
 rw [hu] at c ⊢
 exact cell_keep hb c
theorem own_chs {w w':World} {S:Nat→Prop} {B z n:Nat} {t:TypeId} {v:Value} {xs:List Value} (h:Chs S w w') (hn:∀ k,v.ownBlock=some k→¬ S k) (c:w.ownsRow B t z v n xs):w'.ownsRow B t z v n xs:=by
 refine ⟨c.1,?_⟩
 rcases c.2 with q | ⟨g,cap,cur,rfl,h1,h2,h3⟩
 ·exact Or.inl q
 ·exact Or.inr ⟨g,cap,cur,rfl,h1,chs_row h (hn g rfl) h2,h3⟩
end Go.Proofs.YtjifkmldigemkaaGreatDoor
namespace Go.Proofs.YtjifkmldigemkaaGreatDoor
open Go.RowKit Go.Shelf Go.Joins
theorem br_br (h:Bool) (p:Int):br (br h p) (bv h p)=br h p:=by
 rcases three h p with e | e | e
 ·rw [e.2.2.2.1,e.2.2.2.2]; simp [br,e.2.1]
 ·rw [e.2.2.2.1]; rfl
 ·rw [e.2.2.1]; rfl
theorem stp_none (x:Nat→Int) (C:Cn) (a:Int) (h:Bool) (p:Int) (s:Bool):stp x C a (br h p) (bv h p) s=stp x C a h p s:=by
 unfold stp
 rw [br_br]
 by_cases e:br h p=true
 ·rw [(br_gd e).2]
 ·replace e:br h p=false:=by simpa using e
  rw [e]
  unfold mid
  simp
theorem tr9_cells {w:World} {g n:Nat} {T:Nat→Td} (h:TR9 w g n T) {k:Nat} (hk:k<n):w.cell? ⟨g,k*9,none⟩=some (.int .i64 (T k).m)∧w.cell? ⟨g,k*9+1,none⟩=some (.bool (T k).vd)∧w.cell? ⟨g,k*9+2,none⟩=some (.bool (T k).ac)∧w.cell? ⟨g,k*9+3,none⟩=some (.bool (T k).rf)∧w.cell? ⟨g,k*9+4,none⟩=some (.bool (T k).hl)∧w.cell? ⟨g,k*9+5,none⟩=some (.bool (T k).gr)∧w.cell? ⟨g,k*9+6,none⟩=some (.int .i64 (T k).al)∧w.cell? ⟨g,k*9+7,none⟩=some (.int .i64 (T k).sp)∧w.cell? ⟨g,k*9+8,none⟩=some (.int .i64 (T k).bi) :=
 ⟨h k hk 0 (by decide),h k hk 1 (by decide),h k hk 2 (by decide),h k hk 3 (by decide),h k hk 4 (by decide),h k hk 5 (by decide),h k hk 6 (by decide),h k hk 7 (by decide),h k hk 8 (by decide)⟩
end Go.Proofs.YtjifkmldigemkaaGreatDoor
namespace Go.Proofs.YtjifkmldigemkaaGreatDoor
open Go.RowKit Go.Shelf Go.Joins
theorem own_base {w:World} {B:Nat} {t:TypeId} {v:Value} {n:Nat} {xs:List Value} (h:w.ownsRow B t 1 v n xs):w.ownsRow 0 t 1 v n xs:=by
 refine ⟨h.1,?_⟩
 rcases h.2 with h | ⟨g,cap,cur,h1,_,h4⟩
 ·exact Or.inl h
 ·exact Or.inr ⟨g,cap,cur,h1,Nat.zero_le _,h4⟩
theorem eq_nil_nil (w:World):Sem.run Tryz.prog (binOp BinOp.eql 34 (.slice none 0 0) (.slice none 0 0)) w=.ok (.bool true) w:=by kernel_rfl
theorem eq_some_nil (a:Addr) (n c:Nat) (w:World):Sem.run Tryz.prog (binOp BinOp.eql 34 (.slice (some a) n c) (.slice none 0 0)) w=.ok (.bool false) w:=by kernel_rfl
theorem clone_any (v:Value) (n:Nat) (z:Nat→Int) (hn:n≤1000) (w:World) (h:HS w v n z):Calls Tryz.prog 50 #[v] w fun e w'=>∃ v',e=.returned v'∧HS w' v' n z∧(∀ k,v'.ownBlock=some k→w.heap.size≤k)∧Below w.heap.size w w':=by
 obtain ⟨i0,hi,hz0,hz1,hz2⟩:=info_whole
 have q1:=eq_nil_nil
 have q2:=eq_some_nil
 rcases h.2 with ⟨rfl,rfl⟩ | ⟨g,cap,cur,rfl,q⟩
 ·go_enter Tryz.func50,Tryz.ntmps50
  go_wp2
  go_ret
  exact ⟨_,rfl,hs_nil,fun k hk=>(by cases hk),Below.refl _ _⟩
 ·obtain ⟨sa,cap',e,hs⟩:=is_own h
  injection e with e1 e2 e3
  subst e1
  have hr:=Lib.hid (is_keep (b_alloc (o:=Obj.cells #[] 2) (Below.refl _ _)) hs)
  clear h hs q
  go_enter Tryz.func50,Tryz.ntmps50
  go_wp2_with (with_reducible refine stop_at (some 7) rfl ?_)
  refine unstop ?_
  refine wpList_append_ints rfl (.tmp 5) (.tmp 6) 34 rfl w.heap.size 2 i0 (.int .i64 0) 8 Tryz.underlying34 hi hz0 hz1 hz2 rfl _ 0 [] rfl (oi_empty w _) 0 _ n _ z rfl hr.out (by unfold maxLen; omega) (by omega) (by simp) ?_
  intro v1 w1 ho hg
  have HB:=below_grown (a:=w) (b_alloc (Below.refl _ _)) hg (fun q hq=>oi_part (oi_empty w 2) q hq)
  have HP:=oi_part ho
  have HO:HS w1 v1 n z:=by
   have:=own_base ho
   rwa [Nat.zero_add,List.nil_append] at this
  clear ho hg
  go_wp2
  go_ret
  exact ⟨_,rfl,HO,HP,HB⟩
theorem cb_putf {w:World} {b fb gb f1:Nat} {hv:Value} {x:Nat→Int} {m s:Int} {v u:Nat→Int} (h:CB w b fb gb hv x m s v u):CB (w.setCell ⟨b,31,none⟩ (.pointer (some ⟨f1,0,none⟩))) b f1 gb hv x m s v u:=(heap_setCell_same _ b 31 _ _ _ h).trans rfl
theorem cb_putgp {w:World} {b fb gb g1:Nat} {hv:Value} {x:Nat→Int} {m s:Int} {v u:Nat→Int} (h:CB w b fb gb hv x m s v u):CB (w.setCell ⟨b,33,none⟩ (.pointer (some ⟨g1,0,none⟩))) b fb g1 hv x m s v u:=(heap_setCell_same _ b 33 _ _ _ h).trans rfl
theorem ch_made {w:World} {D f g:Nat} {hl:Value} {x:Nat→Int} {C:Cn} (c:CB w D f g hl x C.m C.s C.v C.u) (fr:FR w f x C.l C.r) (gr:GR w g C.g (bd (x 30)) (x 6) (x 7)) (hs:HS w hl C.n C.z) (fg:f<g) (ng:D<g∧∀ k,hl.ownBlock=some k→k<g) (nf:D<f) (nv:∀ k,hl.ownBlock=some k→f<k∧D<k) (u:Up D):CH w D f g hl x C :=
 ⟨c,fr,gr,hs,Nat.ne_of_gt nf,Nat.ne_of_gt ng.1,Nat.ne_of_lt fg,fun k hk=>⟨Nat.ne_of_gt (nv k hk).2,Nat.ne_of_gt (nv k hk).1,Nat.ne_of_lt (ng.2 k hk)⟩,fun k hk=>by
  rcases hk with rfl | rfl | rfl | hk
  ·exact u
  ·exact up_le u (Nat.le_of_lt nf)
  ·exact up_le u (Nat.le_of_lt ng.1)
  ·exact up_le u (Nat.le_of_lt (nv k hk).2)⟩
theorem chcopy_any (b fb gb:Nat) (hl:Value) (x:Nat→Int) (C:Cn) (hn:C.n≤1000) (hg:GK C.g) (w:World) (H:CH w b fb gb hl x C) (T:Tb3 w):Calls Tryz.prog 20 #[.pointer (some ⟨b,0,none⟩)] w fun e w'=>∃ n fb1 gb1 h1,e=.returned (.pointer (some ⟨n,0,none⟩))∧CH w' n fb1 gb1 h1 x C∧w.heap.size≤n∧w.heap.size≤fb1∧w.heap.size≤gb1∧(∀ k,h1.ownBlock=some k→w.heap.size≤k)∧Below w.heap.size w w':=by
 have OWN:Hid (∀ q,Ow b fb gb hl q→q<w.heap.size):=Lib.hid (ch_own H)
 have U0:Hid (Up w.heap.size):=Lib.hid (up_of T (Nat.le_refl _))
 clear T
 obtain ⟨sa,cap,rfl,-⟩:=is_own H.h
 have hlD:b<w.heap.size:=(Array.getElem?_eq_some_iff.1 H.c).1
 have E:=Lib.hid (b_alloc (o:=Obj.cells #[.int .i64 (x 0),.int .i64 (x 1),.int .i64 (x 2),.int .i64 (x 3),.int .i64 (x 4),.int .i64 (x 5),.int .i64 (x 6),.int .i64 (x 7),.int .i64 (x 8),.int .i64 (x 9),.int .i64 (x 10),.int .i64 (x 11),.int .i64 (x 12),.int .i64 (x 13),.int .i64 (x 14),.int .i64 (x 15),.int .i64 (x 16),.int .i64 (x 17),.int .i64 (x 18),.int .i64 (x 19),.int .i64 (x 20),.int .i64 (x 21),.int .i64 (x 22),.int .i64 (x 23),.int .i64 (x 24),.int .i64 (x 25),.int .i64 (x 26),.int .i64 (x 27),.int .i64 (x 28),.int .i64 (x 29),.int .i64 (x 30),.pointer (some ⟨fb,0,none⟩),(.slice sa C.n cap),.pointer (some ⟨gb,0,none⟩),.int .i64 C.m,.int .i64 C.s,.int .i64 (C.v 0),.int .i64 (C.v 1),.int .i64 (C.v 2),.int .i64 (C.u 0),.int .i64 (C.u 1),.int .i64 (C.u 2),.int .i64 (C.u 3),.int .i64 (C.u 4),.int .i64 (C.u 5)] 84) (Below.refl w.heap.size w))
 have d0:CB (w.alloc (Obj.cells #[.int .i64 (x 0),.int .i64 (x 1),.int .i64 (x 2),.int .i64 (x 3),.int .i64 (x 4),.int .i64 (x 5),.int .i64 (x 6),.int .i64 (x 7),.int .i64 (x 8),.int .i64 (x 9),.int .i64 (x 10),.int .i64 (x 11),.int .i64 (x 12),.int .i64 (x 13),.int .i64 (x 14),.int .i64 (x 15),.int .i64 (x 16),.int .i64 (x 17),.int .i64 (x 18),.int .i64 (x 19),.int .i64 (x 20),.int .i64 (x 21),.int .i64 (x 22),.int .i64 (x 23),.int .i64 (x 24),.int .i64 (x 25),.int .i64 (x 26),.int .i64 (x 27),.int .i64 (x 28),.int .i64 (x 29),.int .i64 (x 30),.pointer (some ⟨fb,0,none⟩),(.slice sa C.n cap),.pointer (some ⟨gb,0,none⟩),.int .i64 C.m,.int .i64 C.s,.int .i64 (C.v 0),.int .i64 (C.v 1),.int .i64 (C.v 2),.int .i64 (C.u 0),.int .i64 (C.u 1),.int .i64 (C.u 2),.int .i64 (C.u 3),.int .i64 (C.u 4),.int .i64 (C.u 5)] 84)) w.heap.size fb gb (.slice sa C.n cap) x C.m C.s C.v C.u:=heap_alloc_last _ _
 have HK:=Lib.hid (ch_keep H E.out)
 have kf:=cb_fe HK.out.c
 go_enter Tryz.func20,Tryz.ntmps20
 go_wp2_with (with_reducible refine stop_at (some 8) rfl ?_)
 refine unstop ?_
 refine wpList_load_row rfl 84 (.tmp 7) rfl b rfl 84 _ (0,0) _ H.c Tryz.underlying84 rfl (by kernel_rfl) ?_
 clear H
 go_wp2_with (with_reducible refine stop_at none rfl ?_)
 refine unstop ?_
 refine wpList_store_row rfl 84 (.tmp 3) (.tmp 8) rfl w.heap.size #[.int .i64 (x 0),.int .i64 (x 1),.int .i64 (x 2),.int .i64 (x 3),.int .i64 (x 4),.int .i64 (x 5),.int .i64 (x 6),.int .i64 (x 7),.int .i64 (x 8),.int .i64 (x 9),.int .i64 (x 10),.int .i64 (x 11),.int .i64 (x 12),.int .i64 (x 13),.int .i64 (x 14),.int .i64 (x 15),.int .i64 (x 16),.int .i64 (x 17),.int .i64 (x 18),.int .i64 (x 19),.int .i64 (x 20),.int .i64 (x 21),.int .i64 (x 22),.int .i64 (x 23),.int .i64 (x 24),.int .i64 (x 25),.int .i64 (x 26),.int .i64 (x 27),.int .i64 (x 28),.int .i64 (x 29),.int .i64 (x 30),.pointer (some ⟨fb,0,none⟩),(.slice sa C.n cap),.pointer (some ⟨gb,0,none⟩),.int .i64 C.m,.int .i64 C.s,.int .i64 (C.v 0),.int .i64 (C.v 1),.int .i64 (C.v 2),.int .i64 (C.u 0),.int .i64 (C.u 1),.int .i64 (C.u 2),.int .i64 (C.u 3),.int .i64 (C.u 4),.int .i64 (C.u 5)] rfl rfl 84 _ (heap_alloc_last w _) (by kernel_rfl) rfl (by kernel_rfl) ?_
 rw [World.setRow_alloc_new]
 generalize (w.alloc (Obj.cells #[.int .i64 (x 0),.int .i64 (x 1),.int .i64 (x 2),.int .i64 (x 3),.int .i64 (x 4),.int .i64 (x 5),.int .i64 (x 6),.int .i64 (x 7),.int .i64 (x 8),.int .i64 (x 9),.int .i64 (x 10),.int .i64 (x 11),.int .i64 (x 12),.int .i64 (x 13),.int .i64 (x 14),.int .i64 (x 15),.int .i64 (x 16),.int .i64 (x 17),.int .i64 (x 18),.int .i64 (x 19),.int .i64 (x 20),.int .i64 (x 21),.int .i64 (x 22),.int .i64 (x 23),.int .i64 (x 24),.int .i64 (x 25),.int .i64 (x 26),.int .i64 (x 27),.int .i64 (x 28),.int .i64 (x 29),.int .i64 (x 30),.pointer (some ⟨fb,0,none⟩),(.slice sa C.n cap),.pointer (some ⟨gb,0,none⟩),.int .i64 C.m,.int .i64 C.s,.int .i64 (C.v 0),.int .i64 (C.v 1),.int .i64 (C.v 2),.int .i64 (C.u 0),.int .i64 (C.u 1),.int .i64 (C.u 2),.int .i64 (C.u 3),.int .i64 (C.u 4),.int .i64 (C.u 5)] 84))=z1 at *
 have nbD:b≠w.heap.size:=Nat.ne_of_lt hlD
 have hno:Hid (∀ q,Ow b fb gb (.slice sa C.n cap) q→¬ q=w.heap.size):=Lib.hid (fun q hq e=>by have:=OWN.out q hq; omega)
 replace d0:=Lib.hid d0
 have lD:w.heap.size<z1.heap.size:=(Array.getElem?_eq_some_iff.1 d0.out).1
 go_wp2_with fail
 refine (copy_any fb x C.l C.r _ HK.out.f).mono ?_
 clear kf
 rintro e_ y1 ⟨f1,rfl,hf1,fr1,hb1⟩
 have nf1:f1≠w.heap.size:=by omega
 have nf1b:Hid (w.heap.size<f1):=Lib.hid (by omega)
 replace fr1:=Lib.hid fr1
 replace E:=Lib.hid (b_trans E.out hb1)
 replace d0:=Lib.hid (row_keep hb1 d0.out)
 replace HK:=Lib.hid (ch_keep HK.out hb1)
 replace lD:=Nat.lt_of_lt_of_le lD (Below.size hb1)
 have lf1:f1<y1.heap.size:=(Array.getElem?_eq_some_iff.1 fr1.out).1
 clear hb1 hf1
 have zf:=cb_fz d0.out 31
 have zc:=cb_fe d0.out
 have d1:=Lib.hid ((cb_putf (f1:=f1)) d0.out)
 have kb:But w.heap.size y1 (y1.setCell ⟨w.heap.size,31,none⟩ (.pointer (some ⟨f1,0,none⟩))):=but_set
 have E1:Hid (Below w.heap.size w (y1.setCell ⟨w.heap.size,31,none⟩ (.pointer (some ⟨f1,0,none⟩)))):=Lib.hid (b_set E.out (Nat.le_refl _))
 have HK1:=Lib.hid (ch_chs (S:=fun q=>q=w.heap.size) HK.out (chs_of_but kb rfl) hno.out)
 have fr1_:=Lib.hid (but_row kb nf1 fr1.out)
 have lD1:w.heap.size<(y1.setCell ⟨w.heap.size,31,none⟩ (.pointer (some ⟨f1,0,none⟩))).heap.size:=by simpa using lD
 clear d0 E HK lD kb fr1
 have kh:=cb_he HK1.out.c
 have lf2:f1<(y1.setCell ⟨w.heap.size,31,none⟩ (.pointer (some ⟨f1,0,none⟩))).heap.size:=by simpa using lf1
 clear lf1
 go_wp2_with fail
 generalize (y1.setCell ⟨w.heap.size,31,none⟩ (.pointer (some ⟨f1,0,none⟩)))=z2 at *
 have d0:=d1
 have E:=E1
 have HK:=HK1
 have lD:=lD1
 have fr1:=fr1_
 clear d1 E1 HK1 lD1 zf zc fr1_
 refine (clone_any _ C.n C.z hn z2 HK.out.h).mono ?_
 clear kh
 rintro e_ y2 ⟨v2,rfl,hs2,hv2,hb2⟩
 obtain ⟨sa2,cap2,rfl,-⟩:=is_own hs2
 replace hs2:=Lib.hid hs2
 have nv2:Hid (∀ k,(Value.slice sa2 C.n cap2).ownBlock=some k→f1<k∧w.heap.size<k∧k<y2.heap.size):=Lib.hid (fun k hk=>⟨Nat.lt_of_lt_of_le lf2 (hv2 k hk),Nat.lt_of_lt_of_le lD (hv2 k hk),hs_lt hs2.out k hk⟩)
 have lf3:f1<y2.heap.size:=Nat.lt_of_lt_of_le lf2 hb2.size
 clear hv2 lf2
 replace E:=Lib.hid (b_trans E.out hb2)
 replace d0:=Lib.hid (row_keep hb2 d0.out)
 replace HK:=Lib.hid (ch_keep HK.out hb2)
 replace fr1:=Lib.hid (row_keep hb2 fr1.out)
 replace lD:=Nat.lt_of_lt_of_le lD (Below.size hb2)
 clear hb2
 have zf:=cb_fz d0.out 32
 have zc:=cb_he d0.out
 have d1:=Lib.hid ((cb_puth (hw:=.slice sa2 C.n cap2)) d0.out)
 have kb:But w.heap.size y2 (y2.setCell ⟨w.heap.size,32,none⟩ (.slice sa2 C.n cap2)):=but_set
 have E1:Hid (Below w.heap.size w (y2.setCell ⟨w.heap.size,32,none⟩ (.slice sa2 C.n cap2))):=Lib.hid (b_set E.out (Nat.le_refl _))
 have HK1:=Lib.hid (ch_chs (S:=fun q=>q=w.heap.size) HK.out (chs_of_but kb rfl) hno.out)
 have fr1_:=Lib.hid (but_row kb nf1 fr1.out)
 have hs2_:=Lib.hid (hs_but kb (fun k hk=>Nat.ne_of_gt (nv2.out k hk).2.1) hs2.out)
 have lD1:w.heap.size<(y2.setCell ⟨w.heap.size,32,none⟩ (.slice sa2 C.n cap2)).heap.size:=by simpa using lD
 clear d0 E HK lD kb fr1 hs2
 have sz2:y2.heap.size=(y2.setCell ⟨w.heap.size,32,none⟩ (.slice sa2 C.n cap2)).heap.size:=by simp
 rw [sz2] at nv2 lf3
 clear sz2
 go_wp2_with (with_reducible refine stop_at (some 24) rfl ?_)
 generalize (y2.setCell ⟨w.heap.size,32,none⟩ (.slice sa2 C.n cap2))=z3 at *
 have d0:=d1
 have E:=E1
 have HK:=HK1
 have lD:=lD1
 have fr1:=fr1_
 have hs2:=hs2_
 clear d1 E1 HK1 lD1 zf zc fr1_ hs2_
 refine unstop ?_
 refine wpList_load_part rfl 25 (.tmp 23) rfl b 0 rfl 84 _ #[.int .i64 (x 0),.int .i64 (x 1),.int .i64 (x 2),.int .i64 (x 3),.int .i64 (x 4),.int .i64 (x 5),.int .i64 (x 6),.int .i64 (x 7),.int .i64 (x 8),.int .i64 (x 9),.int .i64 (x 10),.int .i64 (x 11),.int .i64 (x 12),.int .i64 (x 13),.int .i64 (x 14),.int .i64 (x 15),.int .i64 (x 16),.int .i64 (x 17),.int .i64 (x 18),.int .i64 (x 19),.int .i64 (x 20),.int .i64 (x 21),.int .i64 (x 22),.int .i64 (x 23),.int .i64 (x 24),.int .i64 (x 25),.int .i64 (x 26),.int .i64 (x 27),.int .i64 (x 28),.int .i64 (x 29),.int .i64 (x 30)] (0,0) _ HK.out.c (by kernel_rfl) Tryz.underlying25 rfl (by kernel_rfl) ?_
 go_wp2_with fail
 refine (unknown_any x z3).mono ?_
 rintro e_ y3 ⟨g3,rfl,hg3,gr3,hb3⟩
 have ng3:Hid (f1<g3∧w.heap.size<g3∧∀ k,(Value.slice sa2 C.n cap2).ownBlock=some k→k<g3):=Lib.hid ⟨Nat.lt_of_lt_of_le lf3 hg3,Nat.lt_of_lt_of_le lD hg3,fun k hk=>Nat.lt_of_lt_of_le (nv2.out k hk).2.2 hg3⟩
 have nv3:Hid (∀ k,(Value.slice sa2 C.n cap2).ownBlock=some k→f1<k∧w.heap.size<k):=Lib.hid (fun k hk=>⟨(nv2.out k hk).1,(nv2.out k hk).2.1⟩)
 clear nv2 lf3 hg3
 replace gr3:=Lib.hid gr3
 replace E:=Lib.hid (b_trans E.out hb3)
 replace d0:=Lib.hid (row_keep hb3 d0.out)
 replace HK:=Lib.hid (ch_keep HK.out hb3)
 replace fr1:=Lib.hid (row_keep hb3 fr1.out)
 replace hs2:=Lib.hid (hs_keep hb3 hs2.out)
 replace lD:=Nat.lt_of_lt_of_le lD (Below.size hb3)
 clear hb3
 have zf:=cb_fz d0.out 33
 have zc:=cb_gr d0.out
 have d1:=Lib.hid ((cb_putgp (g1:=g3)) d0.out)
 have kb:But w.heap.size y3 (y3.setCell ⟨w.heap.size,33,none⟩ (.pointer (some ⟨g3,0,none⟩))):=but_set
 have E1:Hid (Below w.heap.size w (y3.setCell ⟨w.heap.size,33,none⟩ (.pointer (some ⟨g3,0,none⟩)))):=Lib.hid (b_set E.out (Nat.le_refl _))
 have HK1:=Lib.hid (ch_chs (S:=fun q=>q=w.heap.size) HK.out (chs_of_but kb rfl) hno.out)
 have fr1_:=Lib.hid (but_row kb nf1 fr1.out)
 have gr3_:=Lib.hid (but_row kb (Nat.ne_of_gt ng3.out.2.1) gr3.out)
 have hs2_:=Lib.hid (hs_but kb (fun k hk=>Nat.ne_of_gt (nv3.out k hk).2) hs2.out)
 have lD1:w.heap.size<(y3.setCell ⟨w.heap.size,33,none⟩ (.pointer (some ⟨g3,0,none⟩))).heap.size:=by simpa using lD
 clear d0 E HK lD kb fr1 gr3 hs2
 have kg:=cb_gr HK1.out.c
 go_wp2_with fail
 generalize (y3.setCell ⟨w.heap.size,33,none⟩ (.pointer (some ⟨g3,0,none⟩)))=z4 at *
 have d0:=d1
 have E:=E1
 have HK:=HK1
 have lD:=lD1
 have fr1:=fr1_
 have gr3:=gr3_
 have hs2:=hs2_
 clear d1 E1 HK1 lD1 zf zc fr1_ gr3_ hs2_
 have ka:=Known_any gb C.g (bd (x 30)) (x 6) (x 7) z4 HK.out.g
 by_cases g0:C.g=0
 ·have gd0:decide (C.g≠0)=false:=by simp [g0]
  rw [gd0] at ka
  refine ka.mono ?_
  clear ka kg
  rintro e_ y5 ⟨rfl,hb5⟩
  replace E:=Lib.hid (b_trans E.out hb5)
  replace d0:=Lib.hid (row_keep hb5 d0.out)
  replace HK:=Lib.hid (ch_keep HK.out hb5)
  replace fr1:=Lib.hid (row_keep hb5 fr1.out)
  replace gr3:=Lib.hid (row_keep hb5 gr3.out)
  replace hs2:=Lib.hid (hs_keep hb5 hs2.out)
  replace lD:=Nat.lt_of_lt_of_le lD (Below.size hb5)
  clear hb5
  rw [← g0] at gr3
  go_wp2
  go_ret
  exact ⟨_,f1,g3,_,rfl,ch_made d0.out fr1.out gr3.out hs2.out ng3.out.1 ng3.out.2 nf1b.out nv3.out U0.out,Nat.le_refl _,Nat.le_of_lt nf1b.out,Nat.le_of_lt ng3.out.2.1,fun k hk=>Nat.le_of_lt (nv3.out k hk).2,E.out⟩
 ·have gd0:decide (C.g≠0)=true:=by simp [g0]
  rw [gd0] at ka
  refine ka.mono ?_
  clear ka kg
  rintro e_ y5 ⟨rfl,hb5⟩
  replace E:=Lib.hid (b_trans E.out hb5)
  replace d0:=Lib.hid (row_keep hb5 d0.out)
  replace HK:=Lib.hid (ch_keep HK.out hb5)
  replace fr1:=Lib.hid (row_keep hb5 fr1.out)
  replace gr3:=Lib.hid (row_keep hb5 gr3.out)
  replace hs2:=Lib.hid (hs_keep hb5 hs2.out)
  replace lD:=Nat.lt_of_lt_of_le lD (Below.size hb5)
  clear hb5
  have kd:=cb_gr d0.out
  have cg:gd C.g=true:=hg.resolve_left g0
  have sa3:=set_any g3 0 _ _ _ C.g y5 gr3.out
  rw [(s_ok cg).1] at sa3
  clear cg
  go_wp2_with fail
  refine sa3.mono ?_
  clear sa3 kd
  rintro e_ y6 ⟨rfl,gr4,kb⟩
  replace gr4:=Lib.hid gr4
  have d6:=Lib.hid (but_row kb (Nat.ne_of_lt ng3.out.2.1) d0.out)
  have fr6:=Lib.hid (but_row kb (Nat.ne_of_lt ng3.out.1) fr1.out)
  have hs6:=Lib.hid (hs_but kb (fun k hk=>Nat.ne_of_lt (ng3.out.2.2 k hk)) hs2.out)
  have E6:=Lib.hid (below_but E.out (Nat.le_of_lt ng3.out.2.1) kb)
  clear kb
  go_wp2
  go_ret
  exact ⟨_,f1,g3,_,rfl,ch_made d6.out fr6.out gr4.out hs6.out ng3.out.1 ng3.out.2 nf1b.out nv3.out U0.out,Nat.le_refl _,Nat.le_of_lt nf1b.out,Nat.le_of_lt ng3.out.2.1,fun k hk=>Nat.le_of_lt (nv3.out k hk).2,E6.out⟩
end Go.Proofs.YtjifkmldigemkaaGreatDoor
namespace Go.Proofs.YtjifkmldigemkaaGreatDoor
open Go.RowKit Go.Shelf Go.Joins
noncomputable def itf (x:Nat→Int) (C:Cn) (a p:Nat→Int) (h s:Nat→Bool):Nat→Cn
 | 0=>C
 | k+1=>(stp x (itf x C a p h s k) (a k) (h k) (p k) (s k)).1
noncomputable def otf (x:Nat→Int) (C:Cn) (a p:Nat→Int) (h s:Nat→Bool) (k:Nat):Td:=(stp x (itf x C a p h s k) (a k) (h k) (p k) (s k)).2
theorem ok_itf {x:Nat→Int} (hx:C64 x) (ck:cks x=0) {C:Cn} (k0:Okc C) (a p:Nat→Int) (h s:Nat→Bool):∀ k,Okc (itf x C a p h s k)
 | 0=>k0
 | k+1=>ok_stp hx ck (ok_itf hx ck k0 a p h s k) _ _ _ _
theorem itf_r {x:Nat→Int} {C:Cn} (k0:0≤C.r) (a p:Nat→Int) (h s:Nat→Bool):∀ k:Nat,(itf x C a p h s k).r≤C.r+k
 | 0=>by show C.r≤C.r+((0:Nat):Int); omega
 | k+1=>by
  have i:=itf_r (x:=x) k0 a p h s k
  show (stp x (itf x C a p h s k) (a k) (h k) (p k) (s k)).1.r≤_
  rw [stp_r]
  unfold ar
  split <;> omega
theorem itf_m {x:Nat→Int} {C:Cn} (hm:0≤C.m∧C.m≤3) (a p:Nat→Int) (h s:Nat→Bool):∀ k:Nat,0≤(itf x C a p h s k).m∧(itf x C a p h s k).m≤3
 | 0=>hm
 | k+1=>stp_m (itf_m hm a p h s k) _ _ _ _
theorem tw_otf {x:Nat→Int} (hx:C64 x) (ck:cks x=0) {C:Cn} (k0:Okc C) (hm:0≤C.m∧C.m≤3) (a p:Nat→Int) (h s:Nat→Bool) (k:Nat):Tw (otf x C a p h s k):=tw_stp hx ck (ok_itf hx ck k0 a p h s k) (itf_m hm a p h s k) _ _ _ _
def Far (N:Nat) (F S:Nat→Prop):Prop:=∀ q,q<N→¬ F q→¬ S q
theorem far_0 {N:Nat} {F:Nat→Prop}:Far N F F:=fun _ _ h=>h
theorem far_step {N b fb gb s:Nat} {hl h3:Value} {F:Nat→Prop} (f:Far N F (Ow b fb gb hl)) (q3:∀ k,h3.ownBlock=some k→hl.ownBlock=some k∨s≤k) (l:N≤s):Far N F (Ow b fb gb h3):=fun q hq nf o=>by
 rcases o with o | o | o | o
 ·exact f q hq nf (Or.inl o)
 ·exact f q hq nf (Or.inr (Or.inl o))
 ·exact f q hq nf (Or.inr (Or.inr (Or.inl o)))
 ·rcases q3 q o with o | o
  ·exact f q hq nf (Or.inr (Or.inr (Or.inr o)))
  ·omega
theorem lc_chs {W U U':World} {b fb gb:Nat} {hl:Value} {x:Nat→Int} {C:Cn} {S:Nat→Prop} (h:LC W b fb gb hl x C U) (k:Chs S U U') (n:∀ q,Ow b fb gb hl q→¬ S q) (o:∀ q,S q→W.heap.size≤q) (u:∀ q,S q→Up q):LC W b fb gb hl x C U' :=
 ⟨ch_chs h.c k n,h.o,below_chs h.b k o,t3_chs k u h.t⟩
theorem lc_oth {W U U':World} {b fb gb b1 f1 g1 N:Nat} {hl h1:Value} {x:Nat→Int} {C C1:Cn} {F:Nat→Prop} (h:LC W b fb gb hl x C U) (f:LC W b1 f1 g1 h1 x C1 U) (k:Chs (Ow b1 f1 g1 h1) U U') (far:Far N F (Ow b1 f1 g1 h1)) (kn:∀ q,Ow b fb gb hl q→q<N∧¬ F q):LC W b fb gb hl x C U' :=
 lc_chs h k (fun q hq=>far q (kn q hq).1 (kn q hq).2) f.o (fun q hq=>f.c.up q hq)
theorem lc_copy {W U U':World} {n f g:Nat} {h:Value} {x:Nat→Int} {C:Cn} (B:Below W.heap.size W U) (T:Tb3 U) (c:CH U' n f g h x C) (h0:U.heap.size≤n) (h1:U.heap.size≤f) (h2:U.heap.size≤g) (h3:∀ k,h.ownBlock=some k→U.heap.size≤k) (k:Below U.heap.size U U'):LC W n f g h x C U' :=
 ⟨c,fun q hq=>by
  have:=B.size
  rcases hq with rfl | rfl | rfl | hq
  ·omega
  ·omega
  ·omega
  ·have:=h3 q hq; omega,b_trans B k,t3_keep k T⟩
theorem ow_cop {n f g s:Nat} {h:Value} (h0:s≤n) (h1:s≤f) (h2:s≤g) (h3:∀ k,h.ownBlock=some k→s≤k):∀ q,Ow n f g h q→s≤q:=fun q hq=>by
 rcases hq with rfl | rfl | rfl | hq
 ·exact h0
 ·exact h1
 ·exact h2
 ·exact h3 q hq
theorem told_own {w:World} {B n:Nat} {t:TypeId} {v:Value} {T:Nat→Td} (o:w.ownsRow B t 9 v n (trow T n)):∃ sb cap,v=.slice sb n cap∧cap≤9223372036854775807∧n≤cap∧∀ k,k<n→∃ g,sb=some ⟨g,0,none⟩∧TR9 w g n T:=by
 rcases o.2 with ⟨rfl,rfl⟩ | ⟨g,cap,cur,rfl,hB,hg,hc,hm,hs,ht⟩
 ·exact ⟨none,0,rfl,by decide,Nat.le_refl _,fun k hk=>absurd hk (Nat.not_lt_zero _)⟩
 ·exact ⟨_,cap,rfl,by unfold maxLen at hm; omega,hc,fun k _=>⟨g,rfl,tr9_own o⟩⟩
theorem told_at {w:World} {B n ct k:Nat} {t:TypeId} {st:Option Addr} {T:Nat→Td} (o:w.ownsRow B t 9 (.slice st n ct) n (trow T n)) (hk:k<n):∃ g,st=some ⟨g,0,none⟩∧TR9 w g n T:=by
 obtain ⟨sb,cap,e,_,_,h⟩:=told_own o
 injection e with e0
 obtain ⟨g,e1,q⟩:=h k hk
 exact ⟨g,e0.trans e1,q⟩
theorem csym_eq_self (x0 x1 x2 x3 x4 x5:Int) (w:World):(Op.equalIn 10000 40 (.agg #[.int .i64 x0,.int .i64 x1,.int .i64 x2,.int .i64 x3,.int .i64 x4,.int .i64 x5]) (.agg #[.int .i64 x0,.int .i64 x1,.int .i64 x2,.int .i64 x3,.int .i64 x4,.int .i64 x5])).run Tryz.prog w=.ok true w:=by
 have hs:(Tryz.prog.info? 2).isSome=true:=by kernel_rfl
 obtain ⟨i,hi⟩:=Option.isSome_iff_exists.1 hs
 have hc:Tryz.prog.cellsOf 2=1:=by kernel_rfl
 have hp:Tryz.prog.plainKey 2=true:=by kernel_rfl
 rw [run_equalIn_array w 9999 _ _ Tryz.underlying40 hi]
 rw [hc]
 have P:=fun (k:Nat) (v:Value) (h:(#[Value.int IntKind.i64 x0,Value.int IntKind.i64 x1,Value.int IntKind.i64 x2,Value.int IntKind.i64 x3,Value.int IntKind.i64 x4,Value.int IntKind.i64 x5]:Array Value)[k*1]?=some v) (w:World)=>run_part_plain w hp h
 have E:=fun (a:Int) (w:World)=>run_equalIn_int w 9998 2 .i64 .i64 a a Tryz.underlying2
 simp only [List.range,List.range.loop,Op.eqItems,Sem.run_bind,P 0 _ rfl,Result.andThen_ok]
 simp [P 1 _ rfl,P 2 _ rfl,P 3 _ rfl,P 4 _ rfl,P 5 _ rfl,E]
theorem cell_chs {S:Nat→Prop} {w w':World} (h:Chs S w w') {b o:Nat} {v:Value} (nb:¬ S b) (c:w.cell? ⟨b,o,none⟩=some v):w'.cell? ⟨b,o,none⟩=some v :=
 (World.cell?_of_block (a:=⟨b,o,none⟩) (h.block b (World.block_lt_of_cell? w _ c) nb)).trans c
theorem s13_chs {S:Nat→Prop} {u u':World} {D g o:Nat} {v0 v1 v2 v3 v4 v5 v6 v7 v8 v9 v10 v11 v12:Value} (k:Chs S u u') (nD:¬ S D) (nG:¬ S g):u.cell? ⟨D,0,none⟩=some v0∧u.cell? ⟨D,1,none⟩=some v1∧u.cell? ⟨D,2,none⟩=some v2∧u.cell? ⟨D,3,none⟩=some v3∧u.cell? ⟨g,o,none⟩=some v4∧u.cell? ⟨g,o+1,none⟩=some v5∧u.cell? ⟨g,o+2,none⟩=some v6∧u.cell? ⟨g,o+3,none⟩=some v7∧u.cell? ⟨g,o+4,none⟩=some v8∧u.cell? ⟨g,o+5,none⟩=some v9∧u.cell? ⟨g,o+6,none⟩=some v10∧u.cell? ⟨g,o+7,none⟩=some v11∧u.cell? ⟨g,o+8,none⟩=some v12→u'.cell? ⟨D,0,none⟩=some v0∧u'.cell? ⟨D,1,none⟩=some v1∧u'.cell? ⟨D,2,none⟩=some v2∧u'.cell? ⟨D,3,none⟩=some v3∧u'.cell? ⟨g,o,none⟩=some v4∧u'.cell? ⟨g,o+1,none⟩=some v5∧u'.cell? ⟨g,o+2,none⟩=some v6∧u'.cell? ⟨g,o+3,none⟩=some v7∧u'.cell? ⟨g,o+4,none⟩=some v8∧u'.cell? ⟨g,o+5,none⟩=some v9∧u'.cell? ⟨g,o+6,none⟩=some v10∧u'.cell? ⟨g,o+7,none⟩=some v11∧u'.cell? ⟨g,o+8,none⟩=some v12
 | ⟨h0,h1,h2,h3,h4,h5,h6,h7,h8,h9,h10,h11,h12⟩=>⟨cell_chs k nD h0,cell_chs k nD h1,cell_chs k nD h2,cell_chs k nD h3,cell_chs k nG h4,cell_chs k nG h5,cell_chs k nG h6,cell_chs k nG h7,cell_chs k nG h8,cell_chs k nG h9,cell_chs k nG h10,cell_chs k nG h11,cell_chs k nG h12⟩
theorem s13_keep {u u':World} {D g o:Nat} {v0 v1 v2 v3 v4 v5 v6 v7 v8 v9 v10 v11 v12:Value} (h:u.cell? ⟨D,0,none⟩=some v0∧u.cell? ⟨D,1,none⟩=some v1∧u.cell? ⟨D,2,none⟩=some v2∧u.cell? ⟨D,3,none⟩=some v3∧u.cell? ⟨g,o,none⟩=some v4∧u.cell? ⟨g,o+1,none⟩=some v5∧u.cell? ⟨g,o+2,none⟩=some v6∧u.cell? ⟨g,o+3,none⟩=some v7∧u.cell? ⟨g,o+4,none⟩=some v8∧u.cell? ⟨g,o+5,none⟩=some v9∧u.cell? ⟨g,o+6,none⟩=some v10∧u.cell? ⟨g,o+7,none⟩=some v11∧u.cell? ⟨g,o+8,none⟩=some v12) (k:Below u.heap.size u u'):u'.cell? ⟨D,0,none⟩=some v0∧u'.cell? ⟨D,1,none⟩=some v1∧u'.cell? ⟨D,2,none⟩=some v2∧u'.cell? ⟨D,3,none⟩=some v3∧u'.cell? ⟨g,o,none⟩=some v4∧u'.cell? ⟨g,o+1,none⟩=some v5∧u'.cell? ⟨g,o+2,none⟩=some v6∧u'.cell? ⟨g,o+3,none⟩=some v7∧u'.cell? ⟨g,o+4,none⟩=some v8∧u'.cell? ⟨g,o+5,none⟩=some v9∧u'.cell? ⟨g,o+6,none⟩=some v10∧u'.cell? ⟨g,o+7,none⟩=some v11∧u'.cell? ⟨g,o+8,none⟩=some v12:=s13_chs (S:=fun _=>False) (chs_below k) (fun q=>q) (fun q=>q) h
end Go.Proofs.YtjifkmldigemkaaGreatDoor
namespace Go.Proofs.YtjifkmldigemkaaGreatDoor
def clp (c a:Int):Int:=max (min a c) (-c)
theorem clp_in (c a:Int):inb (clp c a) (1 - c) (c - 1)=inb a (1 - c) (c - 1)∧(inb a (1 - c) (c - 1)=true→clp c a=a):=by
 unfold inb clp
 constructor
 ·rw [Bool.eq_iff_iff]
  simp
  omega
 ·simp
  omega
theorem the_clip (x:Nat→Int) (a:Int):the x (clp (x 26) a)=the x a∧thv x (clp (x 26) a)=thv x a:=by
 obtain ⟨h1,h2⟩:=clp_in (x 26) a
 unfold the thv
 rw [h1]
 by_cases h:inb a (1 - x 26) (x 26 - 1)=true
 ·rw [h2 h]
  exact ⟨rfl,rfl⟩
 ·rw [if_neg h,if_neg h,if_neg h]
  exact ⟨rfl,rfl⟩
theorem stp_clip (x:Nat→Int) (C:Cn) (a:Int) (h:Bool) (p:Int) (s:Bool):stp x C (clp (x 26) a) h p s=stp x C a h p s:=by
 obtain ⟨e1,e2⟩:=the_clip x a
 unfold stp fed ap ah aq ar ah
 rw [e1,e2]
theorem stp_top (x:Nat→Int) (C:Cn) (a:Int) (h:Bool) (p:Int) (s:Bool):stp x C (clp (x 26) a) (br h p) (bv h p) s=stp x C a h p s:=by
 rw [stp_clip,stp_none]
end Go.Proofs.YtjifkmldigemkaaGreatDoor

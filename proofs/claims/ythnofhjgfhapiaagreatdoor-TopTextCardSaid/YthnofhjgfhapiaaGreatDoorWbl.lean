import Derived.Test.YthnofhjgfhapiaaGreatDoorShelf
import Derived.Lib.AppendIntMem
import Derived.Lib.ItoaLen
import Derived.Lib.Slices
import Derived.Orders
import Derived.RegionTactic
import Derived.Below
import Derived.LoopN
import Derived.Laws.Cover1
import Derived.ChangeKeysEq
import Derived.StillTactics
import Derived.Laws.Pointers
import Derived.Deep.RegionHeld3
import Derived.Deep.QuietTactic
import Derived.BigQuiet
import Derived.RowKit3
import Derived.Lib.Hide
import Derived.Lib.QuietBelow
import Derived.Laws.Bits64b
import Derived.Test.YthnofhjgfhapiaaGreatDoorProg
import Derived.Shelf.Spec.BitsCarry
import Derived.Shelf.Bits.Mul64
import Derived.WalkKit
import Derived.WalkSpells
import Derived.ScopeJumps
import Derived.WalkMore
import Derived.WalkLawsBesides
import Derived.Test.YthnofhjgfhapiaaGreatDoorWbj
import Derived.Test.YthnofhjgfhapiaaGreatDoorWac
import Derived.Test.YthnofhjgfhapiaaGreatDoorWbk
import Derived.Test.YthnofhjgfhapiaaGreatDoorWab
import Derived.Test.YthnofhjgfhapiaaGreatDoorWaf
import Derived.Test.YthnofhjgfhapiaaGreatDoorWae
import Derived.Test.YthnofhjgfhapiaaGreatDoorWaa
import Derived.Test.YthnofhjgfhapiaaGreatDoorWad
import Derived.Test.YthnofhjgfhapiaaGreatDoorWbi
set_option maxHeartbeats 2000000
namespace Go.Proofs.YthnofhjgfhapiaaGreatDoor
open Go.RowKit Go.Shelf Go.Lib
abbrev Thrown (w:World):Ending→World→Prop:=fun e w'=>e=.panicked [{ v:=.iface 28 (.int .i64 6),recovered:=false }]∧Below w.heap.size w w'
theorem after_ok (s p:ByteArray) (r:List UInt8) (w:World) (h:s.data.toList=p.data.toList ++ r) :
  Calls Tryz.prog 84 #[.string s,.string p] w fun e w'=>e=.returned (.string ⟨r.toArray⟩)∧w'=w:=by
 have HC:=cut_ok s p r w h
 clear h
 go_enter Tryz.func84,Tryz.ntmps84
 go_wp2_with (first | (go_at_call 120; refine HC.mono ?_; rintro e w' ⟨rfl,hw⟩; rw [hw]))
 go_ret
 exact ⟨rfl,rfl⟩
theorem after_bad (s p:ByteArray) (w:World) (h:∀ r,s.data.toList≠p.data.toList ++ r) :
  Calls Tryz.prog 84 #[.string s,.string p] w (Thrown w):=by
 have HC:=cut_bad s p w h
 clear h
 go_enter Tryz.func84,Tryz.ntmps84
 go_wp2_with (first | (go_at_call 120; refine HC.mono ?_; rintro e w' ⟨x,rfl,hw⟩; rw [hw]))
 exact ⟨rfl,rfl,Below.refl _ _⟩
theorem drewn_below (w:World) (n:Nat):Below w.heap.size w (w.drewN n):=⟨rfl,rfl,rfl,Nat.le_refl _,fun _ _=>rfl⟩
theorem idx_num (l:List UInt8) (c:UInt8) (r:List UInt8) (hl:∀ b ∈ l,¬ Sep b) (hc:Sep c):Lib.indexAny (l ++ c :: r) [32,10]=(l.length:Int):=by
 refine Lib.indexAny_hit (i:=l.length) (x:=c) (fun j b hj hb=>(sep_out b).2 (hl b ?_)) (by simp) ((sep_in c).2 hc)
 rw [List.getElem?_append_left hj] at hb
 exact List.mem_of_getElem? hb
theorem idx_cases (l:List UInt8):(∃ p c r,l=p ++ c :: r∧(∀ b ∈ p,¬ Sep b)∧Sep c)∨(Lib.indexAny l [32,10]=-1):=by
 induction l with
 | nil=>exact Or.inr rfl
 | cons b l ih =>
  by_cases hb:Sep b
  ·exact Or.inl ⟨[],b,l,rfl,by simp,hb⟩
  ·rcases ih with ⟨p,c,r,e,hp,hc⟩ | h
   ·refine Or.inl ⟨b :: p,c,r,by rw [e]; rfl,?_,hc⟩
    intro x hx
    rcases List.mem_cons.1 hx with rfl | hx
    ·exact hb
    ·exact hp x hx
   ·refine Or.inr ?_
    rw [Lib.indexAny,if_neg (by rw [(sep_out b).2 hb]; decide),h]
    rfl
theorem number_ok (s:ByteArray) (u:Int) (c:UInt8) (r:List UInt8) (w:World) (ev:EV w) (hs:s.size≤3000) (hv:R64 u) (hc:Sep c) (h:s.data.toList=Lib.itoa u ++ c :: r) :
  Calls Tryz.prog 85 #[.string s] w (RetV (.tuple #[.int .i64 u,.string ⟨(c :: r).toArray⟩]) w):=by
 obtain ⟨k,hk⟩:∃ k,(Lib.itoa u).length=k:=⟨_,rfl⟩
 have hi:Lib.indexAny s.data.toList [32,10]=(k:Int):=by rw [h,idx_num _ _ _ (itoa_nosep u) hc,hk]
 have hks:k≤s.size:=by rw [Lib.size_eq,h,List.length_append]; omega
 obtain ⟨pb,hpb⟩:∃ pb,s.extract 0 k=pb:=⟨_,rfl⟩
 obtain ⟨rb,hrb⟩:∃ rb,s.extract k s.size=rb:=⟨_,rfl⟩
 have hpl:pb=⟨(Lib.itoa u).toArray⟩:=by
  apply bytes_ext
  rw [← hpb,Lib.extract_data,h,← hk]
  simp
 have hrl:rb=⟨(c :: r).toArray⟩:=by
  apply bytes_ext
  rw [← hrb,Lib.extract_data,Lib.size_eq,h,← hk]
  simp
 have hps:pb.size≤3000:=by rw [← hpb,ByteArray.size_extract]; omega
 have cI:∀ w,Calls Tryz.prog 121 #[.string s,.string bl] w (RetV (.int .i64 (k:Int)) w):=fun w=>by rw [← hi]; exact index_any s w (by omega)
 have cP:∀ w,Calls Tryz.prog 122 #[.string pb,.int .i64 10,.int .i64 64] w (RetV (.tuple #[.int .i64 u,.nilIface]) w):=fun w=>parse_ok pb u w hps (by rw [hpl,mk_list]; exact parse_itoa u hv)
 have hki:(k:Int)≤(s.size:Int):=by omega
 have hk0:¬ ((k:Int)<0):=by omega
 rw [← hrl]
 have HK:=Lib.hid hk
 have HI:=Lib.hid hi
 have HP:=Lib.hid hpl
 have HR:=Lib.hid hrl
 have HH:=Lib.hid h
 clear hk hi hpl hrl h
 go_enter Tryz.func85,Tryz.ntmps85
 go_wp2_with (first | (go_at_call 121; refine (cI _).mono ?_; rintro e w1 ⟨rfl,hb1⟩) | (go_at_call 122; refine (cP _).mono ?_; rintro e w2 ⟨rfl,hb2⟩))
 have ev2:=ev_keep (b_trans hb1 hb2) ev
 obtain ⟨fb,hfb⟩:∃ fb,fb=pb:=⟨_,rfl⟩
 have cF:∀ w,EV w→Calls Tryz.prog 123 #[.int .i64 u,.int .i64 10] w (RetV (.string fb) w):=fun w e=>by rw [hfb,HP.out]; exact format_int u w hv e
 have hne:(!(fb.toList == pb.toList))=false:=by rw [hfb]; simp
 have HF:=Lib.hid hfb
 have EV2:=Lib.hid ev
 clear hfb ev cI cP
 refine region_each [19,20,21,22,23,24,25,26,27,28] (fun i_ X_ U_=>match i_ with | 0=>X_=.nilIface | 1=>X_=.bool false | 2=>X_=.bool false | 3=>X_=.int .i64 u | 4=>X_=.string fb | 5=>X_=.string s | 6=>X_=.int .i64 (k:Int) | 7=>X_=.string pb | 8=>X_=.bool false | 9=>X_=.bool false | _=>True) (fun i_=>false) (by kernel_rfl) (by kernel_rfl) (by kernel_rfl) (by kernel_rfl) (by kernel_rfl) ?_ (fun i x w hi ha h=>by cases ha) ?_ ?_
 ·refine swp (upS (upS (upS (upS (upS (upS (upS (upS (upS (upS up0 ?_) ?_) ?_) ?_) ?_) ?_) ?_) ?_) ?_) ?_)
  all_goals exact fun _ _ _ h _=>h
 ·refine upS (upS (upS (upS (upS (upS (upS (upS (upS (upS up0 ?_) ?_) ?_) ?_) ?_) ?_) ?_) ?_) ?_) ?_
  all_goals intro v f w' hb hv hB hd
  ·have b6:f.tmps[6]?=some (.nilIface):=(hb 6 (by decide)).trans rfl
   clear hb hv hd
   refine wpOp_step rfl fun K hK=>?_
   go_simp
   exact hK _ _ ⟨_,rfl,Below.refl _ _,rfl,fun h=>absurd h (by decide)⟩
  ·have d0:=got (hv 0 19 rfl) (hd 0 (by kernel_rfl))
   clear hb hv hd
   refine wpOp_step rfl fun K hK=>?_
   go_simp
   exact hK _ _ ⟨_,rfl,Below.refl _ _,rfl,fun h=>absurd h (by decide)⟩
  ·have d1:=got (hv 1 20 rfl) (hd 1 (by kernel_rfl))
   clear hb hv hd
   refine wpOp_step rfl fun K hK=>?_
   go_simp
   exact hK _ _ ⟨_,rfl,Below.refl _ _,rfl,fun h=>absurd h (by decide)⟩
  ·have b5:f.tmps[5]?=some (.int .i64 u):=(hb 5 (by decide)).trans rfl
   have d2:=got (hv 2 21 rfl) (hd 2 (by kernel_rfl))
   clear hb hv hd
   refine wpOp_step rfl fun K hK=>?_
   go_simp
   exact hK _ _ ⟨_,rfl,Below.refl _ _,rfl,fun h=>absurd h (by decide)⟩
  ·have d3:=got (hv 3 22 rfl) (hd 3 (by kernel_rfl))
   have d2:=got (hv 2 21 rfl) (hd 2 (by kernel_rfl))
   clear hb hv hd
   refine wpOp_callg rfl (yields rfl rfl d2) Tryz.call123 (args2 (eval_tmp d3) rfl) (cF _ (ev_keep hB ev2)) ?_
   rintro e5 w5 ⟨rfl,hb5⟩
   exact ⟨_,rfl,_,rfl,hb5,rfl,fun h=>absurd h (by decide)⟩
  ·have b0:f.tmps[0]?=some (.string s):=(hb 0 (by decide)).trans rfl
   have d2:=got (hv 2 21 rfl) (hd 2 (by kernel_rfl))
   clear hb hv hd
   refine wpOp_step rfl fun K hK=>?_
   go_simp
   exact hK _ _ ⟨_,rfl,Below.refl _ _,rfl,fun h=>absurd h (by decide)⟩
  ·have b4:f.tmps[4]?=some (.int .i64 (k:Int)):=(hb 4 (by decide)).trans rfl
   have d2:=got (hv 2 21 rfl) (hd 2 (by kernel_rfl))
   clear hb hv hd
   refine wpOp_step rfl fun K hK=>?_
   go_simp
   exact hK _ _ ⟨_,rfl,Below.refl _ _,rfl,fun h=>absurd h (by decide)⟩
  ·have d5:=got (hv 5 24 rfl) (hd 5 (by kernel_rfl))
   have d6:=got (hv 6 25 rfl) (hd 6 (by kernel_rfl))
   have d2:=got (hv 2 21 rfl) (hd 2 (by kernel_rfl))
   clear hb hv hd
   refine wpOp_step rfl fun K hK=>?_
   go_simp
   exact hK _ _ ⟨_,rfl,Below.refl _ _,rfl,fun h=>absurd h (by decide)⟩
  ·have d4:=got (hv 4 23 rfl) (hd 4 (by kernel_rfl))
   have d7:=got (hv 7 26 rfl) (hd 7 (by kernel_rfl))
   have d2:=got (hv 2 21 rfl) (hd 2 (by kernel_rfl))
   clear hb hv hd
   refine wpOp_step rfl fun K hK=>?_
   go_simp
   exact hK _ _ ⟨_,rfl,Below.refl _ _,rfl,fun h=>absurd h (by decide)⟩
  ·have d2:=got (hv 2 21 rfl) (hd 2 (by kernel_rfl))
   have d8:=got (hv 8 27 rfl) (hd 8 (by kernel_rfl))
   clear hb hv hd
   refine wpOp_step rfl fun K hK=>?_
   go_simp
   exact hK _ _ ⟨_,rfl,Below.refl _ _,rfl,fun h=>absurd h (by decide)⟩
 ·intro v w' hB hF hD
  have F0:v 0=_:=hF 0 (by simp)
  have F1:v 1=_:=hF 1 (by simp)
  have F2:v 2=_:=hF 2 (by simp)
  have F3:v 3=_:=hF 3 (by simp)
  have F4:v 4=_:=hF 4 (by simp)
  have F5:v 5=_:=hF 5 (by simp)
  have F6:v 6=_:=hF 6 (by simp)
  have F7:v 7=_:=hF 7 (by simp)
  have F8:v 8=_:=hF 8 (by simp)
  have F9:v 9=_:=hF 9 (by simp)
  clear hF
  simp only [frOf,frGo,Nat.zero_add,Nat.reduceAdd,F0,F1,F2,F3,F4,F5,F6,F7,F8,F9]
  rw [List.drop_eq_nil_of_le (by simp)]
  refine wpList_end ?_
  simp only [Act.put,List.setIfInBounds_toArray,List.set_cons_zero,List.set_cons_succ]
  clear F0 F1 F2 F3 F4 F5 F6 F7 F8 F9 hD
  have hb3:=hB
  clear hB
  go_wp2
  go_quiet (fail)
  go_wp2
  go_ret2
  exact ⟨rfl,b_trans (b_trans (b_trans hb1 hb2) hb3) (drewn_below _ _)⟩
theorem number_none (s:ByteArray) (w:World) (hs:s.size≤3000) (hi:Lib.indexAny s.data.toList [32,10]=-1) :
  Calls Tryz.prog 85 #[.string s] w (Thrown w):=by
 have cI:∀ w,Calls Tryz.prog 121 #[.string s,.string bl] w (RetV (.int .i64 (-1)) w):=fun w=>by rw [← hi]; exact index_any s w (by omega)
 clear hi
 go_enter Tryz.func85,Tryz.ntmps85
 go_wp2_with (first | (go_at_call 121; refine (cI _).mono ?_; rintro e w1 ⟨rfl,hb1⟩))
 exact ⟨rfl,rfl,hb1⟩
theorem number_other (s:ByteArray) (p:List UInt8) (c:UInt8) (r:List UInt8) (u:Int) (w:World) (ev:EV w) (hs:s.size≤3000) (hp:∀ b ∈ p,¬ Sep b) (hc:Sep c) (h:s.data.toList=p ++ c :: r)
  (hu:Lib.parseIntB 64 p=.ok u) (hv:R64 u) (hn:Lib.itoa u≠p) :
  Calls Tryz.prog 85 #[.string s] w (Thrown w):=by
 obtain ⟨k,hk⟩:∃ k,p.length=k:=⟨_,rfl⟩
 have hi:Lib.indexAny s.data.toList [32,10]=(k:Int):=by rw [h,idx_num _ _ _ hp hc,hk]
 have hks:k≤s.size:=by rw [Lib.size_eq,h,List.length_append]; omega
 obtain ⟨pb,hpb⟩:∃ pb,s.extract 0 k=pb:=⟨_,rfl⟩
 have hpl:pb=⟨p.toArray⟩:=by
  apply bytes_ext
  rw [← hpb,Lib.extract_data,h,← hk]
  simp
 have hps:pb.size≤3000:=by rw [← hpb,ByteArray.size_extract]; omega
 have cI:∀ w,Calls Tryz.prog 121 #[.string s,.string bl] w (RetV (.int .i64 (k:Int)) w):=fun w=>by rw [← hi]; exact index_any s w (by omega)
 have cP:∀ w,Calls Tryz.prog 122 #[.string pb,.int .i64 10,.int .i64 64] w (RetV (.tuple #[.int .i64 u,.nilIface]) w):=fun w=>parse_ok pb u w hps (by rw [hpl,mk_list]; exact hu)
 have hki:(k:Int)≤(s.size:Int):=by omega
 have hk0:¬ ((k:Int)<0):=by omega
 have HK:=Lib.hid hk
 have HI:=Lib.hid hi
 have HP:=Lib.hid hpl
 have HH:=Lib.hid h
 have HU:=Lib.hid hu
 have HN:=Lib.hid hn
 have HQ:=Lib.hid hp
 clear hk hi hpl h hu hn hp
 go_enter Tryz.func85,Tryz.ntmps85
 go_wp2_with (first | (go_at_call 121; refine (cI _).mono ?_; rintro e w1 ⟨rfl,hb1⟩) | (go_at_call 122; refine (cP _).mono ?_; rintro e w2 ⟨rfl,hb2⟩))
 have ev2:=ev_keep (b_trans hb1 hb2) ev
 obtain ⟨fb,hfb⟩:∃ fb:ByteArray,fb=⟨(Lib.itoa u).toArray⟩:=⟨_,rfl⟩
 have cF:∀ w,EV w→Calls Tryz.prog 123 #[.int .i64 u,.int .i64 10] w (RetV (.string fb) w):=fun w e=>by rw [hfb]; exact format_int u w hv e
 have hne:(!(fb.toList == pb.toList))=true:=by
  rw [Lib.toList_data,Lib.toList_data,hfb,HP.out]
  simpa using HN.out
 have HF:=Lib.hid hfb
 have EV2:=Lib.hid ev
 clear hfb ev cI cP
 refine region_each [19,20,21,22,23,24,25,26,27,28] (fun i_ X_ U_=>match i_ with | 0=>X_=.nilIface | 1=>X_=.bool false | 2=>X_=.bool false | 3=>X_=.int .i64 u | 4=>X_=.string fb | 5=>X_=.string s | 6=>X_=.int .i64 (k:Int) | 7=>X_=.string pb | 8=>X_=.bool true | 9=>X_=.bool true | _=>True) (fun i_=>false) (by kernel_rfl) (by kernel_rfl) (by kernel_rfl) (by kernel_rfl) (by kernel_rfl) ?_ (fun i x w hi ha h=>by cases ha) ?_ ?_
 ·refine swp (upS (upS (upS (upS (upS (upS (upS (upS (upS (upS up0 ?_) ?_) ?_) ?_) ?_) ?_) ?_) ?_) ?_) ?_)
  all_goals exact fun _ _ _ h _=>h
 ·refine upS (upS (upS (upS (upS (upS (upS (upS (upS (upS up0 ?_) ?_) ?_) ?_) ?_) ?_) ?_) ?_) ?_) ?_
  all_goals intro v f w' hb hv hB hd
  ·have b6:f.tmps[6]?=some (.nilIface):=(hb 6 (by decide)).trans rfl
   clear hb hv hd
   refine wpOp_step rfl fun K hK=>?_
   go_simp
   exact hK _ _ ⟨_,rfl,Below.refl _ _,rfl,fun h=>absurd h (by decide)⟩
  ·have d0:=got (hv 0 19 rfl) (hd 0 (by kernel_rfl))
   clear hb hv hd
   refine wpOp_step rfl fun K hK=>?_
   go_simp
   exact hK _ _ ⟨_,rfl,Below.refl _ _,rfl,fun h=>absurd h (by decide)⟩
  ·have d1:=got (hv 1 20 rfl) (hd 1 (by kernel_rfl))
   clear hb hv hd
   refine wpOp_step rfl fun K hK=>?_
   go_simp
   exact hK _ _ ⟨_,rfl,Below.refl _ _,rfl,fun h=>absurd h (by decide)⟩
  ·have b5:f.tmps[5]?=some (.int .i64 u):=(hb 5 (by decide)).trans rfl
   have d2:=got (hv 2 21 rfl) (hd 2 (by kernel_rfl))
   clear hb hv hd
   refine wpOp_step rfl fun K hK=>?_
   go_simp
   exact hK _ _ ⟨_,rfl,Below.refl _ _,rfl,fun h=>absurd h (by decide)⟩
  ·have d3:=got (hv 3 22 rfl) (hd 3 (by kernel_rfl))
   have d2:=got (hv 2 21 rfl) (hd 2 (by kernel_rfl))
   clear hb hv hd
   refine wpOp_callg rfl (yields rfl rfl d2) Tryz.call123 (args2 (eval_tmp d3) rfl) (cF _ (ev_keep hB ev2)) ?_
   rintro e5 w5 ⟨rfl,hb5⟩
   exact ⟨_,rfl,_,rfl,hb5,rfl,fun h=>absurd h (by decide)⟩
  ·have b0:f.tmps[0]?=some (.string s):=(hb 0 (by decide)).trans rfl
   have d2:=got (hv 2 21 rfl) (hd 2 (by kernel_rfl))
   clear hb hv hd
   refine wpOp_step rfl fun K hK=>?_
   go_simp
   exact hK _ _ ⟨_,rfl,Below.refl _ _,rfl,fun h=>absurd h (by decide)⟩
  ·have b4:f.tmps[4]?=some (.int .i64 (k:Int)):=(hb 4 (by decide)).trans rfl
   have d2:=got (hv 2 21 rfl) (hd 2 (by kernel_rfl))
   clear hb hv hd
   refine wpOp_step rfl fun K hK=>?_
   go_simp
   exact hK _ _ ⟨_,rfl,Below.refl _ _,rfl,fun h=>absurd h (by decide)⟩
  ·have d5:=got (hv 5 24 rfl) (hd 5 (by kernel_rfl))
   have d6:=got (hv 6 25 rfl) (hd 6 (by kernel_rfl))
   have d2:=got (hv 2 21 rfl) (hd 2 (by kernel_rfl))
   clear hb hv hd
   refine wpOp_step rfl fun K hK=>?_
   go_simp
   exact hK _ _ ⟨_,rfl,Below.refl _ _,rfl,fun h=>absurd h (by decide)⟩
  ·have d4:=got (hv 4 23 rfl) (hd 4 (by kernel_rfl))
   have d7:=got (hv 7 26 rfl) (hd 7 (by kernel_rfl))
   have d2:=got (hv 2 21 rfl) (hd 2 (by kernel_rfl))
   clear hb hv hd
   refine wpOp_step rfl fun K hK=>?_
   go_simp
   exact hK _ _ ⟨_,rfl,Below.refl _ _,rfl,fun h=>absurd h (by decide)⟩
  ·have d2:=got (hv 2 21 rfl) (hd 2 (by kernel_rfl))
   have d8:=got (hv 8 27 rfl) (hd 8 (by kernel_rfl))
   clear hb hv hd
   refine wpOp_step rfl fun K hK=>?_
   go_simp
   exact hK _ _ ⟨_,rfl,Below.refl _ _,rfl,fun h=>absurd h (by decide)⟩
 ·intro v w' hB hF hD
  have F0:v 0=_:=hF 0 (by simp)
  have F1:v 1=_:=hF 1 (by simp)
  have F2:v 2=_:=hF 2 (by simp)
  have F3:v 3=_:=hF 3 (by simp)
  have F4:v 4=_:=hF 4 (by simp)
  have F5:v 5=_:=hF 5 (by simp)
  have F6:v 6=_:=hF 6 (by simp)
  have F7:v 7=_:=hF 7 (by simp)
  have F8:v 8=_:=hF 8 (by simp)
  have F9:v 9=_:=hF 9 (by simp)
  clear hF
  simp only [frOf,frGo,Nat.zero_add,Nat.reduceAdd,F0,F1,F2,F3,F4,F5,F6,F7,F8,F9]
  rw [List.drop_eq_nil_of_le (by simp)]
  refine wpList_end ?_
  simp only [Act.put,List.setIfInBounds_toArray,List.set_cons_zero,List.set_cons_succ]
  clear F0 F1 F2 F3 F4 F5 F6 F7 F8 F9 hD
  have hb3:=hB
  clear hB
  go_wp2
  exact ⟨rfl,rfl,b_trans (b_trans hb1 hb2) hb3⟩
theorem number_err (s:ByteArray) (p:List UInt8) (c:UInt8) (r:List UInt8) (w:World) (ev:EV w) (hs:s.size≤3000) (hp:∀ b ∈ p,¬ Sep b) (hc:Sep c) (h:s.data.toList=p ++ c :: r)
  (hu:∀ u,Lib.parseIntB 64 p≠.ok u) :
  Calls Tryz.prog 85 #[.string s] w (Thrown w):=by
 obtain ⟨k,hk⟩:∃ k,p.length=k:=⟨_,rfl⟩
 have hi:Lib.indexAny s.data.toList [32,10]=(k:Int):=by rw [h,idx_num _ _ _ hp hc,hk]
 have hks:k≤s.size:=by rw [Lib.size_eq,h,List.length_append]; omega
 obtain ⟨pb,hpb⟩:∃ pb,s.extract 0 k=pb:=⟨_,rfl⟩
 have hpl:pb=⟨p.toArray⟩:=by
  apply bytes_ext
  rw [← hpb,Lib.extract_data,h,← hk]
  simp
 have hps:pb.size≤3000:=by rw [← hpb,ByteArray.size_extract]; omega
 have cI:∀ w,Calls Tryz.prog 121 #[.string s,.string bl] w (RetV (.int .i64 (k:Int)) w):=fun w=>by rw [← hi]; exact index_any s w (by omega)
 have cP:∀ w,EV w→Calls Tryz.prog 122 #[.string pb,.int .i64 10,.int .i64 64] w fun e w'=>∃ x N,e=.returned (.tuple #[.int .i64 x,.iface 236 (.pointer (some ⟨N,0,none⟩))])∧Below w.heap.size w w':=fun w e=>parse_bad pb w hps e (by rw [hpl,mk_list]; exact hu)
 have hki:(k:Int)≤(s.size:Int):=by omega
 have hk0:¬ ((k:Int)<0):=by omega
 have HK:=Lib.hid hk
 have HI:=Lib.hid hi
 have HP:=Lib.hid hpl
 have HH:=Lib.hid h
 have HU:=Lib.hid hu
 have HQ:=Lib.hid hp
 clear hk hi hpl h hu hp
 go_enter Tryz.func85,Tryz.ntmps85
 go_wp2_with (first | (go_at_call 121; refine (cI _).mono ?_; rintro e w1 ⟨rfl,hb1⟩) | (go_at_call 122; refine (cP _ (ev_keep hb1 ev)).mono ?_; rintro e w2 ⟨u,N,rfl,hb2⟩))
 have ev2:=ev_keep (b_trans hb1 hb2) ev
 have EV2:=Lib.hid ev
 clear ev cI cP
 refine region_each [19,20,21,22,23,24,25,26,27,28] (fun i_ X_ U_=>match i_ with | 0=>X_=.iface 236 (.pointer (some ⟨N,0,none⟩)) | 1=>X_=.bool true | 2=>X_=.bool true | 3=>X_=undef | 4=>X_=undef | 5=>X_=undef | 6=>X_=undef | 7=>X_=undef | 8=>X_=undef | 9=>X_=.bool true | _=>True) (fun i_=>false) (by kernel_rfl) (by kernel_rfl) (by kernel_rfl) (by kernel_rfl) (by kernel_rfl) ?_ (fun i x w hi ha h=>by cases ha) ?_ ?_
 ·refine swp (upS (upS (upS (upS (upS (upS (upS (upS (upS (upS up0 ?_) ?_) ?_) ?_) ?_) ?_) ?_) ?_) ?_) ?_)
  all_goals exact fun _ _ _ h _=>h
 ·refine upS (upS (upS (upS (upS (upS (upS (upS (upS (upS up0 ?_) ?_) ?_) ?_) ?_) ?_) ?_) ?_) ?_) ?_
  all_goals intro v f w' hb hv hB hd
  ·have b6:f.tmps[6]?=some (.iface 236 (.pointer (some ⟨N,0,none⟩))):=(hb 6 (by decide)).trans rfl
   clear hb hv hd
   refine wpOp_step rfl fun K hK=>?_
   go_simp
   exact hK _ _ ⟨_,rfl,Below.refl _ _,rfl,fun h=>absurd h (by decide)⟩
  ·have d0:=got (hv 0 19 rfl) (hd 0 (by kernel_rfl))
   clear hb hv hd
   refine wpOp_step rfl fun K hK=>?_
   go_simp
   exact hK _ _ ⟨_,rfl,Below.refl _ _,rfl,fun h=>absurd h (by decide)⟩
  ·have d1:=got (hv 1 20 rfl) (hd 1 (by kernel_rfl))
   clear hb hv hd
   refine wpOp_step rfl fun K hK=>?_
   go_simp
   exact hK _ _ ⟨_,rfl,Below.refl _ _,rfl,fun h=>absurd h (by decide)⟩
  ·have b5:f.tmps[5]?=some (.int .i64 u):=(hb 5 (by decide)).trans rfl
   have d2:=got (hv 2 21 rfl) (hd 2 (by kernel_rfl))
   clear hb hv hd
   refine wpOp_step rfl fun K hK=>?_
   go_simp
   exact hK _ _ ⟨_,rfl,Below.refl _ _,rfl,fun h=>absurd h (by decide)⟩
  ·have d3:=got (hv 3 22 rfl) (hd 3 (by kernel_rfl))
   have d2:=got (hv 2 21 rfl) (hd 2 (by kernel_rfl))
   clear hb hv hd
   refine wpOp_step rfl fun K hK=>?_
   go_simp
   exact hK _ _ ⟨_,rfl,Below.refl _ _,rfl,fun h=>absurd h (by decide)⟩
  ·have b0:f.tmps[0]?=some (.string s):=(hb 0 (by decide)).trans rfl
   have d2:=got (hv 2 21 rfl) (hd 2 (by kernel_rfl))
   clear hb hv hd
   refine wpOp_step rfl fun K hK=>?_
   go_simp
   exact hK _ _ ⟨_,rfl,Below.refl _ _,rfl,fun h=>absurd h (by decide)⟩
  ·have b4:f.tmps[4]?=some (.int .i64 (k:Int)):=(hb 4 (by decide)).trans rfl
   have d2:=got (hv 2 21 rfl) (hd 2 (by kernel_rfl))
   clear hb hv hd
   refine wpOp_step rfl fun K hK=>?_
   go_simp
   exact hK _ _ ⟨_,rfl,Below.refl _ _,rfl,fun h=>absurd h (by decide)⟩
  ·have d5:=got (hv 5 24 rfl) (hd 5 (by kernel_rfl))
   have d6:=got (hv 6 25 rfl) (hd 6 (by kernel_rfl))
   have d2:=got (hv 2 21 rfl) (hd 2 (by kernel_rfl))
   clear hb hv hd
   refine wpOp_step rfl fun K hK=>?_
   go_simp
   exact hK _ _ ⟨_,rfl,Below.refl _ _,rfl,fun h=>absurd h (by decide)⟩
  ·have d4:=got (hv 4 23 rfl) (hd 4 (by kernel_rfl))
   have d7:=got (hv 7 26 rfl) (hd 7 (by kernel_rfl))
   have d2:=got (hv 2 21 rfl) (hd 2 (by kernel_rfl))
   clear hb hv hd
   refine wpOp_step rfl fun K hK=>?_
   go_simp
   exact hK _ _ ⟨_,rfl,Below.refl _ _,rfl,fun h=>absurd h (by decide)⟩
  ·have d2:=got (hv 2 21 rfl) (hd 2 (by kernel_rfl))
   have d8:=got (hv 8 27 rfl) (hd 8 (by kernel_rfl))
   clear hb hv hd
   refine wpOp_step rfl fun K hK=>?_
   go_simp
   exact hK _ _ ⟨_,rfl,Below.refl _ _,rfl,fun h=>absurd h (by decide)⟩
 ·intro v w' hB hF hD
  have F0:v 0=_:=hF 0 (by simp)
  have F1:v 1=_:=hF 1 (by simp)
  have F2:v 2=_:=hF 2 (by simp)
  have F3:v 3=_:=hF 3 (by simp)
  have F4:v 4=_:=hF 4 (by simp)
  have F5:v 5=_:=hF 5 (by simp)
  have F6:v 6=_:=hF 6 (by simp)
  have F7:v 7=_:=hF 7 (by simp)
  have F8:v 8=_:=hF 8 (by simp)
  have F9:v 9=_:=hF 9 (by simp)
  clear hF
  simp only [frOf,frGo,Nat.zero_add,Nat.reduceAdd,F0,F1,F2,F3,F4,F5,F6,F7,F8,F9]
  rw [List.drop_eq_nil_of_le (by simp)]
  refine wpList_end ?_
  simp only [Act.put,List.setIfInBounds_toArray,List.set_cons_zero,List.set_cons_succ]
  clear F0 F1 F2 F3 F4 F5 F6 F7 F8 F9 hD
  have hb3:=hB
  clear hB
  go_wp2
  exact ⟨rfl,rfl,b_trans (b_trans hb1 hb2) hb3⟩
theorem number_bad (s:ByteArray) (w:World) (ev:EV w) (hs:s.size≤3000) (h:∀ v c r,R64 v→Sep c→s.data.toList≠Lib.itoa v ++ c :: r) :
  Calls Tryz.prog 85 #[.string s] w (Thrown w):=by
 rcases idx_cases s.data.toList with ⟨p,c,r,e,hp,hc⟩ | hi
 ·by_cases hq:∃ u,Lib.parseIntB 64 p=.ok u
  ·obtain ⟨u,hq⟩:=hq
   have hb:=Lib.parseIntB_bounds hq
   have hv:R64 u:=by
    have e:(2:Nat) ^ (64 - 1)=9223372036854775808:=by decide
    rw [e] at hb
    omega
   exact number_other s p c r u w ev hs hp hc e hq hv (fun hn=>h u c r hv hc (by rw [hn]; exact e))
  ·exact number_err s p c r w ev hs hp hc e (fun u hu=>hq ⟨u,hu⟩)
 ·exact number_none s w hs hi
end Go.Proofs.YthnofhjgfhapiaaGreatDoor

import Derived.StillTactics
import Derived.Laws.Pointers
import Derived.Deep.RegionHeld3
import Derived.Deep.QuietTactic
import Derived.BigQuiet
import Derived.RowKit3
import Derived.Lib.Hide
import Derived.Lib.QuietBelow
import Derived.Laws.Bits64b
import Derived.Test.YtjifkmldigemkaaGreatDoorProg
import Derived.Shelf.Spec.BitsCarry
import Derived.Shelf.Bits.Mul64
import Derived.WalkKit
import Derived.WalkSpells
import Derived.Test.YtjifkmldigemkaaGreatDoorTbu
import Derived.Test.YtjifkmldigemkaaGreatDoorTab
import Derived.Test.YtjifkmldigemkaaGreatDoorTaa
import Derived.Test.YtjifkmldigemkaaGreatDoorTbp
import Derived.Test.YtjifkmldigemkaaGreatDoorTbt
import Derived.Test.YtjifkmldigemkaaGreatDoorTbq
import Derived.Test.YtjifkmldigemkaaGreatDoorTae
import Derived.Test.YtjifkmldigemkaaGreatDoorTaf
import Derived.Test.YtjifkmldigemkaaGreatDoorTbs
import Derived.Test.YtjifkmldigemkaaGreatDoorTbo
set_option maxHeartbeats 4000000
set_option maxRecDepth 10000
namespace Go.Proofs.YtjifkmldigemkaaGreatDoor
open Go.RowKit Go.Shelf Go.Joins
theorem wpList_none {P:Program} {ops:Array Oper} {Q:Exit→Act→World→Prop} {l:List Oper} {a:Act} {w:World} (h:l=[]) (hq:Q .normal a w):wpList P ops Q l a w:=by
 subst h; exact hq
theorem power_63 (w:World):Calls Tryz.prog 45 #[.int .i64 63] w (RetB 9223372036854775808 w):=by
 have:=power_any 63 (by decide) w
 rwa [show (2:Int) ^ 63=9223372036854775808 by decide] at this
theorem ge_true {a b:Int} (h:b≤a):decide (0≤cmp3 a b)=true:=by simpa using (cmp3_ge a b).1 h
theorem ge_false {a b:Int} (h:a<b):decide (0≤cmp3 a b)=false:=by simpa using (cmp3_ge a b).2 h
theorem lt_true {a b:Int} (h:a<b):decide (cmp3 a b<0)=true:=by have:=(cmp3_ge a b).2 h; simp; omega
theorem lt_false {a b:Int} (h:b≤a):decide (cmp3 a b<0)=false:=by have:=(cmp3_ge a b).1 h; simp; omega
theorem val_four {l:List Int} (h:Dig l) (n:Norm l) (b:val l<18446744073709551616):val (l.take 4)=val l:=by
 apply val_take_all
 exact len_le h n (by rw [show (65536:Int) ^ 4=18446744073709551616 by decide]; exact b)
theorem int_big (v:Value) (z:Int) (w:World) (hz:BG w v z) (tz:Tiny z):Calls Tryz.prog 46 #[v] w (RetV (.tuple #[.int .i64 (iz z),.int .i64 (ie z)]) w):=by
 have sz:=tiny_small tz
 obtain ⟨n1,aa,a,ca,rfl,hA,da,na,la,hs,_,_⟩:=bg_open hz
 obtain ⟨s1,s2,s3⟩:=sgn_neg da na la
 rw [← hs] at s1 s2 s3
 have OP:=Lib.hid (And.intro hA (And.intro da (And.intro na (And.intro s1 s3))))
 clear hs s1 s2 s3 hA da na la
 generalize hka:a.length=ka at *
 have HK:=Lib.hid hka
 clear hka
 by_cases c1:9223372036854775808≤z
 ·have E:=Lib.hid (iz_no (z:=z) (by omega))
  have ge1:=ge_true c1
  go_enter Tryz.func46,Tryz.ntmps46
  go_wp2_with fail
  have B1:Below w.heap.size w (w.alloc (Obj.cells #[.bool n1,.slice aa ka ca] 116)):=b_alloc (Below.refl _ _)
  have k1:BC (w.alloc (Obj.cells #[.bool n1,.slice aa ka ca] 116)) w.heap.size n1 (.slice aa ka ca):=by simp [BC,go_sem]
  have g1:=bg_keep hz B1
  generalize (w.alloc (Obj.cells #[.bool n1,.slice aa ka ca] 116))=W0 at *
  refine region_each [4,5,6,7,8,9,10,11,12,13,14] (fun i X_ U_=>match i with | 0=>X_=.agg #[.bool n1,.slice aa ka ca] | 1=>BG U_ X_ (9223372036854775808) | 2=>X_=.int .i64 (cmp3 z 9223372036854775808) | 3=>X_=.bool true | 4=>X_=.bool true | 5=>X_=undef | 6=>X_=undef | 7=>X_=undef | 8=>X_=undef | 9=>X_=undef | 10=>X_=.bool true | _=>True) (fun i=>false) (by kernel_rfl) (by kernel_rfl) (by kernel_rfl) (by kernel_rfl) (by kernel_rfl) ?_ ?_ ?_ ?_
  ·refine swp (upS (upS (upS (upS (upS (upS (upS (upS (upS (upS (upS up0 ?_) ?_) ?_) ?_) ?_) ?_) ?_) ?_) ?_) ?_) ?_)
   ·exact fun _ _ _ h _=>h
   ·intro x w w' h hb; exact bg_keep h hb
   ·exact fun _ _ _ h _=>h
   ·exact fun _ _ _ h _=>h
   ·exact fun _ _ _ h _=>h
   ·exact fun _ _ _ h _=>h
   ·exact fun _ _ _ h _=>h
   ·exact fun _ _ _ h _=>h
   ·exact fun _ _ _ h _=>h
   ·exact fun _ _ _ h _=>h
   ·exact fun _ _ _ h _=>h
  ·intro i x w hi ha h
   cases ha
  ·refine upS (upS (upS (upS (upS (upS (upS (upS (upS (upS (upS up0 ?_) ?_) ?_) ?_) ?_) ?_) ?_) ?_) ?_) ?_) ?_
   all_goals intro v f w' hb hv hB hd
   ·have b1:f.tmps[1]?=some (.pointer (some ⟨w.heap.size,0,none⟩)):=(hb 1 (by decide)).trans rfl
    clear hb hv hd
    have c:=bc_keep hB k1
    refine wpOp_step rfl (fun K hK=>?_)
    go_simp
    exact hK _ _ ⟨_,rfl,Below.refl _ _,rfl,fun h=>absurd h (by decide)⟩
   ·clear hb hv hd
    refine wpOp_call rfl (fun _ _=>by go_simp) (by simp [Act.eval]) (power_63 _) ?_
    rintro e w5 ⟨v5,rfl,h5,hb5⟩
    exact ⟨_,rfl,_,rfl,hb5,h5,fun h=>absurd h (by decide)⟩
   ·have h0:(v 0)=.agg #[.bool n1,.slice aa ka ca]:=hd 0 (by kernel_rfl)
    have d0:f.tmps[4]?=some (.agg #[.bool n1,.slice aa ka ca]):=(hv 0 4 rfl).trans (congrArg some h0)
    clear h0
    have h1:BG w' (v 1) (9223372036854775808):=hd 1 (by kernel_rfl)
    have d1:f.tmps[5]?=some (v 1):=hv 1 5 rfl
    clear hb hv hd
    refine wpOp_call rfl (fun _ _=>by go_simp) (by simp [Act.eval,d0,d1]) (cmp_big _ _ z 9223372036854775808 _ (bg_keep g1 hB) h1 sz (small_of (by decide) (by decide))) ?_
    rintro e w5 ⟨rfl,hb5⟩
    exact ⟨_,rfl,_,rfl,hb5,rfl,fun h=>absurd h (by decide)⟩
   ·have h2:(v 2)=.int .i64 (cmp3 z 9223372036854775808):=hd 2 (by kernel_rfl)
    have d2:f.tmps[6]?=some (.int .i64 (cmp3 z 9223372036854775808)):=(hv 2 6 rfl).trans (congrArg some h2)
    clear h2
    clear hb hv hd
    refine wpOp_step rfl (fun K hK=>?_)
    go_simp
    exact hK _ _ ⟨_,rfl,Below.refl _ _,rfl,fun h=>absurd h (by decide)⟩
   ·have h3:(v 3)=.bool true:=hd 3 (by kernel_rfl)
    have d3:f.tmps[7]?=some (.bool true):=(hv 3 7 rfl).trans (congrArg some h3)
    clear h3
    clear hb hv hd
    refine wpOp_step rfl (fun K hK=>?_)
    go_simp
    exact hK _ _ ⟨_,rfl,Below.refl _ _,rfl,fun h=>absurd h (by decide)⟩
   ·have b1:f.tmps[1]?=some (.pointer (some ⟨w.heap.size,0,none⟩)):=(hb 1 (by decide)).trans rfl
    have h4:(v 4)=.bool true:=hd 4 (by kernel_rfl)
    have d4:f.tmps[8]?=some (.bool true):=(hv 4 8 rfl).trans (congrArg some h4)
    clear h4
    clear hb hv hd
    refine wpOp_step rfl (fun K hK=>?_)
    go_simp
    exact hK _ _ ⟨_,rfl,Below.refl _ _,rfl,fun h=>absurd h (by decide)⟩
   ·have h4:(v 4)=.bool true:=hd 4 (by kernel_rfl)
    have d4:f.tmps[8]?=some (.bool true):=(hv 4 8 rfl).trans (congrArg some h4)
    clear h4
    clear hb hv hd
    refine wpOp_step rfl (fun K hK=>?_)
    go_simp
    exact hK _ _ ⟨_,rfl,Below.refl _ _,rfl,fun h=>absurd h (by decide)⟩
   ·have h6:(v 6)=undef:=hd 6 (by kernel_rfl)
    have d6:f.tmps[10]?=some (undef):=(hv 6 10 rfl).trans (congrArg some h6)
    clear h6
    have h4:(v 4)=.bool true:=hd 4 (by kernel_rfl)
    have d4:f.tmps[8]?=some (.bool true):=(hv 4 8 rfl).trans (congrArg some h4)
    clear h4
    clear hb hv hd
    refine wpOp_step rfl (fun K hK=>?_)
    go_simp
    exact hK _ _ ⟨_,rfl,Below.refl _ _,rfl,fun h=>absurd h (by decide)⟩
   ·have h5:(v 5)=undef:=hd 5 (by kernel_rfl)
    have d5:f.tmps[9]?=some (undef):=(hv 5 9 rfl).trans (congrArg some h5)
    clear h5
    have h7:(v 7)=undef:=hd 7 (by kernel_rfl)
    have d7:f.tmps[11]?=some (undef):=(hv 7 11 rfl).trans (congrArg some h7)
    clear h7
    have h4:(v 4)=.bool true:=hd 4 (by kernel_rfl)
    have d4:f.tmps[8]?=some (.bool true):=(hv 4 8 rfl).trans (congrArg some h4)
    clear h4
    clear hb hv hd
    refine wpOp_step rfl (fun K hK=>?_)
    go_simp
    exact hK _ _ ⟨_,rfl,Below.refl _ _,rfl,fun h=>absurd h (by decide)⟩
   ·have h8:(v 8)=undef:=hd 8 (by kernel_rfl)
    have d8:f.tmps[12]?=some (undef):=(hv 8 12 rfl).trans (congrArg some h8)
    clear h8
    have h4:(v 4)=.bool true:=hd 4 (by kernel_rfl)
    have d4:f.tmps[8]?=some (.bool true):=(hv 4 8 rfl).trans (congrArg some h4)
    clear h4
    clear hb hv hd
    refine wpOp_step rfl (fun K hK=>?_)
    go_simp
    exact hK _ _ ⟨_,rfl,Below.refl _ _,rfl,fun h=>absurd h (by decide)⟩
   ·have h4:(v 4)=.bool true:=hd 4 (by kernel_rfl)
    have d4:f.tmps[8]?=some (.bool true):=(hv 4 8 rfl).trans (congrArg some h4)
    clear h4
    have h9:(v 9)=undef:=hd 9 (by kernel_rfl)
    have d9:f.tmps[13]?=some (undef):=(hv 9 13 rfl).trans (congrArg some h9)
    clear h9
    clear hb hv hd
    refine wpOp_step rfl (fun K hK=>?_)
    go_simp
    exact hK _ _ ⟨_,rfl,Below.refl _ _,rfl,fun h=>absurd h (by decide)⟩
  ·intro v w' hB hF hD
   have F0:(v 0)=.agg #[.bool n1,.slice aa ka ca]:=hF 0 (by simp)
   have F1:BG w' (v 1) (9223372036854775808):=hF 1 (by simp)
   have F2:(v 2)=.int .i64 (cmp3 z 9223372036854775808):=hF 2 (by simp)
   have F3:(v 3)=.bool true:=hF 3 (by simp)
   have F4:(v 4)=.bool true:=hF 4 (by simp)
   have F5:(v 5)=undef:=hF 5 (by simp)
   have F6:(v 6)=undef:=hF 6 (by simp)
   have F7:(v 7)=undef:=hF 7 (by simp)
   have F8:(v 8)=undef:=hF 8 (by simp)
   have F9:(v 9)=undef:=hF 9 (by simp)
   have F10:(v 10)=.bool true:=hF 10 (by simp)
   clear hF
   obtain ⟨n1_,a1_,k1_,c1_,e1⟩:=bg_form F1
   refine wpList_none (by kernel_rfl) ?_
   simp only [frOf,frGo,Nat.zero_add,Nat.reduceAdd,F0,e1,F2,F3,F4,F5,F6,F7,F8,F9,F10]
   clear F0 F1 F2 F3 F4 F5 F6 F7 F8 F9 F10 hD
   go_simp
   have B2:=b_trans B1 hB
   clear hB
   go_wp2
   go_ret2
   exact ⟨by rw [E.out.1,E.out.2]; rfl,B2⟩
 ·by_cases c2:z < -9223372036854775808
  ·have E:=Lib.hid (iz_no (z:=z) (by omega))
   have ge1:=ge_false (show z<9223372036854775808 by omega)
   have lt1:=lt_true c2
   go_enter Tryz.func46,Tryz.ntmps46
   go_wp2_with fail
   have B1:Below w.heap.size w (w.alloc (Obj.cells #[.bool n1,.slice aa ka ca] 116)):=b_alloc (Below.refl _ _)
   have k1:BC (w.alloc (Obj.cells #[.bool n1,.slice aa ka ca] 116)) w.heap.size n1 (.slice aa ka ca):=by simp [BC,go_sem]
   have g1:=bg_keep hz B1
   generalize (w.alloc (Obj.cells #[.bool n1,.slice aa ka ca] 116))=W0 at *
   refine region_each [4,5,6,7,8,9,10,11,12,13,14] (fun i X_ U_=>match i with | 0=>X_=.agg #[.bool n1,.slice aa ka ca] | 1=>BG U_ X_ (9223372036854775808) | 2=>X_=.int .i64 (cmp3 z 9223372036854775808) | 3=>X_=.bool false | 4=>X_=.bool false | 5=>X_=.agg #[.bool n1,.slice aa ka ca] | 6=>BG U_ X_ (9223372036854775808) | 7=>BG U_ X_ (-9223372036854775808) | 8=>X_=.int .i64 (cmp3 z (-9223372036854775808)) | 9=>X_=.bool true | 10=>X_=.bool true | _=>True) (fun i=>false) (by kernel_rfl) (by kernel_rfl) (by kernel_rfl) (by kernel_rfl) (by kernel_rfl) ?_ ?_ ?_ ?_
   ·refine swp (upS (upS (upS (upS (upS (upS (upS (upS (upS (upS (upS up0 ?_) ?_) ?_) ?_) ?_) ?_) ?_) ?_) ?_) ?_) ?_)
    ·exact fun _ _ _ h _=>h
    ·intro x w w' h hb; exact bg_keep h hb
    ·exact fun _ _ _ h _=>h
    ·exact fun _ _ _ h _=>h
    ·exact fun _ _ _ h _=>h
    ·exact fun _ _ _ h _=>h
    ·intro x w w' h hb; exact bg_keep h hb
    ·intro x w w' h hb; exact bg_keep h hb
    ·exact fun _ _ _ h _=>h
    ·exact fun _ _ _ h _=>h
    ·exact fun _ _ _ h _=>h
   ·intro i x w hi ha h
    cases ha
   ·refine upS (upS (upS (upS (upS (upS (upS (upS (upS (upS (upS up0 ?_) ?_) ?_) ?_) ?_) ?_) ?_) ?_) ?_) ?_) ?_
    all_goals intro v f w' hb hv hB hd
    ·have b1:f.tmps[1]?=some (.pointer (some ⟨w.heap.size,0,none⟩)):=(hb 1 (by decide)).trans rfl
     clear hb hv hd
     have c:=bc_keep hB k1
     refine wpOp_step rfl (fun K hK=>?_)
     go_simp
     exact hK _ _ ⟨_,rfl,Below.refl _ _,rfl,fun h=>absurd h (by decide)⟩
    ·clear hb hv hd
     refine wpOp_call rfl (fun _ _=>by go_simp) (by simp [Act.eval]) (power_63 _) ?_
     rintro e w5 ⟨v5,rfl,h5,hb5⟩
     exact ⟨_,rfl,_,rfl,hb5,h5,fun h=>absurd h (by decide)⟩
    ·have h0:(v 0)=.agg #[.bool n1,.slice aa ka ca]:=hd 0 (by kernel_rfl)
     have d0:f.tmps[4]?=some (.agg #[.bool n1,.slice aa ka ca]):=(hv 0 4 rfl).trans (congrArg some h0)
     clear h0
     have h1:BG w' (v 1) (9223372036854775808):=hd 1 (by kernel_rfl)
     have d1:f.tmps[5]?=some (v 1):=hv 1 5 rfl
     clear hb hv hd
     refine wpOp_call rfl (fun _ _=>by go_simp) (by simp [Act.eval,d0,d1]) (cmp_big _ _ z 9223372036854775808 _ (bg_keep g1 hB) h1 sz (small_of (by decide) (by decide))) ?_
     rintro e w5 ⟨rfl,hb5⟩
     exact ⟨_,rfl,_,rfl,hb5,rfl,fun h=>absurd h (by decide)⟩
    ·have h2:(v 2)=.int .i64 (cmp3 z 9223372036854775808):=hd 2 (by kernel_rfl)
     have d2:f.tmps[6]?=some (.int .i64 (cmp3 z 9223372036854775808)):=(hv 2 6 rfl).trans (congrArg some h2)
     clear h2
     clear hb hv hd
     refine wpOp_step rfl (fun K hK=>?_)
     go_simp
     exact hK _ _ ⟨_,rfl,Below.refl _ _,rfl,fun h=>absurd h (by decide)⟩
    ·have h3:(v 3)=.bool false:=hd 3 (by kernel_rfl)
     have d3:f.tmps[7]?=some (.bool false):=(hv 3 7 rfl).trans (congrArg some h3)
     clear h3
     clear hb hv hd
     refine wpOp_step rfl (fun K hK=>?_)
     go_simp
     exact hK _ _ ⟨_,rfl,Below.refl _ _,rfl,fun h=>absurd h (by decide)⟩
    ·have b1:f.tmps[1]?=some (.pointer (some ⟨w.heap.size,0,none⟩)):=(hb 1 (by decide)).trans rfl
     have h4:(v 4)=.bool false:=hd 4 (by kernel_rfl)
     have d4:f.tmps[8]?=some (.bool false):=(hv 4 8 rfl).trans (congrArg some h4)
     clear h4
     clear hb hv hd
     have c:=bc_keep hB k1
     refine wpOp_step rfl (fun K hK=>?_)
     go_simp
     exact hK _ _ ⟨_,rfl,Below.refl _ _,rfl,fun h=>absurd h (by decide)⟩
    ·have h4:(v 4)=.bool false:=hd 4 (by kernel_rfl)
     have d4:f.tmps[8]?=some (.bool false):=(hv 4 8 rfl).trans (congrArg some h4)
     clear h4
     clear hb hv hd
     refine wpOp_callg rfl (yields rfl rfl d4) (fun _ _=>by go_simp) (by simp [Act.eval]) (power_63 _) ?_
     rintro e w5 ⟨v5,rfl,h5,hb5⟩
     exact ⟨_,rfl,_,rfl,hb5,h5,fun h=>absurd h (by decide)⟩
    ·have h6:BG w' (v 6) (9223372036854775808):=hd 6 (by kernel_rfl)
     have d6:f.tmps[10]?=some (v 6):=hv 6 10 rfl
     have h4:(v 4)=.bool false:=hd 4 (by kernel_rfl)
     have d4:f.tmps[8]?=some (.bool false):=(hv 4 8 rfl).trans (congrArg some h4)
     clear h4
     clear hb hv hd
     refine wpOp_callg rfl (yields rfl rfl d4) (fun _ _=>by go_simp) (by simp [Act.eval,d6]) (turn_any _ 9223372036854775808 _ h6) ?_
     rintro e w5 ⟨v5,rfl,h5,hb5⟩
     exact ⟨_,rfl,_,rfl,hb5,h5,fun h=>absurd h (by decide)⟩
    ·have h5:(v 5)=.agg #[.bool n1,.slice aa ka ca]:=hd 5 (by kernel_rfl)
     have d5:f.tmps[9]?=some (.agg #[.bool n1,.slice aa ka ca]):=(hv 5 9 rfl).trans (congrArg some h5)
     clear h5
     have h7:BG w' (v 7) (-9223372036854775808):=hd 7 (by kernel_rfl)
     have d7:f.tmps[11]?=some (v 7):=hv 7 11 rfl
     have h4:(v 4)=.bool false:=hd 4 (by kernel_rfl)
     have d4:f.tmps[8]?=some (.bool false):=(hv 4 8 rfl).trans (congrArg some h4)
     clear h4
     clear hb hv hd
     refine wpOp_callg rfl (yields rfl rfl d4) (fun _ _=>by go_simp) (by simp [Act.eval,d5,d7]) (cmp_big _ _ z (-9223372036854775808) _ (bg_keep g1 hB) h7 sz (small_of (by decide) (by decide))) ?_
     rintro e w5 ⟨rfl,hb5⟩
     exact ⟨_,rfl,_,rfl,hb5,rfl,fun h=>absurd h (by decide)⟩
    ·have h8:(v 8)=.int .i64 (cmp3 z (-9223372036854775808)):=hd 8 (by kernel_rfl)
     have d8:f.tmps[12]?=some (.int .i64 (cmp3 z (-9223372036854775808))):=(hv 8 12 rfl).trans (congrArg some h8)
     clear h8
     have h4:(v 4)=.bool false:=hd 4 (by kernel_rfl)
     have d4:f.tmps[8]?=some (.bool false):=(hv 4 8 rfl).trans (congrArg some h4)
     clear h4
     clear hb hv hd
     refine wpOp_step rfl (fun K hK=>?_)
     go_simp
     exact hK _ _ ⟨_,rfl,Below.refl _ _,rfl,fun h=>absurd h (by decide)⟩
    ·have h4:(v 4)=.bool false:=hd 4 (by kernel_rfl)
     have d4:f.tmps[8]?=some (.bool false):=(hv 4 8 rfl).trans (congrArg some h4)
     clear h4
     have h9:(v 9)=.bool true:=hd 9 (by kernel_rfl)
     have d9:f.tmps[13]?=some (.bool true):=(hv 9 13 rfl).trans (congrArg some h9)
     clear h9
     clear hb hv hd
     refine wpOp_step rfl (fun K hK=>?_)
     go_simp
     exact hK _ _ ⟨_,rfl,Below.refl _ _,rfl,fun h=>absurd h (by decide)⟩
   ·intro v w' hB hF hD
    have F0:(v 0)=.agg #[.bool n1,.slice aa ka ca]:=hF 0 (by simp)
    have F1:BG w' (v 1) (9223372036854775808):=hF 1 (by simp)
    have F2:(v 2)=.int .i64 (cmp3 z 9223372036854775808):=hF 2 (by simp)
    have F3:(v 3)=.bool false:=hF 3 (by simp)
    have F4:(v 4)=.bool false:=hF 4 (by simp)
    have F5:(v 5)=.agg #[.bool n1,.slice aa ka ca]:=hF 5 (by simp)
    have F6:BG w' (v 6) (9223372036854775808):=hF 6 (by simp)
    have F7:BG w' (v 7) (-9223372036854775808):=hF 7 (by simp)
    have F8:(v 8)=.int .i64 (cmp3 z (-9223372036854775808)):=hF 8 (by simp)
    have F9:(v 9)=.bool true:=hF 9 (by simp)
    have F10:(v 10)=.bool true:=hF 10 (by simp)
    clear hF
    obtain ⟨n1_,a1_,k1_,c1_,e1⟩:=bg_form F1
    obtain ⟨n6_,a6_,k6_,c6_,e6⟩:=bg_form F6
    obtain ⟨n7_,a7_,k7_,c7_,e7⟩:=bg_form F7
    refine wpList_none (by kernel_rfl) ?_
    simp only [frOf,frGo,Nat.zero_add,Nat.reduceAdd,F0,e1,F2,F3,F4,F5,e6,e7,F8,F9,F10]
    clear F0 F1 F2 F3 F4 F5 F6 F7 F8 F9 F10 hD
    go_simp
    have B2:=b_trans B1 hB
    clear hB
    go_wp2
    go_ret2
    exact ⟨by rw [E.out.1,E.out.2]; rfl,B2⟩
  ·have E:=Lib.hid (iz_of (z:=z) ⟨by omega,by omega⟩)
   have ge1:=ge_false (show z<9223372036854775808 by omega)
   have lt1:=lt_false (show -9223372036854775808≤z by omega)
   go_enter Tryz.func46,Tryz.ntmps46
   go_wp2_with fail
   have B1:Below w.heap.size w (w.alloc (Obj.cells #[.bool n1,.slice aa ka ca] 116)):=b_alloc (Below.refl _ _)
   have k1:BC (w.alloc (Obj.cells #[.bool n1,.slice aa ka ca] 116)) w.heap.size n1 (.slice aa ka ca):=by simp [BC,go_sem]
   have g1:=bg_keep hz B1
   generalize (w.alloc (Obj.cells #[.bool n1,.slice aa ka ca] 116))=W0 at *
   refine region_each [4,5,6,7,8,9,10,11,12,13,14] (fun i X_ U_=>match i with | 0=>X_=.agg #[.bool n1,.slice aa ka ca] | 1=>BG U_ X_ (9223372036854775808) | 2=>X_=.int .i64 (cmp3 z 9223372036854775808) | 3=>X_=.bool false | 4=>X_=.bool false | 5=>X_=.agg #[.bool n1,.slice aa ka ca] | 6=>BG U_ X_ (9223372036854775808) | 7=>BG U_ X_ (-9223372036854775808) | 8=>X_=.int .i64 (cmp3 z (-9223372036854775808)) | 9=>X_=.bool false | 10=>X_=.bool false | _=>True) (fun i=>false) (by kernel_rfl) (by kernel_rfl) (by kernel_rfl) (by kernel_rfl) (by kernel_rfl) ?_ ?_ ?_ ?_
   ·refine swp (upS (upS (upS (upS (upS (upS (upS (upS (upS (upS (upS up0 ?_) ?_) ?_) ?_) ?_) ?_) ?_) ?_) ?_) ?_) ?_)
    ·exact fun _ _ _ h _=>h
    ·intro x w w' h hb; exact bg_keep h hb
    ·exact fun _ _ _ h _=>h
    ·exact fun _ _ _ h _=>h
    ·exact fun _ _ _ h _=>h
    ·exact fun _ _ _ h _=>h
    ·intro x w w' h hb; exact bg_keep h hb
    ·intro x w w' h hb; exact bg_keep h hb
    ·exact fun _ _ _ h _=>h
    ·exact fun _ _ _ h _=>h
    ·exact fun _ _ _ h _=>h
   ·intro i x w hi ha h
    cases ha
   ·refine upS (upS (upS (upS (upS (upS (upS (upS (upS (upS (upS up0 ?_) ?_) ?_) ?_) ?_) ?_) ?_) ?_) ?_) ?_) ?_
    all_goals intro v f w' hb hv hB hd
    ·have b1:f.tmps[1]?=some (.pointer (some ⟨w.heap.size,0,none⟩)):=(hb 1 (by decide)).trans rfl
     clear hb hv hd
     have c:=bc_keep hB k1
     refine wpOp_step rfl (fun K hK=>?_)
     go_simp
     exact hK _ _ ⟨_,rfl,Below.refl _ _,rfl,fun h=>absurd h (by decide)⟩
    ·clear hb hv hd
     refine wpOp_call rfl (fun _ _=>by go_simp) (by simp [Act.eval]) (power_63 _) ?_
     rintro e w5 ⟨v5,rfl,h5,hb5⟩
     exact ⟨_,rfl,_,rfl,hb5,h5,fun h=>absurd h (by decide)⟩
    ·have h0:(v 0)=.agg #[.bool n1,.slice aa ka ca]:=hd 0 (by kernel_rfl)
     have d0:f.tmps[4]?=some (.agg #[.bool n1,.slice aa ka ca]):=(hv 0 4 rfl).trans (congrArg some h0)
     clear h0
     have h1:BG w' (v 1) (9223372036854775808):=hd 1 (by kernel_rfl)
     have d1:f.tmps[5]?=some (v 1):=hv 1 5 rfl
     clear hb hv hd
     refine wpOp_call rfl (fun _ _=>by go_simp) (by simp [Act.eval,d0,d1]) (cmp_big _ _ z 9223372036854775808 _ (bg_keep g1 hB) h1 sz (small_of (by decide) (by decide))) ?_
     rintro e w5 ⟨rfl,hb5⟩
     exact ⟨_,rfl,_,rfl,hb5,rfl,fun h=>absurd h (by decide)⟩
    ·have h2:(v 2)=.int .i64 (cmp3 z 9223372036854775808):=hd 2 (by kernel_rfl)
     have d2:f.tmps[6]?=some (.int .i64 (cmp3 z 9223372036854775808)):=(hv 2 6 rfl).trans (congrArg some h2)
     clear h2
     clear hb hv hd
     refine wpOp_step rfl (fun K hK=>?_)
     go_simp
     exact hK _ _ ⟨_,rfl,Below.refl _ _,rfl,fun h=>absurd h (by decide)⟩
    ·have h3:(v 3)=.bool false:=hd 3 (by kernel_rfl)
     have d3:f.tmps[7]?=some (.bool false):=(hv 3 7 rfl).trans (congrArg some h3)
     clear h3
     clear hb hv hd
     refine wpOp_step rfl (fun K hK=>?_)
     go_simp
     exact hK _ _ ⟨_,rfl,Below.refl _ _,rfl,fun h=>absurd h (by decide)⟩
    ·have b1:f.tmps[1]?=some (.pointer (some ⟨w.heap.size,0,none⟩)):=(hb 1 (by decide)).trans rfl
     have h4:(v 4)=.bool false:=hd 4 (by kernel_rfl)
     have d4:f.tmps[8]?=some (.bool false):=(hv 4 8 rfl).trans (congrArg some h4)
     clear h4
     clear hb hv hd
     have c:=bc_keep hB k1
     refine wpOp_step rfl (fun K hK=>?_)
     go_simp
     exact hK _ _ ⟨_,rfl,Below.refl _ _,rfl,fun h=>absurd h (by decide)⟩
    ·have h4:(v 4)=.bool false:=hd 4 (by kernel_rfl)
     have d4:f.tmps[8]?=some (.bool false):=(hv 4 8 rfl).trans (congrArg some h4)
     clear h4
     clear hb hv hd
     refine wpOp_callg rfl (yields rfl rfl d4) (fun _ _=>by go_simp) (by simp [Act.eval]) (power_63 _) ?_
     rintro e w5 ⟨v5,rfl,h5,hb5⟩
     exact ⟨_,rfl,_,rfl,hb5,h5,fun h=>absurd h (by decide)⟩
    ·have h6:BG w' (v 6) (9223372036854775808):=hd 6 (by kernel_rfl)
     have d6:f.tmps[10]?=some (v 6):=hv 6 10 rfl
     have h4:(v 4)=.bool false:=hd 4 (by kernel_rfl)
     have d4:f.tmps[8]?=some (.bool false):=(hv 4 8 rfl).trans (congrArg some h4)
     clear h4
     clear hb hv hd
     refine wpOp_callg rfl (yields rfl rfl d4) (fun _ _=>by go_simp) (by simp [Act.eval,d6]) (turn_any _ 9223372036854775808 _ h6) ?_
     rintro e w5 ⟨v5,rfl,h5,hb5⟩
     exact ⟨_,rfl,_,rfl,hb5,h5,fun h=>absurd h (by decide)⟩
    ·have h5:(v 5)=.agg #[.bool n1,.slice aa ka ca]:=hd 5 (by kernel_rfl)
     have d5:f.tmps[9]?=some (.agg #[.bool n1,.slice aa ka ca]):=(hv 5 9 rfl).trans (congrArg some h5)
     clear h5
     have h7:BG w' (v 7) (-9223372036854775808):=hd 7 (by kernel_rfl)
     have d7:f.tmps[11]?=some (v 7):=hv 7 11 rfl
     have h4:(v 4)=.bool false:=hd 4 (by kernel_rfl)
     have d4:f.tmps[8]?=some (.bool false):=(hv 4 8 rfl).trans (congrArg some h4)
     clear h4
     clear hb hv hd
     refine wpOp_callg rfl (yields rfl rfl d4) (fun _ _=>by go_simp) (by simp [Act.eval,d5,d7]) (cmp_big _ _ z (-9223372036854775808) _ (bg_keep g1 hB) h7 sz (small_of (by decide) (by decide))) ?_
     rintro e w5 ⟨rfl,hb5⟩
     exact ⟨_,rfl,_,rfl,hb5,rfl,fun h=>absurd h (by decide)⟩
    ·have h8:(v 8)=.int .i64 (cmp3 z (-9223372036854775808)):=hd 8 (by kernel_rfl)
     have d8:f.tmps[12]?=some (.int .i64 (cmp3 z (-9223372036854775808))):=(hv 8 12 rfl).trans (congrArg some h8)
     clear h8
     have h4:(v 4)=.bool false:=hd 4 (by kernel_rfl)
     have d4:f.tmps[8]?=some (.bool false):=(hv 4 8 rfl).trans (congrArg some h4)
     clear h4
     clear hb hv hd
     refine wpOp_step rfl (fun K hK=>?_)
     go_simp
     exact hK _ _ ⟨_,rfl,Below.refl _ _,rfl,fun h=>absurd h (by decide)⟩
    ·have h4:(v 4)=.bool false:=hd 4 (by kernel_rfl)
     have d4:f.tmps[8]?=some (.bool false):=(hv 4 8 rfl).trans (congrArg some h4)
     clear h4
     have h9:(v 9)=.bool false:=hd 9 (by kernel_rfl)
     have d9:f.tmps[13]?=some (.bool false):=(hv 9 13 rfl).trans (congrArg some h9)
     clear h9
     clear hb hv hd
     refine wpOp_step rfl (fun K hK=>?_)
     go_simp
     exact hK _ _ ⟨_,rfl,Below.refl _ _,rfl,fun h=>absurd h (by decide)⟩
   ·intro v w' hB hF hD
    have F0:(v 0)=.agg #[.bool n1,.slice aa ka ca]:=hF 0 (by simp)
    have F1:BG w' (v 1) (9223372036854775808):=hF 1 (by simp)
    have F2:(v 2)=.int .i64 (cmp3 z 9223372036854775808):=hF 2 (by simp)
    have F3:(v 3)=.bool false:=hF 3 (by simp)
    have F4:(v 4)=.bool false:=hF 4 (by simp)
    have F5:(v 5)=.agg #[.bool n1,.slice aa ka ca]:=hF 5 (by simp)
    have F6:BG w' (v 6) (9223372036854775808):=hF 6 (by simp)
    have F7:BG w' (v 7) (-9223372036854775808):=hF 7 (by simp)
    have F8:(v 8)=.int .i64 (cmp3 z (-9223372036854775808)):=hF 8 (by simp)
    have F9:(v 9)=.bool false:=hF 9 (by simp)
    have F10:(v 10)=.bool false:=hF 10 (by simp)
    clear hF
    obtain ⟨n1_,a1_,k1_,c1_,e1⟩:=bg_form F1
    obtain ⟨n6_,a6_,k6_,c6_,e6⟩:=bg_form F6
    obtain ⟨n7_,a7_,k7_,c7_,e7⟩:=bg_form F7
    refine wpList_none (by kernel_rfl) ?_
    simp only [frOf,frGo,Nat.zero_add,Nat.reduceAdd,F0,e1,F2,F3,F4,F5,e6,e7,F8,F9,F10]
    clear F0 F1 F2 F3 F4 F5 F6 F7 F8 F9 F10 hD
    go_simp
    have k2:=bc_keep hB k1
    have g2:=bg_keep g1 hB
    have B2:=b_trans B1 hB
    clear hB k1 g1 B1
    cases n1
    ·have dg2:=dg_keep OP.out.1 B2
     have cL:=low_any _ a _ dg2 OP.out.2.1
     have zn:¬ z<0:=fun h=>by have:=OP.out.2.2.2.1.1 h; cases this
     have e1:val (a.take 4)=z:=by rw [val_four OP.out.2.1 OP.out.2.2.1 (by have:=OP.out.2.2.2.2; omega)]; have:=OP.out.2.2.2.2; omega
     rw [e1] at cL
     clear dg2 e1
     go_wp2_with fail
     refine cL.mono ?_
     rintro e w9 ⟨rfl,rfl⟩
     go_wp2
     go_ret2
     exact ⟨by rw [E.out.1,E.out.2]; rfl,B2⟩
    ·have zn:z<0:=OP.out.2.2.2.1.2 rfl
     go_wp2_with fail
     refine (turn_any _ z _ g2).mono ?_
     rintro e w6 ⟨v6,rfl,h6,hb6⟩
     obtain ⟨n6,a6,k6,c6,rfl⟩:=bg_form h6
     go_wp2_with fail
     refine (of_big 1 (by decide) (by decide) _).mono ?_
     rintro e w7 ⟨v7,rfl,h7,hb7⟩
     obtain ⟨n7,a7,k7,c7,rfl⟩:=bg_form h7
     have h6:=bg_keep h6 hb7
     go_wp2_with fail
     refine (sub_big _ _ (-z) 1 _ h6 h7 (small_of (by omega) (by omega)) (small_of (by decide) (by decide))).mono ?_
     rintro e w8 ⟨v8,rfl,h8,hb8⟩
     obtain ⟨n8,a8,l8,c8,rfl,hD8,d8,m8,p8,z8,_,_⟩:=bg_open h8
     have t8:=(sgn_neg d8 m8 p8).2.2
     rw [← z8] at t8
     have cL:=low_any _ l8 _ hD8 d8
     rw [show val (l8.take 4)=-z - 1 by rw [val_four d8 m8 (by omega)]; omega] at cL
     have B3:=b_trans (b_trans (b_trans B2 hb6) hb7) hb8
     clear h6 h7 h8 hD8 d8 m8 p8 z8 t8 hb6 hb7 hb8 B2
     generalize l8.length=ll8 at *
     have hfld:∀ (w:World) (b:Bool) (o:Option Addr) (i j:Nat),(Instr.field 116 (.agg #[.bool b,.slice o i j]) 1).run Tryz.prog w=.ok (.slice o i j) w:=fun _ _ _ _ _=>by kernel_rfl
     go_wp2_with fail
     refine cL.mono ?_
     rintro e w9 ⟨rfl,rfl⟩
     go_wp2
     go_ret2
     refine ⟨?_,B3⟩
     rw [E.out.1,E.out.2]
     simp
     omega
end Go.Proofs.YtjifkmldigemkaaGreatDoor

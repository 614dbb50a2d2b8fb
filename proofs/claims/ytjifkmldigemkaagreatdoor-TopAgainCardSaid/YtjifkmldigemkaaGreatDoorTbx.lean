import Derived.Orders
import Derived.RegionTactic
import Derived.Below
import Derived.StillTactics
import Derived.Laws.Pointers
import Derived.Deep.RegionHeld3
import Derived.Deep.QuietTactic
import Derived.BigQuiet
import Derived.RowKit3
import Derived.Lib.Hide
import Derived.Lib.QuietBelow
import Derived.Laws.Bits64b
import Derived.Test.YtjifkmldigemkaaGreatDoorProg
import Derived.Shelf.Spec.BitsCarry
import Derived.Shelf.Bits.Mul64
import Derived.WalkKit
import Derived.WalkSpells
import Derived.ScopeJumps
import Derived.WalkMore
import Derived.Test.YtjifkmldigemkaaGreatDoorTae
import Derived.Test.YtjifkmldigemkaaGreatDoorTab
import Derived.Test.YtjifkmldigemkaaGreatDoorTbo
import Derived.Test.YtjifkmldigemkaaGreatDoorTaa
import Derived.Test.YtjifkmldigemkaaGreatDoorTad
import Derived.Test.YtjifkmldigemkaaGreatDoorTac
import Derived.Test.YtjifkmldigemkaaGreatDoorTag
import Derived.Test.YtjifkmldigemkaaGreatDoorTbv
import Derived.Test.YtjifkmldigemkaaGreatDoorTbw
import Derived.Test.YtjifkmldigemkaaGreatDoorTbp
import Derived.Test.YtjifkmldigemkaaGreatDoorTbt
import Derived.Test.YtjifkmldigemkaaGreatDoorTak
import Derived.Test.YtjifkmldigemkaaGreatDoorTbs
set_option maxHeartbeats 1000000
set_option maxRecDepth 10000
namespace Go.Proofs.YtjifkmldigemkaaGreatDoor
open Go.RowKit Go.Shelf
theorem power_24 (w:World):Calls Tryz.prog 45 #[.int .i64 24] w (RetB 16777216 w):=by
 have:=power_any 24 (by decide) w
 rwa [show (2:Int) ^ 24=16777216 by decide] at this
theorem out_ref (x:Int) (x0:-9223372036854775808≤x) (x1:x≤9223372036854775807) (w:World) :
  Calls Tryz.prog 40 #[.int .i64 x] w (RetV (.int .i64 (evn x 16777216)) w):=by
 have E:=Lib.hid (iz_of (out_bd x0 x1))
 have ev:=evn_near x 16777216
 have EF:=Lib.hid (ef_pos x (show (0:Int)<16777216 by decide))
 go_enter Tryz.func40,Tryz.ntmps40
 go_wp2_with fail
 refine (of_big x x0 x1 _).mono ?_
 rintro e w1 ⟨v1,rfl,g1,hb1⟩
 obtain ⟨n1,a1,k1,c1,rfl⟩:=bg_form g1
 go_wp2_with fail
 refine (power_24 _).mono ?_
 rintro e w2 ⟨v2,rfl,g2,hb2⟩
 obtain ⟨n2,a2,k2,c2,rfl⟩:=bg_form g2
 have g1:=bg_keep g1 hb2
 go_wp2_with fail
 refine (even_big _ _ x 16777216 _ g1 g2 (by decide) ⟨by omega,by omega⟩ ⟨by decide,by decide⟩).mono ?_
 rintro e w3 ⟨v3,rfl,g3,hb3⟩
 obtain ⟨n3,a3,k3,c3,rfl⟩:=bg_form g3
 rw [EF.out] at g3
 go_wp2_with fail
 refine (int_big _ (evn x 16777216) _ g3 ⟨by omega,by omega⟩).mono ?_
 rintro e w4 ⟨rfl,hb4⟩
 rw [E.out.1,E.out.2]
 have B:=b_trans (b_trans (b_trans hb1 hb2) hb3) hb4
 clear hb1 hb2 hb3 hb4 g1 g2 g3 ev EF E
 generalize evn x 16777216=z at *
 go_wp2
 go_ret
 exact ⟨rfl,B⟩
end Go.Proofs.YtjifkmldigemkaaGreatDoor

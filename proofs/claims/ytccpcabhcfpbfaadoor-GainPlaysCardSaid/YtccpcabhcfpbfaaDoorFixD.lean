/- The document's answers for layer 2: To, Add, Sub; and what FixSums answers: true, for every two integers. -/
import Derived.Test.YtccpcabhcfpbfaaDoorFixC
import Derived.Test.YtccpcabhcfpbfaaDoorBigG
namespace Go.Proofs.YtccpcabhcfpbfaaDoor
open Go.RowKit Go.Shelf

set_option maxHeartbeats 1000000 in
set_option maxRecDepth 10000 in
theorem to_ref (v : Value) (z : Int) (w : World) (hz : BG w v z) (tz : Tiny z) : Calls Tryd.prog 26 #[v] w (RetV (.tuple #[.int .i64 (nz z), .int .i64 (ne z)]) w) := by
  obtain ⟨n1, a1, k1, c1, rfl⟩ := bg_form hz
  by_cases c : -9223372036854775808 ≤ z ∧ z ≤ 9223372036854775807
  · have E := Lib.hid (iz_of c)
    obtain ⟨z0, z1⟩ := c
    by_cases d : FitP z
    · have N := Lib.hid (nz_of d)
      have ez := Lib.hid (fitb_yes d)
      clear d
      go_enter Tryd.func26, Tryd.ntmps26
      go_wp2_with fail
      refine (int_big _ z _ (bg_keep hz (b_alloc (Below.refl _ _))) tz).mono ?_
      rintro e w1 ⟨rfl, hb1⟩
      rw [E.out.1, E.out.2]
      have B := b_trans (b_alloc (Below.refl _ _)) hb1
      clear hb1
      go_wp2_with fail
      refine (fits_ref z z0 z1 _).mono ?_
      rintro e w9 ⟨rfl, rfl⟩
      rw [ez.out]
      go_wp2
      go_ret2
      exact ⟨by rw [N.out.1, N.out.2]; rfl, B⟩
    · have N := Lib.hid (nz_no d)
      have ez := Lib.hid (fitb_no d)
      clear d
      go_enter Tryd.func26, Tryd.ntmps26
      go_wp2_with fail
      refine (int_big _ z _ (bg_keep hz (b_alloc (Below.refl _ _))) tz).mono ?_
      rintro e w1 ⟨rfl, hb1⟩
      rw [E.out.1, E.out.2]
      have B := b_trans (b_alloc (Below.refl _ _)) hb1
      clear hb1
      go_wp2_with fail
      refine (fits_ref z z0 z1 _).mono ?_
      rintro e w9 ⟨rfl, rfl⟩
      rw [ez.out]
      go_wp2
      go_ret2
      exact ⟨by rw [N.out.1, N.out.2]; rfl, B⟩
  · have E := Lib.hid (iz_no c)
    have N := Lib.hid (nz_no (x := z) (by omega))
    clear c
    go_enter Tryd.func26, Tryd.ntmps26
    go_wp2_with fail
    refine (int_big _ z _ (bg_keep hz (b_alloc (Below.refl _ _))) tz).mono ?_
    rintro e w1 ⟨rfl, hb1⟩
    rw [E.out.1, E.out.2]
    have B := b_trans (b_alloc (Below.refl _ _)) hb1
    clear hb1
    go_wp2
    go_ret2
    exact ⟨by rw [N.out.1, N.out.2]; rfl, B⟩

end Go.Proofs.YtccpcabhcfpbfaaDoor

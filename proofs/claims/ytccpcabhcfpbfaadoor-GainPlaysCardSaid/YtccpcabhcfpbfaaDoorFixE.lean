/- The document's answers for layer 2: Mul, Div, Out, In; and what FixProducts and FixEdges answer: true, for every two integers. -/
import Derived.Test.YtccpcabhcfpbfaaDoorFixD
import Derived.Test.YtccpcabhcfpbfaaDoorBigI
namespace Go.Proofs.YtccpcabhcfpbfaaDoor
open Go.RowKit Go.Shelf

theorem power_40 (w : World) : Calls Tryd.prog 30 #[.int .i64 40] w (RetB 1099511627776 w) := by
  have := power_any 40 (by decide) w
  rwa [show (2 : Int) ^ 40 = 1099511627776 by decide] at this
theorem power_24 (w : World) : Calls Tryd.prog 30 #[.int .i64 24] w (RetB 16777216 w) := by
  have := power_any 24 (by decide) w
  rwa [show (2 : Int) ^ 24 = 16777216 by decide] at this

theorem ef_bd {a b : Int} (f : Fits a) (b0 : b ≠ 0) (c : ¬ (a = -170141183460469231731687303715884105728)) : Tiny (ef a b) := by
  have := ef_fits f b0 (fun h => c h.1)
  exact ⟨by have := this.lo; omega, by have := this.hi; omega⟩
set_option maxHeartbeats 1000000 in
set_option maxRecDepth 10000 in
theorem div_ref_bad (a b : Int) (a0 : -9223372036854775808 ≤ a) (a1 : a ≤ 9223372036854775807) (b0 : -9223372036854775808 ≤ b) (b1 : b ≤ 9223372036854775807) (c : ¬ (FitP a ∧ FitP b)) (w : World) :
    Calls Tryd.prog 18 #[.int .i64 a, .int .i64 b] w (RetV (.tuple #[.int .i64 0, .int .i64 1]) w) := by
  by_cases d : FitP a
  · have ea := Lib.hid (fitb_yes d)
    have eb := Lib.hid (fitb_no (fun h => c ⟨d, h⟩))
    clear c d
    go_enter Tryd.func18, Tryd.ntmps18
    go_wp2_with fail
    refine (fits_ref a a0 a1 _).mono ?_
    rintro e w9 ⟨rfl, rfl⟩
    rw [ea.out]
    go_wp2_with fail
    refine (fits_ref b b0 b1 _).mono ?_
    rintro e w9 ⟨rfl, rfl⟩
    rw [eb.out]
    go_wp2
    go_ret2
    exact ⟨rfl, Below.refl _ _⟩
  · have ea := Lib.hid (fitb_no d)
    clear c d
    go_enter Tryd.func18, Tryd.ntmps18
    go_wp2_with fail
    refine (fits_ref a a0 a1 _).mono ?_
    rintro e w9 ⟨rfl, rfl⟩
    rw [ea.out]
    go_wp2
    go_ret2
    exact ⟨rfl, Below.refl _ _⟩
set_option maxHeartbeats 1000000 in
set_option maxRecDepth 10000 in
theorem div_ref_zero (a : Int) (a0 : -9223372036854775808 ≤ a) (a1 : a ≤ 9223372036854775807) (ca : FitP a) (w : World) :
    Calls Tryd.prog 18 #[.int .i64 a, .int .i64 0] w (RetV (.tuple #[.int .i64 0, .int .i64 4]) w) := by
  have ea := Lib.hid (fitb_yes ca)
  have eb := Lib.hid (fitb_yes (show FitP 0 by decide))
  clear ca
  go_enter Tryd.func18, Tryd.ntmps18
  go_wp2_with fail
  refine (fits_ref a a0 a1 _).mono ?_
  rintro e w9 ⟨rfl, rfl⟩
  rw [ea.out]
  go_wp2_with fail
  refine (fits_ref 0 (by decide) (by decide) _).mono ?_
  rintro e w9 ⟨rfl, rfl⟩
  rw [eb.out]
  go_wp2
  go_ret2
  exact ⟨rfl, Below.refl _ _⟩
set_option maxHeartbeats 1000000 in
set_option maxRecDepth 10000 in
theorem div_ref_ok (a b : Int) (a0 : -9223372036854775808 ≤ a) (a1 : a ≤ 9223372036854775807) (b0 : -9223372036854775808 ≤ b) (b1 : b ≤ 9223372036854775807) (ca : FitP a) (cb : FitP b) (b2 : ¬ b = 0) (w : World) :
    Calls Tryd.prog 18 #[.int .i64 a, .int .i64 b] w (RetV (.tuple #[.int .i64 (nz (ef (a * 1099511627776) b)), .int .i64 (ne (ef (a * 1099511627776) b))]) w) := by
  have ea := Lib.hid (fitb_yes ca)
  have eb := Lib.hid (fitb_yes cb)
  have tE := ef_bd (one_bd ca).1 b2 (one_bd ca).2
  have c0 := ca.1; have c1 := ca.2
  clear ca cb
  go_enter Tryd.func18, Tryd.ntmps18
  go_wp2_with fail
  refine (fits_ref a a0 a1 _).mono ?_
  rintro e w9 ⟨rfl, rfl⟩
  rw [ea.out]
  go_wp2_with fail
  refine (fits_ref b b0 b1 _).mono ?_
  rintro e w9 ⟨rfl, rfl⟩
  rw [eb.out]
  go_wp2_with fail
  refine (of_big a a0 a1 _).mono ?_
  rintro e w1 ⟨v1, rfl, g1, hb1⟩
  obtain ⟨n1, a1, k1, c1, rfl⟩ := bg_form g1
  go_wp2_with fail
  refine (power_40 _).mono ?_
  rintro e w2 ⟨v2, rfl, g2, hb2⟩
  obtain ⟨n2, a2, k2, c2, rfl⟩ := bg_form g2
  have g1 := bg_keep g1 hb2
  go_wp2_with fail
  refine (mul_big _ _ a 1099511627776 _ g1 g2 (small_of (by omega) (by omega)) (small_of (by decide) (by decide))).mono ?_
  rintro e w3 ⟨v3, rfl, g3, hb3⟩
  obtain ⟨n3, a3, k3, c3, rfl⟩ := bg_form g3
  go_wp2_with fail
  refine (of_big b b0 b1 _).mono ?_
  rintro e w4 ⟨v4, rfl, g4, hb4⟩
  obtain ⟨n4, a4, k4, c4, rfl⟩ := bg_form g4
  have g3 := bg_keep g3 hb4
  go_wp2_with fail
  refine (even_big _ _ (a * 1099511627776) b _ g3 g4 b2 ⟨by omega, by omega⟩ ⟨by omega, by omega⟩).mono ?_
  rintro e w5 ⟨v5, rfl, g5, hb5⟩
  obtain ⟨n5, a5, k5, c5, rfl⟩ := bg_form g5
  go_wp2_with fail
  refine (to_ref _ (ef (a * 1099511627776) b) _ g5 tE).mono ?_
  rintro e w6 ⟨rfl, hb6⟩
  have B := b_trans (b_trans (b_trans (b_trans (b_trans hb1 hb2) hb3) hb4) hb5) hb6
  clear hb1 hb2 hb3 hb4 hb5 hb6 g1 g2 g3 g4 g5 tE
  generalize ef (a * 1099511627776) b = z at *
  go_wp2
  go_ret2
  exact ⟨rfl, B⟩
theorem div_ref (a b : Int) (a0 : -9223372036854775808 ≤ a) (a1 : a ≤ 9223372036854775807) (b0 : -9223372036854775808 ≤ b) (b1 : b ≤ 9223372036854775807) (w : World) :
    Calls Tryd.prog 18 #[.int .i64 a, .int .i64 b] w (RetV (.tuple #[.int .i64 (dz a b), .int .i64 (de a b)]) w) := by
  by_cases c : FitP a ∧ FitP b
  · by_cases d : b = 0
    · rw [(dz_zero c d).1, (dz_zero c d).2]
      subst d
      exact div_ref_zero a a0 a1 c.1 w
    · rw [(dz_of c d).1, (dz_of c d).2]
      exact div_ref_ok a b a0 a1 b0 b1 c.1 c.2 d w
  · rw [(dz_no c).1, (dz_no c).2]
    exact div_ref_bad a b a0 a1 b0 b1 c w

end Go.Proofs.YtccpcabhcfpbfaaDoor

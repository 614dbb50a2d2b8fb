/- The document's answers for layer 2: Mul, Div, Out, In; and what FixProducts and FixEdges answer: true, for every two integers. -/
import Derived.Test.YtplhienacfiiaaaDoorFixD
import Derived.Test.YtplhienacfiiaaaDoorBigI
namespace Go.Proofs.YtplhienacfiiaaaDoor
open Go.RowKit Go.Shelf

theorem power_40 (w : World) : Calls Tryd.prog 51 #[.int .i64 40] w (RetB 1099511627776 w) := by
  have := power_any 40 (by decide) w
  rwa [show (2 : Int) ^ 40 = 1099511627776 by decide] at this
theorem power_24 (w : World) : Calls Tryd.prog 51 #[.int .i64 24] w (RetB 16777216 w) := by
  have := power_any 24 (by decide) w
  rwa [show (2 : Int) ^ 24 = 16777216 by decide] at this

set_option maxHeartbeats 1000000 in
set_option maxRecDepth 10000 in
theorem mul_ref_bad (a b : Int) (a0 : -9223372036854775808 ≤ a) (a1 : a ≤ 9223372036854775807) (b0 : -9223372036854775808 ≤ b) (b1 : b ≤ 9223372036854775807) (c : ¬ (FitP a ∧ FitP b)) (w : World) :
    Calls Tryd.prog 35 #[.int .i64 a, .int .i64 b] w (RetV (.tuple #[.int .i64 0, .int .i64 1]) w) := by
  by_cases d : FitP a
  · have ea := Lib.hid (fitb_yes d)
    have eb := Lib.hid (fitb_no (fun h => c ⟨d, h⟩))
    clear c d
    go_enter Tryd.func35, Tryd.ntmps35
    go_wp2_with fail
    refine (fits_ref a a0 a1 _).mono ?_
    rintro e w9 ⟨rfl, rfl⟩
    rw [ea.out]
    go_wp2_with fail
    refine (fits_ref b b0 b1 _).mono ?_
    rintro e w9 ⟨rfl, rfl⟩
    rw [eb.out]
    go_wp2
    go_ret2
    exact ⟨rfl, Below.refl _ _⟩
  · have ea := Lib.hid (fitb_no d)
    clear c d
    go_enter Tryd.func35, Tryd.ntmps35
    go_wp2_with fail
    refine (fits_ref a a0 a1 _).mono ?_
    rintro e w9 ⟨rfl, rfl⟩
    rw [ea.out]
    go_wp2
    go_ret2
    exact ⟨rfl, Below.refl _ _⟩
set_option maxHeartbeats 1000000 in
set_option maxRecDepth 10000 in
theorem mul_ref_ok (a b : Int) (a0 : -9223372036854775808 ≤ a) (a1 : a ≤ 9223372036854775807) (b0 : -9223372036854775808 ≤ b) (b1 : b ≤ 9223372036854775807) (ca : FitP a) (cb : FitP b) (w : World) :
    Calls Tryd.prog 35 #[.int .i64 a, .int .i64 b] w (RetV (.tuple #[.int .i64 (nz (evn (a * b) 1099511627776)), .int .i64 (ne (evn (a * b) 1099511627776))]) w) := by
  have ea := Lib.hid (fitb_yes ca)
  have eb := Lib.hid (fitb_yes cb)
  obtain ⟨m0, m1⟩ := mul_bd ca cb
  have ev := evn_near (a * b) 1099511627776
  have EF := Lib.hid (ef_pos (a * b) (show (0 : Int) < 1099511627776 by decide))
  clear ca cb
  go_enter Tryd.func35, Tryd.ntmps35
  go_wp2_with fail
  refine (fits_ref a a0 a1 _).mono ?_
  rintro e w9 ⟨rfl, rfl⟩
  rw [ea.out]
  go_wp2_with fail
  refine (fits_ref b b0 b1 _).mono ?_
  rintro e w9 ⟨rfl, rfl⟩
  rw [eb.out]
  go_wp2_with fail
  refine (of_big a a0 a1 _).mono ?_
  rintro e w1 ⟨v1, rfl, g1, hb1⟩
  obtain ⟨n1, a1, k1, c1, rfl⟩ := bg_form g1
  go_wp2_with fail
  refine (of_big b b0 b1 _).mono ?_
  rintro e w2 ⟨v2, rfl, g2, hb2⟩
  obtain ⟨n2, a2, k2, c2, rfl⟩ := bg_form g2
  have g1 := bg_keep g1 hb2
  go_wp2_with fail
  refine (mul_big _ _ a b _ g1 g2 (small_of (by omega) (by omega)) (small_of (by omega) (by omega))).mono ?_
  rintro e w3 ⟨v3, rfl, g3, hb3⟩
  obtain ⟨n3, a3, k3, c3, rfl⟩ := bg_form g3
  go_wp2_with fail
  refine (power_40 _).mono ?_
  rintro e w4 ⟨v4, rfl, g4, hb4⟩
  obtain ⟨n4, a4, k4, c4, rfl⟩ := bg_form g4
  have g3 := bg_keep g3 hb4
  go_wp2_with fail
  refine (even_big _ _ (a * b) 1099511627776 _ g3 g4 (by decide) ⟨by omega, by omega⟩ ⟨by decide, by decide⟩).mono ?_
  rintro e w5 ⟨v5, rfl, g5, hb5⟩
  obtain ⟨n5, a5, k5, c5, rfl⟩ := bg_form g5
  rw [EF.out] at g5
  go_wp2_with fail
  refine (to_ref _ (evn (a * b) 1099511627776) _ g5 ⟨by omega, by omega⟩).mono ?_
  rintro e w6 ⟨rfl, hb6⟩
  have B := b_trans (b_trans (b_trans (b_trans (b_trans hb1 hb2) hb3) hb4) hb5) hb6
  clear hb1 hb2 hb3 hb4 hb5 hb6 g1 g2 g3 g4 g5 ev EF
  generalize evn (a * b) 1099511627776 = z at *
  go_wp2
  go_ret2
  exact ⟨rfl, B⟩
theorem mul_ref (a b : Int) (a0 : -9223372036854775808 ≤ a) (a1 : a ≤ 9223372036854775807) (b0 : -9223372036854775808 ≤ b) (b1 : b ≤ 9223372036854775807) (w : World) :
    Calls Tryd.prog 35 #[.int .i64 a, .int .i64 b] w (RetV (.tuple #[.int .i64 (gz a b (evn (a * b) 1099511627776)), .int .i64 (ge a b (evn (a * b) 1099511627776))]) w) := by
  by_cases c : FitP a ∧ FitP b
  · rw [(gz_of c _).1, (gz_of c _).2]
    exact mul_ref_ok a b a0 a1 b0 b1 c.1 c.2 w
  · rw [(gz_no c _).1, (gz_no c _).2]
    exact mul_ref_bad a b a0 a1 b0 b1 c w

theorem ef_bd {a b : Int} (f : Fits a) (b0 : b ≠ 0) (c : ¬ (a = -170141183460469231731687303715884105728)) : Tiny (ef a b) := by
  have := ef_fits f b0 (fun h => c h.1)
  exact ⟨by have := this.lo; omega, by have := this.hi; omega⟩
end Go.Proofs.YtplhienacfiiaaaDoor

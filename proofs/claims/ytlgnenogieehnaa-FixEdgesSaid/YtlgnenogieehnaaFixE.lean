/- The document's answers for layer 2: Mul, Div, Out, In; and what FixProducts and FixEdges answer: true, for every two integers. -/
import Derived.Test.YtlgnenogieehnaaFixD
import Derived.Test.YtlgnenogieehnaaBigI
namespace Go.Proofs.Ytlgnenogieehnaa
open Go.RowKit Go.Shelf

theorem power_40 (w : World) : Calls Try.prog 29 #[.int .i64 40] w (RetB 1099511627776 w) := by
  have := power_any 40 (by decide) w
  rwa [show (2 : Int) ^ 40 = 1099511627776 by decide] at this
theorem power_24 (w : World) : Calls Try.prog 29 #[.int .i64 24] w (RetB 16777216 w) := by
  have := power_any 24 (by decide) w
  rwa [show (2 : Int) ^ 24 = 16777216 by decide] at this

set_option maxHeartbeats 1000000 in
theorem mul_ref_bad (a b : Int) (a0 : -9223372036854775808 ≤ a) (a1 : a ≤ 9223372036854775807) (b0 : -9223372036854775808 ≤ b) (b1 : b ≤ 9223372036854775807) (c : ¬ (FitP a ∧ FitP b)) (w : World) :
    Calls Try.prog 42 #[.int .i64 a, .int .i64 b] w (RetV (.tuple #[.int .i64 0, .int .i64 1]) w) := by
  by_cases d : FitP a
  · have ea := Lib.hid (fitb_yes d)
    have eb := Lib.hid (fitb_no (fun h => c ⟨d, h⟩))
    clear c d
    go_enter Try.func42, Try.ntmps42
    go_wp2_with fail
    refine (fits_ref a a0 a1 _).mono ?_
    rintro e w9 ⟨rfl, rfl⟩
    rw [ea.out]
    go_wp2_with fail
    refine (fits_ref b b0 b1 _).mono ?_
    rintro e w9 ⟨rfl, rfl⟩
    rw [eb.out]
    go_wp2
    go_ret2
    exact ⟨rfl, Below.refl _ _⟩
  · have ea := Lib.hid (fitb_no d)
    clear c d
    go_enter Try.func42, Try.ntmps42
    go_wp2_with fail
    refine (fits_ref a a0 a1 _).mono ?_
    rintro e w9 ⟨rfl, rfl⟩
    rw [ea.out]
    go_wp2
    go_ret2
    exact ⟨rfl, Below.refl _ _⟩
set_option maxHeartbeats 1000000 in
theorem mul_ref_ok (a b : Int) (a0 : -9223372036854775808 ≤ a) (a1 : a ≤ 9223372036854775807) (b0 : -9223372036854775808 ≤ b) (b1 : b ≤ 9223372036854775807) (ca : FitP a) (cb : FitP b) (w : World) :
    Calls Try.prog 42 #[.int .i64 a, .int .i64 b] w (RetV (.tuple #[.int .i64 (nz (evn (a * b) 1099511627776)), .int .i64 (ne (evn (a * b) 1099511627776))]) w) := by
  have ea := Lib.hid (fitb_yes ca)
  have eb := Lib.hid (fitb_yes cb)
  obtain ⟨m0, m1⟩ := mul_bd ca cb
  have ev := evn_near (a * b) 1099511627776
  have EF := Lib.hid (ef_pos (a * b) (show (0 : Int) < 1099511627776 by decide))
  clear ca cb
  go_enter Try.func42, Try.ntmps42
  go_wp2_with fail
  refine (fits_ref a a0 a1 _).mono ?_
  rintro e w9 ⟨rfl, rfl⟩
  rw [ea.out]
  go_wp2_with fail
  refine (fits_ref b b0 b1 _).mono ?_
  rintro e w9 ⟨rfl, rfl⟩
  rw [eb.out]
  go_wp2_with fail
  refine (of_big a a0 a1 _).mono ?_
  rintro e w1 ⟨v1, rfl, g1, hb1⟩
  obtain ⟨n1, a1, k1, c1, rfl⟩ := bg_form g1
  go_wp2_with fail
  refine (of_big b b0 b1 _).mono ?_
  rintro e w2 ⟨v2, rfl, g2, hb2⟩
  obtain ⟨n2, a2, k2, c2, rfl⟩ := bg_form g2
  have g1 := bg_keep g1 hb2
  go_wp2_with fail
  refine (mul_big _ _ a b _ g1 g2 (small_of (by omega) (by omega)) (small_of (by omega) (by omega))).mono ?_
  rintro e w3 ⟨v3, rfl, g3, hb3⟩
  obtain ⟨n3, a3, k3, c3, rfl⟩ := bg_form g3
  go_wp2_with fail
  refine (power_40 _).mono ?_
  rintro e w4 ⟨v4, rfl, g4, hb4⟩
  obtain ⟨n4, a4, k4, c4, rfl⟩ := bg_form g4
  have g3 := bg_keep g3 hb4
  go_wp2_with fail
  refine (even_big _ _ (a * b) 1099511627776 _ g3 g4 (by decide) ⟨by omega, by omega⟩ ⟨by decide, by decide⟩).mono ?_
  rintro e w5 ⟨v5, rfl, g5, hb5⟩
  obtain ⟨n5, a5, k5, c5, rfl⟩ := bg_form g5
  rw [EF.out] at g5
  go_wp2_with fail
  refine (to_ref _ (evn (a * b) 1099511627776) _ g5 ⟨by omega, by omega⟩).mono ?_
  rintro e w6 ⟨rfl, hb6⟩
  have B := b_trans (b_trans (b_trans (b_trans (b_trans hb1 hb2) hb3) hb4) hb5) hb6
  clear hb1 hb2 hb3 hb4 hb5 hb6 g1 g2 g3 g4 g5 ev EF
  generalize evn (a * b) 1099511627776 = z at *
  go_wp2
  go_ret2
  exact ⟨rfl, B⟩
theorem mul_ref (a b : Int) (a0 : -9223372036854775808 ≤ a) (a1 : a ≤ 9223372036854775807) (b0 : -9223372036854775808 ≤ b) (b1 : b ≤ 9223372036854775807) (w : World) :
    Calls Try.prog 42 #[.int .i64 a, .int .i64 b] w (RetV (.tuple #[.int .i64 (gz a b (evn (a * b) 1099511627776)), .int .i64 (ge a b (evn (a * b) 1099511627776))]) w) := by
  by_cases c : FitP a ∧ FitP b
  · rw [(gz_of c _).1, (gz_of c _).2]
    exact mul_ref_ok a b a0 a1 b0 b1 c.1 c.2 w
  · rw [(gz_no c _).1, (gz_no c _).2]
    exact mul_ref_bad a b a0 a1 b0 b1 c w

theorem ef_bd {a b : Int} (f : Fits a) (b0 : b ≠ 0) (c : ¬ (a = -170141183460469231731687303715884105728)) : Tiny (ef a b) := by
  have := ef_fits f b0 (fun h => c h.1)
  exact ⟨by have := this.lo; omega, by have := this.hi; omega⟩
set_option maxHeartbeats 1000000 in
theorem div_ref_bad (a b : Int) (a0 : -9223372036854775808 ≤ a) (a1 : a ≤ 9223372036854775807) (b0 : -9223372036854775808 ≤ b) (b1 : b ≤ 9223372036854775807) (c : ¬ (FitP a ∧ FitP b)) (w : World) :
    Calls Try.prog 44 #[.int .i64 a, .int .i64 b] w (RetV (.tuple #[.int .i64 0, .int .i64 1]) w) := by
  by_cases d : FitP a
  · have ea := Lib.hid (fitb_yes d)
    have eb := Lib.hid (fitb_no (fun h => c ⟨d, h⟩))
    clear c d
    go_enter Try.func44, Try.ntmps44
    go_wp2_with fail
    refine (fits_ref a a0 a1 _).mono ?_
    rintro e w9 ⟨rfl, rfl⟩
    rw [ea.out]
    go_wp2_with fail
    refine (fits_ref b b0 b1 _).mono ?_
    rintro e w9 ⟨rfl, rfl⟩
    rw [eb.out]
    go_wp2
    go_ret2
    exact ⟨rfl, Below.refl _ _⟩
  · have ea := Lib.hid (fitb_no d)
    clear c d
    go_enter Try.func44, Try.ntmps44
    go_wp2_with fail
    refine (fits_ref a a0 a1 _).mono ?_
    rintro e w9 ⟨rfl, rfl⟩
    rw [ea.out]
    go_wp2
    go_ret2
    exact ⟨rfl, Below.refl _ _⟩
set_option maxHeartbeats 1000000 in
theorem div_ref_zero (a : Int) (a0 : -9223372036854775808 ≤ a) (a1 : a ≤ 9223372036854775807) (ca : FitP a) (w : World) :
    Calls Try.prog 44 #[.int .i64 a, .int .i64 0] w (RetV (.tuple #[.int .i64 0, .int .i64 4]) w) := by
  have ea := Lib.hid (fitb_yes ca)
  have eb := Lib.hid (fitb_yes (show FitP 0 by decide))
  clear ca
  go_enter Try.func44, Try.ntmps44
  go_wp2_with fail
  refine (fits_ref a a0 a1 _).mono ?_
  rintro e w9 ⟨rfl, rfl⟩
  rw [ea.out]
  go_wp2_with fail
  refine (fits_ref 0 (by decide) (by decide) _).mono ?_
  rintro e w9 ⟨rfl, rfl⟩
  rw [eb.out]
  go_wp2
  go_ret2
  exact ⟨rfl, Below.refl _ _⟩
set_option maxHeartbeats 1000000 in
theorem div_ref_ok (a b : Int) (a0 : -9223372036854775808 ≤ a) (a1 : a ≤ 9223372036854775807) (b0 : -9223372036854775808 ≤ b) (b1 : b ≤ 9223372036854775807) (ca : FitP a) (cb : FitP b) (b2 : ¬ b = 0) (w : World) :
    Calls Try.prog 44 #[.int .i64 a, .int .i64 b] w (RetV (.tuple #[.int .i64 (nz (ef (a * 1099511627776) b)), .int .i64 (ne (ef (a * 1099511627776) b))]) w) := by
  have ea := Lib.hid (fitb_yes ca)
  have eb := Lib.hid (fitb_yes cb)
  have tE := ef_bd (one_bd ca).1 b2 (one_bd ca).2
  have c0 := ca.1; have c1 := ca.2
  clear ca cb
  go_enter Try.func44, Try.ntmps44
  go_wp2_with fail
  refine (fits_ref a a0 a1 _).mono ?_
  rintro e w9 ⟨rfl, rfl⟩
  rw [ea.out]
  go_wp2_with fail
  refine (fits_ref b b0 b1 _).mono ?_
  rintro e w9 ⟨rfl, rfl⟩
  rw [eb.out]
  go_wp2_with fail
  refine (of_big a a0 a1 _).mono ?_
  rintro e w1 ⟨v1, rfl, g1, hb1⟩
  obtain ⟨n1, a1, k1, c1, rfl⟩ := bg_form g1
  go_wp2_with fail
  refine (power_40 _).mono ?_
  rintro e w2 ⟨v2, rfl, g2, hb2⟩
  obtain ⟨n2, a2, k2, c2, rfl⟩ := bg_form g2
  have g1 := bg_keep g1 hb2
  go_wp2_with fail
  refine (mul_big _ _ a 1099511627776 _ g1 g2 (small_of (by omega) (by omega)) (small_of (by decide) (by decide))).mono ?_
  rintro e w3 ⟨v3, rfl, g3, hb3⟩
  obtain ⟨n3, a3, k3, c3, rfl⟩ := bg_form g3
  go_wp2_with fail
  refine (of_big b b0 b1 _).mono ?_
  rintro e w4 ⟨v4, rfl, g4, hb4⟩
  obtain ⟨n4, a4, k4, c4, rfl⟩ := bg_form g4
  have g3 := bg_keep g3 hb4
  go_wp2_with fail
  refine (even_big _ _ (a * 1099511627776) b _ g3 g4 b2 ⟨by omega, by omega⟩ ⟨by omega, by omega⟩).mono ?_
  rintro e w5 ⟨v5, rfl, g5, hb5⟩
  obtain ⟨n5, a5, k5, c5, rfl⟩ := bg_form g5
  go_wp2_with fail
  refine (to_ref _ (ef (a * 1099511627776) b) _ g5 tE).mono ?_
  rintro e w6 ⟨rfl, hb6⟩
  have B := b_trans (b_trans (b_trans (b_trans (b_trans hb1 hb2) hb3) hb4) hb5) hb6
  clear hb1 hb2 hb3 hb4 hb5 hb6 g1 g2 g3 g4 g5 tE
  generalize ef (a * 1099511627776) b = z at *
  go_wp2
  go_ret2
  exact ⟨rfl, B⟩
theorem div_ref (a b : Int) (a0 : -9223372036854775808 ≤ a) (a1 : a ≤ 9223372036854775807) (b0 : -9223372036854775808 ≤ b) (b1 : b ≤ 9223372036854775807) (w : World) :
    Calls Try.prog 44 #[.int .i64 a, .int .i64 b] w (RetV (.tuple #[.int .i64 (dz a b), .int .i64 (de a b)]) w) := by
  by_cases c : FitP a ∧ FitP b
  · by_cases d : b = 0
    · rw [(dz_zero c d).1, (dz_zero c d).2]
      subst d
      exact div_ref_zero a a0 a1 c.1 w
    · rw [(dz_of c d).1, (dz_of c d).2]
      exact div_ref_ok a b a0 a1 b0 b1 c.1 c.2 d w
  · rw [(dz_no c).1, (dz_no c).2]
    exact div_ref_bad a b a0 a1 b0 b1 c w

set_option maxHeartbeats 1000000 in
theorem out_ref (x : Int) (x0 : -9223372036854775808 ≤ x) (x1 : x ≤ 9223372036854775807) (w : World) :
    Calls Try.prog 50 #[.int .i64 x] w (RetV (.int .i64 (evn x 16777216)) w) := by
  have E := Lib.hid (iz_of (out_bd x0 x1))
  have ev := evn_near x 16777216
  have EF := Lib.hid (ef_pos x (show (0 : Int) < 16777216 by decide))
  go_enter Try.func50, Try.ntmps50
  go_wp2_with fail
  refine (of_big x x0 x1 _).mono ?_
  rintro e w1 ⟨v1, rfl, g1, hb1⟩
  obtain ⟨n1, a1, k1, c1, rfl⟩ := bg_form g1
  go_wp2_with fail
  refine (power_24 _).mono ?_
  rintro e w2 ⟨v2, rfl, g2, hb2⟩
  obtain ⟨n2, a2, k2, c2, rfl⟩ := bg_form g2
  have g1 := bg_keep g1 hb2
  go_wp2_with fail
  refine (even_big _ _ x 16777216 _ g1 g2 (by decide) ⟨by omega, by omega⟩ ⟨by decide, by decide⟩).mono ?_
  rintro e w3 ⟨v3, rfl, g3, hb3⟩
  obtain ⟨n3, a3, k3, c3, rfl⟩ := bg_form g3
  rw [EF.out] at g3
  go_wp2_with fail
  refine (int_big _ (evn x 16777216) _ g3 ⟨by omega, by omega⟩).mono ?_
  rintro e w4 ⟨rfl, hb4⟩
  rw [E.out.1, E.out.2]
  have B := b_trans (b_trans (b_trans hb1 hb2) hb3) hb4
  clear hb1 hb2 hb3 hb4 g1 g2 g3 ev EF E
  generalize evn x 16777216 = z at *
  go_wp2
  go_ret
  exact ⟨rfl, B⟩
set_option maxHeartbeats 1000000 in
theorem in_ref (x : Int) (x0 : -9223372036854775808 ≤ x) (x1 : x ≤ 9223372036854775807) (w : World) :
    Calls Try.prog 46 #[.int .i64 x] w (RetV (.tuple #[.int .i64 (nz (x * 16777216)), .int .i64 (ne (x * 16777216))]) w) := by
  go_enter Try.func46, Try.ntmps46
  go_wp2_with fail
  refine (of_big x x0 x1 _).mono ?_
  rintro e w1 ⟨v1, rfl, g1, hb1⟩
  obtain ⟨n1, a1, k1, c1, rfl⟩ := bg_form g1
  go_wp2_with fail
  refine (power_24 _).mono ?_
  rintro e w2 ⟨v2, rfl, g2, hb2⟩
  obtain ⟨n2, a2, k2, c2, rfl⟩ := bg_form g2
  have g1 := bg_keep g1 hb2
  go_wp2_with fail
  refine (mul_big _ _ x 16777216 _ g1 g2 (small_of (by omega) (by omega)) (small_of (by decide) (by decide))).mono ?_
  rintro e w3 ⟨v3, rfl, g3, hb3⟩
  obtain ⟨n3, a3, k3, c3, rfl⟩ := bg_form g3
  go_wp2_with fail
  refine (to_ref _ (x * 16777216) _ g3 ⟨by omega, by omega⟩).mono ?_
  rintro e w4 ⟨rfl, hb4⟩
  have B := b_trans (b_trans (b_trans hb1 hb2) hb3) hb4
  clear hb1 hb2 hb3 hb4 g1 g2 g3
  generalize x * 16777216 = z at *
  go_wp2
  go_ret2
  exact ⟨rfl, B⟩

set_option maxHeartbeats 4000000 in
theorem products_any (a b : Int) (a0 : -9223372036854775808 ≤ a) (a1 : a ≤ 9223372036854775807) (b0 : -9223372036854775808 ≤ b) (b1 : b ≤ 9223372036854775807) (w : World) :
    Calls Try.prog 9 #[.int .i64 a, .int .i64 b] w (RetV (.bool true) w) := by
  have A1 := mul_fix a b a0 a1 b0 b1
  have A2 := mul_ref a b a0 a1 b0 b1
  have A3 := div_fix a b a0 a1 b0 b1
  have A4 := div_ref a b a0 a1 b0 b1
  generalize gz a b (evn (a * b) 1099511627776) = x at *
  generalize ge a b (evn (a * b) 1099511627776) = x' at *
  generalize dz a b = y at *
  generalize de a b = y' at *
  go_enter Try.func9, Try.ntmps9
  go_wp2_with fail
  refine (A1 _).mono ?_
  rintro e w1 ⟨rfl, hb1⟩
  go_wp2_with fail
  refine (A2 _).mono ?_
  rintro e w2 ⟨rfl, hb2⟩
  go_wp2_with fail
  refine (A3 _).mono ?_
  rintro e w3 ⟨rfl, hb3⟩
  go_wp2_with fail
  refine (A4 _).mono ?_
  rintro e w4 ⟨rfl, hb4⟩
  go_wp2_with fail
  refine (fixed_fix _).mono ?_
  rintro e w5 ⟨rfl, hb5⟩
  have B := b_trans (b_trans (b_trans (b_trans hb1 hb2) hb3) hb4) hb5
  clear hb1 hb2 hb3 hb4 hb5
  go_wp2
  go_ret
  exact ⟨by simp, B⟩

set_option maxHeartbeats 4000000 in
theorem edges_any (x m : Int) (x0 : -9223372036854775808 ≤ x) (x1 : x ≤ 9223372036854775807) (m0 : -9223372036854775808 ≤ m) (m1 : m ≤ 9223372036854775807) (w : World) :
    Calls Try.prog 10 #[.int .i64 x, .int .i64 m] w (RetV (.bool true) w) := by
  have A1 := in_fix x x0 x1
  have A2 := in_ref x x0 x1
  have A3 := clamp_fix x m x0 x1 m0 m1
  have A4 := clamp_ref x m x0 x1 m0 m1
  have A5 := out_fix x x0 x1
  have A6 := out_ref x x0 x1
  by_cases c : FitP (x * 16777216)
  · rw [(nz_of c).1, (nz_of c).2] at A1 A2
    have A7 := out_fix (x * 16777216) (by omega) (by omega)
    rw [evn_mul x (by decide)] at A7
    generalize x * 16777216 = n at *
    generalize clz x m = cl at *
    generalize evn x 16777216 = o at *
    clear c
    go_enter Try.func10, Try.ntmps10
    go_wp2_with fail
    refine (A1 _).mono ?_
    rintro e w1 ⟨rfl, hb1⟩
    go_wp2_with fail
    refine (A2 _).mono ?_
    rintro e w2 ⟨rfl, hb2⟩
    go_wp2_with fail
    refine (fixed_fix _).mono ?_
    rintro e w3 ⟨rfl, hb3⟩
    go_wp2_with fail
    refine (A3 _).mono ?_
    rintro e w9 ⟨rfl, rfl⟩
    go_wp2_with fail
    refine (A4 _).mono ?_
    rintro e w9 ⟨rfl, rfl⟩
    go_wp2_with fail
    refine (A5 _).mono ?_
    rintro e w4 ⟨rfl, hb4⟩
    go_wp2_with fail
    refine (A6 _).mono ?_
    rintro e w5 ⟨rfl, hb5⟩
    go_wp2_with fail
    refine (A7 _).mono ?_
    rintro e w6 ⟨rfl, hb6⟩
    have B := b_trans (b_trans (b_trans (b_trans (b_trans hb1 hb2) hb3) hb4) hb5) hb6
    clear hb1 hb2 hb3 hb4 hb5 hb6
    go_wp2
    go_ret
    exact ⟨by simp, B⟩
  · rw [(nz_no c).1, (nz_no c).2] at A1 A2
    generalize clz x m = cl at *
    generalize evn x 16777216 = o at *
    clear c
    go_enter Try.func10, Try.ntmps10
    go_wp2_with fail
    refine (A1 _).mono ?_
    rintro e w1 ⟨rfl, hb1⟩
    go_wp2_with fail
    refine (A2 _).mono ?_
    rintro e w2 ⟨rfl, hb2⟩
    go_wp2_with fail
    refine (fixed_fix _).mono ?_
    rintro e w3 ⟨rfl, hb3⟩
    go_wp2_with fail
    refine (A3 _).mono ?_
    rintro e w9 ⟨rfl, rfl⟩
    go_wp2_with fail
    refine (A4 _).mono ?_
    rintro e w9 ⟨rfl, rfl⟩
    go_wp2_with fail
    refine (A5 _).mono ?_
    rintro e w4 ⟨rfl, hb4⟩
    go_wp2_with fail
    refine (A6 _).mono ?_
    rintro e w5 ⟨rfl, hb5⟩
    have B := b_trans (b_trans (b_trans (b_trans hb1 hb2) hb3) hb4) hb5
    clear hb1 hb2 hb3 hb4 hb5
    go_wp2
    go_ret
    exact ⟨by simp, B⟩
end Go.Proofs.Ytlgnenogieehnaa

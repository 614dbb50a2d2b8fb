/- RootOf and RootMean: what each law's call answers: true, for every argument. -/
import Derived.Test.YtgfknmomljjhfaaRootC
import Derived.Test.YtgfknmomljjhfaaBigH
namespace Go.Proofs.Ytgfknmomljjhfaa
open Go.RowKit Go.Shelf

theorem root_word {r : Int} (r0 : 0 ≤ r) (r1 : r ≤ 18446744073709551615) : IsW 0 r r := ⟨by decide, by decide, r0, r1, by omega⟩

set_option maxHeartbeats 2000000 in
theorem rootOf_any (h l z : Int) (x : IsW h l z) (w : World) :
    Calls Try.prog 3 #[wv h l] w (RetV (.bool true) w) := by
  have x0 := x.l0; have x1 := x.l1; have xe := Lib.hid x.e
  by_cases c : z < 0
  · have hn : h < 0 := by have := xe.out; omega
    clear x0 x1
    go_enter Try.func3, Try.ntmps3
    go_wp2_with fail
    refine (root_neg h l z x c _).mono ?_
    rintro e w1 ⟨rfl, hb1⟩
    have k : WC w1 w.heap.size h l := wc_keep hb1 (by simp [WC, go_sem])
    have B := b_trans (b_alloc (Below.refl _ _)) hb1
    clear hb1
    go_wp2_with fail
    refine (fixed_root _).mono ?_
    rintro e w2 ⟨rfl, hb2⟩
    replace B := b_trans B hb2
    clear hb2 k
    go_wp2
    go_ret
    exact ⟨rfl, B⟩
  · have hn : ¬ h < 0 := by have := xe.out; omega
    obtain ⟨r, R⟩ := root_any (z := z) (by omega)
    have r0 := R.r0
    have r1 := root_u64 R x.fits.hi
    have W := root_word r0 r1
    have E := Lib.hid (And.intro (fz_of W.fits) (fe_of W.fits))
    clear x0 x1
    go_enter Try.func3, Try.ntmps3
    go_wp2_with fail
    refine (root_of h l z r x (by omega) R _).mono ?_
    rintro e w1 ⟨rfl, hb1⟩
    have k : WC w1 w.heap.size h l := wc_keep hb1 (by simp [WC, go_sem])
    have B := b_trans (b_alloc (Below.refl _ _)) hb1
    clear hb1
    go_wp2_with fail
    refine (ref_wide h l z r x (by omega) R _).mono ?_
    rintro e w2 ⟨v2, rfl, h2, hb2⟩
    obtain ⟨n2, a2, k2, c2, rfl⟩ := bg_form h2
    replace B := b_trans B hb2
    clear hb2 k
    go_wp2_with fail
    refine ((wide_big _ r _ h2 ⟨by omega, by omega⟩).mono fun _ _ h => retWE_fix (c := 0) W (by rwa [E.out.1, E.out.2] at h)).mono ?_
    rintro e w3 ⟨rfl, hb3⟩
    replace B := b_alloc (o := Obj.cells #[.int .i64 0, .int .u64 r] 24) (b_trans B hb3)
    have k : WC (w3.alloc (Obj.cells #[.int .i64 0, .int .u64 r] 24)) w3.heap.size 0 r := by simp [WC, go_sem]
    clear hb3 h2 R W
    go_wp2_with fail
    refine (fixed_root _).mono ?_
    rintro e w4 ⟨rfl, hb4⟩
    replace k := wc_keep hb4 k
    replace B := b_trans B hb4
    clear hb4
    go_wp2
    go_ret
    exact ⟨by simp, B⟩

set_option maxHeartbeats 2000000 in
theorem rootMean_any (x y : Int) (x0 : -9223372036854775808 ≤ x) (x1 : x ≤ 9223372036854775807) (y0 : -9223372036854775808 ≤ y) (y1 : y ≤ 9223372036854775807) (w : World) :
    Calls Try.prog 4 #[.int .i64 x, .int .i64 y] w (RetV (.bool true) w) := by
  by_cases n : x < 0 ∨ y < 0
  · have C1 := mean_neg x y x0 x1 y0 y1 n
    have C2 := refmean_neg x y x0 x1 y0 y1 n
    have C3 := mean_neg y x y0 y1 x0 x1 n.symm
    by_cases c : x < 0
    all_goals
      try have d : y < 0 := by omega
      clear n
      go_enter Try.func4, Try.ntmps4
      go_wp2_with fail
      refine (C1 _).mono ?_
      rintro e w1 ⟨rfl, hb1⟩
      go_wp2_with fail
      refine (C2 _).mono ?_
      rintro e w2 ⟨rfl, hb2⟩
      go_wp2_with fail
      refine (C3 _).mono ?_
      rintro e w3 ⟨rfl, hb3⟩
      have B := b_trans (b_trans hb1 hb2) hb3
      clear hb1 hb2 hb3
      go_wp2_with fail
      refine (fixed_root _).mono ?_
      rintro e w4 ⟨rfl, hb4⟩
      replace B := b_trans B hb4
      clear hb4 C1 C2 C3
      go_wp2
      go_ret
      exact ⟨by simp, B⟩
  · have c : 0 ≤ x := by omega
    have d : 0 ≤ y := by omega
    obtain ⟨r, R⟩ := root_any (z := x * y) (Int.mul_nonneg c d)
    have C1 := mean_of x y r c x1 d y1 R
    have C2 := refmean_of x y r c x1 d y1 R
    have C3 := mean_of y x r d y1 c x1 (by rwa [Int.mul_comm] at R)
    have RB : min x y ≤ r ∧ r ≤ max x y := by
      by_cases le : x ≤ y
      · have := root_between c le R; omega
      · have := root_between d (show y ≤ x by omega) (by rwa [Int.mul_comm] at R); omega
    clear n R
    go_enter Try.func4, Try.ntmps4
    go_wp2_with fail
    refine (C1 _).mono ?_
    rintro e w1 ⟨rfl, hb1⟩
    go_wp2_with fail
    refine (C2 _).mono ?_
    rintro e w2 ⟨rfl, hb2⟩
    go_wp2_with fail
    refine (C3 _).mono ?_
    rintro e w3 ⟨rfl, hb3⟩
    have B := b_trans (b_trans hb1 hb2) hb3
    clear hb1 hb2 hb3
    go_wp2_with fail
    refine (fixed_root _).mono ?_
    rintro e w4 ⟨rfl, hb4⟩
    replace B := b_trans B hb4
    clear hb4 C1 C2 C3
    go_wp2
    all_goals
      go_ret
      exact ⟨by simp; omega, B⟩
end Go.Proofs.Ytgfknmomljjhfaa

/- WideProducts: what the law's call answers: true, for every two integers and every wide number. -/
import Derived.Test.YtlgnenogieehnaaSame
namespace Go.Proofs.Ytlgnenogieehnaa
open Go.RowKit Go.Shelf

set_option maxHeartbeats 4000000 in
theorem wprod_any (x y : Int) (x0 : -9223372036854775808 ≤ x) (x1 : x ≤ 9223372036854775807) (y0 : -9223372036854775808 ≤ y) (y1 : y ≤ 9223372036854775807) (h l a : Int) (X : IsW h l a) (w : World) :
    Calls Try.prog 4 #[.int .i64 x, .int .i64 y, wv h l] w (RetV (.bool true) w) := by
  have f0 := X.fits.lo; have f1 := X.fits.hi
  have C1 := int_any h l a X
  have C2 : ∀ v w, BG w v a → Calls Try.prog 22 #[v] w (RetV (.tuple #[.int .i64 (iz a), .int .i64 (ie a)]) w) := fun v w g => int_big v a w g ⟨by omega, by omega⟩
  have mf := mul_fits x0 x1 y0 y1
  have m0 := mf.lo; have m1 := mf.hi
  have fx : Fits x := ⟨by omega, by omega⟩
  have EX := Lib.hid (iz_of (z := x) ⟨x0, x1⟩)
  have EM := Lib.hid (And.intro (fz_of mf) (fe_of mf))
  have EO := Lib.hid (And.intro (fz_of fx) (fe_of fx))
  clear mf fx
  generalize iz a = p at *
  generalize ie a = p' at *
  go_enter Try.func4, Try.ntmps4
  go_wp2_with fail
  refine (C1 _).mono ?_
  rintro e w1 ⟨rfl, hb1⟩
  have k1 : WC w1 w.heap.size h l := wc_keep hb1 (by simp [WC, go_sem])
  have B := b_trans (b_alloc (Below.refl _ _)) hb1
  clear hb1
  go_wp2_with fail
  refine (from_any h l a X _).mono ?_
  rintro e w2 ⟨v2, rfl, g2, hb2⟩
  obtain ⟨n2, a2, k2, c2, rfl⟩ := bg_form g2
  have k1 := wc_keep hb2 k1
  have B := b_trans B hb2
  go_wp2_with fail
  refine (C2 _ _ g2).mono ?_
  rintro e w3 ⟨rfl, hb3⟩
  have k1 := wc_keep hb3 k1
  have B := b_trans B hb3
  clear hb2 hb3 g2
  go_wp2_with fail
  refine (of_any x x0 x1 _).mono ?_
  rintro e w4 ⟨h4, l4, rfl, x4, hb4⟩
  go_wp2_with fail
  refine (int_any _ _ _ x4 _).mono ?_
  rintro e w5 ⟨rfl, hb5⟩
  rw [EX.out.1, EX.out.2]
  have B := b_trans (b_trans B hb4) hb5
  clear hb4 hb5 k1
  go_wp2_with fail
  refine (fixed_any _).mono ?_
  rintro e w6 ⟨rfl, hb6⟩
  have B := b_trans B hb6
  clear hb6
  go_wp2_with fail
  refine (mul_any x y x0 x1 y0 y1 _).mono ?_
  rintro e w7 ⟨h7, l7, rfl, x7, hb7⟩
  have B := b_trans B hb7
  clear hb7
  go_wp2_with fail
  refine (of_big x x0 x1 _).mono ?_
  rintro e w8 ⟨v8, rfl, g8, hb8⟩
  obtain ⟨n8, a8, k8, c8, rfl⟩ := bg_form g8
  go_wp2_with fail
  refine (of_big y y0 y1 _).mono ?_
  rintro e w9 ⟨v9, rfl, g9, hb9⟩
  obtain ⟨n9, a9, k9, c9, rfl⟩ := bg_form g9
  have g8 := bg_keep g8 hb9
  go_wp2_with fail
  refine (mul_big _ _ x y _ g8 g9 (small_of (by omega) (by omega)) (small_of (by omega) (by omega))).mono ?_
  rintro e w10 ⟨v10, rfl, g10, hb10⟩
  obtain ⟨n10, a10, k10, c10, rfl⟩ := bg_form g10
  have B := b_trans (b_trans (b_trans B hb8) hb9) hb10
  clear hb8 hb9 hb10 g8 g9
  go_wp2_with fail
  refine (same_true h7 l7 (x * y) 0 (by rw [EM.out.1]; exact x7) EM.out.2 _ _ g10 ⟨by omega, by omega⟩).mono ?_
  rintro e w11 ⟨rfl, hb11⟩
  have B := b_trans B hb11
  clear hb11 g10
  go_wp2_with fail
  refine (of_any x x0 x1 _).mono ?_
  rintro e w12 ⟨h12, l12, rfl, x12, hb12⟩
  have B := b_trans B hb12
  clear hb12
  go_wp2_with fail
  refine (of_big x x0 x1 _).mono ?_
  rintro e w13 ⟨v13, rfl, g13, hb13⟩
  obtain ⟨n13, a13, k13, c13, rfl⟩ := bg_form g13
  have B := b_trans B hb13
  clear hb13
  go_wp2_with fail
  refine (same_true h12 l12 x 0 (by rw [EO.out.1]; exact x12) EO.out.2 _ _ g13 ⟨by omega, by omega⟩).mono ?_
  rintro e w14 ⟨rfl, hb14⟩
  have B := b_trans B hb14
  clear hb14 g13
  go_wp2
  go_ret
  exact ⟨by simp, B⟩
end Go.Proofs.Ytlgnenogieehnaa

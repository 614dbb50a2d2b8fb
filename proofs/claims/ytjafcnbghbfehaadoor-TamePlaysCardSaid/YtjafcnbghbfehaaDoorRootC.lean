/- The document's root of a wide number and of a product (aneroidref03.Wide, Mean), and the chapter's examples (aneroidlaw03.fixed). -/
import Derived.Test.YtjafcnbghbfehaaDoorRootA
import Derived.Test.YtjafcnbghbfehaaDoorRootB
namespace Go.Proofs.YtjafcnbghbfehaaDoor
open Go.RowKit Go.Shelf

theorem retWE_fix {z c h l : Int} (x : IsW h l z) {w : World} {e : Ending} {w' : World} (r : RetWE z c w e w') : RetV (.tuple #[wv h l, .int .i64 c]) w e w' := by
  obtain ⟨h', l', rfl, y, b⟩ := r
  obtain ⟨rfl, rfl⟩ := (x.inj y).2 rfl
  exact ⟨rfl, b⟩

theorem refmean_neg (x y : Int) (x0 : -9223372036854775808 ≤ x) (x1 : x ≤ 9223372036854775807) (y0 : -9223372036854775808 ≤ y) (y1 : y ≤ 9223372036854775807) (n : x < 0 ∨ y < 0) (w : World) :
    Calls Tryd.prog 22 #[.int .i64 x, .int .i64 y] w (RetV (.int .i64 0) w) := by
  by_cases c : x < 0
  · clear n
    go_enter Tryd.func22, Tryd.ntmps22
    go_wp2
    go_ret
    exact ⟨rfl, Below.refl _ _⟩
  · have d : y < 0 := by omega
    clear n
    go_enter Tryd.func22, Tryd.ntmps22
    go_wp2
    go_ret
    exact ⟨rfl, Below.refl _ _⟩

theorem refmean_of (x y r : Int) (x0 : 0 ≤ x) (x1 : x ≤ 9223372036854775807) (y0 : 0 ≤ y) (y1 : y ≤ 9223372036854775807) (R : IsRoot (x * y) r) (w : World) :
    Calls Tryd.prog 22 #[.int .i64 x, .int .i64 y] w (RetV (.int .i64 r) w) := by
  have r0 := R.r0
  have r1 := root_i64 x0 y0 x1 y1 R
  have M := mul_fits (by omega) x1 (by omega) y1
  have m0 := Int.mul_nonneg x0 y0
  have m1 := M.hi
  have E := Lib.hid (iz_of (z := r) ⟨by omega, r1⟩)
  have c : ¬ x < 0 := by omega
  have d : ¬ y < 0 := by omega
  go_enter Tryd.func22, Tryd.ntmps22
  go_wp2_with fail
  refine (of_big x (by omega) x1 _).mono ?_
  rintro e w1 ⟨v1, rfl, h1, hb1⟩
  obtain ⟨n1, a1, k1, c1, rfl⟩ := bg_form h1
  go_wp2_with fail
  refine (of_big y (by omega) y1 _).mono ?_
  rintro e w2 ⟨v2, rfl, h2, hb2⟩
  obtain ⟨n2, a2, k2, c2, rfl⟩ := bg_form h2
  replace h1 := bg_keep h1 hb2
  have B := b_trans hb1 hb2
  clear hb1 hb2
  go_wp2_with fail
  refine (mul_big _ _ x y _ h1 h2 (small_of (by omega) (by omega)) (small_of (by omega) (by omega))).mono ?_
  rintro e w3 ⟨v3, rfl, h3, hb3⟩
  obtain ⟨n3, a3, k3, c3, rfl⟩ := bg_form h3
  replace B := b_trans B hb3
  clear hb3 h1 h2
  go_wp2_with fail
  refine (ref_root _ (x * y) r _ h3 m0 (by omega) R).mono ?_
  rintro e w4 ⟨v4, rfl, h4, hb4⟩
  obtain ⟨n4, a4, k4, c4, rfl⟩ := bg_form h4
  replace B := b_trans B hb4
  clear hb4 h3
  go_wp2_with fail
  refine (int_big _ r _ h4 ⟨by omega, by omega⟩).mono ?_
  rintro e w5 ⟨rfl, hb5⟩
  rw [E.out.1, E.out.2]
  replace B := b_trans B hb5
  clear hb5 h4 R M m0 m1
  go_wp2
  go_ret
  exact ⟨rfl, B⟩

end Go.Proofs.YtjafcnbghbfehaaDoor

/- The document's answers for layer 2: To, Add, Sub; and what FixSums answers: true, for every two integers. -/
import Derived.Test.YtplhienacfiiaaaDoorFixC
import Derived.Test.YtplhienacfiiaaaDoorBigG
namespace Go.Proofs.YtplhienacfiiaaaDoor
open Go.RowKit Go.Shelf

set_option maxHeartbeats 1000000 in
set_option maxRecDepth 10000 in
theorem to_ref (v : Value) (z : Int) (w : World) (hz : BG w v z) (tz : Tiny z) : Calls Tryd.prog 48 #[v] w (RetV (.tuple #[.int .i64 (nz z), .int .i64 (ne z)]) w) := by
  obtain ⟨n1, a1, k1, c1, rfl⟩ := bg_form hz
  by_cases c : -9223372036854775808 ≤ z ∧ z ≤ 9223372036854775807
  · have E := Lib.hid (iz_of c)
    obtain ⟨z0, z1⟩ := c
    by_cases d : FitP z
    · have N := Lib.hid (nz_of d)
      have ez := Lib.hid (fitb_yes d)
      clear d
      go_enter Tryd.func48, Tryd.ntmps48
      go_wp2_with fail
      refine (int_big _ z _ (bg_keep hz (b_alloc (Below.refl _ _))) tz).mono ?_
      rintro e w1 ⟨rfl, hb1⟩
      rw [E.out.1, E.out.2]
      have B := b_trans (b_alloc (Below.refl _ _)) hb1
      clear hb1
      go_wp2_with fail
      refine (fits_ref z z0 z1 _).mono ?_
      rintro e w9 ⟨rfl, rfl⟩
      rw [ez.out]
      go_wp2
      go_ret2
      exact ⟨by rw [N.out.1, N.out.2]; rfl, B⟩
    · have N := Lib.hid (nz_no d)
      have ez := Lib.hid (fitb_no d)
      clear d
      go_enter Tryd.func48, Tryd.ntmps48
      go_wp2_with fail
      refine (int_big _ z _ (bg_keep hz (b_alloc (Below.refl _ _))) tz).mono ?_
      rintro e w1 ⟨rfl, hb1⟩
      rw [E.out.1, E.out.2]
      have B := b_trans (b_alloc (Below.refl _ _)) hb1
      clear hb1
      go_wp2_with fail
      refine (fits_ref z z0 z1 _).mono ?_
      rintro e w9 ⟨rfl, rfl⟩
      rw [ez.out]
      go_wp2
      go_ret2
      exact ⟨by rw [N.out.1, N.out.2]; rfl, B⟩
  · have E := Lib.hid (iz_no c)
    have N := Lib.hid (nz_no (x := z) (by omega))
    clear c
    go_enter Tryd.func48, Tryd.ntmps48
    go_wp2_with fail
    refine (int_big _ z _ (bg_keep hz (b_alloc (Below.refl _ _))) tz).mono ?_
    rintro e w1 ⟨rfl, hb1⟩
    rw [E.out.1, E.out.2]
    have B := b_trans (b_alloc (Below.refl _ _)) hb1
    clear hb1
    go_wp2
    go_ret2
    exact ⟨by rw [N.out.1, N.out.2]; rfl, B⟩

set_option maxHeartbeats 1000000 in
set_option maxRecDepth 10000 in
theorem add_ref_bad (a b : Int) (a0 : -9223372036854775808 ≤ a) (a1 : a ≤ 9223372036854775807) (b0 : -9223372036854775808 ≤ b) (b1 : b ≤ 9223372036854775807) (c : ¬ (FitP a ∧ FitP b)) (w : World) :
    Calls Tryd.prog 36 #[.int .i64 a, .int .i64 b] w (RetV (.tuple #[.int .i64 0, .int .i64 1]) w) := by
  by_cases d : FitP a
  · have ea := Lib.hid (fitb_yes d)
    have eb := Lib.hid (fitb_no (fun h => c ⟨d, h⟩))
    clear c d
    go_enter Tryd.func36, Tryd.ntmps36
    go_wp2_with fail
    refine (fits_ref a a0 a1 _).mono ?_
    rintro e w9 ⟨rfl, rfl⟩
    rw [ea.out]
    go_wp2_with fail
    refine (fits_ref b b0 b1 _).mono ?_
    rintro e w9 ⟨rfl, rfl⟩
    rw [eb.out]
    go_wp2
    go_ret2
    exact ⟨rfl, Below.refl _ _⟩
  · have ea := Lib.hid (fitb_no d)
    clear c d
    go_enter Tryd.func36, Tryd.ntmps36
    go_wp2_with fail
    refine (fits_ref a a0 a1 _).mono ?_
    rintro e w9 ⟨rfl, rfl⟩
    rw [ea.out]
    go_wp2
    go_ret2
    exact ⟨rfl, Below.refl _ _⟩
set_option maxHeartbeats 1000000 in
set_option maxRecDepth 10000 in
theorem add_ref_ok (a b : Int) (a0 : -9223372036854775808 ≤ a) (a1 : a ≤ 9223372036854775807) (b0 : -9223372036854775808 ≤ b) (b1 : b ≤ 9223372036854775807) (ca : FitP a) (cb : FitP b) (w : World) :
    Calls Tryd.prog 36 #[.int .i64 a, .int .i64 b] w (RetV (.tuple #[.int .i64 (nz (a + b)), .int .i64 (ne (a + b))]) w) := by
  have ea := Lib.hid (fitb_yes ca)
  have eb := Lib.hid (fitb_yes cb)
  clear ca cb
  go_enter Tryd.func36, Tryd.ntmps36
  go_wp2_with fail
  refine (fits_ref a a0 a1 _).mono ?_
  rintro e w9 ⟨rfl, rfl⟩
  rw [ea.out]
  go_wp2_with fail
  refine (fits_ref b b0 b1 _).mono ?_
  rintro e w9 ⟨rfl, rfl⟩
  rw [eb.out]
  go_wp2_with fail
  refine (of_big a a0 a1 _).mono ?_
  rintro e w1 ⟨v1, rfl, g1, hb1⟩
  obtain ⟨n1, a1, k1, c1, rfl⟩ := bg_form g1
  go_wp2_with fail
  refine (of_big b b0 b1 _).mono ?_
  rintro e w2 ⟨v2, rfl, g2, hb2⟩
  obtain ⟨n2, a2, k2, c2, rfl⟩ := bg_form g2
  have g1 := bg_keep g1 hb2
  go_wp2_with fail
  refine (add_big _ _ a b _ g1 g2 (small_of (by omega) (by omega)) (small_of (by omega) (by omega))).mono ?_
  rintro e w3 ⟨v3, rfl, g3, hb3⟩
  obtain ⟨n3, a3, k3, c3, rfl⟩ := bg_form g3
  go_wp2_with fail
  refine (to_ref _ (a + b) _ g3 ⟨by omega, by omega⟩).mono ?_
  rintro e w4 ⟨rfl, hb4⟩
  have B := b_trans (b_trans (b_trans hb1 hb2) hb3) hb4
  clear hb1 hb2 hb3 hb4 g1 g2 g3
  generalize a + b = z at *
  go_wp2
  go_ret2
  exact ⟨rfl, B⟩
theorem add_ref (a b : Int) (a0 : -9223372036854775808 ≤ a) (a1 : a ≤ 9223372036854775807) (b0 : -9223372036854775808 ≤ b) (b1 : b ≤ 9223372036854775807) (w : World) :
    Calls Tryd.prog 36 #[.int .i64 a, .int .i64 b] w (RetV (.tuple #[.int .i64 (gz a b (a + b)), .int .i64 (ge a b (a + b))]) w) := by
  by_cases c : FitP a ∧ FitP b
  · rw [(gz_of c _).1, (gz_of c _).2]
    exact add_ref_ok a b a0 a1 b0 b1 c.1 c.2 w
  · rw [(gz_no c _).1, (gz_no c _).2]
    exact add_ref_bad a b a0 a1 b0 b1 c w
set_option maxHeartbeats 1000000 in
set_option maxRecDepth 10000 in
theorem sub_ref_bad (a b : Int) (a0 : -9223372036854775808 ≤ a) (a1 : a ≤ 9223372036854775807) (b0 : -9223372036854775808 ≤ b) (b1 : b ≤ 9223372036854775807) (c : ¬ (FitP a ∧ FitP b)) (w : World) :
    Calls Tryd.prog 52 #[.int .i64 a, .int .i64 b] w (RetV (.tuple #[.int .i64 0, .int .i64 1]) w) := by
  by_cases d : FitP a
  · have ea := Lib.hid (fitb_yes d)
    have eb := Lib.hid (fitb_no (fun h => c ⟨d, h⟩))
    clear c d
    go_enter Tryd.func52, Tryd.ntmps52
    go_wp2_with fail
    refine (fits_ref a a0 a1 _).mono ?_
    rintro e w9 ⟨rfl, rfl⟩
    rw [ea.out]
    go_wp2_with fail
    refine (fits_ref b b0 b1 _).mono ?_
    rintro e w9 ⟨rfl, rfl⟩
    rw [eb.out]
    go_wp2
    go_ret2
    exact ⟨rfl, Below.refl _ _⟩
  · have ea := Lib.hid (fitb_no d)
    clear c d
    go_enter Tryd.func52, Tryd.ntmps52
    go_wp2_with fail
    refine (fits_ref a a0 a1 _).mono ?_
    rintro e w9 ⟨rfl, rfl⟩
    rw [ea.out]
    go_wp2
    go_ret2
    exact ⟨rfl, Below.refl _ _⟩
set_option maxHeartbeats 1000000 in
set_option maxRecDepth 10000 in
theorem sub_ref_ok (a b : Int) (a0 : -9223372036854775808 ≤ a) (a1 : a ≤ 9223372036854775807) (b0 : -9223372036854775808 ≤ b) (b1 : b ≤ 9223372036854775807) (ca : FitP a) (cb : FitP b) (w : World) :
    Calls Tryd.prog 52 #[.int .i64 a, .int .i64 b] w (RetV (.tuple #[.int .i64 (nz (a - b)), .int .i64 (ne (a - b))]) w) := by
  have ea := Lib.hid (fitb_yes ca)
  have eb := Lib.hid (fitb_yes cb)
  clear ca cb
  go_enter Tryd.func52, Tryd.ntmps52
  go_wp2_with fail
  refine (fits_ref a a0 a1 _).mono ?_
  rintro e w9 ⟨rfl, rfl⟩
  rw [ea.out]
  go_wp2_with fail
  refine (fits_ref b b0 b1 _).mono ?_
  rintro e w9 ⟨rfl, rfl⟩
  rw [eb.out]
  go_wp2_with fail
  refine (of_big a a0 a1 _).mono ?_
  rintro e w1 ⟨v1, rfl, g1, hb1⟩
  obtain ⟨n1, a1, k1, c1, rfl⟩ := bg_form g1
  go_wp2_with fail
  refine (of_big b b0 b1 _).mono ?_
  rintro e w2 ⟨v2, rfl, g2, hb2⟩
  obtain ⟨n2, a2, k2, c2, rfl⟩ := bg_form g2
  have g1 := bg_keep g1 hb2
  go_wp2_with fail
  refine (sub_big _ _ a b _ g1 g2 (small_of (by omega) (by omega)) (small_of (by omega) (by omega))).mono ?_
  rintro e w3 ⟨v3, rfl, g3, hb3⟩
  obtain ⟨n3, a3, k3, c3, rfl⟩ := bg_form g3
  go_wp2_with fail
  refine (to_ref _ (a - b) _ g3 ⟨by omega, by omega⟩).mono ?_
  rintro e w4 ⟨rfl, hb4⟩
  have B := b_trans (b_trans (b_trans hb1 hb2) hb3) hb4
  clear hb1 hb2 hb3 hb4 g1 g2 g3
  generalize a - b = z at *
  go_wp2
  go_ret2
  exact ⟨rfl, B⟩
theorem sub_ref (a b : Int) (a0 : -9223372036854775808 ≤ a) (a1 : a ≤ 9223372036854775807) (b0 : -9223372036854775808 ≤ b) (b1 : b ≤ 9223372036854775807) (w : World) :
    Calls Tryd.prog 52 #[.int .i64 a, .int .i64 b] w (RetV (.tuple #[.int .i64 (gz a b (a - b)), .int .i64 (ge a b (a - b))]) w) := by
  by_cases c : FitP a ∧ FitP b
  · rw [(gz_of c _).1, (gz_of c _).2]
    exact sub_ref_ok a b a0 a1 b0 b1 c.1 c.2 w
  · rw [(gz_no c _).1, (gz_no c _).2]
    exact sub_ref_bad a b a0 a1 b0 b1 c w

end Go.Proofs.YtplhienacfiiaaaDoor

/- Package fix: Fits, fitting, taken, narrow: each call's answer, for every argument. -/
import Derived.Test.YtplhienacfiiaaaDoorRegion
import Derived.Test.YtplhienacfiiaaaDoorWideD
namespace Go.Proofs.YtplhienacfiiaaaDoor
open Go.RowKit Go.Shelf

/-- A number fits. -/
abbrev FitP (x : Int) : Prop := -288230376151711744 ≤ x ∧ x ≤ 288230376151711744
def fitb (x : Int) : Bool := decide (FitP x)
theorem fitb_yes {x : Int} (h : FitP x) : fitb x = true := decide_eq_true h
theorem fitb_no {x : Int} (h : ¬ FitP x) : fitb x = false := decide_eq_false h
theorem fits_any (x : Int) (x0 : -9223372036854775808 ≤ x) (x1 : x ≤ 9223372036854775807) (w : World) :
    Calls Tryd.prog 24 #[.int .i64 x] w fun e w' => e = .returned (.bool (fitb x)) ∧ w = w' := by
  by_cases c : -288230376151711744 ≤ x
  · by_cases d : x ≤ 288230376151711744
    · have e := Lib.hid (fitb_yes ⟨c, d⟩)
      go_enter Tryd.func24, Tryd.ntmps24
      go_wp2
      go_ret
      exact ⟨by rw [e.out]; rfl, rfl⟩
    · have e := Lib.hid (fitb_no (x := x) (by omega))
      go_enter Tryd.func24, Tryd.ntmps24
      go_wp2
      go_ret
      exact ⟨by rw [e.out]; rfl, rfl⟩
  · have e := Lib.hid (fitb_no (x := x) (by omega))
    go_enter Tryd.func24, Tryd.ntmps24
    go_wp2
    go_ret
    exact ⟨by rw [e.out]; rfl, rfl⟩
theorem fits_ref (x : Int) (x0 : -9223372036854775808 ≤ x) (x1 : x ≤ 9223372036854775807) (w : World) :
    Calls Tryd.prog 20 #[.int .i64 x] w fun e w' => e = .returned (.bool (fitb x)) ∧ w = w' := by
  by_cases c : -288230376151711744 ≤ x
  · by_cases d : x ≤ 288230376151711744
    · have e := Lib.hid (fitb_yes ⟨c, d⟩)
      go_enter Tryd.func20, Tryd.ntmps20
      go_wp2
      go_ret
      exact ⟨by rw [e.out]; rfl, rfl⟩
    · have e := Lib.hid (fitb_no (x := x) (by omega))
      go_enter Tryd.func20, Tryd.ntmps20
      go_wp2
      go_ret
      exact ⟨by rw [e.out]; rfl, rfl⟩
  · have e := Lib.hid (fitb_no (x := x) (by omega))
    go_enter Tryd.func20, Tryd.ntmps20
    go_wp2
    go_ret
    exact ⟨by rw [e.out]; rfl, rfl⟩

/-- What comes of a number: itself, if it fits, else 0; the error's number. -/
def nz (x : Int) : Int := if FitP x then x else 0
def ne (x : Int) : Int := if FitP x then 0 else 3
theorem nz_of {x : Int} (h : FitP x) : nz x = x ∧ ne x = 0 := ⟨if_pos h, if_pos h⟩
theorem nz_no {x : Int} (h : ¬ FitP x) : nz x = 0 ∧ ne x = 3 := ⟨if_neg h, if_neg h⟩

theorem fitting_any (x : Int) (x0 : -9223372036854775808 ≤ x) (x1 : x ≤ 9223372036854775807) (w : World) :
    Calls Tryd.prog 60 #[.int .i64 x] w fun e w' => e = .returned (.tuple #[.int .i64 (nz x), .int .i64 (ne x)]) ∧ w = w' := by
  by_cases c : FitP x
  · have E := Lib.hid (nz_of c)
    have ex := Lib.hid (fitb_yes c)
    clear c
    go_enter Tryd.func60, Tryd.ntmps60
    go_wp2_with fail
    refine (fits_any x x0 x1 _).mono ?_
    rintro e w9 ⟨rfl, rfl⟩
    rw [ex.out]
    go_wp2
    go_ret2
    exact ⟨by rw [E.out.1, E.out.2]; rfl, rfl⟩
  · have E := Lib.hid (nz_no c)
    have ex := Lib.hid (fitb_no c)
    clear c
    go_enter Tryd.func60, Tryd.ntmps60
    go_wp2_with fail
    refine (fits_any x x0 x1 _).mono ?_
    rintro e w9 ⟨rfl, rfl⟩
    rw [ex.out]
    go_wp2
    go_ret2
    exact ⟨by rw [E.out.1, E.out.2]; rfl, rfl⟩
set_option maxHeartbeats 1000000 in
set_option maxRecDepth 10000 in
theorem taken_bad (a b : Int) (a0 : -9223372036854775808 ≤ a) (a1 : a ≤ 9223372036854775807) (b0 : -9223372036854775808 ≤ b) (b1 : b ≤ 9223372036854775807) (c : ¬ (FitP a ∧ FitP b)) (fs fe : Value) (w : World) :
    Calls Tryd.prog 58 #[.int .i64 a, .int .i64 b, fs, fe] w (RetV (.tuple #[.int .i64 0, .int .i64 1]) w) := by
  by_cases d : FitP a
  · have ea := Lib.hid (fitb_yes d)
    have eb := Lib.hid (fitb_no (fun h => c ⟨d, h⟩))
    clear c d
    go_enter Tryd.func58, Tryd.ntmps58
    go_wp2_with fail
    refine (fits_any a a0 a1 _).mono ?_
    rintro e w9 ⟨rfl, rfl⟩
    rw [ea.out]
    go_wp2_with fail
    refine (fits_any b b0 b1 _).mono ?_
    rintro e w9 ⟨rfl, rfl⟩
    rw [eb.out]
    go_wp2
    go_ret2
    exact ⟨rfl, Below.refl _ _⟩
  · have ea := Lib.hid (fitb_no d)
    clear c d
    go_enter Tryd.func58, Tryd.ntmps58
    go_wp2_with fail
    refine (fits_any a a0 a1 _).mono ?_
    rintro e w9 ⟨rfl, rfl⟩
    rw [ea.out]
    go_wp2
    go_ret2
    exact ⟨rfl, Below.refl _ _⟩
set_option maxHeartbeats 1000000 in
set_option maxRecDepth 10000 in
theorem takew_bad (a b : Int) (a0 : -9223372036854775808 ≤ a) (a1 : a ≤ 9223372036854775807) (b0 : -9223372036854775808 ≤ b) (b1 : b ≤ 9223372036854775807) (c : ¬ (FitP a ∧ FitP b)) (fs fe : Value) (w : World) :
    Calls Tryd.prog 55 #[.int .i64 a, .int .i64 b, fs, fe] w (RetV (.tuple #[.int .i64 0, .int .i64 1]) w) := by
  by_cases d : FitP a
  · have ea := Lib.hid (fitb_yes d)
    have eb := Lib.hid (fitb_no (fun h => c ⟨d, h⟩))
    clear c d
    go_enter Tryd.func55, Tryd.ntmps55
    go_wp2_with fail
    refine (fits_any a a0 a1 _).mono ?_
    rintro e w9 ⟨rfl, rfl⟩
    rw [ea.out]
    go_wp2_with fail
    refine (fits_any b b0 b1 _).mono ?_
    rintro e w9 ⟨rfl, rfl⟩
    rw [eb.out]
    go_wp2
    go_ret2
    exact ⟨rfl, Below.refl _ _⟩
  · have ea := Lib.hid (fitb_no d)
    clear c d
    go_enter Tryd.func55, Tryd.ntmps55
    go_wp2_with fail
    refine (fits_any a a0 a1 _).mono ?_
    rintro e w9 ⟨rfl, rfl⟩
    rw [ea.out]
    go_wp2
    go_ret2
    exact ⟨rfl, Below.refl _ _⟩

set_option maxHeartbeats 1000000 in
set_option maxRecDepth 10000 in
theorem taken_sum (a b : Int) (a0 : -9223372036854775808 ≤ a) (a1 : a ≤ 9223372036854775807) (b0 : -9223372036854775808 ≤ b) (b1 : b ≤ 9223372036854775807) (ca : FitP a) (cb : FitP b) (x y e' : Int)
    (hs : ∀ w, Calls Tryd.prog 59 #[.int .i64 a, .int .i64 b] w fun e w' => e = .returned (.tuple #[.int .i64 x, .int .i64 0]) ∧ w = w')
    (he : ∀ w, Calls Tryd.prog 60 #[.int .i64 x] w fun e w' => e = .returned (.tuple #[.int .i64 y, .int .i64 e']) ∧ w = w') (w : World) :
    Calls Tryd.prog 58 #[.int .i64 a, .int .i64 b, .func (.func 59) #[] #[], .func (.func 60) #[] #[]] w (RetV (.tuple #[.int .i64 y, .int .i64 e']) w) := by
  have ea := Lib.hid (fitb_yes ca)
  have eb := Lib.hid (fitb_yes cb)
  clear ca cb
  go_enter Tryd.func58, Tryd.ntmps58
  go_wp2_with fail
  refine (fits_any a a0 a1 _).mono ?_
  rintro e w9 ⟨rfl, rfl⟩
  rw [ea.out]
  go_wp2_with fail
  refine (fits_any b b0 b1 _).mono ?_
  rintro e w9 ⟨rfl, rfl⟩
  rw [eb.out]
  go_wp2_with fail
  refine (hs _).mono ?_
  rintro e w9 ⟨rfl, rfl⟩
  go_wp2_with fail
  refine (he _).mono ?_
  rintro e w9 ⟨rfl, rfl⟩
  go_wp2
  go_ret2
  exact ⟨rfl, Below.refl _ _⟩

set_option maxHeartbeats 1000000 in
set_option maxRecDepth 10000 in
theorem taken_difference (a b : Int) (a0 : -9223372036854775808 ≤ a) (a1 : a ≤ 9223372036854775807) (b0 : -9223372036854775808 ≤ b) (b1 : b ≤ 9223372036854775807) (ca : FitP a) (cb : FitP b) (x y e' : Int)
    (hs : ∀ w, Calls Tryd.prog 66 #[.int .i64 a, .int .i64 b] w fun e w' => e = .returned (.tuple #[.int .i64 x, .int .i64 0]) ∧ w = w')
    (he : ∀ w, Calls Tryd.prog 60 #[.int .i64 x] w fun e w' => e = .returned (.tuple #[.int .i64 y, .int .i64 e']) ∧ w = w') (w : World) :
    Calls Tryd.prog 58 #[.int .i64 a, .int .i64 b, .func (.func 66) #[] #[], .func (.func 60) #[] #[]] w (RetV (.tuple #[.int .i64 y, .int .i64 e']) w) := by
  have ea := Lib.hid (fitb_yes ca)
  have eb := Lib.hid (fitb_yes cb)
  clear ca cb
  go_enter Tryd.func58, Tryd.ntmps58
  go_wp2_with fail
  refine (fits_any a a0 a1 _).mono ?_
  rintro e w9 ⟨rfl, rfl⟩
  rw [ea.out]
  go_wp2_with fail
  refine (fits_any b b0 b1 _).mono ?_
  rintro e w9 ⟨rfl, rfl⟩
  rw [eb.out]
  go_wp2_with fail
  refine (hs _).mono ?_
  rintro e w9 ⟨rfl, rfl⟩
  go_wp2_with fail
  refine (he _).mono ?_
  rintro e w9 ⟨rfl, rfl⟩
  go_wp2
  go_ret2
  exact ⟨rfl, Below.refl _ _⟩

set_option maxHeartbeats 1000000 in
set_option maxRecDepth 10000 in
theorem takew_product (a b : Int) (a0 : -9223372036854775808 ≤ a) (a1 : a ≤ 9223372036854775807) (b0 : -9223372036854775808 ≤ b) (b1 : b ≤ 9223372036854775807) (ca : FitP a) (cb : FitP b) (h l y e' : Int)
    (hs : ∀ w, Calls Tryd.prog 56 #[.int .i64 a, .int .i64 b] w (RetV (.tuple #[wv h l, .int .i64 0]) w))
    (he : ∀ w, Calls Tryd.prog 57 #[wv h l] w (RetV (.tuple #[.int .i64 y, .int .i64 e']) w)) (w : World) :
    Calls Tryd.prog 55 #[.int .i64 a, .int .i64 b, .func (.func 56) #[] #[], .func (.func 57) #[] #[]] w (RetV (.tuple #[.int .i64 y, .int .i64 e']) w) := by
  have ea := Lib.hid (fitb_yes ca)
  have eb := Lib.hid (fitb_yes cb)
  clear ca cb
  go_enter Tryd.func55, Tryd.ntmps55
  go_wp2_with fail
  refine (fits_any a a0 a1 _).mono ?_
  rintro e w9 ⟨rfl, rfl⟩
  rw [ea.out]
  go_wp2_with fail
  refine (fits_any b b0 b1 _).mono ?_
  rintro e w9 ⟨rfl, rfl⟩
  rw [eb.out]
  go_wp2_with fail
  refine (hs _).mono ?_
  rintro e w1 ⟨rfl, hb1⟩
  go_wp2_with fail
  refine (he _).mono ?_
  rintro e w2 ⟨rfl, hb2⟩
  have B := b_trans (b_alloc hb1) hb2
  clear hb1 hb2
  go_wp2
  go_ret2
  exact ⟨rfl, B⟩
set_option maxHeartbeats 1000000 in
set_option maxRecDepth 10000 in
theorem takew_product_err (a b : Int) (a0 : -9223372036854775808 ≤ a) (a1 : a ≤ 9223372036854775807) (b0 : -9223372036854775808 ≤ b) (b1 : b ≤ 9223372036854775807) (ca : FitP a) (cb : FitP b) (fe : Value) (h l e' : Int) (e0 : (e' == 0) = false)
    (hs : ∀ w, Calls Tryd.prog 56 #[.int .i64 a, .int .i64 b] w (RetV (.tuple #[wv h l, .int .i64 e']) w)) (w : World) :
    Calls Tryd.prog 55 #[.int .i64 a, .int .i64 b, .func (.func 56) #[] #[], fe] w (RetV (.tuple #[.int .i64 0, .int .i64 e']) w) := by
  have ea := Lib.hid (fitb_yes ca)
  have eb := Lib.hid (fitb_yes cb)
  clear ca cb
  go_enter Tryd.func55, Tryd.ntmps55
  go_wp2_with fail
  refine (fits_any a a0 a1 _).mono ?_
  rintro e w9 ⟨rfl, rfl⟩
  rw [ea.out]
  go_wp2_with fail
  refine (fits_any b b0 b1 _).mono ?_
  rintro e w9 ⟨rfl, rfl⟩
  rw [eb.out]
  go_wp2_with fail
  refine (hs _).mono ?_
  rintro e w1 ⟨rfl, hb1⟩
  have B := b_alloc (o := Obj.cells #[.int .i64 h, .int .u64 l] 78) hb1
  clear hb1
  go_wp2
  go_ret2
  exact ⟨rfl, B⟩

/-- What comes of a whole number: itself, if it fits, else 0. -/
theorem narrow_any (h l z : Int) (x : IsW h l z) (w : World) :
    Calls Tryd.prog 57 #[wv h l] w (RetV (.tuple #[.int .i64 (nz z), .int .i64 (ne z)]) w) := by
  by_cases c : -9223372036854775808 ≤ z ∧ z ≤ 9223372036854775807
  · have E := Lib.hid (iz_of c)
    go_enter Tryd.func57, Tryd.ntmps57
    go_wp2_with fail
    refine (int_any h l z x _).mono ?_
    rintro e w1 ⟨rfl, hb1⟩
    rw [E.out.1, E.out.2]
    go_wp2_with fail
    refine (fitting_any z c.1 c.2 _).mono ?_
    rintro e w2 ⟨rfl, rfl⟩
    have B := b_trans (b_alloc (Below.refl _ _)) hb1
    clear hb1
    go_wp2
    go_ret2
    exact ⟨rfl, B⟩
  · have E := Lib.hid (iz_no c)
    have N := Lib.hid (nz_no (x := z) (by omega))
    clear c
    go_enter Tryd.func57, Tryd.ntmps57
    go_wp2_with fail
    refine (int_any h l z x _).mono ?_
    rintro e w1 ⟨rfl, hb1⟩
    rw [E.out.1, E.out.2]
    have B := b_trans (b_alloc (Below.refl _ _)) hb1
    clear hb1
    go_wp2
    go_ret2
    exact ⟨by rw [N.out.1, N.out.2]; rfl, B⟩
end Go.Proofs.YtplhienacfiiaaaDoor

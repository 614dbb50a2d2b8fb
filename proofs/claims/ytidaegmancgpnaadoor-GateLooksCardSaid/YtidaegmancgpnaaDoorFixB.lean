/- Package fix: Add, Sub, Mul, Div, Clamp, Out, In: each call's answer, for every argument. -/
import Derived.Test.YtidaegmancgpnaaDoorFixA
import Derived.Test.YtidaegmancgpnaaDoorFixed
namespace Go.Proofs.YtidaegmancgpnaaDoor
open Go.RowKit Go.Shelf

theorem sum_fix (a b : Int) (ca : FitP a) (cb : FitP b) (w : World) :
    Calls Tryd.prog 25 #[.int .i64 a, .int .i64 b] w fun e w' => e = .returned (.tuple #[.int .i64 (a + b), .int .i64 0]) ∧ w = w' := by
  go_enter Tryd.func25, Tryd.ntmps25
  go_wp2
  go_ret2
  refine ⟨?_, rfl⟩
  simp
theorem difference_fix (a b : Int) (ca : FitP a) (cb : FitP b) (w : World) :
    Calls Tryd.prog 23 #[.int .i64 a, .int .i64 b] w fun e w' => e = .returned (.tuple #[.int .i64 (a - b), .int .i64 0]) ∧ w = w' := by
  go_enter Tryd.func23, Tryd.ntmps23
  go_wp2
  go_ret2
  refine ⟨?_, rfl⟩
  simp

/-- What comes of two numbers and x, which is reckoned of them: x, if all three fit, else 0; the error's number. -/
def gz (a b x : Int) : Int := if FitP a ∧ FitP b then nz x else 0
def ge (a b x : Int) : Int := if FitP a ∧ FitP b then ne x else 1
theorem gz_of {a b : Int} (h : FitP a ∧ FitP b) (x : Int) : gz a b x = nz x ∧ ge a b x = ne x := ⟨if_pos h, if_pos h⟩
theorem gz_no {a b : Int} (h : ¬ (FitP a ∧ FitP b)) (x : Int) : gz a b x = 0 ∧ ge a b x = 1 := ⟨if_neg h, if_neg h⟩
theorem add_fix (a b : Int) (a0 : -9223372036854775808 ≤ a) (a1 : a ≤ 9223372036854775807) (b0 : -9223372036854775808 ≤ b) (b1 : b ≤ 9223372036854775807) (w : World) :
    Calls Tryd.prog 12 #[.int .i64 a, .int .i64 b] w (RetV (.tuple #[.int .i64 (gz a b (a + b)), .int .i64 (ge a b (a + b))]) w) := by
  have cT : Calls Tryd.prog 22 #[.int .i64 a, .int .i64 b, .func (.func 25) #[] #[], .func (.func 24) #[] #[]] w (RetV (.tuple #[.int .i64 (gz a b (a + b)), .int .i64 (ge a b (a + b))]) w) := by
    by_cases c : FitP a ∧ FitP b
    · rw [(gz_of c _).1, (gz_of c _).2]
      exact taken_sum a b a0 a1 b0 b1 c.1 c.2 (a + b) _ _ (sum_fix a b c.1 c.2) (fitting_any (a + b) (by omega) (by omega)) w
    · rw [(gz_no c _).1, (gz_no c _).2]
      exact taken_bad a b a0 a1 b0 b1 c _ _ w
  go_enter Tryd.func12, Tryd.ntmps12
  go_wp2_with fail
  refine (cT).mono ?_
  rintro e w1 ⟨rfl, hb1⟩
  go_wp2
  go_ret2
  exact ⟨rfl, hb1⟩
theorem sub_fix (a b : Int) (a0 : -9223372036854775808 ≤ a) (a1 : a ≤ 9223372036854775807) (b0 : -9223372036854775808 ≤ b) (b1 : b ≤ 9223372036854775807) (w : World) :
    Calls Tryd.prog 11 #[.int .i64 a, .int .i64 b] w (RetV (.tuple #[.int .i64 (gz a b (a - b)), .int .i64 (ge a b (a - b))]) w) := by
  have cT : Calls Tryd.prog 22 #[.int .i64 a, .int .i64 b, .func (.func 23) #[] #[], .func (.func 24) #[] #[]] w (RetV (.tuple #[.int .i64 (gz a b (a - b)), .int .i64 (ge a b (a - b))]) w) := by
    by_cases c : FitP a ∧ FitP b
    · rw [(gz_of c _).1, (gz_of c _).2]
      exact taken_difference a b a0 a1 b0 b1 c.1 c.2 (a - b) _ _ (difference_fix a b c.1 c.2) (fitting_any (a - b) (by omega) (by omega)) w
    · rw [(gz_no c _).1, (gz_no c _).2]
      exact taken_bad a b a0 a1 b0 b1 c _ _ w
  go_enter Tryd.func11, Tryd.ntmps11
  go_wp2_with fail
  refine (cT).mono ?_
  rintro e w1 ⟨rfl, hb1⟩
  go_wp2
  go_ret2
  exact ⟨rfl, hb1⟩

theorem mul_bd {a b : Int} (ca : FitP a) (cb : FitP b) : -83076749736557242056487941267521536 ≤ a * b ∧ a * b ≤ 83076749736557242056487941267521536 := by
  have h : a.natAbs * b.natAbs ≤ 288230376151711744 * 288230376151711744 := Nat.mul_le_mul (by omega) (by omega)
  have e : (a * b).natAbs = a.natAbs * b.natAbs := Int.natAbs_mul a b
  omega
theorem evn_near (A B : Int) : evn A B = A / B ∨ evn A B = A / B + 1 := by unfold evn near; split <;> simp
theorem evn_fits {a b : Int} (ca : FitP a) (cb : FitP b) : Fits (evn (a * b) 1099511627776) := by
  have h := mul_bd ca cb
  have := evn_near (a * b) 1099511627776
  exact ⟨by omega, by omega⟩
theorem one_bd {a : Int} (ca : FitP a) : Fits (a * 1099511627776) ∧ ¬ (a * 1099511627776 = -170141183460469231731687303715884105728) := ⟨⟨by omega, by omega⟩, by omega⟩
/-- What comes of Div; the error's number. -/
def dz (a b : Int) : Int := if FitP a ∧ FitP b then (if b = 0 then 0 else nz (ef (a * 1099511627776) b)) else 0
def de (a b : Int) : Int := if FitP a ∧ FitP b then (if b = 0 then 4 else ne (ef (a * 1099511627776) b)) else 1
theorem dz_no {a b : Int} (h : ¬ (FitP a ∧ FitP b)) : dz a b = 0 ∧ de a b = 1 := ⟨if_neg h, if_neg h⟩
theorem dz_zero {a b : Int} (h : FitP a ∧ FitP b) (b0 : b = 0) : dz a b = 0 ∧ de a b = 4 := by unfold dz de; rw [if_pos h, if_pos h, if_pos b0, if_pos b0]; exact ⟨rfl, rfl⟩
theorem dz_of {a b : Int} (h : FitP a ∧ FitP b) (b0 : b ≠ 0) : dz a b = nz (ef (a * 1099511627776) b) ∧ de a b = ne (ef (a * 1099511627776) b) := by unfold dz de; rw [if_pos h, if_pos h, if_neg b0, if_neg b0]; exact ⟨rfl, rfl⟩
/-- x, no further than m from 0. -/
def clz (x m : Int) : Int := if m < 0 then 0 else if x < -m then -m else if m < x then m else x
theorem clamp_fix (x m : Int) (_x0 : -9223372036854775808 ≤ x) (_x1 : x ≤ 9223372036854775807) (m0 : -9223372036854775808 ≤ m) (m1 : m ≤ 9223372036854775807) (w : World) :
    Calls Tryd.prog 38 #[.int .i64 x, .int .i64 m] w fun e w' => e = .returned (.int .i64 (clz x m)) ∧ w = w' := by
  by_cases c : m < 0
  · have E := Lib.hid (show clz x m = 0 from if_pos c)
    go_enter Tryd.func38, Tryd.ntmps38
    go_wp2
    go_ret
    exact ⟨by rw [E.out]; rfl, rfl⟩
  · have n1 : wrap64 (-m) = -m := by unfold wrap64; omega
    by_cases d : x < -m
    · have E := Lib.hid (show clz x m = -m by unfold clz; rw [if_neg c, if_pos d])
      have d2 : ¬ m < x := by omega
      go_enter Tryd.func38, Tryd.ntmps38
      go_wp2_with (simp only [n1])
      go_ret
      exact ⟨by rw [E.out]; simp, rfl⟩
    · by_cases d2 : m < x
      · have E := Lib.hid (show clz x m = m by unfold clz; rw [if_neg c, if_neg d, if_pos d2])
        go_enter Tryd.func38, Tryd.ntmps38
        go_wp2_with (simp only [n1])
        go_ret
        exact ⟨by rw [E.out]; rfl, rfl⟩
      · have E := Lib.hid (show clz x m = x by unfold clz; rw [if_neg c, if_neg d, if_neg d2])
        go_enter Tryd.func38, Tryd.ntmps38
        go_wp2_with (simp only [n1])
        go_ret
        exact ⟨by rw [E.out]; rfl, rfl⟩
theorem out_bd {x : Int} (x0 : -9223372036854775808 ≤ x) (x1 : x ≤ 9223372036854775807) : -9223372036854775808 ≤ evn x 16777216 ∧ evn x 16777216 ≤ 9223372036854775807 := by
  have := evn_near x 16777216
  omega
end Go.Proofs.YtidaegmancgpnaaDoor

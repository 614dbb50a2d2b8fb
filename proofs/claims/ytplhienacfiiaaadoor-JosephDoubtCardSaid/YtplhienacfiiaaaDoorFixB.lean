/- Package fix: Add, Sub, Mul, Div, Clamp, Out, In: each call's answer, for every argument. -/
import Derived.Test.YtplhienacfiiaaaDoorFixA
import Derived.Test.YtplhienacfiiaaaDoorFixed
namespace Go.Proofs.YtplhienacfiiaaaDoor
open Go.RowKit Go.Shelf

theorem sum_fix (a b : Int) (ca : FitP a) (cb : FitP b) (w : World) :
    Calls Tryd.prog 59 #[.int .i64 a, .int .i64 b] w fun e w' => e = .returned (.tuple #[.int .i64 (a + b), .int .i64 0]) ∧ w = w' := by
  go_enter Tryd.func59, Tryd.ntmps59
  go_wp2
  go_ret2
  refine ⟨?_, rfl⟩
  simp
theorem difference_fix (a b : Int) (ca : FitP a) (cb : FitP b) (w : World) :
    Calls Tryd.prog 66 #[.int .i64 a, .int .i64 b] w fun e w' => e = .returned (.tuple #[.int .i64 (a - b), .int .i64 0]) ∧ w = w' := by
  go_enter Tryd.func66, Tryd.ntmps66
  go_wp2
  go_ret2
  refine ⟨?_, rfl⟩
  simp

/-- What comes of two numbers and x, which is reckoned of them: x, if all three fit, else 0; the error's number. -/
def gz (a b x : Int) : Int := if FitP a ∧ FitP b then nz x else 0
def ge (a b x : Int) : Int := if FitP a ∧ FitP b then ne x else 1
theorem gz_of {a b : Int} (h : FitP a ∧ FitP b) (x : Int) : gz a b x = nz x ∧ ge a b x = ne x := ⟨if_pos h, if_pos h⟩
theorem gz_no {a b : Int} (h : ¬ (FitP a ∧ FitP b)) (x : Int) : gz a b x = 0 ∧ ge a b x = 1 := ⟨if_neg h, if_neg h⟩
theorem add_fix (a b : Int) (a0 : -9223372036854775808 ≤ a) (a1 : a ≤ 9223372036854775807) (b0 : -9223372036854775808 ≤ b) (b1 : b ≤ 9223372036854775807) (w : World) :
    Calls Tryd.prog 34 #[.int .i64 a, .int .i64 b] w (RetV (.tuple #[.int .i64 (gz a b (a + b)), .int .i64 (ge a b (a + b))]) w) := by
  have cT : Calls Tryd.prog 58 #[.int .i64 a, .int .i64 b, .func (.func 59) #[] #[], .func (.func 60) #[] #[]] w (RetV (.tuple #[.int .i64 (gz a b (a + b)), .int .i64 (ge a b (a + b))]) w) := by
    by_cases c : FitP a ∧ FitP b
    · rw [(gz_of c _).1, (gz_of c _).2]
      exact taken_sum a b a0 a1 b0 b1 c.1 c.2 (a + b) _ _ (sum_fix a b c.1 c.2) (fitting_any (a + b) (by omega) (by omega)) w
    · rw [(gz_no c _).1, (gz_no c _).2]
      exact taken_bad a b a0 a1 b0 b1 c _ _ w
  go_enter Tryd.func34, Tryd.ntmps34
  go_wp2_with fail
  refine (cT).mono ?_
  rintro e w1 ⟨rfl, hb1⟩
  go_wp2
  go_ret2
  exact ⟨rfl, hb1⟩
theorem sub_fix (a b : Int) (a0 : -9223372036854775808 ≤ a) (a1 : a ≤ 9223372036854775807) (b0 : -9223372036854775808 ≤ b) (b1 : b ≤ 9223372036854775807) (w : World) :
    Calls Tryd.prog 41 #[.int .i64 a, .int .i64 b] w (RetV (.tuple #[.int .i64 (gz a b (a - b)), .int .i64 (ge a b (a - b))]) w) := by
  have cT : Calls Tryd.prog 58 #[.int .i64 a, .int .i64 b, .func (.func 66) #[] #[], .func (.func 60) #[] #[]] w (RetV (.tuple #[.int .i64 (gz a b (a - b)), .int .i64 (ge a b (a - b))]) w) := by
    by_cases c : FitP a ∧ FitP b
    · rw [(gz_of c _).1, (gz_of c _).2]
      exact taken_difference a b a0 a1 b0 b1 c.1 c.2 (a - b) _ _ (difference_fix a b c.1 c.2) (fitting_any (a - b) (by omega) (by omega)) w
    · rw [(gz_no c _).1, (gz_no c _).2]
      exact taken_bad a b a0 a1 b0 b1 c _ _ w
  go_enter Tryd.func41, Tryd.ntmps41
  go_wp2_with fail
  refine (cT).mono ?_
  rintro e w1 ⟨rfl, hb1⟩
  go_wp2
  go_ret2
  exact ⟨rfl, hb1⟩

theorem mul_bd {a b : Int} (ca : FitP a) (cb : FitP b) : -83076749736557242056487941267521536 ≤ a * b ∧ a * b ≤ 83076749736557242056487941267521536 := by
  have h : a.natAbs * b.natAbs ≤ 288230376151711744 * 288230376151711744 := Nat.mul_le_mul (by omega) (by omega)
  have e : (a * b).natAbs = a.natAbs * b.natAbs := Int.natAbs_mul a b
  omega
theorem evn_near (A B : Int) : evn A B = A / B ∨ evn A B = A / B + 1 := by unfold evn near; split <;> simp
theorem evn_fits {a b : Int} (ca : FitP a) (cb : FitP b) : Fits (evn (a * b) 1099511627776) := by
  have h := mul_bd ca cb
  have := evn_near (a * b) 1099511627776
  exact ⟨by omega, by omega⟩
set_option maxHeartbeats 1000000 in
set_option maxRecDepth 10000 in
theorem product_any (a b : Int) (a0 : -9223372036854775808 ≤ a) (a1 : a ≤ 9223372036854775807) (b0 : -9223372036854775808 ≤ b) (b1 : b ≤ 9223372036854775807) (_ca : FitP a) (_cb : FitP b) (w : World) :
    Calls Tryd.prog 56 #[.int .i64 a, .int .i64 b] w (RetWE (evn (a * b) 1099511627776) 0 w) := by
  go_enter Tryd.func56, Tryd.ntmps56
  go_wp2_with fail
  refine (mul_any a b a0 a1 b0 b1 _).mono ?_
  rintro e w1 ⟨h1, l1, rfl, x1, hb1⟩
  go_wp2_with fail
  refine (half_any _ _ _ 40 x1 (by decide) (by decide) _).mono ?_
  rintro e w2 ⟨h2, l2, rfl, x2, hb2⟩
  have r0 : WC w1 w.heap.size 0 0 := wc_keep hb1 (by simp [WC, go_sem])
  have f0 : WF w1 w.heap.size := wf_keep hb1 (h := 0) (l := 0) (by simp [WC, go_sem]) (by simp [WF, go_sem])
  have r1 := wc_keep hb2 r0
  have f1 := wf_keep hb2 r0 f0
  have B1 : Below w.heap.size w w2 := b_trans (b_trans (b_alloc (Below.refl _ _)) hb1) hb2
  clear hb1 hb2 x1 r0 f0
  go_wp2
  rw [show (2 : Int) ^ (40 : Int).toNat = 1099511627776 by decide] at x2
  exact bodyPost_ret (v := .tuple #[wv h2 l2, .int .i64 0]) (by simp [results, Tryd.results56, go_sem, r1]) rfl ⟨_, _, rfl, x2, b_set (b_set B1 (by simp)) (by simp)⟩
theorem mul_fix (a b : Int) (a0 : -9223372036854775808 ≤ a) (a1 : a ≤ 9223372036854775807) (b0 : -9223372036854775808 ≤ b) (b1 : b ≤ 9223372036854775807) (w : World) :
    Calls Tryd.prog 32 #[.int .i64 a, .int .i64 b] w (RetV (.tuple #[.int .i64 (gz a b (evn (a * b) 1099511627776)), .int .i64 (ge a b (evn (a * b) 1099511627776))]) w) := by
  have cT : Calls Tryd.prog 55 #[.int .i64 a, .int .i64 b, .func (.func 56) #[] #[], .func (.func 57) #[] #[]] w (RetV (.tuple #[.int .i64 (gz a b (evn (a * b) 1099511627776)), .int .i64 (ge a b (evn (a * b) 1099511627776))]) w) := by
    by_cases c : FitP a ∧ FitP b
    · rw [(gz_of c _).1, (gz_of c _).2]
      have x := IsW.mk' (evn_fits c.1 c.2)
      exact takew_product a b a0 a1 b0 b1 c.1 c.2 _ _ _ _ (fun w => (product_any a b a0 a1 b0 b1 c.1 c.2 w).mono fun _ _ h => retWE_det x h) (narrow_any _ _ _ x) w
    · rw [(gz_no c _).1, (gz_no c _).2]
      exact takew_bad a b a0 a1 b0 b1 c _ _ w
  generalize evn (a * b) 1099511627776 = z at *
  go_enter Tryd.func32, Tryd.ntmps32
  go_wp2_with fail
  refine (cT).mono ?_
  rintro e w1 ⟨rfl, hb1⟩
  go_wp2
  go_ret2
  exact ⟨rfl, hb1⟩

theorem one_bd {a : Int} (ca : FitP a) : Fits (a * 1099511627776) ∧ ¬ (a * 1099511627776 = -170141183460469231731687303715884105728) := ⟨⟨by omega, by omega⟩, by omega⟩
/-- What comes of Div; the error's number. -/
def dz (a b : Int) : Int := if FitP a ∧ FitP b then (if b = 0 then 0 else nz (ef (a * 1099511627776) b)) else 0
def de (a b : Int) : Int := if FitP a ∧ FitP b then (if b = 0 then 4 else ne (ef (a * 1099511627776) b)) else 1
theorem dz_no {a b : Int} (h : ¬ (FitP a ∧ FitP b)) : dz a b = 0 ∧ de a b = 1 := ⟨if_neg h, if_neg h⟩
theorem dz_zero {a b : Int} (h : FitP a ∧ FitP b) (b0 : b = 0) : dz a b = 0 ∧ de a b = 4 := by unfold dz de; rw [if_pos h, if_pos h, if_pos b0, if_pos b0]; exact ⟨rfl, rfl⟩
theorem dz_of {a b : Int} (h : FitP a ∧ FitP b) (b0 : b ≠ 0) : dz a b = nz (ef (a * 1099511627776) b) ∧ de a b = ne (ef (a * 1099511627776) b) := by unfold dz de; rw [if_pos h, if_pos h, if_neg b0, if_neg b0]; exact ⟨rfl, rfl⟩
/-- x, no further than m from 0. -/
def clz (x m : Int) : Int := if m < 0 then 0 else if x < -m then -m else if m < x then m else x
theorem clamp_fix (x m : Int) (_x0 : -9223372036854775808 ≤ x) (_x1 : x ≤ 9223372036854775807) (m0 : -9223372036854775808 ≤ m) (m1 : m ≤ 9223372036854775807) (w : World) :
    Calls Tryd.prog 54 #[.int .i64 x, .int .i64 m] w fun e w' => e = .returned (.int .i64 (clz x m)) ∧ w = w' := by
  by_cases c : m < 0
  · have E := Lib.hid (show clz x m = 0 from if_pos c)
    go_enter Tryd.func54, Tryd.ntmps54
    go_wp2
    go_ret
    exact ⟨by rw [E.out]; rfl, rfl⟩
  · have n1 : wrap64 (-m) = -m := by unfold wrap64; omega
    by_cases d : x < -m
    · have E := Lib.hid (show clz x m = -m by unfold clz; rw [if_neg c, if_pos d])
      have d2 : ¬ m < x := by omega
      go_enter Tryd.func54, Tryd.ntmps54
      go_wp2_with (simp only [n1])
      go_ret
      exact ⟨by rw [E.out]; simp, rfl⟩
    · by_cases d2 : m < x
      · have E := Lib.hid (show clz x m = m by unfold clz; rw [if_neg c, if_neg d, if_pos d2])
        go_enter Tryd.func54, Tryd.ntmps54
        go_wp2_with (simp only [n1])
        go_ret
        exact ⟨by rw [E.out]; rfl, rfl⟩
      · have E := Lib.hid (show clz x m = x by unfold clz; rw [if_neg c, if_neg d, if_neg d2])
        go_enter Tryd.func54, Tryd.ntmps54
        go_wp2_with (simp only [n1])
        go_ret
        exact ⟨by rw [E.out]; rfl, rfl⟩
theorem out_bd {x : Int} (x0 : -9223372036854775808 ≤ x) (x1 : x ≤ 9223372036854775807) : -9223372036854775808 ≤ evn x 16777216 ∧ evn x 16777216 ≤ 9223372036854775807 := by
  have := evn_near x 16777216
  omega
end Go.Proofs.YtplhienacfiiaaaDoor

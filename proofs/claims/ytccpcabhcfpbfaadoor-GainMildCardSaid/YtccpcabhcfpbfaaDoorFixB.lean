/- Package fix: Add, Sub, Mul, Div, Clamp, Out, In: each call's answer, for every argument. -/
import Derived.Test.YtccpcabhcfpbfaaDoorFixA
import Derived.Test.YtccpcabhcfpbfaaDoorFixed
namespace Go.Proofs.YtccpcabhcfpbfaaDoor
open Go.RowKit Go.Shelf

/-- What comes of two numbers and x, which is reckoned of them: x, if all three fit, else 0; the error's number. -/
def gz (a b x : Int) : Int := if FitP a ∧ FitP b then nz x else 0
def ge (a b x : Int) : Int := if FitP a ∧ FitP b then ne x else 1
theorem gz_of {a b : Int} (h : FitP a ∧ FitP b) (x : Int) : gz a b x = nz x ∧ ge a b x = ne x := ⟨if_pos h, if_pos h⟩
theorem gz_no {a b : Int} (h : ¬ (FitP a ∧ FitP b)) (x : Int) : gz a b x = 0 ∧ ge a b x = 1 := ⟨if_neg h, if_neg h⟩
theorem mul_bd {a b : Int} (ca : FitP a) (cb : FitP b) : -83076749736557242056487941267521536 ≤ a * b ∧ a * b ≤ 83076749736557242056487941267521536 := by
  have h : a.natAbs * b.natAbs ≤ 288230376151711744 * 288230376151711744 := Nat.mul_le_mul (by omega) (by omega)
  have e : (a * b).natAbs = a.natAbs * b.natAbs := Int.natAbs_mul a b
  omega
theorem evn_near (A B : Int) : evn A B = A / B ∨ evn A B = A / B + 1 := by unfold evn near; split <;> simp
theorem evn_fits {a b : Int} (ca : FitP a) (cb : FitP b) : Fits (evn (a * b) 1099511627776) := by
  have h := mul_bd ca cb
  have := evn_near (a * b) 1099511627776
  exact ⟨by omega, by omega⟩
theorem one_bd {a : Int} (ca : FitP a) : Fits (a * 1099511627776) ∧ ¬ (a * 1099511627776 = -170141183460469231731687303715884105728) := ⟨⟨by omega, by omega⟩, by omega⟩
set_option maxHeartbeats 1000000 in
set_option maxRecDepth 10000 in
theorem quotient_any (a b : Int) (a0 : -9223372036854775808 ≤ a) (a1 : a ≤ 9223372036854775807) (b0 : -9223372036854775808 ≤ b) (b1 : b ≤ 9223372036854775807) (ca : FitP a) (b2 : b ≠ 0) (w : World) :
    Calls Tryd.prog 24 #[.int .i64 a, .int .i64 b] w (RetWE (ef (a * 1099511627776) b) 0 w) := by
  have hf := ef_fits (one_bd ca).1 b2 (fun h => (one_bd ca).2 h.1)
  go_enter Tryd.func24, Tryd.ntmps24
  go_wp2_with fail
  refine (mul_any a 1099511627776 a0 a1 (by decide) (by decide) _).mono ?_
  rintro e w1 ⟨h1, l1, rfl, x1, hb1⟩
  go_wp2_with fail
  refine (even_any _ _ _ b x1 b2 b0 b1 _).mono ?_
  rintro e w2 ⟨h2, l2, rfl, x2, hb2⟩
  have r0 : WC w1 w.heap.size 0 0 := wc_keep hb1 (by simp [WC, go_sem])
  have f0 : WF w1 w.heap.size := wf_keep hb1 (h := 0) (l := 0) (by simp [WC, go_sem]) (by simp [WF, go_sem])
  rw [fz_of hf] at x2
  rw [fe_of hf]
  have r1 := wc_keep hb2 r0
  have f1 := wf_keep hb2 r0 f0
  have B1 : Below w.heap.size w w2 := b_trans (b_trans (b_alloc (Below.refl _ _)) hb1) hb2
  clear hb1 hb2 x1 r0 f0
  go_wp2
  exact bodyPost_ret (v := .tuple #[wv h2 l2, .int .i64 0]) (by simp [results, Tryd.results24, go_sem, r1]) rfl ⟨_, _, rfl, x2, b_set (b_set B1 (by simp)) (by simp)⟩
set_option maxHeartbeats 1000000 in
set_option maxRecDepth 10000 in
theorem quotient_zero (a : Int) (a0 : -9223372036854775808 ≤ a) (a1 : a ≤ 9223372036854775807) (w : World) :
    Calls Tryd.prog 24 #[.int .i64 a, .int .i64 0] w (RetWE 0 4 w) := by
  go_enter Tryd.func24, Tryd.ntmps24
  go_wp2_with fail
  refine (mul_any a 1099511627776 a0 a1 (by decide) (by decide) _).mono ?_
  rintro e w1 ⟨h1, l1, rfl, x1, hb1⟩
  go_wp2_with fail
  refine (even_zero _ _ _).mono ?_
  rintro e w2 ⟨h2, l2, rfl, x2, hb2⟩
  have r0 : WC w1 w.heap.size 0 0 := wc_keep hb1 (by simp [WC, go_sem])
  have f0 : WF w1 w.heap.size := wf_keep hb1 (h := 0) (l := 0) (by simp [WC, go_sem]) (by simp [WF, go_sem])
  have r1 := wc_keep hb2 r0
  have f1 := wf_keep hb2 r0 f0
  have B1 : Below w.heap.size w w2 := b_trans (b_trans (b_alloc (Below.refl _ _)) hb1) hb2
  clear hb1 hb2 x1 r0 f0
  go_wp2
  exact bodyPost_ret (v := .tuple #[wv h2 l2, .int .i64 4]) (by simp [results, Tryd.results24, go_sem, r1]) rfl ⟨_, _, rfl, x2, b_set (b_set B1 (by simp)) (by simp)⟩

/-- What comes of Div; the error's number. -/
def dz (a b : Int) : Int := if FitP a ∧ FitP b then (if b = 0 then 0 else nz (ef (a * 1099511627776) b)) else 0
def de (a b : Int) : Int := if FitP a ∧ FitP b then (if b = 0 then 4 else ne (ef (a * 1099511627776) b)) else 1
theorem dz_no {a b : Int} (h : ¬ (FitP a ∧ FitP b)) : dz a b = 0 ∧ de a b = 1 := ⟨if_neg h, if_neg h⟩
theorem dz_zero {a b : Int} (h : FitP a ∧ FitP b) (b0 : b = 0) : dz a b = 0 ∧ de a b = 4 := by unfold dz de; rw [if_pos h, if_pos h, if_pos b0, if_pos b0]; exact ⟨rfl, rfl⟩
theorem dz_of {a b : Int} (h : FitP a ∧ FitP b) (b0 : b ≠ 0) : dz a b = nz (ef (a * 1099511627776) b) ∧ de a b = ne (ef (a * 1099511627776) b) := by unfold dz de; rw [if_pos h, if_pos h, if_neg b0, if_neg b0]; exact ⟨rfl, rfl⟩
theorem div_fix (a b : Int) (a0 : -9223372036854775808 ≤ a) (a1 : a ≤ 9223372036854775807) (b0 : -9223372036854775808 ≤ b) (b1 : b ≤ 9223372036854775807) (w : World) :
    Calls Tryd.prog 15 #[.int .i64 a, .int .i64 b] w (RetV (.tuple #[.int .i64 (dz a b), .int .i64 (de a b)]) w) := by
  have cT : Calls Tryd.prog 23 #[.int .i64 a, .int .i64 b, .func (.func 24) #[] #[], .func (.func 25) #[] #[]] w (RetV (.tuple #[.int .i64 (dz a b), .int .i64 (de a b)]) w) := by
    by_cases c : FitP a ∧ FitP b
    · by_cases d : b = 0
      · rw [(dz_zero c d).1, (dz_zero c d).2]
        subst d
        exact takew_quotient_err a 0 a0 a1 b0 b1 c.1 c.2 _ 0 0 4 (by decide) (fun w => (quotient_zero a a0 a1 w).mono fun _ _ h => retWE_det isW_zero h) w
      · rw [(dz_of c d).1, (dz_of c d).2]
        have x := IsW.mk' (ef_fits (one_bd c.1).1 d (fun h => (one_bd c.1).2 h.1))
        exact takew_quotient a b a0 a1 b0 b1 c.1 c.2 _ _ _ _ (fun w => (quotient_any a b a0 a1 b0 b1 c.1 d w).mono fun _ _ h => retWE_det x h) (narrow_any _ _ _ x) w
    · rw [(dz_no c).1, (dz_no c).2]
      exact takew_bad a b a0 a1 b0 b1 c _ _ w
  generalize dz a b = z at *
  generalize de a b = z' at *
  go_enter Tryd.func15, Tryd.ntmps15
  go_wp2_with fail
  refine (cT).mono ?_
  rintro e w1 ⟨rfl, hb1⟩
  go_wp2
  go_ret2
  exact ⟨rfl, hb1⟩

/-- x, no further than m from 0. -/
def clz (x m : Int) : Int := if m < 0 then 0 else if x < -m then -m else if m < x then m else x
theorem clamp_fix (x m : Int) (_x0 : -9223372036854775808 ≤ x) (_x1 : x ≤ 9223372036854775807) (m0 : -9223372036854775808 ≤ m) (m1 : m ≤ 9223372036854775807) (w : World) :
    Calls Tryd.prog 65 #[.int .i64 x, .int .i64 m] w fun e w' => e = .returned (.int .i64 (clz x m)) ∧ w = w' := by
  by_cases c : m < 0
  · have E := Lib.hid (show clz x m = 0 from if_pos c)
    go_enter Tryd.func65, Tryd.ntmps65
    go_wp2
    go_ret
    exact ⟨by rw [E.out]; rfl, rfl⟩
  · have n1 : wrap64 (-m) = -m := by unfold wrap64; omega
    by_cases d : x < -m
    · have E := Lib.hid (show clz x m = -m by unfold clz; rw [if_neg c, if_pos d])
      have d2 : ¬ m < x := by omega
      go_enter Tryd.func65, Tryd.ntmps65
      go_wp2_with (simp only [n1])
      go_ret
      exact ⟨by rw [E.out]; simp, rfl⟩
    · by_cases d2 : m < x
      · have E := Lib.hid (show clz x m = m by unfold clz; rw [if_neg c, if_neg d, if_pos d2])
        go_enter Tryd.func65, Tryd.ntmps65
        go_wp2_with (simp only [n1])
        go_ret
        exact ⟨by rw [E.out]; rfl, rfl⟩
      · have E := Lib.hid (show clz x m = x by unfold clz; rw [if_neg c, if_neg d, if_neg d2])
        go_enter Tryd.func65, Tryd.ntmps65
        go_wp2_with (simp only [n1])
        go_ret
        exact ⟨by rw [E.out]; rfl, rfl⟩
theorem out_bd {x : Int} (x0 : -9223372036854775808 ≤ x) (x1 : x ≤ 9223372036854775807) : -9223372036854775808 ≤ evn x 16777216 ∧ evn x 16777216 ≤ 9223372036854775807 := by
  have := evn_near x 16777216
  omega
end Go.Proofs.YtccpcabhcfpbfaaDoor

/- Package fix: Add, Sub, Mul, Div, Clamp, Out, In: each call's answer, for every argument. -/
import Derived.Test.YtoohaphaeccafaaFixA
import Derived.Test.YtoohaphaeccafaaFixed
namespace Go.Proofs.Ytoohaphaeccafaa
open Go.RowKit Go.Shelf

/-- What comes of two numbers and x, which is reckoned of them: x, if all three fit, else 0; the error's number. -/
def gz (a b x : Int) : Int := if FitP a ∧ FitP b then nz x else 0
def ge (a b x : Int) : Int := if FitP a ∧ FitP b then ne x else 1
theorem gz_of {a b : Int} (h : FitP a ∧ FitP b) (x : Int) : gz a b x = nz x ∧ ge a b x = ne x := ⟨if_pos h, if_pos h⟩
theorem gz_no {a b : Int} (h : ¬ (FitP a ∧ FitP b)) (x : Int) : gz a b x = 0 ∧ ge a b x = 1 := ⟨if_neg h, if_neg h⟩
theorem mul_bd {a b : Int} (ca : FitP a) (cb : FitP b) : -83076749736557242056487941267521536 ≤ a * b ∧ a * b ≤ 83076749736557242056487941267521536 := by
  have h : a.natAbs * b.natAbs ≤ 288230376151711744 * 288230376151711744 := Nat.mul_le_mul (by omega) (by omega)
  have e : (a * b).natAbs = a.natAbs * b.natAbs := Int.natAbs_mul a b
  omega
theorem evn_near (A B : Int) : evn A B = A / B ∨ evn A B = A / B + 1 := by unfold evn near; split <;> simp
theorem evn_fits {a b : Int} (ca : FitP a) (cb : FitP b) : Fits (evn (a * b) 1099511627776) := by
  have h := mul_bd ca cb
  have := evn_near (a * b) 1099511627776
  exact ⟨by omega, by omega⟩
theorem one_bd {a : Int} (ca : FitP a) : Fits (a * 1099511627776) ∧ ¬ (a * 1099511627776 = -170141183460469231731687303715884105728) := ⟨⟨by omega, by omega⟩, by omega⟩
/-- What comes of Div; the error's number. -/
def dz (a b : Int) : Int := if FitP a ∧ FitP b then (if b = 0 then 0 else nz (ef (a * 1099511627776) b)) else 0
def de (a b : Int) : Int := if FitP a ∧ FitP b then (if b = 0 then 4 else ne (ef (a * 1099511627776) b)) else 1
theorem dz_no {a b : Int} (h : ¬ (FitP a ∧ FitP b)) : dz a b = 0 ∧ de a b = 1 := ⟨if_neg h, if_neg h⟩
theorem dz_zero {a b : Int} (h : FitP a ∧ FitP b) (b0 : b = 0) : dz a b = 0 ∧ de a b = 4 := by unfold dz de; rw [if_pos h, if_pos h, if_pos b0, if_pos b0]; exact ⟨rfl, rfl⟩
theorem dz_of {a b : Int} (h : FitP a ∧ FitP b) (b0 : b ≠ 0) : dz a b = nz (ef (a * 1099511627776) b) ∧ de a b = ne (ef (a * 1099511627776) b) := by unfold dz de; rw [if_pos h, if_pos h, if_neg b0, if_neg b0]; exact ⟨rfl, rfl⟩
/-- x, no further than m from 0. -/
def clz (x m : Int) : Int := if m < 0 then 0 else if x < -m then -m else if m < x then m else x
theorem out_bd {x : Int} (x0 : -9223372036854775808 ≤ x) (x1 : x ≤ 9223372036854775807) : -9223372036854775808 ≤ evn x 16777216 ∧ evn x 16777216 ≤ 9223372036854775807 := by
  have := evn_near x 16777216
  omega
end Go.Proofs.Ytoohaphaeccafaa

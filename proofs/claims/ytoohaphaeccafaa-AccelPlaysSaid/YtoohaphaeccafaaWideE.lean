/- Package wide: Up and Half: each call's answer, for every argument. -/
import Derived.Test.YtoohaphaeccafaaWideD
import Derived.Test.YtoohaphaeccafaaRegion
namespace Go.Proofs.Ytoohaphaeccafaa
open Go.RowKit Go.Shelf

theorem pow_div (n : Int) (n0 : 0 ≤ n) (n1 : n ≤ 127) : ∃ q : Int, 1 ≤ (2 : Int) ^ n.toNat ∧ 1 ≤ q ∧ 340282366920938463463374607431768211456 = 2 ^ n.toNat * q := by
  refine ⟨2 ^ (128 - n.toNat), ?_, ?_, ?_⟩
  · have : (0 : Int) < 2 ^ n.toNat := Int.pow_pos (by decide); omega
  · have : (0 : Int) < 2 ^ (128 - n.toNat) := Int.pow_pos (by decide); omega
  · rw [← Int.pow_add, show n.toNat + (128 - n.toNat) = 128 by omega]; decide

theorem up_back {a p q : Int} (p0 : 1 ≤ p) (e : 340282366920938463463374607431768211456 = p * q) : (w128 (a * p) / p = a) ↔ Fits (a * p) := by
  constructor
  · intro h
    have d : p * (w128 (a * p) / p) = w128 (a * p) := by
      apply Int.mul_ediv_cancel'
      have : w128 (a * p) = p * (a - q * ((a * p + 170141183460469231731687303715884105728) / 340282366920938463463374607431768211456)) := by
        rw [Int.mul_sub, ← Int.mul_assoc, ← e, Int.mul_comm p a]
        unfold w128; omega
      rw [this]; exact Int.dvd_mul_right p _
    rw [h, Int.mul_comm] at d
    rw [d]; exact w128_fits _
  · intro h
    rw [w128_of h, Int.mul_ediv_cancel _ (by omega)]

/-- A through B, rounded to even; B above 0. -/
def evn (A B : Int) : Int := near (A / B) (2 * (A % B) - B)

theorem near_sign {q s t : Int} (h : (0 < s ↔ 0 < t) ∧ (s = 0 ↔ t = 0)) : near q s = near q t := by
  unfold near
  simp only [h.1, h.2]

theorem cmp3_sign (a b : Int) : (0 < cmp3 a b ↔ 0 < a - b) ∧ (cmp3 a b = 0 ↔ a - b = 0) := by
  unfold cmp3
  split
  · omega
  · split <;> omega

theorem fits_div {a p : Int} (x : Fits a) (p0 : 1 ≤ p) : Fits (a / p) := by
  obtain ⟨x0, x1⟩ := x
  refine ⟨Int.le_ediv_of_mul_le (by omega) (by omega), ?_⟩
  have : a / p < 170141183460469231731687303715884105728 := Int.ediv_lt_of_lt_mul (by omega) (by omega)
  omega

/-- The numbers of Half: q, what is left, one half. -/
theorem half_nums {a p r : Int} (x : Fits a) (p0 : 2 ≤ p) (p1 : p ≤ 170141183460469231731687303715884105728) (pr : r * p = 170141183460469231731687303715884105728) :
    w128 (a / p * p) = a / p * p ∧ w128 (a - a / p * p) = a % p ∧ Fits (a / p) ∧ Fits (a % p) ∧ Fits (a / p + 1) := by
  have e : a / p * p + a % p = a := by rw [Int.mul_comm]; exact Int.mul_ediv_add_emod a p
  have r0 : 0 ≤ a % p := Int.emod_nonneg _ (by omega)
  have r1 : a % p < p := Int.emod_lt_of_pos _ (by omega)
  obtain ⟨x0, x1⟩ := x
  have q1 : a / p < 85070591730234615865843651857942052864 := Int.ediv_lt_of_lt_mul (by omega) (by omega)
  have f1 : Fits (a / p) := fits_div ⟨x0, x1⟩ (by omega)
  have f2 : Fits (a % p) := ⟨by omega, by omega⟩
  have lo : -170141183460469231731687303715884105728 ≤ a / p * p := by
    have : -r ≤ a / p := Int.le_ediv_of_mul_le (by omega) (by rw [Int.neg_mul]; omega)
    have := Int.mul_le_mul_of_nonneg_right this (show 0 ≤ p by omega)
    rw [Int.neg_mul] at this
    omega
  refine ⟨w128_of ⟨lo, by omega⟩, ?_, f1, f2, ⟨by have := f1.lo; omega, by omega⟩⟩
  rw [show a - a / p * p = a % p by omega]
  exact w128_of f2

theorem pow127 (n : Int) (n0 : 1 ≤ n) (n1 : n ≤ 127) : 2 ≤ (2 : Int) ^ n.toNat ∧ (2 : Int) ^ n.toNat ≤ 170141183460469231731687303715884105728 ∧ (2 : Int) ^ (127 - n).toNat * 2 ^ n.toNat = 170141183460469231731687303715884105728 ∧ (2 : Int) ^ n.toNat = 2 * 2 ^ (n - 1).toNat ∧ Fits (2 ^ (n - 1).toNat) := by
  have e1 : (2 : Int) ^ (127 - n).toNat * 2 ^ n.toNat = 170141183460469231731687303715884105728 := by
    rw [← Int.pow_add, show (127 - n).toNat + n.toNat = 127 by omega]; decide
  have e2 : (2 : Int) ^ n.toNat = 2 * 2 ^ (n - 1).toNat := by
    rw [show n.toNat = (n - 1).toNat + 1 by omega, Int.pow_succ, Int.mul_comm]
  have h1 : (0 : Int) < 2 ^ (n - 1).toNat := Int.pow_pos (by decide)
  have h2 : (0 : Int) < 2 ^ (127 - n).toNat := Int.pow_pos (by decide)
  have h3 : 1 * (2 : Int) ^ n.toNat ≤ 2 ^ (127 - n).toNat * 2 ^ n.toNat := Int.mul_le_mul_of_nonneg_right (by omega) (by omega)
  exact ⟨by omega, by omega, e1, e2, ⟨by omega, by omega⟩⟩

end Go.Proofs.Ytoohaphaeccafaa

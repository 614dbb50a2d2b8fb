/- Package wide: floor whole, Div and Even: each call's answer, for every argument. -/
import Derived.Test.YtoohaphaeccafaaWideH
namespace Go.Proofs.Ytoohaphaeccafaa
open Go.RowKit Go.Shelf

theorem qf_fits {a b : Int} (x : Fits a) (b0 : b ≠ 0) (c : ¬ (a = -170141183460469231731687303715884105728 ∧ b = -1)) : Fits (qf a b) := by
  rcases Bool.eq_false_or_eq_true (decide (a < 0)) with ha | ha <;> rcases Bool.eq_false_or_eq_true (decide (b < 0)) with hb | hb
  · have hs : decide (a < 0) = decide (b < 0) := by rw [ha, hb]
    obtain ⟨x0, x1⟩ := x
    unfold qf
    rw [(sg_cases a b).1 hs]
    simp at ha hb
    have n0 : 0 ≤ (a.natAbs : Int) / (b.natAbs : Int) := Int.ediv_nonneg (by omega) (by omega)
    refine ⟨by omega, ?_⟩
    by_cases hm : a = -170141183460469231731687303715884105728
    · have : (a.natAbs : Int) / (b.natAbs : Int) < 170141183460469231731687303715884105728 := Int.ediv_lt_of_lt_mul (by omega) (by omega)
      omega
    · exact Int.le_trans (Int.ediv_le_self _ (by omega)) (by omega)
  · exact fits_qf x b0 (by rw [ha, hb]; rfl)
  · exact fits_qf x b0 (by rw [ha, hb]; rfl)
  · have hs : decide (a < 0) = decide (b < 0) := by rw [ha, hb]
    obtain ⟨x0, x1⟩ := x
    unfold qf
    rw [(sg_cases a b).1 hs]
    simp at ha hb
    have n0 : 0 ≤ (a.natAbs : Int) / (b.natAbs : Int) := Int.ediv_nonneg (by omega) (by omega)
    refine ⟨by omega, ?_⟩
    exact Int.le_trans (Int.ediv_le_self _ (by omega)) (by omega)

theorem qf_not {a b : Int} (c : a = -170141183460469231731687303715884105728 ∧ b = -1) : qf a b = 170141183460469231731687303715884105728 ∧ rf a b = 0 := by
  obtain ⟨rfl, rfl⟩ := c
  exact ⟨by decide, by decide⟩

/-- a through b, rounded to even; b is not 0. -/
def ef (a b : Int) : Int := near (qf a b) (2 * rf a b - (b.natAbs : Int))

theorem rf_bd (a : Int) {b : Int} (b0 : b ≠ 0) : 0 ≤ rf a b ∧ rf a b < (b.natAbs : Int) := ⟨Int.emod_nonneg _ (by omega), Int.emod_lt_of_pos _ (by omega)⟩

theorem qf_half {a b : Int} (x : Fits a) (b0 : 2 ≤ (b.natAbs : Int)) : Fits (qf a b + 1) := by
  obtain ⟨x0, x1⟩ := x
  unfold qf sg
  have h : ∀ n : Int, -170141183460469231731687303715884105728 ≤ n → n ≤ 170141183460469231731687303715884105728 → Fits (n / (b.natAbs : Int) + 1) := by
    intro n n0 n1
    have l1 : -170141183460469231731687303715884105728 ≤ n / (b.natAbs : Int) := Int.le_ediv_of_mul_le (by omega) (by omega)
    have l2 : n / (b.natAbs : Int) < 100000000000000000000000000000000000000 := Int.ediv_lt_of_lt_mul (by omega) (by omega)
    exact ⟨by omega, by omega⟩
  split
  · exact h _ (by omega) (by omega)
  · exact h _ (by omega) (by omega)

theorem ef_fits {a b : Int} (x : Fits a) (b0 : b ≠ 0) (c : ¬ (a = -170141183460469231731687303715884105728 ∧ b = -1)) : Fits (ef a b) := by
  obtain ⟨q0, q1⟩ := rf_bd a b0
  unfold ef near
  split
  · exact qf_half x (by omega)
  · exact qf_fits x b0 c

end Go.Proofs.Ytoohaphaeccafaa

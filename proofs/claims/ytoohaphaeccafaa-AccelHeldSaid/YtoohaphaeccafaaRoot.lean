/- Whole roots, as numbers alone: what a root is, that there is one and no other, and what layer 3 asks of it. No program stands here. -/
import Derived.Test.YtoohaphaeccafaaNum
namespace Go.Proofs.Ytoohaphaeccafaa

/-- r is the whole root of z. -/
structure IsRoot (z r : Int) : Prop where
  r0 : 0 ≤ r
  lo : r * r ≤ z
  hi : z < (r + 1) * (r + 1)

theorem sq_le {a b : Int} (a0 : 0 ≤ a) (h : a ≤ b) : a * a ≤ b * b := Int.mul_le_mul h h a0 (by omega)
theorem sq_lt {a b : Int} (a0 : 0 ≤ a) (h : a < b) : a * a < b * b := by
  have h1 := sq_le (show 0 ≤ a + 1 by omega) (show a + 1 ≤ b by omega)
  have h2 : (a + 1) * (a + 1) = a * a + a + a + 1 := by rw [Int.mul_add, Int.add_mul]; omega
  omega
/-- A square above another one: so is what was squared. -/
theorem of_sq_lt {a b : Int} (b0 : 0 ≤ b) (h : a * a < b * b) : a < b := by
  apply Int.lt_of_not_ge
  intro c
  have := sq_le b0 c
  omega

theorem IsRoot.uniq {z r s : Int} (x : IsRoot z r) (y : IsRoot z s) : r = s := by
  have x0 := x.r0; have y0 := y.r0
  have h1 := of_sq_lt (show 0 ≤ s + 1 by omega) (Int.lt_of_le_of_lt x.lo y.hi)
  have h2 := of_sq_lt (show 0 ≤ r + 1 by omega) (Int.lt_of_le_of_lt y.lo x.hi)
  omega

/-- What stands between two neighbours' squares. -/
theorem root_ends {z l h : Int} (l0 : 0 ≤ l) (h0 : 0 ≤ h) (hl : l * l ≤ z) (hh : z < h * h) (e : h ≤ l + 1) : IsRoot z l := by
  have h1 := of_sq_lt h0 (Int.lt_of_le_of_lt hl hh)
  obtain rfl : h = l + 1 := by omega
  exact ⟨l0, hl, hh⟩

/-- A root that is below h, whose square is above. -/
theorem IsRoot.lt {z r h : Int} (x : IsRoot z r) (h0 : 0 ≤ h) (hh : z < h * h) : r < h := of_sq_lt h0 (Int.lt_of_le_of_lt x.lo hh)
theorem IsRoot.ge {z r l : Int} (x : IsRoot z r) (hl : l * l ≤ z) : l ≤ r := by
  have r0 := x.r0
  have := of_sq_lt (show 0 ≤ r + 1 by omega) (Int.lt_of_le_of_lt hl x.hi)
  omega

theorem root_some (n : Nat) : ∃ r : Int, IsRoot n r := by
  induction n with
  | zero => exact ⟨0, by decide, by decide, by decide⟩
  | succ n ih =>
    obtain ⟨r, x⟩ := ih
    have r0 := x.r0; have h0 := x.lo; have h1 := x.hi
    by_cases c : ((n + 1 : Nat) : Int) < (r + 1) * (r + 1)
    · exact ⟨r, r0, by omega, c⟩
    · refine ⟨r + 1, by omega, by omega, ?_⟩
      have := sq_lt (show 0 ≤ r + 1 by omega) (show r + 1 < r + 1 + 1 by omega)
      omega
theorem root_any {z : Int} (h : 0 ≤ z) : ∃ r, IsRoot z r := by
  obtain ⟨r, x⟩ := root_some z.toNat
  exact ⟨r, by rwa [Int.toNat_of_nonneg h] at x⟩

/-- The mean is from the lesser one to the greater one. -/
theorem root_between {x y r : Int} (x0 : 0 ≤ x) (h : x ≤ y) (i : IsRoot (x * y) r) : x ≤ r ∧ r ≤ y := by
  have h1 : x * x ≤ x * y := Int.mul_le_mul_of_nonneg_left h x0
  have h2 : x * y ≤ y * y := Int.mul_le_mul_of_nonneg_right h (by omega)
  refine ⟨i.ge h1, ?_⟩
  have := i.lt (show 0 ≤ y + 1 by omega) (by have := sq_lt (show 0 ≤ y by omega) (show y < y + 1 by omega); omega)
  omega
theorem root_square {x : Int} (x0 : 0 ≤ x) : IsRoot (x * x) x := ⟨x0, Int.le_refl _, sq_lt x0 (by omega)⟩
theorem root_less {x : Int} (x1 : 1 ≤ x) : IsRoot (x * x - 1) (x - 1) := by
  refine ⟨by omega, ?_, ?_⟩
  · have := sq_lt (show 0 ≤ x - 1 by omega) (show x - 1 < x by omega)
    omega
  · rw [show x - 1 + 1 = x by omega]; omega

/-- Of a wide number from 0 on the root has 64 bits; of two numbers' product it is one of theirs. -/
theorem root_u64 {z r : Int} (x : IsRoot z r) (h : z ≤ 170141183460469231731687303715884105727) : r ≤ 18446744073709551615 := by
  have := x.lt (h := 18446744073709551616) (by decide) (by omega)
  omega
theorem root_i64 {x y r : Int} (x0 : 0 ≤ x) (y0 : 0 ≤ y) (x1 : x ≤ 9223372036854775807) (y1 : y ≤ 9223372036854775807) (i : IsRoot (x * y) r) : r ≤ 9223372036854775807 := by
  by_cases c : x ≤ y
  · have := (root_between x0 c i).2; omega
  · have := (root_between y0 (show y ≤ x by omega) (by rwa [Int.mul_comm] at i)).2; omega

/-- Halving what is between: the middle is between, and one side keeps the root. -/
theorem half_between {l h : Int} (d : 1 < h - l) : l < (l + h) / 2 ∧ (l + h) / 2 < h := by omega

/-- Bits from the highest on: with the bit p tried on n. -/
theorem bit_take {z n p : Int} (n0 : 0 ≤ n) (p0 : 1 ≤ p) (lo : n * n ≤ z) (hi : z < (n + 2 * p) * (n + 2 * p)) :
    ((n + p) * (n + p) ≤ z → 0 ≤ n + p ∧ (n + p) * (n + p) ≤ z ∧ z < (n + p + p) * (n + p + p)) ∧ (¬ (n + p) * (n + p) ≤ z → 0 ≤ n ∧ n * n ≤ z ∧ z < (n + p) * (n + p)) := by
  rw [show n + p + p = n + 2 * p by omega]
  exact ⟨fun h => ⟨by omega, h, hi⟩, fun h => ⟨n0, lo, by omega⟩⟩
end Go.Proofs.Ytoohaphaeccafaa

/- Package wide: Int, Mul, wideSize, nearest, Up, Half: each call's answer, for every argument. -/
import Derived.Test.YthnaeoagooahbaaDoorWideA
namespace Go.Proofs.YthnaeoagooahbaaDoor
open Go.RowKit Go.Shelf

/-- A wide number as 64 bits: itself, if it fits, else 0; and the error's number. -/
def iz (z : Int) : Int := if -9223372036854775808 ≤ z ∧ z ≤ 9223372036854775807 then z else 0
def ie (z : Int) : Int := if -9223372036854775808 ≤ z ∧ z ≤ 9223372036854775807 then 0 else 3

theorem iz_of {z : Int} (f : -9223372036854775808 ≤ z ∧ z ≤ 9223372036854775807) : iz z = z ∧ ie z = 0 := ⟨if_pos f, if_pos f⟩
theorem iz_no {z : Int} (f : ¬ (-9223372036854775808 ≤ z ∧ z ≤ 9223372036854775807)) : iz z = 0 ∧ ie z = 3 := ⟨if_neg f, if_neg f⟩

theorem retW_det {z h l : Int} (x : IsW h l z) {w : World} {e : Ending} {w' : World} (r : RetW z w e w') : RetV (wv h l) w e w' := by
  obtain ⟨h', l', he, y, hb⟩ := r
  obtain ⟨rfl, rfl⟩ := (x.inj y).2 rfl
  exact ⟨he, hb⟩

theorem int_fits {h l z : Int} (x : IsW h l z) (f : -9223372036854775808 ≤ z ∧ z ≤ 9223372036854775807) : wrap64 l = z := by
  obtain ⟨a, b, c, d, e⟩ := x
  rw [wrapi]; unfold s64; omega
theorem int_not {h l z oh ol : Int} (x : IsW h l z) (f : ¬ (-9223372036854775808 ≤ z ∧ z ≤ 9223372036854775807)) (y : IsW oh ol (wrap64 l)) : oh ≠ h ∧ ol = l := by
  obtain ⟨a, b, c, d, e⟩ := x; obtain ⟨a', b', c', d', e'⟩ := y
  rw [wrapi] at e'; unfold s64 at e'; omega

theorem mul_fits {x y : Int} (x0 : -9223372036854775808 ≤ x) (x1 : x ≤ 9223372036854775807) (y0 : -9223372036854775808 ≤ y) (y1 : y ≤ 9223372036854775807) : Fits (x * y) := by
  have h1 : x.natAbs * y.natAbs ≤ 9223372036854775808 * 9223372036854775808 := Nat.mul_le_mul (by omega) (by omega)
  have h2 : (x * y).natAbs = x.natAbs * y.natAbs := Int.natAbs_mul x y
  generalize x.natAbs * y.natAbs = m at *
  generalize x * y = p at *
  exact ⟨by omega, by omega⟩

theorem mul_num {x y u v h l : Int} (X : Fits (x * y)) (e : h * 18446744073709551616 + l = u * v) (l0 : 0 ≤ l) (l1 : l ≤ 18446744073709551615)
    (c d : Int) (hu : u = x + c * 18446744073709551616) (hv : v = y + d * 18446744073709551616) (k : Int) (hk : k % 18446744073709551616 = (h - c * y - d * x) % 18446744073709551616) : IsW (s64 k) l (x * y) := by
  have e2 : (h - c * y - d * x - c * d * 18446744073709551616) * 18446744073709551616 + l = x * y := by
    have : u * v = x * y + (c * y + d * x + c * d * 18446744073709551616) * 18446744073709551616 := by
      rw [hu, hv]; simp only [Int.add_mul, Int.mul_add, Int.mul_assoc, Int.mul_comm, Int.mul_left_comm]; omega
    rw [this] at e
    simp only [Int.sub_mul, Int.add_mul] at *
    omega
  have q := isW_mk (h - c * y - d * x - c * d * 18446744073709551616) l (x * y) e2
  rw [w128_of X, show l / 18446744073709551616 = 0 by omega, show l % 18446744073709551616 = l by omega] at q
  rw [s64_mod k (h - c * y - d * x - c * d * 18446744073709551616 + 0) (by omega)]
  exact q

/-- q, or the next one, as side tells. -/
def near (q side : Int) : Int := if 0 < side ∨ (side = 0 ∧ q % 2 = 1) then q + 1 else q

theorem odd_num {h l q : Int} (x : IsW h l q) : bits .and .u64 l 1 = q % 2 := by
  obtain ⟨a, b, c, d, e⟩ := x
  obtain ⟨l, rfl⟩ := Int.eq_ofNat_of_zero_le c
  have := bits_and_u64_nat l 1 (by omega) (by decide)
  rw [Nat.and_one_is_mod] at this
  have h2 : bits .and .u64 (l : Int) 1 = ((l % 2 : Nat) : Int) := this
  rw [h2]; omega


theorem near_up {q side : Int} (h : 0 < side ∨ (side = 0 ∧ q % 2 = 1)) : near q side = q + 1 := if_pos h
theorem near_stay {q side : Int} (h : ¬ (0 < side ∨ (side = 0 ∧ q % 2 = 1))) : near q side = q := if_neg h

end Go.Proofs.YthnaeoagooahbaaDoor

/- Layer 21, numbers: the bytes of a number, of a tick, of what was told; the ticks of bytes; the sum of bytes. -/
import Derived.Test.YtobmjlnficdmlaaBase
import Derived.Laws.BitsAllLaws
namespace Go.Proofs.Ytobmjlnficdmlaa

/-- A number's k-th byte. -/
def b8 (x : Int) (k : Nat) : Int := x / 256 ^ k % 256
/-- A number's eight bytes. -/
def num (x : Int) : List Int := (List.range 8).map (b8 x)
theorem num_len (x : Int) : (num x).length = 8 := by simp [num]
theorem num_at (x : Int) {k : Nat} (h : k < 8) : (num x)[k]? = some (b8 x k) := by simp [num, h]
theorem b8_in (x : Int) (k : Nat) : 0 ≤ b8 x k ∧ b8 x k ≤ 255 := by unfold b8; omega
theorem b8_mod (x : Int) {k : Nat} (h : k < 8) : b8 (x % 18446744073709551616) k = b8 x k := by
  unfold b8
  obtain ⟨n, hn⟩ : ∃ n, 8 = k + (1 + n) := ⟨7 - k, by omega⟩
  have e2 : (18446744073709551616 : Int) = 256 ^ k * (256 * 256 ^ n) := by
    rw [show (18446744073709551616 : Int) = 256 ^ 8 from by decide, hn, Int.pow_add, Int.pow_add, Int.pow_succ, Int.pow_zero, Int.one_mul]
  have hp : (0 : Int) < 256 ^ k := Int.pow_pos (by decide)
  have e : x = x % 18446744073709551616 + 256 ^ k * (256 * (256 ^ n * (x / 18446744073709551616))) := by
    rw [← Int.mul_assoc, ← Int.mul_assoc, Int.mul_assoc (256 ^ k), ← e2]
    exact (Int.emod_add_mul_ediv x 18446744073709551616).symm
  conv => rhs; rw [e]
  rw [Int.add_mul_ediv_left _ _ (Int.ne_of_gt hp)]
  omega
theorem num_take (x : Int) {k : Nat} (h : k < 8) : (num x).take (k + 1) = (num x).take k ++ [b8 x k] := by
  rw [List.take_add_one, num_at x h]; rfl
theorem num_all (x : Int) : (num x).take 8 = num x := List.take_of_length_le (by rw [num_len]; exact Nat.le_refl _)

/-- The number of the first j of these bytes. -/
def le (z : Nat → Int) : Nat → Int
  | 0 => 0
  | j + 1 => le z j + z j * 256 ^ j
def w64 (x : Int) : Int := (x + 9223372036854775808) % 18446744073709551616 - 9223372036854775808
theorem w64_wrap (x : Int) : IntKind.i64.wrap x = w64 x := IntKind.wrap_i64 x
/-- The number of eight bytes. -/
def rd (z : Nat → Int) : Int := w64 (le z 8)
theorem rd_in (z : Nat → Int) : -9223372036854775808 ≤ rd z ∧ rd z ≤ 9223372036854775807 := by unfold rd w64; omega
theorem le_in {z : Nat → Int} (h : ∀ k, 0 ≤ z k ∧ z k ≤ 255) : ∀ j, 0 ≤ le z j ∧ le z j < 256 ^ j
  | 0 => ⟨Int.le_refl _, Int.zero_lt_one⟩
  | j + 1 => by
    obtain ⟨a, b⟩ := le_in h j
    obtain ⟨c, d⟩ := h j
    have hp : (0 : Int) < 256 ^ j := Int.pow_pos (by decide)
    have e : (256 : Int) ^ (j + 1) = 256 * 256 ^ j := by rw [Int.pow_succ, Int.mul_comm]
    have m1 : 0 ≤ z j * 256 ^ j := Int.mul_nonneg c (Int.le_of_lt hp)
    have m2 : z j * 256 ^ j ≤ 255 * 256 ^ j := Int.mul_le_mul_of_nonneg_right d (Int.le_of_lt hp)
    rw [le, e]
    constructor <;> omega
theorem le_same {y z : Nat → Int} : ∀ {j : Nat}, (∀ k, k < j → y k = z k) → le y j = le z j
  | 0, _ => rfl
  | j + 1, h => by rw [le, le, le_same (fun k hk => h k (by omega)), h j (by omega)]
theorem rd_same {y z : Nat → Int} (h : ∀ k, k < 8 → y k = z k) : rd y = rd z := by unfold rd; rw [le_same h]
/-- Behind m of the document's steps, from the last byte on. -/
def hn (z : Nat → Int) : Nat → Int
  | 0 => 0
  | m + 1 => 256 * hn z m + z (7 - m)
theorem hn_le (z : Nat → Int) : hn z 8 = le z 8 := by simp [hn, le]; omega
theorem hn_in {z : Nat → Int} (h : ∀ k, k < 8 → 0 ≤ z k ∧ z k ≤ 255) : ∀ m, m ≤ 8 → 0 ≤ hn z m ∧ hn z m < 256 ^ m
  | 0, _ => ⟨Int.le_refl _, Int.zero_lt_one⟩
  | m + 1, hm => by
    obtain ⟨a, b⟩ := hn_in h m (by omega)
    obtain ⟨c, d⟩ := h (7 - m) (by omega)
    have e : (256 : Int) ^ (m + 1) = 256 * 256 ^ m := by rw [Int.pow_succ, Int.mul_comm]
    rw [hn, e]
    constructor <;> omega
theorem le_b8 (x : Int) : ∀ j, le (b8 x) j = x % 256 ^ j
  | 0 => by simp [le]
  | j + 1 => by
    have hp : (0 : Int) < 256 ^ j := Int.pow_pos (by decide)
    rw [le, le_b8 x j, b8, Int.pow_succ]
    have h1 := Int.emod_add_mul_ediv x (256 ^ j)
    have h2 := Int.emod_add_mul_ediv (x / 256 ^ j) 256
    have h3 := Int.emod_nonneg x (Int.ne_of_gt hp)
    have h4 := Int.emod_lt_of_pos x hp
    have h5 : (0 : Int) ≤ x / 256 ^ j % 256 ∧ x / 256 ^ j % 256 < 256 := by omega
    generalize x % 256 ^ j = r at *
    generalize (256 : Int) ^ j = P at *
    generalize x / P = q at *
    generalize q % 256 = s at *
    generalize q / 256 = t at *
    have m1 : 0 ≤ s * P := Int.mul_nonneg h5.1 (Int.le_of_lt hp)
    have m2 : s * P ≤ 255 * P := Int.mul_le_mul_of_nonneg_right (by omega) (Int.le_of_lt hp)
    have e : x = (r + s * P) + P * 256 * t := by
      rw [← h1, ← h2, Int.mul_add, Int.mul_comm P s, Int.mul_assoc P 256 t]; omega
    rw [e, Int.add_mul_emod_self_left, Int.emod_eq_of_lt (by omega) (by omega)]
theorem rd_num {x : Int} (h0 : -9223372036854775808 ≤ x) (h1 : x ≤ 9223372036854775807) : rd (b8 x) = x := by
  unfold rd w64
  rw [le_b8, show (256 : Int) ^ 8 = 18446744073709551616 from by decide]
  omega
theorem le_split (z : Nat → Int) (j : Nat) : ∀ m, le z (j + m) = le z j + 256 ^ j * le (fun k => z (j + k)) m
  | 0 => by simp [le]
  | m + 1 => by
    rw [← Nat.add_assoc, le, le_split z j m, le, Int.mul_add, Int.pow_add, Int.add_assoc, Int.mul_comm (256 ^ j) (_ * _), Int.mul_assoc, Int.mul_comm (256 ^ m) (256 ^ j)]
theorem b8_le {z : Nat → Int} (h : ∀ k, 0 ≤ z k ∧ z k ≤ 255) {k : Nat} (hk : k < 8) (c : Int) : b8 (le z 8 + 18446744073709551616 * c) k = z k := by
  obtain ⟨n, hn⟩ : ∃ n, 8 = k + (1 + n) := ⟨7 - k, by omega⟩
  have e1 : le z 8 = le z k + 256 ^ k * (z k + 256 * le (fun i => z (k + (1 + i))) n) := by
    rw [hn, le_split z k, le_split _ 1 n]
    simp [le]
  have e2 : (18446744073709551616 : Int) = 256 ^ k * (256 * 256 ^ n) := by
    rw [show (18446744073709551616 : Int) = 256 ^ 8 from by decide, hn, Int.pow_add, Int.pow_add, Int.pow_succ, Int.pow_zero, Int.one_mul]
  have hp : (0 : Int) < 256 ^ k := Int.pow_pos (by decide)
  obtain ⟨r0, r1⟩ := le_in h k
  obtain ⟨z0, z1⟩ := h k
  have e3 : le z 8 + 18446744073709551616 * c = le z k + 256 ^ k * (z k + 256 * (le (fun i => z (k + (1 + i))) n + 256 ^ n * c)) := by
    rw [e1, e2, Int.add_assoc, Int.mul_assoc, ← Int.mul_add, Int.mul_assoc, Int.add_assoc, ← Int.mul_add]
  rw [e3, b8, Int.add_mul_ediv_left _ _ (Int.ne_of_gt hp), Int.ediv_eq_zero_of_lt r0 r1]
  omega
theorem b8_rd {z : Nat → Int} (h : ∀ k, 0 ≤ z k ∧ z k ≤ 255) {k : Nat} (hk : k < 8) : b8 (rd z) k = z k := by
  have e : rd z = le z 8 + 18446744073709551616 * (-((le z 8 + 9223372036854775808) / 18446744073709551616)) := by unfold rd w64; omega
  rw [e]
  exact b8_le h hk _
end Go.Proofs.Ytobmjlnficdmlaa

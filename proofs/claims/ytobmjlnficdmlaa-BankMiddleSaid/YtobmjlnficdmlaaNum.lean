/- Plain numbers for layer 1: what a wide number is, sums modulo 2^128, and what the low and high words come to. No program is read here. -/
namespace Go.Proofs.Ytobmjlnficdmlaa

/-- h and l are the two words of z: h signed, l without sign. -/
structure IsW (h l z : Int) : Prop where
  h0 : -9223372036854775808 ≤ h
  h1 : h ≤ 9223372036854775807
  l0 : 0 ≤ l
  l1 : l ≤ 18446744073709551615
  e : h * 18446744073709551616 + l = z

/-- z fits 128 bits with a sign. -/
structure Fits (z : Int) : Prop where
  lo : -170141183460469231731687303715884105728 ≤ z
  hi : z ≤ 170141183460469231731687303715884105727

/-- z modulo 2^128, with a sign. -/
def w128 (z : Int) : Int := (z + 170141183460469231731687303715884105728) % 340282366920938463463374607431768211456 - 170141183460469231731687303715884105728

theorem IsW.fits {h l z : Int} (x : IsW h l z) : Fits z := by
  obtain ⟨a, b, c, d, e⟩ := x
  exact ⟨by omega, by omega⟩

theorem w128_fits (z : Int) : Fits (w128 z) := by unfold w128; exact ⟨by omega, by omega⟩
theorem w128_of {z : Int} (h : Fits z) : w128 z = z := by
  obtain ⟨a, b⟩ := h
  unfold w128; omega

theorem IsW.hi {h l z : Int} (x : IsW h l z) : h = z / 18446744073709551616 := by obtain ⟨a, b, c, d, e⟩ := x; omega
theorem IsW.lo {h l z : Int} (x : IsW h l z) : l = z % 18446744073709551616 := by obtain ⟨a, b, c, d, e⟩ := x; omega
theorem IsW.mk' {z : Int} (x : Fits z) : IsW (z / 18446744073709551616) (z % 18446744073709551616) z := by
  obtain ⟨a, b⟩ := x
  exact ⟨by omega, by omega, by omega, by omega, by omega⟩
theorem IsW.inj {h l h' l' z z' : Int} (x : IsW h l z) (y : IsW h' l' z') : (h = h' ∧ l = l') ↔ z = z' := by
  obtain ⟨a, b, c, d, e⟩ := x; obtain ⟨a', b', c', d', e'⟩ := y
  constructor
  · rintro ⟨rfl, rfl⟩; omega
  · intro; constructor <;> omega
theorem IsW.neg {h l z : Int} (x : IsW h l z) : h < 0 ↔ z < 0 := by obtain ⟨a, b, c, d, e⟩ := x; omega
theorem IsW.ltw {h l h' l' z z' : Int} (x : IsW h l z) (y : IsW h' l' z') : (h < h' ∨ h = h' ∧ l < l') ↔ z < z' := by
  obtain ⟨a, b, c, d, e⟩ := x; obtain ⟨a', b', c', d', e'⟩ := y
  omega


/-- z modulo 2^64, with a sign. -/
def s64 (x : Int) : Int := (x + 9223372036854775808) % 18446744073709551616 - 9223372036854775808

theorem isW_mk (H L z : Int) (e : H * 18446744073709551616 + L = z) : IsW (s64 (H + L / 18446744073709551616)) (L % 18446744073709551616) (w128 z) := by
  subst e
  unfold s64 w128
  exact ⟨by omega, by omega, by omega, by omega, by omega⟩

theorem s64_mod (x y : Int) (h : x % 18446744073709551616 = y % 18446744073709551616) : s64 x = s64 y := by unfold s64; omega

/-- 2^n and 2^(64 - n). -/
structure Pq (p q : Int) : Prop where
  p0 : 1 ≤ p
  q0 : 1 ≤ q
  e : p * q = 18446744073709551616

theorem pq_of (n : Int) (h0 : 0 ≤ n) (h1 : n ≤ 64) : Pq (2 ^ n.toNat) (2 ^ (64 - n).toNat) := by
  obtain ⟨n, rfl⟩ := Int.eq_ofNat_of_zero_le h0
  have e1 : ((n : Int)).toNat = n := by omega
  have e2 : ((64 : Int) - n).toNat = 64 - n := by omega
  rw [e1, e2]
  refine ⟨?_, ?_, ?_⟩
  · have : (0 : Int) < 2 ^ n := Int.pow_pos (by decide); omega
  · have : (0 : Int) < 2 ^ (64 - n) := Int.pow_pos (by decide); omega
  · rw [← Int.pow_add, show n + (64 - n) = 64 by omega]; decide

theorem Pq.up {p q : Int} (h : Pq p q) (l : Int) (l0 : 0 ≤ l) : l * p / 18446744073709551616 = l / q ∧ 0 ≤ l / q := by
  obtain ⟨p0, q0, e⟩ := h
  rw [← e, Int.mul_comm p q]
  exact ⟨Int.mul_ediv_mul_of_pos_left l q (by omega), Int.ediv_nonneg l0 (by omega)⟩

theorem Pq.up_lt {p q : Int} (h : Pq p q) (l : Int) (l1 : l ≤ 18446744073709551615) : l / q < p := by
  obtain ⟨p0, q0, e⟩ := h
  exact Int.ediv_lt_of_lt_mul (by omega) (by omega)

theorem Pq.isW_up {p q : Int} (h : Pq p q) {ah al a : Int} (x : IsW ah al a) : IsW (s64 (ah * p + al / q)) (al * p % 18446744073709551616) (w128 (a * p)) := by
  rw [← (h.up al x.l0).1]
  exact isW_mk (ah * p) (al * p) (a * p) (by rw [← x.e, Int.add_mul]; congr 1; rw [Int.mul_assoc, Int.mul_assoc, Int.mul_comm p])

/-- By 2^n, n at least 64: m is 2^(n - 64). -/
theorem isW_upHigh {ah al a : Int} (x : IsW ah al a) (m : Int) : IsW (s64 (al * m)) 0 (w128 (a * (18446744073709551616 * m))) := by
  have h := isW_mk (ah * (18446744073709551616 * m) + al * m) 0 (a * (18446744073709551616 * m)) (by rw [← x.e, Int.add_mul, Int.add_mul, show ah * 18446744073709551616 * (18446744073709551616 * m) = ah * (18446744073709551616 * m) * 18446744073709551616 from Int.mul_right_comm _ _ _, show al * (18446744073709551616 * m) = al * m * 18446744073709551616 by rw [Int.mul_comm 18446744073709551616 m, Int.mul_assoc]]; omega)
  have e1 : s64 (ah * (18446744073709551616 * m) + al * m + 0 / 18446744073709551616) = s64 (al * m) := by
    apply s64_mod
    rw [show ah * (18446744073709551616 * m) = 18446744073709551616 * (ah * m) by simp only [Int.mul_left_comm]]
    omega
  rw [e1] at h
  simpa using h

theorem Pq.down {p q : Int} (h : Pq p q) {ah al a : Int} (x : IsW ah al a) : IsW (ah / p) (al / p + ah * q % 18446744073709551616) (a / p) := by
  obtain ⟨p0, q0, e⟩ := h
  obtain ⟨x0, x1, x2, x3, x4⟩ := x
  have e1 : ah * q % 18446744073709551616 = ah % p * q := by
    rw [← e, Int.mul_comm ah q, Int.mul_comm p q, Int.mul_emod_mul_of_pos _ _ (by omega), Int.mul_comm]
  have hr0 : 0 ≤ ah % p := Int.emod_nonneg _ (by omega)
  have hr1 : ah % p ≤ p - 1 := by have := Int.emod_lt_of_pos ah (show 0 < p by omega); omega
  have hc : p * (ah / p) + ah % p = ah := Int.mul_ediv_add_emod ah p
  have hl0 : 0 ≤ al / p := Int.ediv_nonneg x2 (by omega)
  have hl1 : al / p ≤ q - 1 := by
    have : al / p < q := Int.ediv_lt_of_lt_mul (by omega) (by rw [Int.mul_comm q p]; omega)
    omega
  have m0 : 0 ≤ ah % p * q := Int.mul_nonneg hr0 (by omega)
  have m1 : ah % p * q ≤ (p - 1) * q := Int.mul_le_mul_of_nonneg_right hr1 (by omega)
  have m2 : (p - 1) * q = 18446744073709551616 - q := by rw [Int.sub_mul, e]; omega
  have ea : a = al + p * (ah * q) := by
    rw [← x4, ← e, Int.mul_left_comm]; omega
  have eq1 : a / p = al / p + ah * q := by rw [ea, Int.add_mul_ediv_left _ _ (by omega)]
  have eq2 : ah * q = ah / p * 18446744073709551616 + ah % p * q := by
    conv => lhs; rw [← hc]
    rw [Int.add_mul, ← e, Int.mul_comm p (ah / p), Int.mul_assoc]
  have d0 : -9223372036854775808 ≤ ah / p := by
    have : (-9223372036854775808) * p ≤ -9223372036854775808 := by omega
    exact Int.le_ediv_of_mul_le (by omega) (by omega)
  have d1 : ah / p ≤ 9223372036854775807 := by
    have : ah / p < 9223372036854775808 := Int.ediv_lt_of_lt_mul (by omega) (by omega)
    omega
  rw [e1]
  refine ⟨d0, d1, by omega, by omega, ?_⟩
  rw [eq1, eq2]; omega

theorem downHigh {ah al a : Int} (x : IsW ah al a) (m : Int) (m0 : 1 ≤ m) : a / (18446744073709551616 * m) = ah / m ∧ -9223372036854775808 ≤ ah / m ∧ ah / m ≤ 9223372036854775807 := by
  obtain ⟨x0, x1, x2, x3, x4⟩ := x
  refine ⟨?_, ?_, ?_⟩
  · rw [← Int.ediv_ediv_of_nonneg (by decide)]
    congr 1
    omega
  · have : (-9223372036854775808) * m ≤ -9223372036854775808 := by omega
    exact Int.le_ediv_of_mul_le (by omega) (by omega)
  · have : ah / m < 9223372036854775808 := Int.ediv_lt_of_lt_mul (by omega) (by omega)
    omega

theorem pow_high (n : Int) (h0 : 64 ≤ n) : (2 : Int) ^ n.toNat = 18446744073709551616 * 2 ^ (n - 64).toNat := by
  rw [show n.toNat = 64 + (n - 64).toNat by omega, Int.pow_add]
  rfl


/-- z, if it fits 128 bits, else 0. -/
def fz (z : Int) : Int := if -170141183460469231731687303715884105728 ≤ z ∧ z ≤ 170141183460469231731687303715884105727 then z else 0
/-- The error's number: 0, if z fits, else 3. -/
def fe (z : Int) : Int := if -170141183460469231731687303715884105728 ≤ z ∧ z ≤ 170141183460469231731687303715884105727 then 0 else 3
theorem fz_of {z : Int} (h : Fits z) : fz z = z := if_pos ⟨h.lo, h.hi⟩
theorem fe_of {z : Int} (h : Fits z) : fe z = 0 := if_pos ⟨h.lo, h.hi⟩
theorem fz_no {z : Int} (h : ¬ (-170141183460469231731687303715884105728 ≤ z ∧ z ≤ 170141183460469231731687303715884105727)) : fz z = 0 := if_neg h
theorem fe_no {z : Int} (h : ¬ (-170141183460469231731687303715884105728 ≤ z ∧ z ≤ 170141183460469231731687303715884105727)) : fe z = 3 := if_neg h
theorem isW_zero : IsW 0 0 0 := ⟨by decide, by decide, by decide, by decide, by decide⟩

theorem add_no {a b : Int} (x : Fits a) (y : Fits b) (h : (a < 0 ↔ b < 0) ∧ ¬ (w128 (a + b) < 0 ↔ a < 0)) : fz (a + b) = 0 ∧ fe (a + b) = 3 := by
  obtain ⟨x0, x1⟩ := x; obtain ⟨y0, y1⟩ := y
  unfold w128 at h
  have : ¬ (-170141183460469231731687303715884105728 ≤ a + b ∧ a + b ≤ 170141183460469231731687303715884105727) := by omega
  exact ⟨fz_no this, fe_no this⟩
theorem add_yes {a b : Int} (x : Fits a) (y : Fits b) (h : ¬ ((a < 0 ↔ b < 0) ∧ ¬ (w128 (a + b) < 0 ↔ a < 0))) : w128 (a + b) = fz (a + b) ∧ fe (a + b) = 0 := by
  obtain ⟨x0, x1⟩ := x; obtain ⟨y0, y1⟩ := y
  have : Fits (a + b) := by unfold w128 at h; exact ⟨by omega, by omega⟩
  exact ⟨by rw [w128_of this, fz_of this], fe_of this⟩
theorem sub_no {a b : Int} (x : Fits a) (y : Fits b) (h : ¬ (a < 0 ↔ b < 0) ∧ ¬ (w128 (a - b) < 0 ↔ a < 0)) : fz (a - b) = 0 ∧ fe (a - b) = 3 := by
  obtain ⟨x0, x1⟩ := x; obtain ⟨y0, y1⟩ := y
  unfold w128 at h
  have : ¬ (-170141183460469231731687303715884105728 ≤ a - b ∧ a - b ≤ 170141183460469231731687303715884105727) := by omega
  exact ⟨fz_no this, fe_no this⟩
theorem sub_yes {a b : Int} (x : Fits a) (y : Fits b) (h : ¬ (¬ (a < 0 ↔ b < 0) ∧ ¬ (w128 (a - b) < 0 ↔ a < 0))) : w128 (a - b) = fz (a - b) ∧ fe (a - b) = 0 := by
  obtain ⟨x0, x1⟩ := x; obtain ⟨y0, y1⟩ := y
  have : Fits (a - b) := by unfold w128 at h; exact ⟨by omega, by omega⟩
  exact ⟨by rw [w128_of this, fz_of this], fe_of this⟩

end Go.Proofs.Ytobmjlnficdmlaa

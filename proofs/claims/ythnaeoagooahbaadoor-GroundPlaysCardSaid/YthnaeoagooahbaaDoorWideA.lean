/- The leaves of package wide: Of, negative, size, plus, minus, Cmp, shiftUp, shiftDown: each call's answer, for every argument. -/
import Derived.Test.YthnaeoagooahbaaDoorBase
namespace Go.Proofs.YthnaeoagooahbaaDoor
open Go.RowKit Go.Shelf

theorem wrapu (x : Int) : IntKind.u64.wrap x = x % 18446744073709551616 := IntKind.wrap_u64 x

theorem of_num (x : Int) (h0 : -9223372036854775808 ≤ x) (h1 : x ≤ 9223372036854775807) : IsW (x / 9223372036854775808) (IntKind.u64.wrap x) x := by
  rw [wrapu]
  exact ⟨by omega, by omega, by omega, by omega, by omega⟩

theorem size_num {x : Int} (h0 : -9223372036854775808 ≤ x) (h : x < 0) : IntKind.u64.wrap (-IntKind.u64.wrap x) = (x.natAbs : Int) := by
  rw [wrapu, wrapu]; omega

theorem wrapi (x : Int) : wrap64 x = s64 x := by unfold wrap64 s64; rfl

theorem plus_num {ah al a bh bl b : Int} (x : IsW ah al a) (y : IsW bh bl b) :
    IsW (wrap64 ((IntKind.u64.wrap ah + IntKind.u64.wrap bh + (al + bl) / 18446744073709551616) % 18446744073709551616)) ((al + bl) % 18446744073709551616) (w128 (a + b)) := by
  have h := isW_mk (ah + bh) (al + bl) (a + b) (by rw [← x.e, ← y.e]; omega)
  rw [wrapi, wrapu, wrapu, s64_mod _ (ah + bh + (al + bl) / 18446744073709551616) (by omega)]
  exact h

theorem minus_num {ah al a bh bl b : Int} (x : IsW ah al a) (y : IsW bh bl b) :
    IsW (wrap64 ((IntKind.u64.wrap ah - IntKind.u64.wrap bh - bor al bl) % 18446744073709551616)) ((al - bl) % 18446744073709551616) (w128 (a - b)) := by
  have h := isW_mk (ah - bh) (al - bl) (a - b) (by rw [← x.e, ← y.e]; omega)
  have hb : bor al bl = -((al - bl) / 18446744073709551616) := by
    obtain ⟨_, _, x2, x3, _⟩ := x; obtain ⟨_, _, y2, y3, _⟩ := y
    unfold bor; split <;> omega
  rw [wrapi, wrapu, wrapu, hb, s64_mod _ (ah - bh + (al - bl) / 18446744073709551616) (by omega)]
  exact h

/-- How two numbers stand. -/
def cmp3 (a b : Int) : Int := if a = b then 0 else if a < b then -1 else 1
theorem cmp3_eq (a : Int) : cmp3 a a = 0 := by simp [cmp3]
theorem cmp3_lt {a b : Int} (h : a < b) : cmp3 a b = -1 := by unfold cmp3; rw [if_neg (by omega), if_pos h]
theorem cmp3_gt {a b : Int} (h : b < a) : cmp3 a b = 1 := by unfold cmp3; rw [if_neg (by omega), if_neg (by omega)]

theorem or_i64 (x y : Int) (n : Nat) (hn : n ≤ 64) (k : Int) (hx : x % 18446744073709551616 = k * 2 ^ n % 18446744073709551616) (y0 : 0 ≤ y) (y1 : y < 2 ^ n) :
    bits .or .i64 x y = s64 (k * 2 ^ n + y) := by
  have e0 : (18446744073709551616 : Int) = 2 ^ n * 2 ^ (64 - n) := by rw [← Int.pow_add, show n + (64 - n) = 64 by omega]; rfl
  obtain ⟨y, rfl⟩ := Int.eq_ofNat_of_zero_le y0
  have yl : y < 2 ^ n := by have : ((2 : Int) ^ n) = ((2 ^ n : Nat) : Int) := by norm_cast
                            omega
  have p64 : 2 ^ n ≤ 2 ^ 64 := Nat.pow_le_pow_right (by decide) hn
  have h2 : (BitVec.ofInt 64 (y : Int)).toNat = y := by
    rw [BitVec.ofInt_natCast, BitVec.toNat_ofNat]; exact Nat.mod_eq_of_lt (by omega)
  have h1 : (BitVec.ofInt 64 x).toNat = (x % 18446744073709551616).toNat := by
    rw [BitVec.toNat_ofInt]; rfl
  have h3 : ∃ m : Nat, (x % 18446744073709551616).toNat = m <<< n := by
    have : x % 18446744073709551616 = (k % 2 ^ (64 - n)) * 2 ^ n := by
      rw [hx, e0, Int.mul_comm k, Int.mul_emod_mul_of_pos _ _ (Int.pow_pos (by decide)), Int.mul_comm]
    have k0 : 0 ≤ k % 2 ^ (64 - n) := Int.emod_nonneg _ (by have : (0 : Int) < 2 ^ (64 - n) := Int.pow_pos (by decide); omega)
    obtain ⟨m, hm⟩ := Int.eq_ofNat_of_zero_le k0
    refine ⟨m, ?_⟩
    rw [this, hm, Nat.shiftLeft_eq]
    norm_cast
  obtain ⟨m, hm⟩ := h3
  show IntKind.i64.wrap ((BitVec.ofInt 64 x ||| BitVec.ofInt 64 (y : Int)).toNat : Int) = _
  rw [BitVec.toNat_or, h1, h2, hm, ← Nat.shiftLeft_add_eq_or_of_lt yl, ← hm]
  rw [show ∀ z, IntKind.i64.wrap z = s64 z from fun z => IntKind.wrap_i64 z]
  apply s64_mod
  omega

theorem or_u64 (x y : Int) (n : Nat) (hn : n ≤ 64) (k : Int) (hx : x = k * 2 ^ n % 18446744073709551616) (y0 : 0 ≤ y) (y1 : y < 2 ^ n) :
    bits .or .u64 y x = y + x := by
  have e0 : (18446744073709551616 : Int) = 2 ^ n * 2 ^ (64 - n) := by rw [← Int.pow_add, show n + (64 - n) = 64 by omega]; rfl
  obtain ⟨y, rfl⟩ := Int.eq_ofNat_of_zero_le y0
  have yl : y < 2 ^ n := by have : ((2 : Int) ^ n) = ((2 ^ n : Nat) : Int) := by norm_cast
                            omega
  have p64 : 2 ^ n ≤ 2 ^ 64 := Nat.pow_le_pow_right (by decide) hn
  have x0 : 0 ≤ x := by omega
  have x1 : x < 18446744073709551616 := by omega
  have h3 : ∃ m : Nat, x = ((m <<< n : Nat) : Int) := by
    have : x = (k % 2 ^ (64 - n)) * 2 ^ n := by
      rw [hx, e0, Int.mul_comm k, Int.mul_emod_mul_of_pos _ _ (Int.pow_pos (by decide)), Int.mul_comm]
    have k0 : 0 ≤ k % 2 ^ (64 - n) := Int.emod_nonneg _ (by have : (0 : Int) < 2 ^ (64 - n) := Int.pow_pos (by decide); omega)
    obtain ⟨m, hm⟩ := Int.eq_ofNat_of_zero_le k0
    refine ⟨m, ?_⟩
    rw [this, hm, Nat.shiftLeft_eq]
    norm_cast
  obtain ⟨m, hm⟩ := h3
  rw [hm, bits_or_u64_nat y (m <<< n) (by omega) (by omega), Nat.or_comm, ← Nat.shiftLeft_add_eq_or_of_lt yl]
  omega

theorem pow_nat (n : Int) : (2 : Int) ^ n.toNat = ((2 ^ n.toNat : Nat) : Int) := by norm_cast

/-- What shiftUp reckons below 64. -/
theorem up_num {ah al a n : Int} (x : IsW ah al a) (n0 : 0 ≤ n) (n1 : n ≤ 63) :
    IsW (bits .or .i64 (wrap64 (ah * 2 ^ n.toNat)) (wrap64 (al / 2 ^ (64 - n).toNat))) (IntKind.u64.wrap (al * 2 ^ n.toNat)) (w128 (a * 2 ^ n.toNat)) := by
  have h := pq_of n n0 (by omega)
  have u := h.isW_up x
  have l1 := h.up_lt al x.l1
  have l0 := (h.up al x.l0).2
  have p63 : (2 : Int) ^ n.toNat ≤ 9223372036854775808 := by
    rw [pow_nat]
    have : 2 ^ n.toNat ≤ 2 ^ 63 := Nat.pow_le_pow_right (by decide) (by omega)
    omega
  rw [wrapi, wrapi, wrapu]
  rw [show s64 (al / 2 ^ (64 - n).toNat) = al / 2 ^ (64 - n).toNat by unfold s64; omega]
  rw [or_i64 (s64 (ah * 2 ^ n.toNat)) (al / 2 ^ (64 - n).toNat) n.toNat (by omega) ah (by unfold s64; omega) l0 l1]
  exact u

theorem down_num {ah al a n : Int} (x : IsW ah al a) (n0 : 0 ≤ n) (n1 : n ≤ 63) :
    IsW (ah / 2 ^ n.toNat) (bits .or .u64 (al / 2 ^ n.toNat) (IntKind.u64.wrap (IntKind.u64.wrap ah * 2 ^ (64 - n).toNat))) (a / 2 ^ n.toNat) := by
  have h := pq_of n n0 (by omega)
  have u := h.down x
  have h' : Pq (2 ^ (64 - n).toNat) (2 ^ n.toNat) := ⟨h.q0, h.p0, by rw [Int.mul_comm]; exact h.e⟩
  have l0 := (h'.up al x.l0).2
  have l1 := h'.up_lt al x.l1
  have e : IntKind.u64.wrap (IntKind.u64.wrap ah * 2 ^ (64 - n).toNat) = ah * 2 ^ (64 - n).toNat % 18446744073709551616 := by
    rw [wrapu, wrapu, Int.mul_emod, Int.emod_emod, ← Int.mul_emod]
  rw [e, or_u64 _ (al / 2 ^ n.toNat) (64 - n).toNat (by omega) ah rfl l0 l1]
  exact u

end Go.Proofs.YthnaeoagooahbaaDoor

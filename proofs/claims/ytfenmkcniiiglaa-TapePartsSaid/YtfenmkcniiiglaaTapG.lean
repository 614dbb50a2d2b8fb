/- Layer 21: the program's number of eight bytes, the tick that bytes begin with. -/
import Derived.Test.YtfenmkcniiiglaaTapE
import Derived.BigQuiet
namespace Go.Proofs.Ytfenmkcniiiglaa
open Go.RowKit Go.Shelf Go.Joins

theorem ofInt_w64 {a : Nat} (h : a < 18446744073709551616) : (BitVec.ofInt 64 (w64 a)).toNat = a := by
  rw [BitVec.toNat_ofInt]
  unfold w64
  omega
theorem or_w64 {a b : Nat} (ha : a < 18446744073709551616) (hb : b < 18446744073709551616) (h : a ||| b = a + b) : bits .or .i64 (w64 a) (w64 b) = w64 ((a + b : Nat) : Int) := by
  show IntKind.i64.wrap ((BitVec.ofInt 64 (w64 a) ||| BitVec.ofInt 64 (w64 b)).toNat : Int) = _
  rw [BitVec.toNat_or, ofInt_w64 ha, ofInt_w64 hb, h, w64_wrap]
theorem le_step {z : Nat → Int} (h : ∀ k, 0 ≤ z k ∧ z k ≤ 255) {j : Nat} (hj : j < 8) : bits .or .i64 (w64 (le z j)) (w64 (z j * 2 ^ (8 * j))) = w64 (le z (j + 1)) := by
  obtain ⟨l0, l1⟩ := le_in h j
  obtain ⟨m0, m1⟩ := le_in h (j + 1)
  obtain ⟨z0, z1⟩ := h j
  have e : (2 : Int) ^ (8 * j) = 256 ^ j := by rw [Int.pow_mul]; rfl
  have hp : (0 : Int) < 256 ^ j := Int.pow_pos (by decide)
  have b0 : 0 ≤ z j * 256 ^ j := Int.mul_nonneg z0 (Int.le_of_lt hp)
  have hq : (256 : Int) ^ (j + 1) ≤ 18446744073709551616 := by
    have h9 : ((256 ^ (j + 1) : Nat) : Int) ≤ ((18446744073709551616 : Nat) : Int) := Int.ofNat_le.2 (Nat.le_trans (Nat.pow_le_pow_right (by decide) (by omega : j + 1 ≤ 8)) (by decide))
    rw [Int.natCast_pow] at h9
    exact h9
  rw [e]
  have es : le z (j + 1) = le z j + z j * 256 ^ j := rfl
  obtain ⟨a, ea⟩ := Int.eq_ofNat_of_zero_le l0
  obtain ⟨c, ec⟩ := Int.eq_ofNat_of_zero_le z0
  have eb : z j * 256 ^ j = ((c * 256 ^ j : Nat) : Int) := by rw [ec, Int.natCast_mul, Int.natCast_pow]; rfl
  rw [es, eb, ea, or_w64 (by omega) (by omega) ?_]
  · rw [Int.natCast_add]
  · have ha : a < 2 ^ (8 * j) := by
      rw [Nat.pow_mul, show (2 : Nat) ^ 8 = 256 from rfl]
      have : (a : Int) < ((256 ^ j : Nat) : Int) := by rw [← ea, Int.natCast_pow]; exact l1
      omega
    rw [Nat.or_comm, nat_join (8 * j) (c * 256 ^ j) a (by rw [Nat.pow_mul, show (2 : Nat) ^ 8 = 256 from rfl]; exact Nat.mul_mod_left _ _) ha, Nat.add_comm]

set_option maxHeartbeats 4000000 in
set_option maxRecDepth 10000 in
/-- The number that a slice's first eight bytes are. -/
theorem nat_any (z : Nat → Int) (hz : ∀ k, 0 ≤ z k ∧ z k ≤ 255) (gb off len cap : Nat) (hl : 8 ≤ len) (w : World) (hc : ∀ k, k < 8 → w.cell? ⟨gb, off + k, none⟩ = some (.int .u8 (z k))) :
    Calls Try.prog 23 #[.slice (some ⟨gb, off, none⟩) len cap] w (RetV (.int .i64 (rd z)) w) := by
  go_enter Try.func23, Try.ntmps23
  go_wp2
  go_loopw [3, 5] (fun nv iv wr => ∃ j : Nat, j ≤ 8 ∧ iv = .int .i64 j ∧ nv = .int .i64 (w64 (le z j)) ∧ Below w.heap.size w wr) (fun _ iv _ => 8 - (intOf iv).toNat)
  case atStart => exact ⟨0, Nat.zero_le _, rfl, rfl, Below.refl _ _⟩
  case round =>
    obtain ⟨j, hj, rfl, rfl, E⟩ := hrel
    by_cases hlt : j < 8
    · have c0 := cell_keep E (hc j hlt)
      have hlj : (j : Int) < 8 := by omega
      have hj0 : (0 : Int) ≤ j := by omega
      have hjl : (j : Int) < len := by omega
      have w8 : IntKind.i64.wrap (8 * (j : Int)) = 8 * j := by rw [IntKind.wrap_i64]; omega
      have w1 : IntKind.i64.wrap ((j : Int) + 1) = (j : Int) + 1 := by rw [IntKind.wrap_i64]; omega
      have st := le_step hz hlt
      obtain ⟨z0, z1⟩ := hz j
      clear hc hz hlt
      generalize w64 (le z j) = m at *
      generalize z j = c at *
      have wc : IntKind.i64.wrap c = c := by rw [IntKind.wrap_i64]; omega
      have ST := Lib.hid st
      clear st
      go_wp2
      refine ⟨⟨j + 1, by omega, rfl, ?_, E⟩, ?_⟩
      · have h := ST.out
        rw [show w64 (c * 2 ^ (8 * j)) = wrap64 (c * 2 ^ (8 * j)) from by unfold w64 wrap64; rfl] at h
        rw [h]
      simp only [intOf]
      omega
    · have hlj : ¬ (j : Int) < 8 := by omega
      have e : j = 8 := by omega
      subst e
      clear hlt hj
      go_wp2
      exact bodyPost_ret (v := .int .i64 (w64 (le z 8))) (by simp [results, Try.results23, go_sem]) rfl ⟨rfl, E⟩
end Go.Proofs.Ytfenmkcniiiglaa

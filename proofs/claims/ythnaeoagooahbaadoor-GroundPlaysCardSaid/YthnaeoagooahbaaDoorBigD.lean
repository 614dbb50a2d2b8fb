/- The document's whole numbers: Down: the call's answer. -/
import Derived.Test.YthnaeoagooahbaaDoorBigM
namespace Go.Proofs.YthnaeoagooahbaaDoor
open Go.RowKit Go.Shelf Go.Joins

/-- Variable b holds the whole number z. -/
def VB (w : World) (b : Nat) (z : Int) : Prop := ∃ n a k c, w.heap[b]? = some (.cells #[.bool n, .slice a k c] 62 (0, 0)) ∧ BG w (.agg #[.bool n, .slice a k c]) z
theorem vb_keep {w w' : World} {b : Nat} {z : Int} (h : VB w b z) (hb : Below w.heap.size w w') : VB w' b z := by
  obtain ⟨n, a, k, c, h1, h2⟩ := h
  exact ⟨n, a, k, c, by rw [hb.block b (Array.getElem?_eq_some_iff.1 h1).1]; exact h1, bg_keep h2 hb⟩
theorem vb_bv {w : World} {b : Nat} {z : Int} (h : VB w b z) : BV w b := by
  obtain ⟨n, a, k, c, h1, _⟩ := h
  exact ⟨n, a, k, c, h1⟩
theorem vb_use {w : World} {b : Nat} {z : Int} (h : VB w b z) : ∃ n a k c, BC w b n (.slice a k c) ∧ WF w b ∧ BG w (.agg #[.bool n, .slice a k c]) z := by
  obtain ⟨n, a, k, c, h1, h2⟩ := h
  exact ⟨n, a, k, c, ⟨by rw [cell_of_block h1]; rfl, by rw [cell_of_block h1]; rfl⟩, ⟨unfrozen_of_block h1 0, unfrozen_of_block h1 1⟩, h2⟩
theorem vb_new {w : World} {b : Nat} {n : Bool} {a : Option Addr} {k c : Nat} {z : Int} (hn : b = w.heap.size) (h : BG w (.agg #[.bool n, .slice a k c]) z) : VB (w.alloc (Obj.cells #[.bool n, .slice a k c] 62)) b z := by
  subst hn
  exact ⟨n, a, k, c, (MapKept.heap_alloc w _).1, bg_keep h (b_alloc (Below.refl _ _))⟩
theorem heap_two {w : World} {b k : Nat} {u u' : Value} (h : k ≠ b) : ((w.setCell ⟨b, 0, none⟩ u).setCell ⟨b, 1, none⟩ u').heap[k]? = w.heap[k]? := by
  rw [Below.heap_setCell _ _ _ _ h, Below.heap_setCell _ _ _ _ h]
theorem vb_store {w : World} {b : Nat} {n : Bool} {a : Option Addr} {k c : Nat} {z : Int} (hv : BV w b) (h : BG w (.agg #[.bool n, .slice a k c]) z) : VB ((w.setCell ⟨b, 0, none⟩ (.bool n)).setCell ⟨b, 1, none⟩ (.slice a k c)) b z := by
  refine ⟨n, a, k, c, ?_, bg_store hv h⟩
  obtain ⟨n', a', k', c', h1⟩ := hv
  exact block_setCell (block_setCell h1 _) _
theorem vb_other {w : World} {b b2 : Nat} {u u' : Value} {z : Int} (hv : BV w b) (h : VB w b2 z) (ne : b2 ≠ b) : VB ((w.setCell ⟨b, 0, none⟩ u).setCell ⟨b, 1, none⟩ u') b2 z := by
  obtain ⟨n, a, k, c, h1, h2⟩ := h
  exact ⟨n, a, k, c, by rw [heap_two ne]; exact h1, bg_store hv h2⟩
theorem bv_other {w : World} {b b2 : Nat} {u u' : Value} (h : BV w b2) (ne : b2 ≠ b) : BV ((w.setCell ⟨b, 0, none⟩ u).setCell ⟨b, 1, none⟩ u') b2 := by
  obtain ⟨n, a, k, c, h1⟩ := h
  exact ⟨n, a, k, c, by rw [heap_two ne]; exact h1⟩
theorem dg_two {w : World} {b : Nat} {u u' v : Value} {l : List Int} (hv : BV w b) (h : DG w v l) : DG ((w.setCell ⟨b, 0, none⟩ u).setCell ⟨b, 1, none⟩ u') v l := dg_store hv h
theorem small_one : Small 1 := small_of (by decide) (by decide)
theorem bg_zero (w : World) : BG w (.agg #[.bool false, .slice none 0 0]) 0 := ⟨_, _, [], rfl, Or.inl ⟨rfl, rfl⟩, dig_nil, fun d h => absurd h (by simp), by simp, rfl⟩

/-- Bit i of a number out of its digits. -/
theorem bit_of {l : List Int} (h : Dig l) (i : Nat) : val l / 2 ^ i % 2 = l.getD (i / 16) 0 / 2 ^ (i % 16) % 2 := by
  have e : val l = val (l.take (i / 16)) + 65536 ^ (i / 16) * (l.getD (i / 16) 0 + 65536 * val (l.drop (i / 16 + 1))) := by
    have h1 : val l = val (l.take (i / 16 + 1)) + 65536 ^ (i / 16 + 1) * val (l.drop (i / 16 + 1)) := by
      by_cases c : i / 16 + 1 ≤ l.length
      · conv => lhs; rw [← List.take_append_drop (i / 16 + 1) l, val_append, List.length_take, Nat.min_eq_left c]
      · rw [List.take_of_length_le (by omega), List.drop_of_length_le (by omega)]; simp [val]
    rw [h1, val_take_succ, Int.pow_succ, Int.mul_add, Int.mul_assoc]
    omega
  have t0 := val_nonneg (dig_take h (i / 16))
  have t1 : val (l.take (i / 16)) < 65536 ^ (i / 16) := by
    have h1 := val_lt (dig_take h (i / 16))
    have h2 := pow_mono65 (show (l.take (i / 16)).length ≤ i / 16 by simp; omega)
    omega
  have p0 := pow_pos65 (i / 16)
  have pe : (2 : Int) ^ i = 65536 ^ (i / 16) * 2 ^ (i % 16) := by
    rw [show (65536 : Int) = 2 ^ 16 by decide, ← Int.pow_mul, ← Int.pow_add]
    congr 1; omega
  rw [pe, ← Int.ediv_ediv_of_nonneg (by omega), e, Int.add_mul_ediv_left _ _ (by omega), Int.ediv_eq_zero_of_lt t0 t1, Int.zero_add]
  generalize l.getD (i / 16) 0 = d
  generalize val (l.drop (i / 16 + 1)) = R
  have q : (65536 : Int) = 2 ^ (i % 16) * (2 * 2 ^ (15 - i % 16)) := by
    rw [Int.mul_left_comm, ← Int.pow_add, show i % 16 + (15 - i % 16) = 15 by omega]; decide
  have pz : (0 : Int) < 2 ^ (i % 16) := Int.pow_pos (by decide)
  rw [q, Int.mul_assoc, Int.add_mul_ediv_left _ _ (by omega), Int.mul_assoc]
  omega

theorem top_step (A : Int) (i : Nat) : A / 2 ^ i = 2 * (A / 2 ^ (i + 1)) + A / 2 ^ i % 2 := by
  have pz : (0 : Int) < 2 ^ i := Int.pow_pos (by decide)
  rw [Int.pow_succ, ← Int.ediv_ediv_of_nonneg (by omega)]
  omega
theorem top_zero {A : Int} {n : Nat} (h0 : 0 ≤ A) (h : A < 65536 ^ n) : A / 2 ^ (16 * n) = 0 := by
  apply Int.ediv_eq_zero_of_lt h0
  rw [Int.pow_mul]
  exact h

/-- What holds ahead of each bit: q and r are the quotient and what is left of the number's upper bits. -/
structure DW (A y q r : Int) (k : Nat) : Prop where
  r0 : 0 ≤ r
  r1 : r < y
  q0 : 0 ≤ q
  e : A / 2 ^ k = q * y + r
theorem dw_step {A y q r : Int} {i : Nat} (h : DW A y q r (i + 1)) (t : Int) (ht : t = A / 2 ^ i % 2) :
    (y ≤ r + r + t → DW A y (q + q + 1) (r + r + t - y) i) ∧ (r + r + t < y → DW A y (q + q) (r + r + t) i) := by
  obtain ⟨r0, r1, q0, e⟩ := h
  have s := top_step A i
  rw [← ht, e] at s
  have t0 : 0 ≤ t ∧ t ≤ 1 := by omega
  have e2 : (q + q) * y = 2 * (q * y) := by rw [Int.add_mul]; omega
  constructor
  · intro h
    exact ⟨by omega, by omega, by omega, by rw [Int.add_mul, e2, s]; omega⟩
  · intro h
    exact ⟨by omega, by omega, by omega, by rw [e2, s]; omega⟩
theorem dw_q {A y q r : Int} {k : Nat} (h : DW A y q r k) (A0 : 0 ≤ A) (y0 : 1 ≤ y) : q ≤ A := by
  obtain ⟨r0, r1, q0, e⟩ := h
  have h1 : A / 2 ^ k ≤ A := Int.ediv_le_self _ A0
  have h2 : q * 1 ≤ q * y := Int.mul_le_mul_of_nonneg_left y0 q0
  omega

end Go.Proofs.YthnaeoagooahbaaDoor

/- The document's whole numbers: Down's walk. -/
import Derived.Test.YtidaegmancgpnaaDoorBigD
namespace Go.Proofs.YtidaegmancgpnaaDoor
open Go.RowKit Go.Shelf Go.Joins

def Tiny (z : Int) : Prop := -2037035976334486086268445688409378161051468393665936250636140449354381299763336706183397376 ≤ z ∧ z ≤ 2037035976334486086268445688409378161051468393665936250636140449354381299763336706183397376
theorem tiny_small {z : Int} (h : Tiny z) : Small z := by obtain ⟨a, b⟩ := h; exact small_of (by omega) (by omega)

/-- What holds at the head of each round of Down. -/
structure DR (w : World) (n1 : Bool) (aa : Option Addr) (a : List Int) (ca : Nat) (y : Int) (B : Nat) (q r : Int) (wr : World) : Prop where
  hA : wr.heap[B]? = some (.cells #[.bool n1, .slice aa a.length ca] 52 (0, 0))
  hD : DG wr (.slice aa a.length ca) a
  hY : VB wr (B + 1) y
  hR : BV wr (B + 1 + 1)
  hQ : VB wr (B + 1 + 1 + 1) q
  hL : VB wr (B + 1 + 1 + 1 + 1) r
  hB : Below w.heap.size w wr
theorem dr_keep {w wr w' : World} {n1 : Bool} {aa : Option Addr} {a : List Int} {ca : Nat} {y : Int} {B : Nat} {q r : Int} (h : DR w n1 aa a ca y B q r wr) (hb : Below wr.heap.size wr w') : DR w n1 aa a ca y B q r w' :=
  ⟨by rw [hb.block B (Array.getElem?_eq_some_iff.1 h.hA).1]; exact h.hA, dg_keep h.hD hb, vb_keep h.hY hb, bv_keep hb h.hR, vb_keep h.hQ hb, vb_keep h.hL hb, b_trans h.hB hb⟩
theorem dr_left {w wr : World} {n1 : Bool} {aa : Option Addr} {a : List Int} {ca : Nat} {y : Int} {B : Nat} {q r r' : Int} {n : Bool} {x : Option Addr} {k c : Nat} (h : DR w n1 aa a ca y B q r wr) (hv : BG wr (.agg #[.bool n, .slice x k c]) r') (hw : w.heap.size ≤ B) :
    DR w n1 aa a ca y B q r' ((wr.setCell ⟨B + 1 + 1 + 1 + 1, 0, none⟩ (.bool n)).setCell ⟨B + 1 + 1 + 1 + 1, 1, none⟩ (.slice x k c)) := by
  have b := vb_bv h.hL
  exact ⟨by rw [heap_two (by omega)]; exact h.hA, dg_store b h.hD, vb_other b h.hY (by omega), bv_other h.hR (by omega), vb_other b h.hQ (by omega), vb_store b hv, b_set (b_set h.hB (by show _ ≤ B + 1 + 1 + 1 + 1; omega)) (by show _ ≤ B + 1 + 1 + 1 + 1; omega)⟩
theorem dr_quot {w wr : World} {n1 : Bool} {aa : Option Addr} {a : List Int} {ca : Nat} {y : Int} {B : Nat} {q r q' : Int} {n : Bool} {x : Option Addr} {k c : Nat} (h : DR w n1 aa a ca y B q r wr) (hv : BG wr (.agg #[.bool n, .slice x k c]) q') (hw : w.heap.size ≤ B) :
    DR w n1 aa a ca y B q' r ((wr.setCell ⟨B + 1 + 1 + 1, 0, none⟩ (.bool n)).setCell ⟨B + 1 + 1 + 1, 1, none⟩ (.slice x k c)) := by
  have b := vb_bv h.hQ
  exact ⟨by rw [heap_two (by omega)]; exact h.hA, dg_store b h.hD, vb_other b h.hY (by omega), bv_other h.hR (by omega), vb_store b hv, vb_other b h.hL (by omega), b_set (b_set h.hB (by show _ ≤ B + 1 + 1 + 1; omega)) (by show _ ≤ B + 1 + 1 + 1; omega)⟩

theorem cmp3_ge (a b : Int) : (b ≤ a → 0 ≤ cmp3 a b) ∧ (a < b → ¬ 0 ≤ cmp3 a b) := by
  unfold cmp3
  constructor
  · intro h; split
    · decide
    · split <;> omega
  · intro h
    rw [if_neg (by omega), if_pos h]
    decide
theorem dw_end {A y q r : Int} (h : DW A y q r 0) (y1 : 1 ≤ y) : A / y = q ∧ (r = 0 → -A / y = -q) ∧ (r ≠ 0 → -A / y = -(q + 1)) := by
  obtain ⟨r0, r1, q0, e⟩ := h
  simp at e
  refine ⟨?_, ?_, ?_⟩
  · rw [e, Int.add_comm, Int.add_mul_ediv_right _ _ (by omega), Int.ediv_eq_zero_of_lt r0 r1]; omega
  · intro h
    subst h
    rw [e, Int.add_zero, ← Int.neg_mul, Int.mul_ediv_cancel _ (by omega)]
  · intro h
    have : -A = (y - r) + (-(q + 1)) * y := by rw [e, Int.neg_mul, Int.add_mul]; omega
    rw [this, Int.add_mul_ediv_right _ _ (by omega), Int.ediv_eq_zero_of_lt (by omega) (by omega)]; omega
theorem bg_digits {w : World} {n : Bool} {a : Option Addr} {k c : Nat} {z : Int} (h : BG w (.agg #[.bool n, .slice a k c]) z) (z0 : 0 ≤ z) : ∃ l : List Int, k = l.length ∧ DG w (.slice a k c) l ∧ Dig l ∧ val l = z ∧ (l = [] ↔ z = 0) := by
  obtain ⟨m, dv, l, e, h2, h3, h4, h5, h6⟩ := h
  simp at e
  obtain ⟨rfl, rfl⟩ := e
  obtain ⟨k1, k2, k3⟩ := sgn_neg h3 h4 h5
  obtain ⟨a', c', e', _⟩ := dg_len h2
  simp at e'
  obtain ⟨rfl, rfl, rfl⟩ := e'
  exact ⟨l, rfl, h2, h3, by rw [← h6] at k3; omega, by rw [← h6] at k2; exact k2.symm⟩
theorem half_pow (d : Int) (s : Nat) : d / 2 ^ s / 2 = d / 2 ^ (s + 1) := by
  rw [Int.pow_succ, Int.ediv_ediv_of_nonneg (Int.le_of_lt (Int.pow_pos (by decide)))]
theorem shr_bd {d : Int} (h0 : 0 ≤ d) (h1 : d ≤ 65535) (s : Nat) : 0 ≤ d / 2 ^ s ∧ d / 2 ^ s ≤ 65535 := by
  have pz : (0 : Int) < 2 ^ s := Int.pow_pos (by decide)
  exact ⟨Int.ediv_nonneg h0 (by omega), Int.le_trans (Int.ediv_le_self _ h0) h1⟩

end Go.Proofs.YtidaegmancgpnaaDoor

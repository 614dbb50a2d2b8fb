/- Package wide: divide: the quotient and what is left, bit by bit, for every argument. -/
import Derived.Test.YtoohaphaeccafaaDivNum
import Derived.Test.YtoohaphaeccafaaWideA
import Derived.ScopeJumps
import Derived.WalkMore
namespace Go.Proofs.Ytoohaphaeccafaa
open Go.RowKit Go.Shelf

/-- The call hands back the wide number z and r. -/
def RetWU (z r : Int) (w : World) (e : Ending) (w' : World) : Prop :=
  ∃ h l : Int, e = .returned (.tuple #[wv h l, .int .u64 r]) ∧ IsW h l z ∧ Below w.heap.size w w'

theorem bits_or_comm (k : IntKind) (x y : Int) : bits .or k x y = bits .or k y x := by
  show k.wrap _ = k.wrap _
  rw [BitVec.or_comm]

theorem or_low (k y : Int) (y0 : 0 ≤ y) (y1 : y ≤ 1) : bits .or .u64 (IntKind.u64.wrap (k * 2)) y = 2 * k % 18446744073709551616 + y := by
  rw [bits_or_comm, or_u64 (IntKind.u64.wrap (k * 2)) y 1 (by decide) k (by rw [wrapu]; rfl) y0 (by show y < 2; omega), wrapu]
  omega

theorem di_walk {u b hi lo r p : Int} (h : DI u b hi lo r (2 * p)) (p0 : 1 ≤ p) (b1 : b ≤ 9223372036854775808) :
    (b ≤ bits .or .u64 (IntKind.u64.wrap (r * 2)) (hi / 9223372036854775808) → DI u b (bits .or .u64 (IntKind.u64.wrap (hi * 2)) (lo / 9223372036854775808)) (bits .or .u64 (IntKind.u64.wrap (lo * 2)) 1) (IntKind.u64.wrap (bits .or .u64 (IntKind.u64.wrap (r * 2)) (hi / 9223372036854775808) - b)) p) ∧
    (bits .or .u64 (IntKind.u64.wrap (r * 2)) (hi / 9223372036854775808) < b → DI u b (bits .or .u64 (IntKind.u64.wrap (hi * 2)) (lo / 9223372036854775808)) (IntKind.u64.wrap (lo * 2)) (bits .or .u64 (IntKind.u64.wrap (r * 2)) (hi / 9223372036854775808)) p) := by
  have st := di_step h p0
  obtain ⟨h0, h1, l0, l1, r0, r1, _⟩ := h
  rw [or_low r _ (by omega) (by omega), or_low hi _ (by omega) (by omega), or_low lo 1 (by omega) (by omega), wrapu (lo * 2), wrapu]
  rw [show 2 * r % 18446744073709551616 = 2 * r by omega, show lo * 2 = 2 * lo by omega]
  constructor
  · intro hc
    rw [show (2 * r + hi / 9223372036854775808 - b) % 18446744073709551616 = 2 * r + hi / 9223372036854775808 - b by omega]
    exact st.1 hc
  · exact st.2

theorem di_first {u b hi lo : Int} (h : DI u b hi lo 0 340282366920938463463374607431768211456) (b1 : b ≤ 9223372036854775808) :
    (b ≤ bits .or .u64 0 (hi / 9223372036854775808) → DI u b (bits .or .u64 (IntKind.u64.wrap (hi * 2)) (lo / 9223372036854775808)) (bits .or .u64 (IntKind.u64.wrap (lo * 2)) 1) (IntKind.u64.wrap (bits .or .u64 0 (hi / 9223372036854775808) - b)) (2 ^ 127)) ∧
    (bits .or .u64 0 (hi / 9223372036854775808) < b → DI u b (bits .or .u64 (IntKind.u64.wrap (hi * 2)) (lo / 9223372036854775808)) (IntKind.u64.wrap (lo * 2)) (bits .or .u64 0 (hi / 9223372036854775808)) (2 ^ 127)) := by
  have := di_walk (p := 2 ^ 127) h (by decide) b1
  rw [show IntKind.u64.wrap (0 * 2) = 0 by decide] at this
  exact this

theorem div_done {u b hi lo r : Int} (h : DI u b hi lo r 1) (b0 : 1 ≤ b) : IsW (wrap64 hi) lo (w128 (u / b)) ∧ r = u % b := by
  obtain ⟨e1, e2⟩ := di_end h b0
  refine ⟨?_, e2⟩
  obtain ⟨h0, h1, l0, l1, _⟩ := h
  have q := isW_mk hi lo (u / b) e1
  rw [show lo / 18446744073709551616 = 0 by omega, show lo % 18446744073709551616 = lo by omega, Int.add_zero] at q
  rw [wrapi]
  exact q

end Go.Proofs.Ytoohaphaeccafaa

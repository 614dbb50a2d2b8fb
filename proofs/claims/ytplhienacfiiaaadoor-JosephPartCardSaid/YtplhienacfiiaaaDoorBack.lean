/- The law WideBack: its walk, out of the contracts of package wide. -/
import Derived.Test.YtplhienacfiiaaaDoorFixed
import Derived.Test.YtplhienacfiiaaaDoorWideB
import Derived.Test.YtplhienacfiiaaaDoorWideC
namespace Go.Proofs.YtplhienacfiiaaaDoor
open Go.RowKit Go.Shelf

theorem qf_mul {x y : Int} (y0 : y ≠ 0) : qf (x * y) y = x ∧ rf (x * y) y = 0 := by
  have e : sg y (x * y) = x * (y.natAbs : Int) := by
    unfold sg
    split
    · rw [show (y.natAbs : Int) = -y by omega, Int.mul_neg]
    · rw [show (y.natAbs : Int) = y by omega]
  unfold qf rf
  rw [e]
  exact ⟨Int.mul_ediv_cancel _ (by omega), Int.mul_emod_left _ _⟩

theorem ef_mul {x y : Int} (y0 : y ≠ 0) : ef (x * y) y = x := by
  obtain ⟨h1, h2⟩ := qf_mul (x := x) y0
  unfold ef near
  rw [h1, h2, if_neg (by omega)]

theorem fits_i64 {x : Int} (h0 : -9223372036854775808 ≤ x) (h1 : x ≤ 9223372036854775807) : Fits x := ⟨by omega, by omega⟩

end Go.Proofs.YtplhienacfiiaaaDoor

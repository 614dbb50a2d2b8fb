/- Package wide: floor, where the signs differ and something is left. -/
import Derived.Test.YtoohaphaeccafaaWideG
namespace Go.Proofs.Ytoohaphaeccafaa
open Go.RowKit Go.Shelf

theorem fits_qf {a b : Int} (x : Fits a) (b0 : b ≠ 0) (hs : decide (a < 0) = !decide (b < 0)) : Fits (qf a b) := by
  obtain ⟨x0, x1⟩ := x
  unfold qf
  rw [(sg_cases a b).2 hs]
  refine ⟨Int.le_ediv_of_mul_le (by omega) (by omega), ?_⟩
  have : -(a.natAbs : Int) / (b.natAbs : Int) < 1 := Int.ediv_lt_of_lt_mul (by omega) (by omega)
  omega

end Go.Proofs.Ytoohaphaeccafaa

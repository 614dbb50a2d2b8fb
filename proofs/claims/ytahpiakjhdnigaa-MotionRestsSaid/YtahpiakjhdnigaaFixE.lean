/- The document's answers for layer 2: Mul, Div, Out, In; and what FixProducts and FixEdges answer: true, for every two integers. -/
import Derived.Test.YtahpiakjhdnigaaFixD
import Derived.Test.YtahpiakjhdnigaaBigI
namespace Go.Proofs.Ytahpiakjhdnigaa
open Go.RowKit Go.Shelf

theorem power_40 (w : World) : Calls Try.prog 26 #[.int .i64 40] w (RetB 1099511627776 w) := by
  have := power_any 40 (by decide) w
  rwa [show (2 : Int) ^ 40 = 1099511627776 by decide] at this
theorem power_24 (w : World) : Calls Try.prog 26 #[.int .i64 24] w (RetB 16777216 w) := by
  have := power_any 24 (by decide) w
  rwa [show (2 : Int) ^ 24 = 16777216 by decide] at this

theorem ef_bd {a b : Int} (f : Fits a) (b0 : b ≠ 0) (c : ¬ (a = -170141183460469231731687303715884105728)) : Tiny (ef a b) := by
  have := ef_fits f b0 (fun h => c h.1)
  exact ⟨by have := this.lo; omega, by have := this.hi; omega⟩
end Go.Proofs.Ytahpiakjhdnigaa

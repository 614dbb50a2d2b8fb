/- Package wide: Sub: the call's answer, for every argument. -/
import Derived.Test.YtccpcabhcfpbfaaDoorWideB
namespace Go.Proofs.YtccpcabhcfpbfaaDoor
open Go.RowKit Go.Shelf

end Go.Proofs.YtccpcabhcfpbfaaDoor

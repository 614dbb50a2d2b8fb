/- Package wide: Sub: the call's answer, for every argument. -/
import Derived.Test.YtlpmmnfijfljoaaDoorWideB
namespace Go.Proofs.YtlpmmnfijfljoaaDoor
open Go.RowKit Go.Shelf

end Go.Proofs.YtlpmmnfijfljoaaDoor

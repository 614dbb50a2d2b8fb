/- Package wide: Sub: the call's answer, for every argument. -/
import Derived.Test.YtahpiakjhdnigaaWideB
namespace Go.Proofs.Ytahpiakjhdnigaa
open Go.RowKit Go.Shelf

end Go.Proofs.Ytahpiakjhdnigaa

/- Package wide: Sub: the call's answer, for every argument. -/
import Derived.Test.YtppkmnigongpdaaDoorWideB
namespace Go.Proofs.YtppkmnigongpdaaDoor
open Go.RowKit Go.Shelf

end Go.Proofs.YtppkmnigongpdaaDoor

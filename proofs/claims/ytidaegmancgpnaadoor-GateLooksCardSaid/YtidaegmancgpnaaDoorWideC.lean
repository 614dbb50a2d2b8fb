/- Package wide: Sub: the call's answer, for every argument. -/
import Derived.Test.YtidaegmancgpnaaDoorWideB
namespace Go.Proofs.YtidaegmancgpnaaDoor
open Go.RowKit Go.Shelf

end Go.Proofs.YtidaegmancgpnaaDoor

/- Package wide: Sub: the call's answer, for every argument. -/
import Derived.Test.YtplhienacfiiaaaDoorWideB
namespace Go.Proofs.YtplhienacfiiaaaDoor
open Go.RowKit Go.Shelf

end Go.Proofs.YtplhienacfiiaaaDoor

/- Package wide: Sub: the call's answer, for every argument. -/
import Derived.Test.YtokjljmamiipbaaWideB
namespace Go.Proofs.Ytokjljmamiipbaa
open Go.RowKit Go.Shelf

end Go.Proofs.Ytokjljmamiipbaa

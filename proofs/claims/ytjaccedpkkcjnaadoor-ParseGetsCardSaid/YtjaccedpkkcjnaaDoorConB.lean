/- Layer 13: between, and what each rule's function answers. -/
import Derived.Test.YtjaccedpkkcjnaaDoorConA
namespace Go.Proofs.YtjaccedpkkcjnaaDoor
open Go.RowKit Go.Shelf Go.Joins

theorem tc_regrown {w : World} {b : Nat} {x y z : Int} (c : TC w b x y z) : ∀ d os, TC (Sort.grow (redrawn w d) os) b x y z := fun d os => tc_keep (below_regrown w d os) c

end Go.Proofs.YtjaccedpkkcjnaaDoor

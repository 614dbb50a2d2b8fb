/- The document's whole numbers: Mul: the call's answer. -/
import Derived.Test.YtidaegmancgpnaaDoorBigP
namespace Go.Proofs.YtidaegmancgpnaaDoor
open Go.RowKit Go.Shelf Go.Joins

theorem mul_out {a b o row : List Int} {k : Nat} (h : val o = val (a.take k) * val b) (r : 65536 ^ k * (a.getD k 0 * val b) = val row) : val o + val row = val (a.take (k + 1)) * val b := by
  rw [val_take_succ, Int.add_mul, ← h, ← r, Int.mul_assoc]

end Go.Proofs.YtidaegmancgpnaaDoor

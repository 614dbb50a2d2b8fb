/- math/bits.Add64, Sub64 and Mul64 at this translation, over Int: the model's own answers, in a form that a walk can use. -/
import Derived.Test.YtobmjlnficdmlaaProg
import Derived.Test.YtobmjlnficdmlaaNum
import Derived.Shelf.Spec.BitsCarry
import Derived.WalkKit
import Derived.WalkSpells
namespace Go.Proofs.Ytobmjlnficdmlaa
open Go.RowKit Go.Shelf

/-- The borrow. -/
def bor (x y : Int) : Int := if x < y then 1 else 0
theorem bor_01 (x y : Int) : 0 ≤ bor x y ∧ bor x y ≤ 1 := by unfold bor; split <;> decide

/-- What two words' product comes to, as a pair. -/
def RetMul (x y : Int) (w : World) (e : Ending) (w' : World) : Prop :=
  ∃ h l : Int, e = .returned (.tuple #[.int .u64 h, .int .u64 l]) ∧ 0 ≤ h ∧ h ≤ 18446744073709551615 ∧ 0 ≤ l ∧ l ≤ 18446744073709551615 ∧ Hid (h * 18446744073709551616 + l = x * y) ∧ w = w'

end Go.Proofs.Ytobmjlnficdmlaa

/- Two matrices held against one another; whether a floor and a ceiling may be, the program's answer and the document's. -/
import Derived.Test.YtjaccedpkkcjnaaDoorTamA
import Derived.Test.YtjaccedpkkcjnaaDoorSymB
import Derived.Deep.QuietTactic
import Derived.BigQuiet
import Derived.Lib.SmallJoins
namespace Go.Proofs.YtjaccedpkkcjnaaDoor
open Go.RowKit Go.Shelf Go.Joins

/-- Are two matrices the same? -/
def sqb (a b : Nat → Int) : Bool := a 0 == b 0 && (a 1 == b 1 && (a 2 == b 2 && (a 3 == b 3 && (a 4 == b 4 && a 5 == b 5))))
theorem sqb_iff {a b : Nat → Int} : sqb a b = true ↔ ∀ i, i < 6 → a i = b i := by
  unfold sqb
  simp only [Bool.and_eq_true, beq_iff_eq]
  constructor
  · rintro ⟨h0, h1, h2, h3, h4, h5⟩
    exact six (P := fun i => a i = b i) h0 h1 h2 h3 h4 h5
  · intro h
    exact ⟨h 0 (by decide), h 1 (by decide), h 2 (by decide), h 3 (by decide), h 4 (by decide), h 5 (by decide)⟩
theorem sqb_same {a b : Nat → Int} (h : ∀ i, i < 6 → a i = b i) : sqb a b = true := sqb_iff.2 h
/-- May a floor and a ceiling be? -/
abbrev FB3 (f0 f1 f2 c0 c1 c2 : Int) : Prop := FB f0 c0 ∧ FB f1 c1 ∧ FB f2 c2
def mayb (f0 f1 f2 c0 c1 c2 : Int) : Bool := decide (FB3 f0 f1 f2 c0 c1 c2)
theorem mayb_yes {f0 f1 f2 c0 c1 c2 : Int} (h : FB3 f0 f1 f2 c0 c1 c2) : mayb f0 f1 f2 c0 c1 c2 = true := decide_eq_true h
theorem mayb_no {f0 f1 f2 c0 c1 c2 : Int} (h : ¬ FB3 f0 f1 f2 c0 c1 c2) : mayb f0 f1 f2 c0 c1 c2 = false := decide_eq_false h

end Go.Proofs.YtjaccedpkkcjnaaDoor

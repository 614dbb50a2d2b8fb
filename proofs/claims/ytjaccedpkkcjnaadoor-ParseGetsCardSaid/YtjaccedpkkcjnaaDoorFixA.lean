/- Package fix: Fits, fitting, taken, narrow: each call's answer, for every argument. -/
import Derived.Test.YtjaccedpkkcjnaaDoorRegion
import Derived.Test.YtjaccedpkkcjnaaDoorWideD
namespace Go.Proofs.YtjaccedpkkcjnaaDoor
open Go.RowKit Go.Shelf

/-- A number fits. -/
abbrev FitP (x : Int) : Prop := -288230376151711744 ≤ x ∧ x ≤ 288230376151711744
def fitb (x : Int) : Bool := decide (FitP x)
theorem fitb_yes {x : Int} (h : FitP x) : fitb x = true := decide_eq_true h
theorem fitb_no {x : Int} (h : ¬ FitP x) : fitb x = false := decide_eq_false h
/-- What comes of a number: itself, if it fits, else 0; the error's number. -/
def nz (x : Int) : Int := if FitP x then x else 0
def ne (x : Int) : Int := if FitP x then 0 else 3
theorem nz_of {x : Int} (h : FitP x) : nz x = x ∧ ne x = 0 := ⟨if_pos h, if_pos h⟩
theorem nz_no {x : Int} (h : ¬ FitP x) : nz x = 0 ∧ ne x = 3 := ⟨if_neg h, if_neg h⟩

end Go.Proofs.YtjaccedpkkcjnaaDoor

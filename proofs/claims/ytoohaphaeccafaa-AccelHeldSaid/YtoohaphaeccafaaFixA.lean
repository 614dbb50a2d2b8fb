/- Package fix: Fits, fitting, taken, narrow: each call's answer, for every argument. -/
import Derived.Test.YtoohaphaeccafaaRegion
import Derived.Test.YtoohaphaeccafaaWideD
namespace Go.Proofs.Ytoohaphaeccafaa
open Go.RowKit Go.Shelf

/-- A number fits. -/
abbrev FitP (x : Int) : Prop := -288230376151711744 ≤ x ∧ x ≤ 288230376151711744
def fitb (x : Int) : Bool := decide (FitP x)
theorem fitb_yes {x : Int} (h : FitP x) : fitb x = true := decide_eq_true h
theorem fitb_no {x : Int} (h : ¬ FitP x) : fitb x = false := decide_eq_false h
theorem fits_any (x : Int) (x0 : -9223372036854775808 ≤ x) (x1 : x ≤ 9223372036854775807) (w : World) :
    Calls Try.prog 43 #[.int .i64 x] w fun e w' => e = .returned (.bool (fitb x)) ∧ w = w' := by
  by_cases c : -288230376151711744 ≤ x
  · by_cases d : x ≤ 288230376151711744
    · have e := Lib.hid (fitb_yes ⟨c, d⟩)
      go_enter Try.func43, Try.ntmps43
      go_wp2
      go_ret
      exact ⟨by rw [e.out]; rfl, rfl⟩
    · have e := Lib.hid (fitb_no (x := x) (by omega))
      go_enter Try.func43, Try.ntmps43
      go_wp2
      go_ret
      exact ⟨by rw [e.out]; rfl, rfl⟩
  · have e := Lib.hid (fitb_no (x := x) (by omega))
    go_enter Try.func43, Try.ntmps43
    go_wp2
    go_ret
    exact ⟨by rw [e.out]; rfl, rfl⟩
theorem fits_ref (x : Int) (x0 : -9223372036854775808 ≤ x) (x1 : x ≤ 9223372036854775807) (w : World) :
    Calls Try.prog 44 #[.int .i64 x] w fun e w' => e = .returned (.bool (fitb x)) ∧ w = w' := by
  by_cases c : -288230376151711744 ≤ x
  · by_cases d : x ≤ 288230376151711744
    · have e := Lib.hid (fitb_yes ⟨c, d⟩)
      go_enter Try.func44, Try.ntmps44
      go_wp2
      go_ret
      exact ⟨by rw [e.out]; rfl, rfl⟩
    · have e := Lib.hid (fitb_no (x := x) (by omega))
      go_enter Try.func44, Try.ntmps44
      go_wp2
      go_ret
      exact ⟨by rw [e.out]; rfl, rfl⟩
  · have e := Lib.hid (fitb_no (x := x) (by omega))
    go_enter Try.func44, Try.ntmps44
    go_wp2
    go_ret
    exact ⟨by rw [e.out]; rfl, rfl⟩

/-- What comes of a number: itself, if it fits, else 0; the error's number. -/
def nz (x : Int) : Int := if FitP x then x else 0
def ne (x : Int) : Int := if FitP x then 0 else 3
theorem nz_of {x : Int} (h : FitP x) : nz x = x ∧ ne x = 0 := ⟨if_pos h, if_pos h⟩
theorem nz_no {x : Int} (h : ¬ FitP x) : nz x = 0 ∧ ne x = 3 := ⟨if_neg h, if_neg h⟩

end Go.Proofs.Ytoohaphaeccafaa

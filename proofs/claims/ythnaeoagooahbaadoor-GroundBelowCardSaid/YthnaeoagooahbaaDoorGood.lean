/- Chapter 6: which counts are good: the program's Good and the document's. -/
import Derived.Test.YthnaeoagooahbaaDoorBase
import Derived.Lib.SmallJoins
namespace Go.Proofs.YthnaeoagooahbaaDoor
open Go.RowKit Go.Shelf Go.Joins

/-- Is a count? -/
def gd (p : Int) : Bool := decide (90528 ≤ p) && decide (p ≤ 430515)
theorem gd_lo {p : Int} (c : ¬ 90528 ≤ p) : gd p = false := by simp [gd, c]
theorem gd_in {p : Int} (c : 90528 ≤ p) (d : p ≤ 430515) : gd p = true := by simp [gd, c, d]
theorem gd_hi {p : Int} (d : ¬ p ≤ 430515) : gd p = false := by simp [gd, d]
theorem gd_range {p : Int} (h : gd p = true) : 90528 ≤ p ∧ p ≤ 430515 := by
  unfold gd at h
  simpa using h

set_option maxHeartbeats 4000000 in
set_option maxRecDepth 10000 in
theorem good_any (p : Int) (w : World) : Calls Tryd.prog 15 #[.int .i64 p] w (RetV (.bool (gd p)) w) := by
  by_cases c : 90528 ≤ p
  · have c0 : 90528 ≤ p := by omega
    by_cases d : p ≤ 430515
    · rw [gd_in c d]
      have c1 : p ≤ 430515 := by omega
      clear c d
      go_enter Tryd.func15, Tryd.ntmps15
      go_wp2
      go_ret
      exact ⟨rfl, Below.refl _ _⟩
    · rw [gd_hi d]
      have c1 : ¬ p ≤ 430515 := by omega
      clear c d
      go_enter Tryd.func15, Tryd.ntmps15
      go_wp2
      go_ret
      exact ⟨rfl, Below.refl _ _⟩
  · rw [gd_lo c]
    have c0 : ¬ 90528 ≤ p := by omega
    clear c
    go_enter Tryd.func15, Tryd.ntmps15
    go_wp2
    go_ret
    exact ⟨rfl, Below.refl _ _⟩
set_option maxHeartbeats 4000000 in
set_option maxRecDepth 10000 in
theorem rgood_any (p : Int) (w : World) : Calls Tryd.prog 18 #[.int .i64 p] w (RetV (.bool (gd p)) w) := by
  by_cases c : 90528 ≤ p
  · have c0 : 90527 < p := by omega
    by_cases d : p ≤ 430515
    · rw [gd_in c d]
      have c1 : p < 430516 := by omega
      clear c d
      go_enter Tryd.func18, Tryd.ntmps18
      go_wp2
      go_ret
      exact ⟨rfl, Below.refl _ _⟩
    · rw [gd_hi d]
      have c1 : ¬ p < 430516 := by omega
      clear c d
      go_enter Tryd.func18, Tryd.ntmps18
      go_wp2
      go_ret
      exact ⟨rfl, Below.refl _ _⟩
  · rw [gd_lo c]
    have c0 : ¬ 90527 < p := by omega
    clear c
    go_enter Tryd.func18, Tryd.ntmps18
    go_wp2
    go_ret
    exact ⟨rfl, Below.refl _ _⟩
end Go.Proofs.YthnaeoagooahbaaDoor

/- A tick's numbers: what it adds to a state's altitude and speed, and how far that is from 0. -/
import Derived.Test.YtahpiakjhdnigaaFixC
import Derived.Test.YtahpiakjhdnigaaVecA
namespace Go.Proofs.Ytahpiakjhdnigaa
open Go.RowKit Go.Shelf

/-- What a tick adds to the altitude, and to the speed. -/
def mvh (x d : Int) : Int := evn (256 * x + d) 32768
def mvs (d : Int) : Int := evn d 128
theorem mvh_bd {x d : Int} (hx : FitP x) (hd : FitP d) : -2260595906707457 ≤ mvh x d ∧ mvh x d ≤ 2260595906707457 := by
  have h : mvh x d = _ ∨ mvh x d = _ := evn_near (256 * x + d) 32768
  omega
theorem mvs_bd {d : Int} (hd : FitP d) : -2251799813685249 ≤ mvs d ∧ mvs d ≤ 2251799813685249 := by
  have h : mvs d = _ ∨ mvs d = _ := evn_near d 128
  omega
theorem evn_zero {B : Int} (hB : 0 < B) : evn 0 B = 0 := by
  have h := evn_mul 0 hB
  rwa [Int.zero_mul] at h
theorem mvs_zero : mvs 0 = 0 := evn_zero (by decide)
theorem mvh_zero : mvh 0 0 = 0 := evn_zero (by decide)
/-- The altitude goes up by a speed above one half of a unit, and doesn't by one below its opposite. -/
theorem mvh_up {x : Int} (h : 64 < x) : 0 < mvh x 0 := by
  unfold mvh evn near
  split <;> omega
theorem mvh_down {x : Int} (h : x < -64) : mvh x 0 ≤ 0 := by
  unfold mvh evn near
  split <;> omega
theorem mvh_small {x : Int} (h : -1125899906842624 ≤ x ∧ x ≤ 1125899906842624) : -8796093022209 ≤ mvh x 0 ∧ mvh x 0 ≤ 8796093022209 := by
  have h : mvh x 0 = _ ∨ mvh x 0 = _ := evn_near (256 * x + 0) 32768
  omega
theorem far_fits {x d : Int} (hx : FitP x) (hd : FitP d) : Fits (256 * x) ∧ Fits (0 + 256 * x) ∧ Fits (0 + 256 * x + d) ∧ Fits (0 + d) ∧ Fits (evn (0 + 256 * x + d) 32768) ∧ Fits (evn (0 + d) 128) := by
  have e1 := evn_near (0 + 256 * x + d) 32768
  have e2 := evn_near (0 + d) 128
  exact ⟨⟨by omega, by omega⟩, ⟨by omega, by omega⟩, ⟨by omega, by omega⟩, ⟨by omega, by omega⟩, ⟨by omega, by omega⟩, ⟨by omega, by omega⟩⟩

/-- What comes of two answers: a number, if none of both has failed, else 0; the error 3. -/
def oz (e f x : Int) : Int := if e = 0 ∧ f = 0 then x else 0
def oe (e f : Int) : Int := if e = 0 ∧ f = 0 then 0 else 3
theorem oz_yes (x : Int) : oz 0 0 x = x ∧ oe 0 0 = 0 := ⟨if_pos ⟨rfl, rfl⟩, if_pos ⟨rfl, rfl⟩⟩
theorem oz_no {e f : Int} (h : ¬ (e = 0 ∧ f = 0)) (x : Int) : oz e f x = 0 ∧ oe e f = 3 := ⟨if_neg h, if_neg h⟩

end Go.Proofs.Ytahpiakjhdnigaa

/- The document's whole numbers: Wide: the call's answer. -/
import Derived.Test.YtplhienacfiiaaaDoorBigG
namespace Go.Proofs.YtplhienacfiiaaaDoor
open Go.RowKit Go.Shelf Go.Joins

theorem qd_pos (x : Int) {y : Int} (h : 0 ≤ y) : qd x y = x / y := if_neg (by omega)
theorem bc_set2 {w : World} {b b1 : Nat} {n : Bool} {d u u' : Value} (c : BC w b n d) (hb : b1 ≠ b) : BC ((w.setCell ⟨b1, 0, none⟩ u).setCell ⟨b1, 1, none⟩ u') b n d :=
  ⟨by rw [World.cell?_setCell_far _ _ _ _ hb, World.cell?_setCell_far _ _ _ _ hb]; exact c.1, by rw [World.cell?_setCell_far _ _ _ _ hb, World.cell?_setCell_far _ _ _ _ hb]; exact c.2⟩

end Go.Proofs.YtplhienacfiiaaaDoor

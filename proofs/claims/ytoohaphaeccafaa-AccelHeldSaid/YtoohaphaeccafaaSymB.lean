/- Where an entry stands, as the document tells it and as the program's table does; At, Put, Row, Diag, Main. -/
import Derived.Test.YtoohaphaeccafaaSymA
import Derived.LoopN
namespace Go.Proofs.Ytoohaphaeccafaa
open Go.RowKit Go.Shelf

/-- The program's table holds what its text lays. -/
abbrev PL (w : World) : Prop := w.cell? ⟨0, 0, none⟩ = some (.int .i64 0) ∧ w.cell? ⟨0, 1, none⟩ = some (.int .i64 1) ∧ w.cell? ⟨0, 2, none⟩ = some (.int .i64 2) ∧ w.cell? ⟨0, 3, none⟩ = some (.int .i64 1) ∧ w.cell? ⟨0, 4, none⟩ = some (.int .i64 3) ∧ w.cell? ⟨0, 5, none⟩ = some (.int .i64 4) ∧ w.cell? ⟨0, 6, none⟩ = some (.int .i64 2) ∧ w.cell? ⟨0, 7, none⟩ = some (.int .i64 4) ∧ w.cell? ⟨0, 8, none⟩ = some (.int .i64 5)
theorem pl_keep {w w' : World} (hb : Below w.heap.size w w') (h : PL w) : PL w' := by
  obtain ⟨a0, a1, a2, a3, a4, a5, a6, a7, a8⟩ := h
  exact ⟨cell_keep hb a0, cell_keep hb a1, cell_keep hb a2, cell_keep hb a3, cell_keep hb a4, cell_keep hb a5, cell_keep hb a6, cell_keep hb a7, cell_keep hb a8⟩
theorem pl_lt {w : World} (h : PL w) : 0 < w.heap.size := World.block_lt_of_cell? w _ h.1
/-- The entry ij stands at k. -/
abbrev At9 (i j : Int) (k : Nat) : Prop := (i = 0 ∧ j = 0 ∧ k = 0) ∨ (i = 0 ∧ j = 1 ∧ k = 1) ∨ (i = 0 ∧ j = 2 ∧ k = 2) ∨ (i = 1 ∧ j = 0 ∧ k = 1) ∨ (i = 1 ∧ j = 1 ∧ k = 3) ∨ (i = 1 ∧ j = 2 ∧ k = 4) ∨ (i = 2 ∧ j = 0 ∧ k = 2) ∨ (i = 2 ∧ j = 1 ∧ k = 4) ∨ (i = 2 ∧ j = 2 ∧ k = 5)
abbrev Inb (i : Int) : Prop := 0 ≤ i ∧ i < 3
theorem at9_has {i j : Int} (hi : Inb i) (hj : Inb j) : ∃ k, At9 i j k ∧ k < 6 := by
  rcases (show i = 0 ∨ i = 1 ∨ i = 2 by omega) with rfl | rfl | rfl <;> rcases (show j = 0 ∨ j = 1 ∨ j = 2 by omega) with rfl | rfl | rfl <;> first | exact ⟨0, by decide⟩ | exact ⟨1, by decide⟩ | exact ⟨2, by decide⟩ | exact ⟨3, by decide⟩ | exact ⟨4, by decide⟩ | exact ⟨5, by decide⟩

/-- A matrix with another entry. -/
def umk (m : Nat → Int) (k : Nat) (x : Int) : Nat → Int := fun i => if i = k then x else m i
/-- The row i stands at k0, k1, k2. -/
abbrev Row3 (i : Int) (k0 k1 k2 : Nat) : Prop := (i = 0 ∧ k0 = 0 ∧ k1 = 1 ∧ k2 = 2) ∨ (i = 1 ∧ k0 = 1 ∧ k1 = 3 ∧ k2 = 4) ∨ (i = 2 ∧ k0 = 2 ∧ k1 = 4 ∧ k2 = 5)
/-- The matrix of a diagonal. -/
def dgm (x y z : Int) : Nat → Int := fun i => if i = 0 then x else if i = 3 then y else if i = 5 then z else 0
end Go.Proofs.Ytoohaphaeccafaa

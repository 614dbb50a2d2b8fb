/- A tick as a value, and in memory. -/
import Derived.Test.YtobmjlnficdmlaaBut
namespace Go.Proofs.Ytobmjlnficdmlaa
open Go.RowKit Go.Shelf Go.Joins

/-- A tick as a value. -/
abbrev tk (a : Int) (h : Bool) (p : Int) (s : Bool) : Value := .agg #[.int .i64 a, .bool h, .int .i64 p, .bool s]
/-- Cells off .. hold the tick. -/
abbrev TW (w : World) (g o : Nat) (a : Int) (h : Bool) (p : Int) (s : Bool) : Prop :=
  w.cell? ⟨g, o, none⟩ = some (.int .i64 a) ∧ w.cell? ⟨g, o + 1, none⟩ = some (.bool h) ∧ w.cell? ⟨g, o + 2, none⟩ = some (.int .i64 p) ∧ w.cell? ⟨g, o + 3, none⟩ = some (.bool s)
theorem tw_keep {w w' : World} (hb : Below w.heap.size w w') {g o : Nat} {a : Int} {h : Bool} {p : Int} {s : Bool} (t : TW w g o a h p s) : TW w' g o a h p s :=
  ⟨cell_keep hb t.1, cell_keep hb t.2.1, cell_keep hb t.2.2.1, cell_keep hb t.2.2.2⟩
theorem tw_but {w w' : World} {b : Nat} (B : But b w w') {g o : Nat} {a : Int} {h : Bool} {p : Int} {s : Bool} (hg : g ≠ b) (t : TW w g o a h p s) : TW w' g o a h p s := by
  have k : ∀ i v, w.cell? ⟨g, i, none⟩ = some v → w'.cell? ⟨g, i, none⟩ = some v := fun i v c => by
    have hl := World.block_lt_of_cell? w _ c
    have e := B.block g hl hg
    unfold World.cell? at c ⊢
    simp only [e]
    exact c
  exact ⟨k _ _ t.1, k _ _ t.2.1, k _ _ t.2.2.1, k _ _ t.2.2.2⟩
/-- A tick's own block. -/
theorem tw_new {w : World} {a : Int} {h : Bool} {p : Int} {s : Bool} {t : TypeId} : TW (w.alloc (Obj.cells #[.int .i64 a, .bool h, .int .i64 p, .bool s] t)) w.heap.size 0 a h p s :=
  ⟨(cell_of_row _ _ 0 _ _ _ (heap_alloc_last _ _)).trans rfl, (cell_of_row _ _ 1 _ _ _ (heap_alloc_last _ _)).trans rfl, (cell_of_row _ _ 2 _ _ _ (heap_alloc_last _ _)).trans rfl, (cell_of_row _ _ 3 _ _ _ (heap_alloc_last _ _)).trans rfl⟩
end Go.Proofs.Ytobmjlnficdmlaa

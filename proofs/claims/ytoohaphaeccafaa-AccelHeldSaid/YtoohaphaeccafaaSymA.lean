/- Matrices of six entries: variables that hold one; whether each entry fits, as the program and the document tell it. -/
import Derived.Test.YtoohaphaeccafaaVecA
namespace Go.Proofs.Ytoohaphaeccafaa
open Go.RowKit Go.Shelf

/-- A matrix as a value of the program. -/
abbrev sv (m : Nat → Int) : Value := .agg #[.int .i64 (m 0), .int .i64 (m 1), .int .i64 (m 2), .int .i64 (m 3), .int .i64 (m 4), .int .i64 (m 5)]
/-- Block b holds a matrix. -/
abbrev SC (w : World) (b : Nat) (m : Nat → Int) : Prop := ∀ i, i < 6 → w.cell? ⟨b, i, none⟩ = some (.int .i64 (m i))
/-- Block b is a matrix's variable that may be written. -/
abbrev SF (w : World) (b : Nat) : Prop := ∀ i, i < 6 → w.frozen? ⟨b, i, none⟩ = false
theorem sc_keep {w w' : World} (hb : Below w.heap.size w w') {b : Nat} {m : Nat → Int} (c : SC w b m) : SC w' b m := fun i hi => cell_keep hb (c i hi)
theorem sc_alloc {w : World} {o : Obj} {b : Nat} {m : Nat → Int} (c : SC w b m) : SC (w.alloc o) b m := sc_keep (b_alloc (Below.refl _ _)) c
theorem sc_lt {w : World} {b : Nat} {m : Nat → Int} (c : SC w b m) : b < w.heap.size := World.block_lt_of_cell? w _ (c 0 (by decide))
theorem sf_keep {w w' : World} (hb : Below w.heap.size w w') {b : Nat} {m : Nat → Int} (c : SC w b m) (f : SF w b) : SF w' b := fun i hi => by rw [hb.frozen (p := ⟨b, i, none⟩) (sc_lt c)]; exact f i hi
theorem sc_set {w : World} {b b1 o : Nat} {m : Nat → Int} {v : Value} (c : SC w b m) (hb : b1 ≠ b) : SC (w.setCell ⟨b1, o, none⟩ v) b m := fun i hi => by rw [World.cell?_setCell_far _ _ _ _ hb]; exact c i hi
theorem sf_set {w : World} {b b1 o : Nat} {v : Value} (c : SF w b) : SF (w.setCell ⟨b1, o, none⟩ v) b := fun i hi => by rw [World.frozen?_setCell]; exact c i hi
/-- The cells one by one. -/
abbrev SC6 (w : World) (b : Nat) (m : Nat → Int) : Prop := w.cell? ⟨b, 0, none⟩ = some (.int .i64 (m 0)) ∧ w.cell? ⟨b, 1, none⟩ = some (.int .i64 (m 1)) ∧ w.cell? ⟨b, 2, none⟩ = some (.int .i64 (m 2)) ∧ w.cell? ⟨b, 3, none⟩ = some (.int .i64 (m 3)) ∧ w.cell? ⟨b, 4, none⟩ = some (.int .i64 (m 4)) ∧ w.cell? ⟨b, 5, none⟩ = some (.int .i64 (m 5))
theorem sc_six {w : World} {b : Nat} {m : Nat → Int} (c : SC w b m) : SC6 w b m := ⟨c 0 (by decide), c 1 (by decide), c 2 (by decide), c 3 (by decide), c 4 (by decide), c 5 (by decide)⟩
/-- That each cell may be written. -/
abbrev SF6 (w : World) (b : Nat) : Prop := w.frozen? ⟨b, 0, none⟩ = false ∧ w.frozen? ⟨b, 1, none⟩ = false ∧ w.frozen? ⟨b, 2, none⟩ = false ∧ w.frozen? ⟨b, 3, none⟩ = false ∧ w.frozen? ⟨b, 4, none⟩ = false ∧ w.frozen? ⟨b, 5, none⟩ = false
theorem sf_six {w : World} {b : Nat} (c : SF w b) : SF6 w b := ⟨c 0 (by decide), c 1 (by decide), c 2 (by decide), c 3 (by decide), c 4 (by decide), c 5 (by decide)⟩
theorem six_sc {w : World} {b : Nat} {m : Nat → Int} (c : SC6 w b m) : SC w b m := fun i hi => by
  obtain ⟨c0, c1, c2, c3, c4, c5⟩ := c
  match i, hi with
  | 0, _ => exact c0
  | 1, _ => exact c1
  | 2, _ => exact c2
  | 3, _ => exact c3
  | 4, _ => exact c4
  | 5, _ => exact c5
theorem sc_new {w : World} {b : Nat} {m : Nat → Int} {t : TypeId} (hn : b = w.heap.size) : SC (w.alloc (Obj.cells #[.int .i64 (m 0), .int .i64 (m 1), .int .i64 (m 2), .int .i64 (m 3), .int .i64 (m 4), .int .i64 (m 5)] t)) b m := by subst hn; exact six_sc (by simp [SC6, go_sem])
theorem sf_new {w : World} {b : Nat} {c0 c1 c2 c3 c4 c5 : Value} {t : TypeId} (hn : b = w.heap.size) : SF (w.alloc (Obj.cells #[c0, c1, c2, c3, c4, c5] t)) b := by
  subst hn
  intro i hi
  match i, hi with
  | 0, _ => simp [go_sem]
  | 1, _ => simp [go_sem]
  | 2, _ => simp [go_sem]
  | 3, _ => simp [go_sem]
  | 4, _ => simp [go_sem]
  | 5, _ => simp [go_sem]

abbrev I6 (m : Nat → Int) : Prop := ∀ i, i < 6 → I64 (m i)
abbrev F6 (m : Nat → Int) : Prop := ∀ i, i < 6 → FitP (m i)
def f6b (m : Nat → Int) : Bool := decide (F6 m)
theorem f6b_yes {m : Nat → Int} (h : F6 m) : f6b m = true := decide_eq_true h
theorem f6b_no {m : Nat → Int} (h : ¬ F6 m) : f6b m = false := decide_eq_false h
theorem six {P : Nat → Prop} (h0 : P 0) (h1 : P 1) (h2 : P 2) (h3 : P 3) (h4 : P 4) (h5 : P 5) : ∀ i, i < 6 → P i := fun i hi =>
  match i, hi with
  | 0, _ => h0
  | 1, _ => h1
  | 2, _ => h2
  | 3, _ => h3
  | 4, _ => h4
  | 5, _ => h5
theorem less_succ {P : Nat → Prop} {k : Nat} (h : ∀ i, i < k → P i) (hk : P k) : ∀ i, i < k + 1 → P i := fun i hi => if e : i = k then e ▸ hk else h i (by omega)

theorem ix_vec (x y z : Int) : (∀ w, (Instr.index 23 (tv x y z) (.int .i64 0)).run Try.prog w = .ok (.int .i64 x) w) ∧ (∀ w, (Instr.index 23 (tv x y z) (.int .i64 1)).run Try.prog w = .ok (.int .i64 y) w) ∧ (∀ w, (Instr.index 23 (tv x y z) (.int .i64 2)).run Try.prog w = .ok (.int .i64 z) w) :=
  ⟨fun _ => by kernel_rfl, fun _ => by kernel_rfl, fun _ => by kernel_rfl⟩
theorem seven {k : Nat} (h : k ≤ 6) : k = 6 ∨ k = 0 ∨ k = 1 ∨ k = 2 ∨ k = 3 ∨ k = 4 ∨ k = 5 := by omega
end Go.Proofs.Ytoohaphaeccafaa

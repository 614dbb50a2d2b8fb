/- Rows of three numbers: variables that hold one; what the document's Fits and Clamp, and the program's Least, answer for each. -/
import Derived.Test.YtoohaphaeccafaaFixB
import Derived.Laws.Cover1
import Derived.ChangeKeysEq
namespace Go.Proofs.Ytoohaphaeccafaa
open Go.RowKit Go.Shelf

/-- A number of 64 bits. -/
abbrev I64 (x : Int) : Prop := -9223372036854775808 ≤ x ∧ x ≤ 9223372036854775807
/-- A row as a value of the program. -/
abbrev tv (x y z : Int) : Value := .agg #[.int .i64 x, .int .i64 y, .int .i64 z]
/-- Block b holds a row. -/
abbrev TC (w : World) (b : Nat) (x y z : Int) : Prop := w.cell? ⟨b, 0, none⟩ = some (.int .i64 x) ∧ w.cell? ⟨b, 1, none⟩ = some (.int .i64 y) ∧ w.cell? ⟨b, 2, none⟩ = some (.int .i64 z)
/-- Block b is a row's variable that may be written. -/
abbrev TF (w : World) (b : Nat) : Prop := w.frozen? ⟨b, 0, none⟩ = false ∧ w.frozen? ⟨b, 1, none⟩ = false ∧ w.frozen? ⟨b, 2, none⟩ = false
theorem tc_keep {w w' : World} (hb : Below w.heap.size w w') {b : Nat} {x y z : Int} (c : TC w b x y z) : TC w' b x y z := ⟨cell_keep hb c.1, cell_keep hb c.2.1, cell_keep hb c.2.2⟩
theorem tc_alloc {w : World} {o : Obj} {b : Nat} {x y z : Int} (c : TC w b x y z) : TC (w.alloc o) b x y z := tc_keep (b_alloc (Below.refl _ _)) c
theorem tc_lt {w : World} {b : Nat} {x y z : Int} (c : TC w b x y z) : b < w.heap.size := World.block_lt_of_cell? w _ c.1
theorem tf_keep {w w' : World} (hb : Below w.heap.size w w') {b : Nat} {x y z : Int} (c : TC w b x y z) (f : TF w b) : TF w' b := by
  have h1 := World.block_lt_of_cell? w _ c.1
  have h2 := World.block_lt_of_cell? w _ c.2.1
  have h3 := World.block_lt_of_cell? w _ c.2.2
  exact ⟨by rw [hb.frozen h1]; exact f.1, by rw [hb.frozen h2]; exact f.2.1, by rw [hb.frozen h3]; exact f.2.2⟩
theorem tc_set {w : World} {b b1 o : Nat} {x y z : Int} {v : Value} (c : TC w b x y z) (hb : b1 ≠ b) : TC (w.setCell ⟨b1, o, none⟩ v) b x y z :=
  ⟨by rw [World.cell?_setCell_far _ _ _ _ hb]; exact c.1, by rw [World.cell?_setCell_far _ _ _ _ hb]; exact c.2.1, by rw [World.cell?_setCell_far _ _ _ _ hb]; exact c.2.2⟩
theorem tf_set {w : World} {b b1 o : Nat} {v : Value} (c : TF w b) : TF (w.setCell ⟨b1, o, none⟩ v) b :=
  ⟨by rw [World.frozen?_setCell]; exact c.1, by rw [World.frozen?_setCell]; exact c.2.1, by rw [World.frozen?_setCell]; exact c.2.2⟩
theorem tc_new {w : World} {b : Nat} {x y z : Int} {t : TypeId} (hn : b = w.heap.size) : TC (w.alloc (Obj.cells #[.int .i64 x, .int .i64 y, .int .i64 z] t)) b x y z := by subst hn; simp [TC, go_sem]
theorem tf_new {w : World} {b : Nat} {x y z : Int} {t : TypeId} (hn : b = w.heap.size) : TF (w.alloc (Obj.cells #[.int .i64 x, .int .i64 y, .int .i64 z] t)) b := by subst hn; simp [TF, go_sem]

/-- Two rows held against one another. -/
theorem vec_eq (x y z x' y' z' : Int) (w : World) : (Op.equalIn 10000 23 (tv x y z) (tv x' y' z')).run Try.prog w = .ok (x == x' && (y == y' && z == z')) w := by
  have hs : (Try.prog.info? 2).isSome = true := by kernel_rfl
  obtain ⟨i, hi⟩ := Option.isSome_iff_exists.1 hs
  have hc : Try.prog.cellsOf 2 = 1 := by kernel_rfl
  have hp : Try.prog.plainKey 2 = true := by kernel_rfl
  rw [run_equalIn_array w 9999 _ _ Try.underlying23 hi]
  rw [hc]
  have P := fun (a b c : Int) (w : World) => And.intro (run_part_plain w hp (xs := #[Value.int IntKind.i64 a, Value.int IntKind.i64 b, Value.int IntKind.i64 c]) (off := 0 * 1) rfl) (And.intro (run_part_plain w hp (xs := #[Value.int IntKind.i64 a, Value.int IntKind.i64 b, Value.int IntKind.i64 c]) (off := 1 * 1) rfl) (run_part_plain w hp (xs := #[Value.int IntKind.i64 a, Value.int IntKind.i64 b, Value.int IntKind.i64 c]) (off := 2 * 1) rfl))
  have E := fun (a b : Int) (w : World) => run_equalIn_int w 9998 2 .i64 .i64 a b Try.underlying2
  simp only [List.range, List.range.loop, Op.eqItems, Sem.run_bind, (P _ _ _ _).1, Result.andThen_ok]
  by_cases a : x = x' <;> by_cases b : y = y' <;> by_cases c : z = z' <;> simp [a, b, c, (P _ _ _ _).2.1, (P _ _ _ _).2.2, E]
theorem vec_eq_self (x y z : Int) (w : World) : (Op.equalIn 10000 23 (tv x y z) (tv x y z)).run Try.prog w = .ok true w := by
  rw [vec_eq]; simp

def f3b (x y z : Int) : Bool := fitb x && (fitb y && fitb z)
abbrev F3 (x y z : Int) : Prop := FitP x ∧ FitP y ∧ FitP z
theorem f3b_yes {x y z : Int} (h : F3 x y z) : f3b x y z = true := by unfold f3b; rw [fitb_yes h.1, fitb_yes h.2.1, fitb_yes h.2.2]; rfl
theorem f3b_no {x y z : Int} (h : ¬ F3 x y z) : f3b x y z = false := by
  unfold f3b
  by_cases a : FitP x
  · by_cases b : FitP y
    · rw [fitb_no (x := z) (fun c => h ⟨a, b, c⟩)]; simp
    · rw [fitb_no b]; simp
  · rw [fitb_no a]; simp

def lst (x y z : Int) : Int := if z < (if y < x then y else x) then z else (if y < x then y else x)
theorem lst_le (x y z : Int) : lst x y z ≤ x ∧ lst x y z ≤ y ∧ lst x y z ≤ z ∧ (lst x y z = x ∨ lst x y z = y ∨ lst x y z = z) := by
  unfold lst
  by_cases a : y < x
  · rw [if_pos a]
    by_cases b : z < y
    · rw [if_pos b]; omega
    · rw [if_neg b]; omega
  · rw [if_neg a]
    by_cases b : z < x
    · rw [if_pos b]; omega
    · rw [if_neg b]; omega
end Go.Proofs.Ytoohaphaeccafaa

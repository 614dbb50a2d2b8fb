/- The numbers of a tick's matrix F, the terms of what a tick makes of a doubt, and their sum. -/
import Derived.Test.YtlpmmnfijfljoaaDoorSymB
namespace Go.Proofs.YtlpmmnfijfljoaaDoor
open Go.RowKit Go.Shelf

/-- F, times 2^15. -/
def mvn (i a : Nat) : Int := if a < i then 0 else if a = i then 32768 else if i + 2 ≤ a then -1 else if i = 0 then 256 else -256
theorem mvn_bd (i a : Nat) : -32768 ≤ mvn i a ∧ mvn i a ≤ 32768 := by
  unfold mvn
  repeat' split
  all_goals omega
/-- Where the entry stands. -/
def pln (a b : Nat) : Nat := if a = 0 then (if b = 0 then 0 else if b = 1 then 1 else 2) else if a = 1 then (if b = 0 then 1 else if b = 1 then 3 else 4) else (if b = 0 then 2 else if b = 1 then 4 else 5)
theorem pln_lt (a b : Nat) : pln a b < 6 := by
  unfold pln
  repeat' split
  all_goals omega
theorem pln_at {a b : Nat} (ha : a < 3) (hb : b < 3) : At9 a b (pln a b) := by
  rcases (show a = 0 ∨ a = 1 ∨ a = 2 by omega) with rfl | rfl | rfl <;> rcases (show b = 0 ∨ b = 1 ∨ b = 2 by omega) with rfl | rfl | rfl <;> decide
theorem pln_sym {a b : Nat} (ha : a < 3) (hb : b < 3) : pln a b = pln b a := by
  rcases (show a = 0 ∨ a = 1 ∨ a = 2 by omega) with rfl | rfl | rfl <;> rcases (show b = 0 ∨ b = 1 ∨ b = 2 by omega) with rfl | rfl | rfl <;> decide
theorem abs_mul {x y : Int} {A B : Nat} (hx : x.natAbs ≤ A) (hy : y.natAbs ≤ B) : (x * y).natAbs ≤ A * B := by rw [Int.natAbs_mul]; exact Nat.mul_le_mul hx hy

/-- What the entries a, b put to the entry i, j: term number 3 a + b. -/
def tmn (m : Nat → Int) (i j k : Nat) : Int := mvn i (k / 3) * mvn j (k % 3) * m (pln (k / 3) (k % 3))
theorem tmn_eq (m : Nat → Int) (i j a b : Nat) (hb : b < 3) : tmn m i j (3 * a + b) = mvn i a * mvn j b * m (pln a b) := by
  have h1 : (3 * a + b) / 3 = a := by omega
  have h2 : (3 * a + b) % 3 = b := by omega
  rw [tmn, h1, h2]
theorem tmn_bd {m : Nat → Int} (h : F6 m) (i j k : Nat) : (tmn m i j k).natAbs ≤ 309485009821345068724781056 := by
  have h1 := mvn_bd i (k / 3)
  have h2 := mvn_bd j (k % 3)
  have h3 := h (pln (k / 3) (k % 3)) (pln_lt _ _)
  exact abs_mul (A := 1073741824) (B := 288230376151711744) (abs_mul (A := 32768) (B := 32768) (by omega) (by omega)) (by omega)
/-- The sum of terms. -/
def smT (T : Nat → Int) (l : List Nat) : Int := l.foldl (fun s k => s + T k) 0
theorem smT_snoc (T : Nat → Int) (l : List Nat) (k : Nat) : smT T (l ++ [k]) = smT T l + T k := by simp [smT]
theorem fold_bd {T : Nat → Int} {B : Nat} (h : ∀ k, (T k).natAbs ≤ B) (l : List Nat) : ∀ s : Int, (l.foldl (fun s k => s + T k) s).natAbs ≤ s.natAbs + l.length * B := by
  induction l with
  | nil => intro s; simp
  | cons k l ih =>
    intro s
    have h1 := ih (s + T k)
    have h2 := h k
    simp only [List.foldl_cons, List.length_cons, Nat.add_mul, Nat.one_mul]
    omega
theorem smT_bd {T : Nat → Int} {B : Nat} (h : ∀ k, (T k).natAbs ≤ B) (l : List Nat) : (smT T l).natAbs ≤ l.length * B := by
  have := fold_bd h l 0
  simpa [smT] using this
theorem smT_fits {T : Nat → Int} (h : ∀ k, (T k).natAbs ≤ 309485009821345068724781056) {l : List Nat} (hl : l.length ≤ 9) : Fits (smT T l) := by
  have := smT_bd h l
  have : l.length * 309485009821345068724781056 ≤ 9 * 309485009821345068724781056 := Nat.mul_le_mul_right _ hl
  exact ⟨by omega, by omega⟩
theorem term_fits {T : Nat → Int} (h : ∀ k, (T k).natAbs ≤ 309485009821345068724781056) (k : Nat) : Fits (T k) := by
  have := h k
  exact ⟨by omega, by omega⟩
/-- An entry of the product, times 2^30. -/
def rwn (m : Nat → Int) (i j : Nat) : Int := smT (tmn m i j) (List.range 9)

/-- A wide number's value. -/
abbrev wof (z : Int) : Value := wv (z / 18446744073709551616) (z % 18446744073709551616)
/-- The table of the moves. -/
abbrev ML (w : World) : Prop := ∀ i, i < 3 → ∀ a, a < 3 → w.cell? ⟨1, i * 3 + a, none⟩ = some (.int .i64 (mvn i a))
theorem ml_keep {w w' : World} (hb : Below w.heap.size w w') (h : ML w) : ML w' := fun i hi a ha => cell_keep hb (h i hi a ha)
theorem ml_lt {w : World} (h : ML w) : 1 < w.heap.size := World.block_lt_of_cell? w _ (h 0 (by decide) 0 (by decide))
theorem pl_put {w : World} {b o : Nat} {v : Value} (h : PL w) (hb : 0 < b) : PL (w.setCell ⟨b, o, none⟩ v) := by
  have n : b ≠ 0 := by omega
  obtain ⟨a0, a1, a2, a3, a4, a5, a6, a7, a8⟩ := h
  have K : ∀ i u, w.cell? ⟨0, i, none⟩ = some u → (w.setCell ⟨b, o, none⟩ v).cell? ⟨0, i, none⟩ = some u := fun i u hu => by rw [World.cell?_setCell_far _ _ _ _ n]; exact hu
  exact ⟨K _ _ a0, K _ _ a1, K _ _ a2, K _ _ a3, K _ _ a4, K _ _ a5, K _ _ a6, K _ _ a7, K _ _ a8⟩
theorem grown_of {W W' : World} (h : Below W.heap.size W W') : W.grownBy W' none := ⟨h.os, h.tape, h.output, h.size, fun k hk _ => h.block k hk⟩
theorem ix_move (x y z : Int) : (∀ w, (Instr.index 24 (tv x y z) (.int .i64 0)).run Tryd.prog w = .ok (.int .i64 x) w) ∧ (∀ w, (Instr.index 24 (tv x y z) (.int .i64 1)).run Tryd.prog w = .ok (.int .i64 y) w) ∧ (∀ w, (Instr.index 24 (tv x y z) (.int .i64 2)).run Tryd.prog w = .ok (.int .i64 z) w) :=
  ⟨fun _ => by kernel_rfl, fun _ => by kernel_rfl, fun _ => by kernel_rfl⟩
theorem ix_row (r : Nat → Int) {a : Nat} (ha : a < 3) (w : World) : (Instr.index 24 (tv (r 0) (r 1) (r 2)) (.int .i64 a)).run Tryd.prog w = .ok (.int .i64 (r a)) w := by
  obtain ⟨h0, h1, h2⟩ := ix_move (r 0) (r 1) (r 2)
  match a, ha with
  | 0, _ => exact h0 w
  | 1, _ => exact h1 w
  | 2, _ => exact h2 w
end Go.Proofs.YtlpmmnfijfljoaaDoor

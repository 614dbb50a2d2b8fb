/- Where an entry stands, as the document tells it and as the program's table does; At, Put, Row, Diag, Main. -/
import Derived.Test.YtidaegmancgpnaaDoorSymA
import Derived.LoopN
namespace Go.Proofs.YtidaegmancgpnaaDoor
open Go.RowKit Go.Shelf

/-- The program's table holds what its text lays. -/
abbrev PL (w : World) : Prop := w.cell? ⟨0, 0, none⟩ = some (.int .i64 0) ∧ w.cell? ⟨0, 1, none⟩ = some (.int .i64 1) ∧ w.cell? ⟨0, 2, none⟩ = some (.int .i64 2) ∧ w.cell? ⟨0, 3, none⟩ = some (.int .i64 1) ∧ w.cell? ⟨0, 4, none⟩ = some (.int .i64 3) ∧ w.cell? ⟨0, 5, none⟩ = some (.int .i64 4) ∧ w.cell? ⟨0, 6, none⟩ = some (.int .i64 2) ∧ w.cell? ⟨0, 7, none⟩ = some (.int .i64 4) ∧ w.cell? ⟨0, 8, none⟩ = some (.int .i64 5)
theorem pl_keep {w w' : World} (hb : Below w.heap.size w w') (h : PL w) : PL w' := by
  obtain ⟨a0, a1, a2, a3, a4, a5, a6, a7, a8⟩ := h
  exact ⟨cell_keep hb a0, cell_keep hb a1, cell_keep hb a2, cell_keep hb a3, cell_keep hb a4, cell_keep hb a5, cell_keep hb a6, cell_keep hb a7, cell_keep hb a8⟩
theorem pl_lt {w : World} (h : PL w) : 0 < w.heap.size := World.block_lt_of_cell? w _ h.1
/-- The entry ij stands at k. -/
abbrev At9 (i j : Int) (k : Nat) : Prop := (i = 0 ∧ j = 0 ∧ k = 0) ∨ (i = 0 ∧ j = 1 ∧ k = 1) ∨ (i = 0 ∧ j = 2 ∧ k = 2) ∨ (i = 1 ∧ j = 0 ∧ k = 1) ∨ (i = 1 ∧ j = 1 ∧ k = 3) ∨ (i = 1 ∧ j = 2 ∧ k = 4) ∨ (i = 2 ∧ j = 0 ∧ k = 2) ∨ (i = 2 ∧ j = 1 ∧ k = 4) ∨ (i = 2 ∧ j = 2 ∧ k = 5)
abbrev Inb (i : Int) : Prop := 0 ≤ i ∧ i < 3
theorem at9_has {i j : Int} (hi : Inb i) (hj : Inb j) : ∃ k, At9 i j k ∧ k < 6 := by
  rcases (show i = 0 ∨ i = 1 ∨ i = 2 by omega) with rfl | rfl | rfl <;> rcases (show j = 0 ∨ j = 1 ∨ j = 2 by omega) with rfl | rfl | rfl <;> first | exact ⟨0, by decide⟩ | exact ⟨1, by decide⟩ | exact ⟨2, by decide⟩ | exact ⟨3, by decide⟩ | exact ⟨4, by decide⟩ | exact ⟨5, by decide⟩

theorem within_yes (i : Int) (h : Inb i) (w : World) : Calls Tryd.prog 21 #[.int .i64 i] w (RetV (.bool true) w) := by
  obtain ⟨h0, h1⟩ := h
  go_enter Tryd.func21, Tryd.ntmps21
  go_wp2
  go_ret
  exact ⟨rfl, Below.refl _ _⟩
theorem within_no (i : Int) (h : ¬ Inb i) (w : World) : Calls Tryd.prog 21 #[.int .i64 i] w (RetV (.bool false) w) := by
  by_cases h0 : 0 ≤ i
  · have h1 : ¬ i < 3 := fun c => h ⟨h0, c⟩
    clear h
    go_enter Tryd.func21, Tryd.ntmps21
    go_wp2
    go_ret
    exact ⟨rfl, Below.refl _ _⟩
  · clear h
    go_enter Tryd.func21, Tryd.ntmps21
    go_wp2
    go_ret
    exact ⟨rfl, Below.refl _ _⟩

set_option maxHeartbeats 1000000 in
set_option maxRecDepth 10000 in
theorem at_ok (m : Nat → Int) (i j : Int) (k : Nat) (h : At9 i j k) (w : World) (hp : PL w) :
    Calls Tryd.prog 10 #[sv m, .int .i64 i, .int .i64 j] w (RetV (.tuple #[.int .i64 (m k), .int .i64 0]) w) := by
  have B := b_alloc (o := Obj.cells #[.int .i64 (m 0), .int .i64 (m 1), .int .i64 (m 2), .int .i64 (m 3), .int .i64 (m 4), .int .i64 (m 5)] 25) (Below.refl w.heap.size w)
  have S := sc_six (sc_new (w := w) (m := m) (t := 25) rfl)
  have P := pl_keep B hp
  rcases h with ⟨rfl, rfl, rfl⟩ | ⟨rfl, rfl, rfl⟩ | ⟨rfl, rfl, rfl⟩ | ⟨rfl, rfl, rfl⟩ | ⟨rfl, rfl, rfl⟩ | ⟨rfl, rfl, rfl⟩ | ⟨rfl, rfl, rfl⟩ | ⟨rfl, rfl, rfl⟩ | ⟨rfl, rfl, rfl⟩
  all_goals
    go_enter Tryd.func10, Tryd.ntmps10
    go_wp2_with fail
    refine (within_yes _ (by decide) _).mono ?_
    rintro e w1 ⟨rfl, hb1⟩
    replace S := sc_six (sc_keep hb1 (six_sc S))
    replace P := pl_keep hb1 P
    replace B := b_trans B hb1
    clear hb1
    go_wp2_with fail
    refine (within_yes _ (by decide) _).mono ?_
    rintro e w1 ⟨rfl, hb1⟩
    replace S := sc_six (sc_keep hb1 (six_sc S))
    replace P := pl_keep hb1 P
    replace B := b_trans B hb1
    clear hb1
    go_wp2
    go_ret2
    exact ⟨rfl, B⟩
set_option maxHeartbeats 1000000 in
set_option maxRecDepth 10000 in
theorem at_bad (m : Nat → Int) (i j : Int) (h : ¬ (Inb i ∧ Inb j)) (w : World) :
    Calls Tryd.prog 10 #[sv m, .int .i64 i, .int .i64 j] w (RetV (.tuple #[.int .i64 0, .int .i64 2]) w) := by
  have B := b_alloc (o := Obj.cells #[.int .i64 (m 0), .int .i64 (m 1), .int .i64 (m 2), .int .i64 (m 3), .int .i64 (m 4), .int .i64 (m 5)] 25) (Below.refl w.heap.size w)
  by_cases hi : Inb i
  · have hj : ¬ Inb j := fun c => h ⟨hi, c⟩
    clear h
    go_enter Tryd.func10, Tryd.ntmps10
    go_wp2_with fail
    refine (within_yes _ hi _).mono ?_
    rintro e w1 ⟨rfl, hb1⟩
    replace B := b_trans B hb1
    clear hb1
    go_wp2_with fail
    refine (within_no _ hj _).mono ?_
    rintro e w1 ⟨rfl, hb1⟩
    replace B := b_trans B hb1
    clear hb1 hi hj
    go_wp2
    go_ret2
    exact ⟨rfl, B⟩
  · clear h
    go_enter Tryd.func10, Tryd.ntmps10
    go_wp2_with fail
    refine (within_no _ hi _).mono ?_
    rintro e w1 ⟨rfl, hb1⟩
    replace B := b_trans B hb1
    clear hb1 hi
    go_wp2
    go_ret2
    exact ⟨rfl, B⟩

/-- A matrix with another entry. -/
def umk (m : Nat → Int) (k : Nat) (x : Int) : Nat → Int := fun i => if i = k then x else m i
/-- The row i stands at k0, k1, k2. -/
abbrev Row3 (i : Int) (k0 k1 k2 : Nat) : Prop := (i = 0 ∧ k0 = 0 ∧ k1 = 1 ∧ k2 = 2) ∨ (i = 1 ∧ k0 = 1 ∧ k1 = 3 ∧ k2 = 4) ∨ (i = 2 ∧ k0 = 2 ∧ k1 = 4 ∧ k2 = 5)
theorem ix_ints (x y z : Int) : (∀ w, (Instr.index 45 (tv x y z) (.int .i64 0)).run Tryd.prog w = .ok (.int .i64 x) w) ∧ (∀ w, (Instr.index 45 (tv x y z) (.int .i64 1)).run Tryd.prog w = .ok (.int .i64 y) w) ∧ (∀ w, (Instr.index 45 (tv x y z) (.int .i64 2)).run Tryd.prog w = .ok (.int .i64 z) w) :=
  ⟨fun _ => by kernel_rfl, fun _ => by kernel_rfl, fun _ => by kernel_rfl⟩
/-- The matrix of a diagonal. -/
def dgm (x y z : Int) : Nat → Int := fun i => if i = 0 then x else if i = 3 then y else if i = 5 then z else 0
end Go.Proofs.YtidaegmancgpnaaDoor

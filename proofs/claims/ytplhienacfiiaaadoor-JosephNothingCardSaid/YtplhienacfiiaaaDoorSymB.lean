/- Where an entry stands, as the document tells it and as the program's table does; At, Put, Row, Diag, Main. -/
import Derived.Test.YtplhienacfiiaaaDoorSymA
import Derived.LoopN
namespace Go.Proofs.YtplhienacfiiaaaDoor
open Go.RowKit Go.Shelf

/-- The program's table holds what its text lays. -/
abbrev PL (w : World) : Prop := w.cell? ⟨0, 0, none⟩ = some (.int .i64 0) ∧ w.cell? ⟨0, 1, none⟩ = some (.int .i64 1) ∧ w.cell? ⟨0, 2, none⟩ = some (.int .i64 2) ∧ w.cell? ⟨0, 3, none⟩ = some (.int .i64 1) ∧ w.cell? ⟨0, 4, none⟩ = some (.int .i64 3) ∧ w.cell? ⟨0, 5, none⟩ = some (.int .i64 4) ∧ w.cell? ⟨0, 6, none⟩ = some (.int .i64 2) ∧ w.cell? ⟨0, 7, none⟩ = some (.int .i64 4) ∧ w.cell? ⟨0, 8, none⟩ = some (.int .i64 5)
theorem pl_keep {w w' : World} (hb : Below w.heap.size w w') (h : PL w) : PL w' := by
  obtain ⟨a0, a1, a2, a3, a4, a5, a6, a7, a8⟩ := h
  exact ⟨cell_keep hb a0, cell_keep hb a1, cell_keep hb a2, cell_keep hb a3, cell_keep hb a4, cell_keep hb a5, cell_keep hb a6, cell_keep hb a7, cell_keep hb a8⟩
theorem pl_lt {w : World} (h : PL w) : 0 < w.heap.size := World.block_lt_of_cell? w _ h.1
/-- The entry ij stands at k. -/
abbrev At9 (i j : Int) (k : Nat) : Prop := (i = 0 ∧ j = 0 ∧ k = 0) ∨ (i = 0 ∧ j = 1 ∧ k = 1) ∨ (i = 0 ∧ j = 2 ∧ k = 2) ∨ (i = 1 ∧ j = 0 ∧ k = 1) ∨ (i = 1 ∧ j = 1 ∧ k = 3) ∨ (i = 1 ∧ j = 2 ∧ k = 4) ∨ (i = 2 ∧ j = 0 ∧ k = 2) ∨ (i = 2 ∧ j = 1 ∧ k = 4) ∨ (i = 2 ∧ j = 2 ∧ k = 5)
abbrev Inb (i : Int) : Prop := 0 ≤ i ∧ i < 3
theorem at9_has {i j : Int} (hi : Inb i) (hj : Inb j) : ∃ k, At9 i j k ∧ k < 6 := by
  rcases (show i = 0 ∨ i = 1 ∨ i = 2 by omega) with rfl | rfl | rfl <;> rcases (show j = 0 ∨ j = 1 ∨ j = 2 by omega) with rfl | rfl | rfl <;> first | exact ⟨0, by decide⟩ | exact ⟨1, by decide⟩ | exact ⟨2, by decide⟩ | exact ⟨3, by decide⟩ | exact ⟨4, by decide⟩ | exact ⟨5, by decide⟩

theorem within_yes (i : Int) (h : Inb i) (w : World) : Calls Tryd.prog 45 #[.int .i64 i] w (RetV (.bool true) w) := by
  obtain ⟨h0, h1⟩ := h
  go_enter Tryd.func45, Tryd.ntmps45
  go_wp2
  go_ret
  exact ⟨rfl, Below.refl _ _⟩
theorem within_no (i : Int) (h : ¬ Inb i) (w : World) : Calls Tryd.prog 45 #[.int .i64 i] w (RetV (.bool false) w) := by
  by_cases h0 : 0 ≤ i
  · have h1 : ¬ i < 3 := fun c => h ⟨h0, c⟩
    clear h
    go_enter Tryd.func45, Tryd.ntmps45
    go_wp2
    go_ret
    exact ⟨rfl, Below.refl _ _⟩
  · clear h
    go_enter Tryd.func45, Tryd.ntmps45
    go_wp2
    go_ret
    exact ⟨rfl, Below.refl _ _⟩

set_option maxHeartbeats 1000000 in
set_option maxRecDepth 10000 in
theorem at_ok (m : Nat → Int) (i j : Int) (k : Nat) (h : At9 i j k) (w : World) (hp : PL w) :
    Calls Tryd.prog 37 #[sv m, .int .i64 i, .int .i64 j] w (RetV (.tuple #[.int .i64 (m k), .int .i64 0]) w) := by
  have B := b_alloc (o := Obj.cells #[.int .i64 (m 0), .int .i64 (m 1), .int .i64 (m 2), .int .i64 (m 3), .int .i64 (m 4), .int .i64 (m 5)] 32) (Below.refl w.heap.size w)
  have S := sc_six (sc_new (w := w) (m := m) (t := 32) rfl)
  have P := pl_keep B hp
  rcases h with ⟨rfl, rfl, rfl⟩ | ⟨rfl, rfl, rfl⟩ | ⟨rfl, rfl, rfl⟩ | ⟨rfl, rfl, rfl⟩ | ⟨rfl, rfl, rfl⟩ | ⟨rfl, rfl, rfl⟩ | ⟨rfl, rfl, rfl⟩ | ⟨rfl, rfl, rfl⟩ | ⟨rfl, rfl, rfl⟩
  all_goals
    go_enter Tryd.func37, Tryd.ntmps37
    go_wp2_with fail
    refine (within_yes _ (by decide) _).mono ?_
    rintro e w1 ⟨rfl, hb1⟩
    replace S := sc_six (sc_keep hb1 (six_sc S))
    replace P := pl_keep hb1 P
    replace B := b_trans B hb1
    clear hb1
    go_wp2_with fail
    refine (within_yes _ (by decide) _).mono ?_
    rintro e w1 ⟨rfl, hb1⟩
    replace S := sc_six (sc_keep hb1 (six_sc S))
    replace P := pl_keep hb1 P
    replace B := b_trans B hb1
    clear hb1
    go_wp2
    go_ret2
    exact ⟨rfl, B⟩
set_option maxHeartbeats 1000000 in
set_option maxRecDepth 10000 in
theorem at_bad (m : Nat → Int) (i j : Int) (h : ¬ (Inb i ∧ Inb j)) (w : World) :
    Calls Tryd.prog 37 #[sv m, .int .i64 i, .int .i64 j] w (RetV (.tuple #[.int .i64 0, .int .i64 2]) w) := by
  have B := b_alloc (o := Obj.cells #[.int .i64 (m 0), .int .i64 (m 1), .int .i64 (m 2), .int .i64 (m 3), .int .i64 (m 4), .int .i64 (m 5)] 32) (Below.refl w.heap.size w)
  by_cases hi : Inb i
  · have hj : ¬ Inb j := fun c => h ⟨hi, c⟩
    clear h
    go_enter Tryd.func37, Tryd.ntmps37
    go_wp2_with fail
    refine (within_yes _ hi _).mono ?_
    rintro e w1 ⟨rfl, hb1⟩
    replace B := b_trans B hb1
    clear hb1
    go_wp2_with fail
    refine (within_no _ hj _).mono ?_
    rintro e w1 ⟨rfl, hb1⟩
    replace B := b_trans B hb1
    clear hb1 hi hj
    go_wp2
    go_ret2
    exact ⟨rfl, B⟩
  · clear h
    go_enter Tryd.func37, Tryd.ntmps37
    go_wp2_with fail
    refine (within_no _ hi _).mono ?_
    rintro e w1 ⟨rfl, hb1⟩
    replace B := b_trans B hb1
    clear hb1 hi
    go_wp2
    go_ret2
    exact ⟨rfl, B⟩

/-- A matrix with another entry. -/
def umk (m : Nat → Int) (k : Nat) (x : Int) : Nat → Int := fun i => if i = k then x else m i
set_option maxHeartbeats 2000000 in
set_option maxRecDepth 10000 in
theorem put_ok (m : Nat → Int) (i j x : Int) (k : Nat) (h : At9 i j k) (w : World) (hp : PL w) :
    Calls Tryd.prog 26 #[sv m, .int .i64 i, .int .i64 j, .int .i64 x] w (RetV (.tuple #[sv (umk m k x), .int .i64 0]) w) := by
  have B := b_alloc (o := Obj.cells #[.int .i64 0, .int .i64 0, .int .i64 0, .int .i64 0, .int .i64 0, .int .i64 0] 32) (b_alloc (o := Obj.cells #[.int .i64 (m 0), .int .i64 (m 1), .int .i64 (m 2), .int .i64 (m 3), .int .i64 (m 4), .int .i64 (m 5)] 32) (Below.refl w.heap.size w))
  have S := sc_alloc (o := Obj.cells #[.int .i64 0, .int .i64 0, .int .i64 0, .int .i64 0, .int .i64 0, .int .i64 0] 32) (sc_new (w := w) (m := m) (t := 32) rfl)
  have SW := sf_keep (b_alloc (o := Obj.cells #[.int .i64 0, .int .i64 0, .int .i64 0, .int .i64 0, .int .i64 0, .int .i64 0] 32) (Below.refl _ _)) (sc_new (w := w) (m := m) (t := 32) rfl) (sf_new rfl)
  have R := sc_new (w := w.alloc (Obj.cells #[.int .i64 (m 0), .int .i64 (m 1), .int .i64 (m 2), .int .i64 (m 3), .int .i64 (m 4), .int .i64 (m 5)] 32)) (m := fun _ => 0) (t := 32) rfl
  have RW := sf_new (w := w.alloc (Obj.cells #[.int .i64 (m 0), .int .i64 (m 1), .int .i64 (m 2), .int .i64 (m 3), .int .i64 (m 4), .int .i64 (m 5)] 32)) (c0 := .int .i64 0) (c1 := .int .i64 0) (c2 := .int .i64 0) (c3 := .int .i64 0) (c4 := .int .i64 0) (c5 := .int .i64 0) (t := 32) rfl
  have P := pl_keep B hp
  have z : 0 < w.heap.size := pl_lt hp
  rw [World.size_alloc] at R RW
  clear hp
  rcases h with ⟨rfl, rfl, rfl⟩ | ⟨rfl, rfl, rfl⟩ | ⟨rfl, rfl, rfl⟩ | ⟨rfl, rfl, rfl⟩ | ⟨rfl, rfl, rfl⟩ | ⟨rfl, rfl, rfl⟩ | ⟨rfl, rfl, rfl⟩ | ⟨rfl, rfl, rfl⟩ | ⟨rfl, rfl, rfl⟩
  all_goals
    go_enter Tryd.func26, Tryd.ntmps26
    go_wp2_with fail
    refine (within_yes _ (by decide) _).mono ?_
    rintro e w1 ⟨rfl, hb1⟩
    replace SW := sf_keep hb1 S SW
    replace S := sc_keep hb1 S
    replace RW := sf_keep hb1 R RW
    replace R := sc_keep hb1 R
    replace P := pl_keep hb1 P
    replace B := b_trans B hb1
    clear hb1
    go_wp2_with fail
    refine (within_yes _ (by decide) _).mono ?_
    rintro e w1 ⟨rfl, hb1⟩
    replace SW := sf_six (sf_keep hb1 S SW)
    replace S := sc_six (sc_keep hb1 S)
    replace RW := sf_six (sf_keep hb1 R RW)
    replace R := sc_six (sc_keep hb1 R)
    replace P := pl_keep hb1 P
    replace B := b_trans B hb1
    clear hb1
    go_wp2
    obtain ⟨r0, r1, r2, r3, r4, r5⟩ := R
    refine bodyPost_ret (v := .tuple #[sv _, .int .i64 0]) (by simp [results, Tryd.results26, go_sem, r0, r1, r2, r3, r4, r5]; exact ⟨rfl, rfl, rfl, rfl, rfl, rfl⟩) rfl ⟨rfl, ?_⟩
    repeat (refine b_set ?_ (by simp))
    exact B
set_option maxHeartbeats 2000000 in
set_option maxRecDepth 10000 in
theorem put_bad (m : Nat → Int) (i j x : Int) (h : ¬ (Inb i ∧ Inb j)) (w : World) :
    Calls Tryd.prog 26 #[sv m, .int .i64 i, .int .i64 j, .int .i64 x] w (RetV (.tuple #[sv (fun _ => 0), .int .i64 2]) w) := by
  have B := b_alloc (o := Obj.cells #[.int .i64 0, .int .i64 0, .int .i64 0, .int .i64 0, .int .i64 0, .int .i64 0] 32) (b_alloc (o := Obj.cells #[.int .i64 (m 0), .int .i64 (m 1), .int .i64 (m 2), .int .i64 (m 3), .int .i64 (m 4), .int .i64 (m 5)] 32) (Below.refl w.heap.size w))
  have R := sc_new (w := w.alloc (Obj.cells #[.int .i64 (m 0), .int .i64 (m 1), .int .i64 (m 2), .int .i64 (m 3), .int .i64 (m 4), .int .i64 (m 5)] 32)) (m := fun _ => 0) (t := 32) rfl
  have RW := sf_new (w := w.alloc (Obj.cells #[.int .i64 (m 0), .int .i64 (m 1), .int .i64 (m 2), .int .i64 (m 3), .int .i64 (m 4), .int .i64 (m 5)] 32)) (c0 := .int .i64 0) (c1 := .int .i64 0) (c2 := .int .i64 0) (c3 := .int .i64 0) (c4 := .int .i64 0) (c5 := .int .i64 0) (t := 32) rfl
  rw [World.size_alloc] at R RW
  by_cases hi : Inb i
  · have hj : ¬ Inb j := fun c => h ⟨hi, c⟩
    clear h
    go_enter Tryd.func26, Tryd.ntmps26
    go_wp2_with fail
    refine (within_yes _ hi _).mono ?_
    rintro e w1 ⟨rfl, hb1⟩
    replace RW := sf_keep hb1 R RW
    replace R := sc_keep hb1 R
    replace B := b_trans B hb1
    clear hb1
    go_wp2_with fail
    refine (within_no _ hj _).mono ?_
    rintro e w1 ⟨rfl, hb1⟩
    replace RW := sf_six (sf_keep hb1 R RW)
    replace R := sc_six (sc_keep hb1 R)
    replace B := b_trans B hb1
    clear hb1 hi hj
    go_wp2
    obtain ⟨r0, r1, r2, r3, r4, r5⟩ := R
    refine bodyPost_ret (v := .tuple #[sv (fun _ => 0), .int .i64 2]) (by simp [results, Tryd.results26, go_sem, r0, r1, r2, r3, r4, r5]) rfl ⟨rfl, ?_⟩
    repeat (refine b_set ?_ (by simp))
    exact B
  · clear h
    go_enter Tryd.func26, Tryd.ntmps26
    go_wp2_with fail
    refine (within_no _ hi _).mono ?_
    rintro e w1 ⟨rfl, hb1⟩
    replace RW := sf_six (sf_keep hb1 R RW)
    replace R := sc_six (sc_keep hb1 R)
    replace B := b_trans B hb1
    clear hb1 hi
    go_wp2
    obtain ⟨r0, r1, r2, r3, r4, r5⟩ := R
    refine bodyPost_ret (v := .tuple #[sv (fun _ => 0), .int .i64 2]) (by simp [results, Tryd.results26, go_sem, r0, r1, r2, r3, r4, r5]) rfl ⟨rfl, ?_⟩
    repeat (refine b_set ?_ (by simp))
    exact B

/-- The row i stands at k0, k1, k2. -/
abbrev Row3 (i : Int) (k0 k1 k2 : Nat) : Prop := (i = 0 ∧ k0 = 0 ∧ k1 = 1 ∧ k2 = 2) ∨ (i = 1 ∧ k0 = 1 ∧ k1 = 3 ∧ k2 = 4) ∨ (i = 2 ∧ k0 = 2 ∧ k1 = 4 ∧ k2 = 5)
theorem ix_ints (x y z : Int) : (∀ w, (Instr.index 65 (tv x y z) (.int .i64 0)).run Tryd.prog w = .ok (.int .i64 x) w) ∧ (∀ w, (Instr.index 65 (tv x y z) (.int .i64 1)).run Tryd.prog w = .ok (.int .i64 y) w) ∧ (∀ w, (Instr.index 65 (tv x y z) (.int .i64 2)).run Tryd.prog w = .ok (.int .i64 z) w) :=
  ⟨fun _ => by kernel_rfl, fun _ => by kernel_rfl, fun _ => by kernel_rfl⟩
set_option maxHeartbeats 4000000 in
set_option maxRecDepth 10000 in
theorem row_ok (m : Nat → Int) (i : Int) (k0 k1 k2 : Nat) (h : Row3 i k0 k1 k2) (w : World) (hp : PL w) :
    Calls Tryd.prog 61 #[sv m, .int .i64 i] w (RetV (.tuple #[tv (m k0) (m k1) (m k2), .int .i64 0]) w) := by
  have B := b_alloc (o := Obj.cells #[.int .i64 0, .int .i64 0, .int .i64 0] 23) (b_alloc (o := Obj.cells #[.int .i64 (m 0), .int .i64 (m 1), .int .i64 (m 2), .int .i64 (m 3), .int .i64 (m 4), .int .i64 (m 5)] 32) (Below.refl w.heap.size w))
  have S := sc_alloc (o := Obj.cells #[.int .i64 0, .int .i64 0, .int .i64 0] 23) (sc_new (w := w) (m := m) (t := 32) rfl)
  have R := tc_new (w := w.alloc (Obj.cells #[.int .i64 (m 0), .int .i64 (m 1), .int .i64 (m 2), .int .i64 (m 3), .int .i64 (m 4), .int .i64 (m 5)] 32)) (x := 0) (y := 0) (z := 0) (t := 23) rfl
  have RW := tf_new (w := w.alloc (Obj.cells #[.int .i64 (m 0), .int .i64 (m 1), .int .i64 (m 2), .int .i64 (m 3), .int .i64 (m 4), .int .i64 (m 5)] 32)) (x := 0) (y := 0) (z := 0) (t := 23) rfl
  have P := pl_keep B hp
  have z : 0 < w.heap.size := pl_lt hp
  rw [World.size_alloc] at R RW
  clear hp
  rcases h with ⟨rfl, rfl, rfl, rfl⟩ | ⟨rfl, rfl, rfl, rfl⟩ | ⟨rfl, rfl, rfl, rfl⟩
  all_goals
    obtain ⟨x0, x1, x2⟩ := ix_ints 0 1 2
    obtain ⟨y0, y1, y2⟩ := ix_ints 1 3 4
    obtain ⟨u0, u1, u2⟩ := ix_ints 2 4 5
    go_enter Tryd.func61, Tryd.ntmps61
    go_wp2_with fail
    refine (within_yes _ (by decide) _).mono ?_
    rintro e w1 ⟨rfl, hb1⟩
    replace RW := tf_keep hb1 R RW
    replace R := tc_keep hb1 R
    replace S := sc_six (sc_keep hb1 S)
    replace P := pl_keep hb1 P
    replace B := b_trans B hb1
    clear hb1
    have z1 := pl_lt P
    have z2 := sc_lt (six_sc S)
    have z3 := tc_lt R
    go_wp2
    refine wp_loop_rounds 4 ?_
    repeat (rw [rounds_succ]; go_wp2)
    obtain ⟨q0, q1, q2⟩ := R
    refine bodyPost_ret (v := .tuple #[tv _ _ _, .int .i64 0]) (by simp [results, Tryd.results61, go_sem, q0, q1, q2, z3]) rfl ⟨rfl, ?_⟩
    repeat (first | refine b_alloc ?_ | refine b_set ?_ (by simp))
    exact B
set_option maxHeartbeats 1000000 in
set_option maxRecDepth 10000 in
theorem row_bad (m : Nat → Int) (i : Int) (h : ¬ Inb i) (w : World) :
    Calls Tryd.prog 61 #[sv m, .int .i64 i] w (RetV (.tuple #[tv 0 0 0, .int .i64 2]) w) := by
  have B := b_alloc (o := Obj.cells #[.int .i64 0, .int .i64 0, .int .i64 0] 23) (b_alloc (o := Obj.cells #[.int .i64 (m 0), .int .i64 (m 1), .int .i64 (m 2), .int .i64 (m 3), .int .i64 (m 4), .int .i64 (m 5)] 32) (Below.refl w.heap.size w))
  have R := tc_new (w := w.alloc (Obj.cells #[.int .i64 (m 0), .int .i64 (m 1), .int .i64 (m 2), .int .i64 (m 3), .int .i64 (m 4), .int .i64 (m 5)] 32)) (x := 0) (y := 0) (z := 0) (t := 23) rfl
  have RW := tf_new (w := w.alloc (Obj.cells #[.int .i64 (m 0), .int .i64 (m 1), .int .i64 (m 2), .int .i64 (m 3), .int .i64 (m 4), .int .i64 (m 5)] 32)) (x := 0) (y := 0) (z := 0) (t := 23) rfl
  rw [World.size_alloc] at R RW
  go_enter Tryd.func61, Tryd.ntmps61
  go_wp2_with fail
  refine (within_no _ h _).mono ?_
  rintro e w1 ⟨rfl, hb1⟩
  replace RW := tf_keep hb1 R RW
  replace R := tc_keep hb1 R
  replace B := b_trans B hb1
  clear hb1 h
  go_wp2
  obtain ⟨q0, q1, q2⟩ := R
  refine bodyPost_ret (v := .tuple #[tv 0 0 0, .int .i64 2]) (by simp [results, Tryd.results61, go_sem, q0, q1, q2]) rfl ⟨rfl, ?_⟩
  repeat (refine b_set ?_ (by simp))
  exact B

/-- The matrix of a diagonal. -/
def dgm (x y z : Int) : Nat → Int := fun i => if i = 0 then x else if i = 3 then y else if i = 5 then z else 0
theorem place_ok (i j : Int) (k : Nat) (h : At9 i j k) (w : World) :
    Calls Tryd.prog 28 #[.int .i64 i, .int .i64 j] w (RetV (.int .i64 k) w) := by
  rcases h with ⟨rfl, rfl, rfl⟩ | ⟨rfl, rfl, rfl⟩ | ⟨rfl, rfl, rfl⟩ | ⟨rfl, rfl, rfl⟩ | ⟨rfl, rfl, rfl⟩ | ⟨rfl, rfl, rfl⟩ | ⟨rfl, rfl, rfl⟩ | ⟨rfl, rfl, rfl⟩ | ⟨rfl, rfl, rfl⟩
  all_goals
    go_enter Tryd.func28, Tryd.ntmps28
    go_wp2
    refine wp_loop_rounds 4 ?_
    repeat (rw [rounds_succ]; go_wp2)
    go_ret
    exact ⟨rfl, Below.refl _ _⟩
theorem place_bad (i j : Int) (h : ¬ (Inb i ∧ Inb j)) (w : World) :
    Calls Tryd.prog 28 #[.int .i64 i, .int .i64 j] w (RetV (.int .i64 (-1)) w) := by
  by_cases a : i < 0
  · clear h
    go_enter Tryd.func28, Tryd.ntmps28
    go_wp2
    go_ret
    exact ⟨rfl, Below.refl _ _⟩
  by_cases b : j < 0
  · clear h
    go_enter Tryd.func28, Tryd.ntmps28
    go_wp2
    go_ret
    exact ⟨rfl, Below.refl _ _⟩
  by_cases c : 2 < i
  · clear h
    go_enter Tryd.func28, Tryd.ntmps28
    go_wp2
    go_ret
    exact ⟨rfl, Below.refl _ _⟩
  have d : 2 < j := by omega
  clear h
  go_enter Tryd.func28, Tryd.ntmps28
  go_wp2
  go_ret
  exact ⟨rfl, Below.refl _ _⟩
end Go.Proofs.YtplhienacfiiaaaDoor

/- Layer 18: the document's ground. -/
import Derived.Test.YthnaeoagooahbaaDoorGroC
import Derived.Test.YthnaeoagooahbaaDoorGroE
namespace Go.Proofs.YthnaeoagooahbaaDoor
open Go.RowKit Go.Shelf Go.Joins

/-- The document's ground, a level of its: as values. -/
abbrev gvd (m n r c : Int) : Value := .agg #[.int .i64 m, .int .i64 n, .int .i64 r, .int .i64 c]
abbrev lw (h n : Int) (t : Bool) (e : Int) : Value := .agg #[.int .i64 h, .int .i64 n, .bool t, .int .i64 e]
/-- Block b is such a ground. -/
abbrev QG (w : World) (b : Nat) (m n r c : Int) : Prop := w.heap[b]? = some (.cells #[.int .i64 m, .int .i64 n, .int .i64 r, .int .i64 c] 28 (0, 0))
abbrev QL (w : World) (b : Nat) : Prop := w.heap[b]? = some (.cells #[.int .i64 0, .int .i64 0, .bool false, .int .i64 0] 37 (0, 0))
theorem two (w : World) (o0 o1 : Obj) : ((w.alloc o0).alloc o1).heap[w.heap.size]? = some o0 ∧ ((w.alloc o0).alloc o1).heap[w.heap.size + 1]? = some o1 ∧ Below w.heap.size w ((w.alloc o0).alloc o1) := by
  have s (w : World) (o : Obj) : (w.alloc o).heap.size = w.heap.size + 1 := by simp
  have e0 := heap_alloc_last w o0
  have e1 := heap_alloc_last (w.alloc o0) o1
  simp only [s] at e1
  exact ⟨row_keep (b_alloc (Below.refl (w.alloc o0).heap.size _)) e0, e1, b_alloc (b_alloc (Below.refl _ _))⟩
theorem b_set4 {a w : World} {b : Nat} {x0 x1 x2 x3 : Value} (E : Below a.heap.size a w) (h : a.heap.size ≤ b) : Below a.heap.size a ((((w.setCell ⟨b, 0, none⟩ x0).setCell ⟨b, 1, none⟩ x1).setCell ⟨b, 2, none⟩ x2).setCell ⟨b, 3, none⟩ x3) :=
  b_set (p := ⟨b, 3, none⟩) (b_set (p := ⟨b, 2, none⟩) (b_set (p := ⟨b, 1, none⟩) (b_set (p := ⟨b, 0, none⟩) E h) h) h) h
set_option maxHeartbeats 4000000 in
set_option maxRecDepth 10000 in
theorem rnew_any (x y z : Int) (w : World) : Calls Tryd.prog 7 #[.int .i64 x, .int .i64 y, .int .i64 z] w (RetV (gvd (bd x) y z 0) w) := by
  have E := b_alloc (o := (Obj.cells #[.int .i64 0, .int .i64 0, .int .i64 0, .int .i64 0] 28)) (Below.refl w.heap.size w)
  by_cases c : x < 0
  · have eb : bd x = 0 := if_pos c
    rw [eb]
    clear eb E
    go_enter Tryd.func7, Tryd.ntmps7
    go_wp2
    exact bodyPost_ret (v := gvd 0 y z 0) (by simp [results, Tryd.results7, go_sem]) rfl ⟨rfl, b_alloc (Below.refl _ _)⟩
  · have eb : bd x = x := if_neg c
    rw [eb]
    clear eb E
    go_enter Tryd.func7, Tryd.ntmps7
    go_wp2
    exact bodyPost_ret (v := gvd x y z 0) (by simp [results, Tryd.results7, go_sem]) rfl ⟨rfl, b_alloc (Below.refl _ _)⟩
set_option maxHeartbeats 4000000 in
set_option maxRecDepth 10000 in
theorem rset_bad (m n r c p : Int) (g : gd p = false) (w : World) : Calls Tryd.prog 9 #[gvd m n r c, .int .i64 p] w (RetV (.tuple #[gvd m n r c, .int .i64 2]) w) := by
  have cg := rgood_any p
  rw [g] at cg
  clear g
  obtain ⟨P0, P1, E⟩ := two w (Obj.cells #[.int .i64 m, .int .i64 n, .int .i64 r, .int .i64 c] 28) (Obj.cells #[.int .i64 0, .int .i64 0, .int .i64 0, .int .i64 0] 28)
  have HP := Lib.hid (And.intro P0 (And.intro P1 E))
  clear P0 P1 E
  go_enter Tryd.func9, Tryd.ntmps9
  go_wp2_with fail
  obtain ⟨P0, P1, E⟩ := HP.out
  clear HP
  refine (cg _).mono ?_
  rintro e y1 ⟨rfl, hb⟩
  replace P0 := row_keep hb P0
  replace P1 := row_keep hb P1
  replace E := b_trans E hb
  clear hb cg
  have q0 : y1.cell? ⟨w.heap.size, 0, none⟩ = some (.int .i64 m) := (cell_of_row _ _ 0 _ _ _ P0).trans rfl
  have f0 := frozen_of_row y1 (w.heap.size) 0 _ _ P0
  have q1 : y1.cell? ⟨w.heap.size, 1, none⟩ = some (.int .i64 n) := (cell_of_row _ _ 1 _ _ _ P0).trans rfl
  have f1 := frozen_of_row y1 (w.heap.size) 1 _ _ P0
  have q2 : y1.cell? ⟨w.heap.size, 2, none⟩ = some (.int .i64 r) := (cell_of_row _ _ 2 _ _ _ P0).trans rfl
  have f2 := frozen_of_row y1 (w.heap.size) 2 _ _ P0
  have q3 : y1.cell? ⟨w.heap.size, 3, none⟩ = some (.int .i64 c) := (cell_of_row _ _ 3 _ _ _ P0).trans rfl
  have f3 := frozen_of_row y1 (w.heap.size) 3 _ _ P0
  have r0 : y1.cell? ⟨w.heap.size + 1, 0, none⟩ = some (Value.int .i64 0) := (cell_of_row _ _ 0 _ _ _ P1).trans rfl
  have d0 := frozen_of_row y1 (w.heap.size + 1) 0 _ _ P1
  have r1 : y1.cell? ⟨w.heap.size + 1, 1, none⟩ = some (Value.int .i64 0) := (cell_of_row _ _ 1 _ _ _ P1).trans rfl
  have d1 := frozen_of_row y1 (w.heap.size + 1) 1 _ _ P1
  have r2 : y1.cell? ⟨w.heap.size + 1, 2, none⟩ = some (Value.int .i64 0) := (cell_of_row _ _ 2 _ _ _ P1).trans rfl
  have d2 := frozen_of_row y1 (w.heap.size + 1) 2 _ _ P1
  have r3 : y1.cell? ⟨w.heap.size + 1, 3, none⟩ = some (Value.int .i64 0) := (cell_of_row _ _ 3 _ _ _ P1).trans rfl
  have d3 := frozen_of_row y1 (w.heap.size + 1) 3 _ _ P1
  have g1 : w.heap.size ≤ w.heap.size + 1 := Nat.le_succ _
  have E9 := Lib.hid (b_set4 (b := w.heap.size + 1) (x0 := .int .i64 m) (x1 := .int .i64 n) (x2 := .int .i64 r) (x3 := .int .i64 c) E g1)
  clear P0 P1 E g1
  go_wp2
  exact bodyPost_ret (v := .tuple #[gvd m n r c, .int .i64 2]) (by simp [results, Tryd.results9, go_sem, r0, r1, r2, r3]) rfl ⟨rfl, E9.out⟩
set_option maxHeartbeats 4000000 in
set_option maxRecDepth 10000 in
theorem rset_full (m n r c p : Int) (g : gd p = true) (k : 0 < c) (w : World) : Calls Tryd.prog 9 #[gvd m n r c, .int .i64 p] w (RetV (.tuple #[gvd m n r c, .int .i64 7]) w) := by
  have cg := rgood_any p
  rw [g] at cg
  clear g
  obtain ⟨P0, P1, E⟩ := two w (Obj.cells #[.int .i64 m, .int .i64 n, .int .i64 r, .int .i64 c] 28) (Obj.cells #[.int .i64 0, .int .i64 0, .int .i64 0, .int .i64 0] 28)
  have HP := Lib.hid (And.intro P0 (And.intro P1 E))
  clear P0 P1 E
  go_enter Tryd.func9, Tryd.ntmps9
  go_wp2_with fail
  obtain ⟨P0, P1, E⟩ := HP.out
  clear HP
  refine (cg _).mono ?_
  rintro e y1 ⟨rfl, hb⟩
  replace P0 := row_keep hb P0
  replace P1 := row_keep hb P1
  replace E := b_trans E hb
  clear hb cg
  have q0 : y1.cell? ⟨w.heap.size, 0, none⟩ = some (.int .i64 m) := (cell_of_row _ _ 0 _ _ _ P0).trans rfl
  have f0 := frozen_of_row y1 (w.heap.size) 0 _ _ P0
  have q1 : y1.cell? ⟨w.heap.size, 1, none⟩ = some (.int .i64 n) := (cell_of_row _ _ 1 _ _ _ P0).trans rfl
  have f1 := frozen_of_row y1 (w.heap.size) 1 _ _ P0
  have q2 : y1.cell? ⟨w.heap.size, 2, none⟩ = some (.int .i64 r) := (cell_of_row _ _ 2 _ _ _ P0).trans rfl
  have f2 := frozen_of_row y1 (w.heap.size) 2 _ _ P0
  have q3 : y1.cell? ⟨w.heap.size, 3, none⟩ = some (.int .i64 c) := (cell_of_row _ _ 3 _ _ _ P0).trans rfl
  have f3 := frozen_of_row y1 (w.heap.size) 3 _ _ P0
  have r0 : y1.cell? ⟨w.heap.size + 1, 0, none⟩ = some (Value.int .i64 0) := (cell_of_row _ _ 0 _ _ _ P1).trans rfl
  have d0 := frozen_of_row y1 (w.heap.size + 1) 0 _ _ P1
  have r1 : y1.cell? ⟨w.heap.size + 1, 1, none⟩ = some (Value.int .i64 0) := (cell_of_row _ _ 1 _ _ _ P1).trans rfl
  have d1 := frozen_of_row y1 (w.heap.size + 1) 1 _ _ P1
  have r2 : y1.cell? ⟨w.heap.size + 1, 2, none⟩ = some (Value.int .i64 0) := (cell_of_row _ _ 2 _ _ _ P1).trans rfl
  have d2 := frozen_of_row y1 (w.heap.size + 1) 2 _ _ P1
  have r3 : y1.cell? ⟨w.heap.size + 1, 3, none⟩ = some (Value.int .i64 0) := (cell_of_row _ _ 3 _ _ _ P1).trans rfl
  have d3 := frozen_of_row y1 (w.heap.size + 1) 3 _ _ P1
  have g1 : w.heap.size ≤ w.heap.size + 1 := Nat.le_succ _
  have E9 := Lib.hid (b_set4 (b := w.heap.size + 1) (x0 := .int .i64 m) (x1 := .int .i64 n) (x2 := .int .i64 r) (x3 := .int .i64 c) E g1)
  clear P0 P1 E g1
  go_wp2
  exact bodyPost_ret (v := .tuple #[gvd m n r c, .int .i64 7]) (by simp [results, Tryd.results9, go_sem, r0, r1, r2, r3]) rfl ⟨rfl, E9.out⟩
set_option maxHeartbeats 4000000 in
set_option maxRecDepth 10000 in
theorem rset_ok (m n r p : Int) (g : gd p = true) (w : World) : Calls Tryd.prog 9 #[gvd m n r 0, .int .i64 p] w (RetV (.tuple #[gvd m n r p, .int .i64 0]) w) := by
  have cg := rgood_any p
  rw [g] at cg
  clear g
  obtain ⟨P0, P1, E⟩ := two w (Obj.cells #[.int .i64 m, .int .i64 n, .int .i64 r, .int .i64 0] 28) (Obj.cells #[.int .i64 0, .int .i64 0, .int .i64 0, .int .i64 0] 28)
  have HP := Lib.hid (And.intro P0 (And.intro P1 E))
  clear P0 P1 E
  go_enter Tryd.func9, Tryd.ntmps9
  go_wp2_with fail
  obtain ⟨P0, P1, E⟩ := HP.out
  clear HP
  refine (cg _).mono ?_
  rintro e y1 ⟨rfl, hb⟩
  replace P0 := row_keep hb P0
  replace P1 := row_keep hb P1
  replace E := b_trans E hb
  clear hb cg
  have q0 : y1.cell? ⟨w.heap.size, 0, none⟩ = some (.int .i64 m) := (cell_of_row _ _ 0 _ _ _ P0).trans rfl
  have f0 := frozen_of_row y1 (w.heap.size) 0 _ _ P0
  have q1 : y1.cell? ⟨w.heap.size, 1, none⟩ = some (.int .i64 n) := (cell_of_row _ _ 1 _ _ _ P0).trans rfl
  have f1 := frozen_of_row y1 (w.heap.size) 1 _ _ P0
  have q2 : y1.cell? ⟨w.heap.size, 2, none⟩ = some (.int .i64 r) := (cell_of_row _ _ 2 _ _ _ P0).trans rfl
  have f2 := frozen_of_row y1 (w.heap.size) 2 _ _ P0
  have q3 : y1.cell? ⟨w.heap.size, 3, none⟩ = some (.int .i64 0) := (cell_of_row _ _ 3 _ _ _ P0).trans rfl
  have f3 := frozen_of_row y1 (w.heap.size) 3 _ _ P0
  have r0 : y1.cell? ⟨w.heap.size + 1, 0, none⟩ = some (Value.int .i64 0) := (cell_of_row _ _ 0 _ _ _ P1).trans rfl
  have d0 := frozen_of_row y1 (w.heap.size + 1) 0 _ _ P1
  have r1 : y1.cell? ⟨w.heap.size + 1, 1, none⟩ = some (Value.int .i64 0) := (cell_of_row _ _ 1 _ _ _ P1).trans rfl
  have d1 := frozen_of_row y1 (w.heap.size + 1) 1 _ _ P1
  have r2 : y1.cell? ⟨w.heap.size + 1, 2, none⟩ = some (Value.int .i64 0) := (cell_of_row _ _ 2 _ _ _ P1).trans rfl
  have d2 := frozen_of_row y1 (w.heap.size + 1) 2 _ _ P1
  have r3 : y1.cell? ⟨w.heap.size + 1, 3, none⟩ = some (Value.int .i64 0) := (cell_of_row _ _ 3 _ _ _ P1).trans rfl
  have d3 := frozen_of_row y1 (w.heap.size + 1) 3 _ _ P1
  have g1 : w.heap.size ≤ w.heap.size + 1 := Nat.le_succ _
  have E9 := Lib.hid (b_set4 (b := w.heap.size + 1) (x0 := .int .i64 m) (x1 := .int .i64 n) (x2 := .int .i64 r) (x3 := .int .i64 p) (b_set (p := ⟨w.heap.size, 3, none⟩) (v := .int .i64 p) E (Nat.le_refl _)) g1)
  clear P0 P1 E g1
  go_wp2
  exact bodyPost_ret (v := .tuple #[gvd m n r p, .int .i64 0]) (by simp [results, Tryd.results9, go_sem, r0, r1, r2, r3]) rfl ⟨rfl, E9.out⟩
theorem rset_any (m n r c p : Int) (hc : GK c) (w : World) : Calls Tryd.prog 9 #[gvd m n r c, .int .i64 p] w (RetV (.tuple #[gvd m n r (sc c p), .int .i64 (sne c p)]) w) := by
  cases g : gd p
  · rw [(s_bad g).1, (s_bad g).2]
    exact rset_bad m n r c p g w
  · by_cases k : c = 0
    · subst k
      rw [(s_ok g).1, (s_ok g).2]
      exact rset_ok m n r p g w
    · rw [(s_full g k).1, (s_full g k).2]
      exact rset_full m n r c p g (by have := gk_range hc; omega) w
set_option maxHeartbeats 4000000 in
set_option maxRecDepth 10000 in
theorem rnear_bad (m n r c p : Int) (g : gd p = false) (w : World) : Calls Tryd.prog 14 #[gvd m n r c, .int .i64 p] w (RetV (.bool false) w) := by
  have cg := rgood_any p
  rw [g] at cg
  clear g
  have E := b_alloc (o := (Obj.cells #[.int .i64 m, .int .i64 n, .int .i64 r, .int .i64 c] 28)) (Below.refl w.heap.size w)
  have P := heap_alloc_last w (Obj.cells #[.int .i64 m, .int .i64 n, .int .i64 r, .int .i64 c] 28)
  have HP := Lib.hid (And.intro P E)
  clear P E
  go_enter Tryd.func14, Tryd.ntmps14
  go_wp2_with fail
  obtain ⟨P, E⟩ := HP.out
  clear HP
  refine (cg _).mono ?_
  rintro e y1 ⟨rfl, hb⟩
  replace P := row_keep hb P
  replace E := Lib.hid (b_trans E hb)
  clear hb cg
  have q0 : y1.cell? ⟨w.heap.size, 0, none⟩ = some (.int .i64 m) := (cell_of_row _ _ 0 _ _ _ P).trans rfl
  have q1 : y1.cell? ⟨w.heap.size, 1, none⟩ = some (.int .i64 n) := (cell_of_row _ _ 1 _ _ _ P).trans rfl
  have q2 : y1.cell? ⟨w.heap.size, 2, none⟩ = some (.int .i64 r) := (cell_of_row _ _ 2 _ _ _ P).trans rfl
  have q3 : y1.cell? ⟨w.heap.size, 3, none⟩ = some (.int .i64 c) := (cell_of_row _ _ 3 _ _ _ P).trans rfl
  clear P
  go_wp2
  go_ret
  exact ⟨rfl, E.out⟩
set_option maxHeartbeats 4000000 in
set_option maxRecDepth 10000 in
theorem rnear_none (m n r c p : Int) (g : gd p = true) (k : (c == 0) = true) (w : World) : Calls Tryd.prog 14 #[gvd m n r c, .int .i64 p] w (RetV (.bool false) w) := by
  have cg := rgood_any p
  rw [g] at cg
  clear g
  have E := b_alloc (o := (Obj.cells #[.int .i64 m, .int .i64 n, .int .i64 r, .int .i64 c] 28)) (Below.refl w.heap.size w)
  have P := heap_alloc_last w (Obj.cells #[.int .i64 m, .int .i64 n, .int .i64 r, .int .i64 c] 28)
  have HP := Lib.hid (And.intro P E)
  clear P E
  go_enter Tryd.func14, Tryd.ntmps14
  go_wp2_with fail
  obtain ⟨P, E⟩ := HP.out
  clear HP
  refine (cg _).mono ?_
  rintro e y1 ⟨rfl, hb⟩
  replace P := row_keep hb P
  replace E := Lib.hid (b_trans E hb)
  clear hb cg
  have q0 : y1.cell? ⟨w.heap.size, 0, none⟩ = some (.int .i64 m) := (cell_of_row _ _ 0 _ _ _ P).trans rfl
  have q1 : y1.cell? ⟨w.heap.size, 1, none⟩ = some (.int .i64 n) := (cell_of_row _ _ 1 _ _ _ P).trans rfl
  have q2 : y1.cell? ⟨w.heap.size, 2, none⟩ = some (.int .i64 r) := (cell_of_row _ _ 2 _ _ _ P).trans rfl
  have q3 : y1.cell? ⟨w.heap.size, 3, none⟩ = some (.int .i64 c) := (cell_of_row _ _ 3 _ _ _ P).trans rfl
  clear P
  go_wp2
  go_ret
  exact ⟨rfl, E.out⟩
set_option maxHeartbeats 4000000 in
set_option maxRecDepth 10000 in
theorem rnear_over (m n r c p : Int) (g : gd p = true) (k : (c == 0) = false) (h : c ≤ p) (w : World) : Calls Tryd.prog 14 #[gvd m n r c, .int .i64 p] w (RetV (.bool true) w) := by
  have cg := rgood_any p
  rw [g] at cg
  clear g
  have E := b_alloc (o := (Obj.cells #[.int .i64 m, .int .i64 n, .int .i64 r, .int .i64 c] 28)) (Below.refl w.heap.size w)
  have P := heap_alloc_last w (Obj.cells #[.int .i64 m, .int .i64 n, .int .i64 r, .int .i64 c] 28)
  have HP := Lib.hid (And.intro P E)
  clear P E
  go_enter Tryd.func14, Tryd.ntmps14
  go_wp2_with fail
  obtain ⟨P, E⟩ := HP.out
  clear HP
  refine (cg _).mono ?_
  rintro e y1 ⟨rfl, hb⟩
  replace P := row_keep hb P
  replace E := Lib.hid (b_trans E hb)
  clear hb cg
  have q0 : y1.cell? ⟨w.heap.size, 0, none⟩ = some (.int .i64 m) := (cell_of_row _ _ 0 _ _ _ P).trans rfl
  have q1 : y1.cell? ⟨w.heap.size, 1, none⟩ = some (.int .i64 n) := (cell_of_row _ _ 1 _ _ _ P).trans rfl
  have q2 : y1.cell? ⟨w.heap.size, 2, none⟩ = some (.int .i64 r) := (cell_of_row _ _ 2 _ _ _ P).trans rfl
  have q3 : y1.cell? ⟨w.heap.size, 3, none⟩ = some (.int .i64 c) := (cell_of_row _ _ 3 _ _ _ P).trans rfl
  clear P
  go_wp2
  go_ret
  exact ⟨rfl, E.out⟩
set_option maxHeartbeats 4000000 in
set_option maxRecDepth 10000 in
theorem rnear_yes (m n r c p l : Int) (g : gd p = true) (k : (c == 0) = false) (h : ¬ c ≤ p) (hl : IntKind.i64.wrap (c - p) = l) (h2 : l ≤ m) (w : World) : Calls Tryd.prog 14 #[gvd m n r c, .int .i64 p] w (RetV (.bool true) w) := by
  have cg := rgood_any p
  rw [g] at cg
  clear g
  have E := b_alloc (o := (Obj.cells #[.int .i64 m, .int .i64 n, .int .i64 r, .int .i64 c] 28)) (Below.refl w.heap.size w)
  have P := heap_alloc_last w (Obj.cells #[.int .i64 m, .int .i64 n, .int .i64 r, .int .i64 c] 28)
  have HP := Lib.hid (And.intro P E)
  clear P E
  go_enter Tryd.func14, Tryd.ntmps14
  go_wp2_with fail
  obtain ⟨P, E⟩ := HP.out
  clear HP
  refine (cg _).mono ?_
  rintro e y1 ⟨rfl, hb⟩
  replace P := row_keep hb P
  replace E := Lib.hid (b_trans E hb)
  clear hb cg
  have q0 : y1.cell? ⟨w.heap.size, 0, none⟩ = some (.int .i64 m) := (cell_of_row _ _ 0 _ _ _ P).trans rfl
  have q1 : y1.cell? ⟨w.heap.size, 1, none⟩ = some (.int .i64 n) := (cell_of_row _ _ 1 _ _ _ P).trans rfl
  have q2 : y1.cell? ⟨w.heap.size, 2, none⟩ = some (.int .i64 r) := (cell_of_row _ _ 2 _ _ _ P).trans rfl
  have q3 : y1.cell? ⟨w.heap.size, 3, none⟩ = some (.int .i64 c) := (cell_of_row _ _ 3 _ _ _ P).trans rfl
  clear P
  go_wp2
  go_ret
  exact ⟨rfl, E.out⟩
set_option maxHeartbeats 4000000 in
set_option maxRecDepth 10000 in
theorem rnear_no (m n r c p l : Int) (g : gd p = true) (k : (c == 0) = false) (h : decide (c ≤ p) = false) (hl : IntKind.i64.wrap (c - p) = l) (h2 : decide (l ≤ m) = false) (w : World) : Calls Tryd.prog 14 #[gvd m n r c, .int .i64 p] w (RetV (.bool false) w) := by
  have cg := rgood_any p
  rw [g] at cg
  clear g
  have E := b_alloc (o := (Obj.cells #[.int .i64 m, .int .i64 n, .int .i64 r, .int .i64 c] 28)) (Below.refl w.heap.size w)
  have P := heap_alloc_last w (Obj.cells #[.int .i64 m, .int .i64 n, .int .i64 r, .int .i64 c] 28)
  have HP := Lib.hid (And.intro P E)
  clear P E
  go_enter Tryd.func14, Tryd.ntmps14
  go_wp2_with fail
  obtain ⟨P, E⟩ := HP.out
  clear HP
  refine (cg _).mono ?_
  rintro e y1 ⟨rfl, hb⟩
  replace P := row_keep hb P
  replace E := Lib.hid (b_trans E hb)
  clear hb cg
  have q0 : y1.cell? ⟨w.heap.size, 0, none⟩ = some (.int .i64 m) := (cell_of_row _ _ 0 _ _ _ P).trans rfl
  have q1 : y1.cell? ⟨w.heap.size, 1, none⟩ = some (.int .i64 n) := (cell_of_row _ _ 1 _ _ _ P).trans rfl
  have q2 : y1.cell? ⟨w.heap.size, 2, none⟩ = some (.int .i64 r) := (cell_of_row _ _ 2 _ _ _ P).trans rfl
  have q3 : y1.cell? ⟨w.heap.size, 3, none⟩ = some (.int .i64 c) := (cell_of_row _ _ 3 _ _ _ P).trans rfl
  clear P
  go_wp2
  go_ret
  exact ⟨rfl, E.out⟩
theorem rnear_any (m n r c p : Int) (hc : GK c) (m0 : 0 ≤ m) (w : World) : Calls Tryd.prog 14 #[gvd m n r c, .int .i64 p] w (RetV (.bool (nr c m p)) w) := by
  have hr := gk_range hc
  cases g : gd p
  · rw [nr_bad g]
    exact rnear_bad m n r c p g w
  · have gr := gd_range g
    by_cases k : c = 0
    · have e : nr c m p = false := by simp [nr, k]
      rw [e]
      exact rnear_none m n r c p g (by simpa using k) w
    · have k' : (c == 0) = false := by simpa using k
      by_cases h : c ≤ p
      · have e : nr c m p = true := by simp [nr, k, g]; omega
        rw [e]
        exact rnear_over m n r c p g k' h w
      · have wl : IntKind.i64.wrap (c - p) = c - p := by rw [IntKind.wrap_i64]; omega
        by_cases h2 : c - p ≤ m
        · have e : nr c m p = true := by simp [nr, k, g]; omega
          rw [e]
          exact rnear_yes m n r c p (c - p) g k' h wl h2 w
        · have e : nr c m p = false := by simp [nr, k, g]; omega
          rw [e]
          exact rnear_no m n r c p (c - p) g k' (decide_eq_false h) wl (decide_eq_false h2) w
set_option maxHeartbeats 4000000 in
set_option maxRecDepth 10000 in
theorem rlevel_bad (m n r c p : Int)
    (ca : ∀ w, Calls Tryd.prog 22 #[.int .i64 p] w (RetV (.tuple #[.int .i64 0, .int .i64 2]) w)) (w : World) : Calls Tryd.prog 11 #[gvd m n r c, .int .i64 p] w (RetV (lw 0 0 false 2) w) := by
  obtain ⟨P0, P1, E⟩ := two w (Obj.cells #[.int .i64 m, .int .i64 n, .int .i64 r, .int .i64 c] 28) (Obj.cells #[.int .i64 0, .int .i64 0, .bool false, .int .i64 0] 37)
  have HP := Lib.hid (And.intro P0 (And.intro P1 E))
  clear P0 P1 E
  go_enter Tryd.func11, Tryd.ntmps11
  go_wp2_with fail
  obtain ⟨P0, P1, E⟩ := HP.out
  clear HP
  refine (ca _).mono ?_
  rintro e y1 ⟨rfl, hb⟩
  replace P0 := row_keep hb P0
  replace P1 := row_keep hb P1
  replace E := b_trans E hb
  clear hb ca
  have q0 : y1.cell? ⟨w.heap.size, 0, none⟩ = some (.int .i64 m) := (cell_of_row _ _ 0 _ _ _ P0).trans rfl
  have q1 : y1.cell? ⟨w.heap.size, 1, none⟩ = some (.int .i64 n) := (cell_of_row _ _ 1 _ _ _ P0).trans rfl
  have q2 : y1.cell? ⟨w.heap.size, 2, none⟩ = some (.int .i64 r) := (cell_of_row _ _ 2 _ _ _ P0).trans rfl
  have q3 : y1.cell? ⟨w.heap.size, 3, none⟩ = some (.int .i64 c) := (cell_of_row _ _ 3 _ _ _ P0).trans rfl
  have r0 : y1.cell? ⟨w.heap.size + 1, 0, none⟩ = some (Value.int .i64 0) := (cell_of_row _ _ 0 _ _ _ P1).trans rfl
  have d0 := frozen_of_row y1 (w.heap.size + 1) 0 _ _ P1
  have r1 : y1.cell? ⟨w.heap.size + 1, 1, none⟩ = some (Value.int .i64 0) := (cell_of_row _ _ 1 _ _ _ P1).trans rfl
  have d1 := frozen_of_row y1 (w.heap.size + 1) 1 _ _ P1
  have r2 : y1.cell? ⟨w.heap.size + 1, 2, none⟩ = some (Value.bool false) := (cell_of_row _ _ 2 _ _ _ P1).trans rfl
  have d2 := frozen_of_row y1 (w.heap.size + 1) 2 _ _ P1
  have r3 : y1.cell? ⟨w.heap.size + 1, 3, none⟩ = some (Value.int .i64 0) := (cell_of_row _ _ 3 _ _ _ P1).trans rfl
  have d3 := frozen_of_row y1 (w.heap.size + 1) 3 _ _ P1
  have g1 : w.heap.size ≤ w.heap.size + 1 := Nat.le_succ _
  have E9 := Lib.hid (b_set4 (b := w.heap.size + 1) (x0 := .int .i64 0) (x1 := .int .i64 0) (x2 := .bool false) (x3 := .int .i64 2) E g1)
  clear P0 P1 E g1
  go_wp2
  exact bodyPost_ret (v := lw 0 0 false 2) (by simp [results, Tryd.results11, go_sem, r0, r1, r2, r3]) rfl ⟨rfl, E9.out⟩
set_option maxHeartbeats 4000000 in
set_option maxRecDepth 10000 in
theorem rlevel_far (m n r c p a : Int)
    (ca : ∀ w, Calls Tryd.prog 22 #[.int .i64 p] w (RetV (.tuple #[.int .i64 a, .int .i64 0]) w))
    (cn : ∀ w, Calls Tryd.prog 14 #[gvd m n r c, .int .i64 p] w (RetV (.bool false) w)) (w : World) : Calls Tryd.prog 11 #[gvd m n r c, .int .i64 p] w (RetV (lw a n false 0) w) := by
  obtain ⟨P0, P1, E⟩ := two w (Obj.cells #[.int .i64 m, .int .i64 n, .int .i64 r, .int .i64 c] 28) (Obj.cells #[.int .i64 0, .int .i64 0, .bool false, .int .i64 0] 37)
  have HP := Lib.hid (And.intro P0 (And.intro P1 E))
  clear P0 P1 E
  go_enter Tryd.func11, Tryd.ntmps11
  go_wp2_with fail
  obtain ⟨P0, P1, E⟩ := HP.out
  clear HP
  refine (ca _).mono ?_
  rintro e y1 ⟨rfl, hb⟩
  replace P0 := row_keep hb P0
  replace P1 := row_keep hb P1
  replace E := b_trans E hb
  clear hb ca
  have q0 : y1.cell? ⟨w.heap.size, 0, none⟩ = some (.int .i64 m) := (cell_of_row _ _ 0 _ _ _ P0).trans rfl
  have q1 : y1.cell? ⟨w.heap.size, 1, none⟩ = some (.int .i64 n) := (cell_of_row _ _ 1 _ _ _ P0).trans rfl
  have q2 : y1.cell? ⟨w.heap.size, 2, none⟩ = some (.int .i64 r) := (cell_of_row _ _ 2 _ _ _ P0).trans rfl
  have q3 : y1.cell? ⟨w.heap.size, 3, none⟩ = some (.int .i64 c) := (cell_of_row _ _ 3 _ _ _ P0).trans rfl
  go_wp2_with fail
  refine (cn _).mono ?_
  rintro e y2 ⟨rfl, hb⟩
  clear q0 q1 q2 q3
  replace P0 := row_keep hb P0
  replace P1 := row_keep hb P1
  replace E := b_trans E hb
  clear hb cn
  have q0 : y2.cell? ⟨w.heap.size, 0, none⟩ = some (.int .i64 m) := (cell_of_row _ _ 0 _ _ _ P0).trans rfl
  have q1 : y2.cell? ⟨w.heap.size, 1, none⟩ = some (.int .i64 n) := (cell_of_row _ _ 1 _ _ _ P0).trans rfl
  have q2 : y2.cell? ⟨w.heap.size, 2, none⟩ = some (.int .i64 r) := (cell_of_row _ _ 2 _ _ _ P0).trans rfl
  have q3 : y2.cell? ⟨w.heap.size, 3, none⟩ = some (.int .i64 c) := (cell_of_row _ _ 3 _ _ _ P0).trans rfl
  have r0 : y2.cell? ⟨w.heap.size + 1, 0, none⟩ = some (Value.int .i64 0) := (cell_of_row _ _ 0 _ _ _ P1).trans rfl
  have d0 := frozen_of_row y2 (w.heap.size + 1) 0 _ _ P1
  have r1 : y2.cell? ⟨w.heap.size + 1, 1, none⟩ = some (Value.int .i64 0) := (cell_of_row _ _ 1 _ _ _ P1).trans rfl
  have d1 := frozen_of_row y2 (w.heap.size + 1) 1 _ _ P1
  have r2 : y2.cell? ⟨w.heap.size + 1, 2, none⟩ = some (Value.bool false) := (cell_of_row _ _ 2 _ _ _ P1).trans rfl
  have d2 := frozen_of_row y2 (w.heap.size + 1) 2 _ _ P1
  have r3 : y2.cell? ⟨w.heap.size + 1, 3, none⟩ = some (Value.int .i64 0) := (cell_of_row _ _ 3 _ _ _ P1).trans rfl
  have d3 := frozen_of_row y2 (w.heap.size + 1) 3 _ _ P1
  have g1 : w.heap.size ≤ w.heap.size + 1 := Nat.le_succ _
  have E9 := Lib.hid (b_set4 (b := w.heap.size + 1) (x0 := .int .i64 a) (x1 := .int .i64 n) (x2 := .bool false) (x3 := .int .i64 0) E g1)
  clear P0 P1 E g1
  go_wp2
  exact bodyPost_ret (v := lw a n false 0) (by simp [results, Tryd.results11, go_sem, r0, r1, r2, r3]) rfl ⟨rfl, E9.out⟩
set_option maxHeartbeats 4000000 in
set_option maxRecDepth 10000 in
theorem rlevel_same (m n r c p a l : Int) (h : ¬ a < l)
    (ca : ∀ w, Calls Tryd.prog 22 #[.int .i64 p] w (RetV (.tuple #[.int .i64 a, .int .i64 0]) w))
    (cn : ∀ w, Calls Tryd.prog 14 #[gvd m n r c, .int .i64 p] w (RetV (.bool true) w))
    (cb : ∀ w, Calls Tryd.prog 22 #[.int .i64 c] w (RetV (.tuple #[.int .i64 l, .int .i64 0]) w)) (w : World) : Calls Tryd.prog 11 #[gvd m n r c, .int .i64 p] w (RetV (lw a r true 0) w) := by
  obtain ⟨P0, P1, E⟩ := two w (Obj.cells #[.int .i64 m, .int .i64 n, .int .i64 r, .int .i64 c] 28) (Obj.cells #[.int .i64 0, .int .i64 0, .bool false, .int .i64 0] 37)
  have HP := Lib.hid (And.intro P0 (And.intro P1 E))
  clear P0 P1 E
  go_enter Tryd.func11, Tryd.ntmps11
  go_wp2_with fail
  obtain ⟨P0, P1, E⟩ := HP.out
  clear HP
  refine (ca _).mono ?_
  rintro e y1 ⟨rfl, hb⟩
  replace P0 := row_keep hb P0
  replace P1 := row_keep hb P1
  replace E := b_trans E hb
  clear hb ca
  have q0 : y1.cell? ⟨w.heap.size, 0, none⟩ = some (.int .i64 m) := (cell_of_row _ _ 0 _ _ _ P0).trans rfl
  have q1 : y1.cell? ⟨w.heap.size, 1, none⟩ = some (.int .i64 n) := (cell_of_row _ _ 1 _ _ _ P0).trans rfl
  have q2 : y1.cell? ⟨w.heap.size, 2, none⟩ = some (.int .i64 r) := (cell_of_row _ _ 2 _ _ _ P0).trans rfl
  have q3 : y1.cell? ⟨w.heap.size, 3, none⟩ = some (.int .i64 c) := (cell_of_row _ _ 3 _ _ _ P0).trans rfl
  go_wp2_with fail
  refine (cn _).mono ?_
  rintro e y2 ⟨rfl, hb⟩
  clear q0 q1 q2 q3
  replace P0 := row_keep hb P0
  replace P1 := row_keep hb P1
  replace E := b_trans E hb
  clear hb cn
  have q3 : y2.cell? ⟨w.heap.size, 3, none⟩ = some (.int .i64 c) := (cell_of_row _ _ 3 _ _ _ P0).trans rfl
  go_wp2_with fail
  refine (cb _).mono ?_
  rintro e y3 ⟨rfl, hb⟩
  clear q3
  replace P0 := row_keep hb P0
  replace P1 := row_keep hb P1
  replace E := b_trans E hb
  clear hb cb
  have q0 : y3.cell? ⟨w.heap.size, 0, none⟩ = some (.int .i64 m) := (cell_of_row _ _ 0 _ _ _ P0).trans rfl
  have q1 : y3.cell? ⟨w.heap.size, 1, none⟩ = some (.int .i64 n) := (cell_of_row _ _ 1 _ _ _ P0).trans rfl
  have q2 : y3.cell? ⟨w.heap.size, 2, none⟩ = some (.int .i64 r) := (cell_of_row _ _ 2 _ _ _ P0).trans rfl
  have q3 : y3.cell? ⟨w.heap.size, 3, none⟩ = some (.int .i64 c) := (cell_of_row _ _ 3 _ _ _ P0).trans rfl
  have r0 : y3.cell? ⟨w.heap.size + 1, 0, none⟩ = some (Value.int .i64 0) := (cell_of_row _ _ 0 _ _ _ P1).trans rfl
  have d0 := frozen_of_row y3 (w.heap.size + 1) 0 _ _ P1
  have r1 : y3.cell? ⟨w.heap.size + 1, 1, none⟩ = some (Value.int .i64 0) := (cell_of_row _ _ 1 _ _ _ P1).trans rfl
  have d1 := frozen_of_row y3 (w.heap.size + 1) 1 _ _ P1
  have r2 : y3.cell? ⟨w.heap.size + 1, 2, none⟩ = some (Value.bool false) := (cell_of_row _ _ 2 _ _ _ P1).trans rfl
  have d2 := frozen_of_row y3 (w.heap.size + 1) 2 _ _ P1
  have r3 : y3.cell? ⟨w.heap.size + 1, 3, none⟩ = some (Value.int .i64 0) := (cell_of_row _ _ 3 _ _ _ P1).trans rfl
  have d3 := frozen_of_row y3 (w.heap.size + 1) 3 _ _ P1
  have g1 : w.heap.size ≤ w.heap.size + 1 := Nat.le_succ _
  have E9 := Lib.hid (b_set4 (b := w.heap.size + 1) (x0 := .int .i64 a) (x1 := .int .i64 r) (x2 := .bool true) (x3 := .int .i64 0) E g1)
  clear P0 P1 E g1
  go_wp2
  exact bodyPost_ret (v := lw a r true 0) (by simp [results, Tryd.results11, go_sem, r0, r1, r2, r3]) rfl ⟨rfl, E9.out⟩
set_option maxHeartbeats 4000000 in
set_option maxRecDepth 10000 in
theorem rlevel_up (m n r c p a l : Int) (h : a < l)
    (ca : ∀ w, Calls Tryd.prog 22 #[.int .i64 p] w (RetV (.tuple #[.int .i64 a, .int .i64 0]) w))
    (cn : ∀ w, Calls Tryd.prog 14 #[gvd m n r c, .int .i64 p] w (RetV (.bool true) w))
    (cb : ∀ w, Calls Tryd.prog 22 #[.int .i64 c] w (RetV (.tuple #[.int .i64 l, .int .i64 0]) w)) (w : World) : Calls Tryd.prog 11 #[gvd m n r c, .int .i64 p] w (RetV (lw l r true 0) w) := by
  obtain ⟨P0, P1, E⟩ := two w (Obj.cells #[.int .i64 m, .int .i64 n, .int .i64 r, .int .i64 c] 28) (Obj.cells #[.int .i64 0, .int .i64 0, .bool false, .int .i64 0] 37)
  have HP := Lib.hid (And.intro P0 (And.intro P1 E))
  clear P0 P1 E
  go_enter Tryd.func11, Tryd.ntmps11
  go_wp2_with fail
  obtain ⟨P0, P1, E⟩ := HP.out
  clear HP
  refine (ca _).mono ?_
  rintro e y1 ⟨rfl, hb⟩
  replace P0 := row_keep hb P0
  replace P1 := row_keep hb P1
  replace E := b_trans E hb
  clear hb ca
  have q0 : y1.cell? ⟨w.heap.size, 0, none⟩ = some (.int .i64 m) := (cell_of_row _ _ 0 _ _ _ P0).trans rfl
  have q1 : y1.cell? ⟨w.heap.size, 1, none⟩ = some (.int .i64 n) := (cell_of_row _ _ 1 _ _ _ P0).trans rfl
  have q2 : y1.cell? ⟨w.heap.size, 2, none⟩ = some (.int .i64 r) := (cell_of_row _ _ 2 _ _ _ P0).trans rfl
  have q3 : y1.cell? ⟨w.heap.size, 3, none⟩ = some (.int .i64 c) := (cell_of_row _ _ 3 _ _ _ P0).trans rfl
  go_wp2_with fail
  refine (cn _).mono ?_
  rintro e y2 ⟨rfl, hb⟩
  clear q0 q1 q2 q3
  replace P0 := row_keep hb P0
  replace P1 := row_keep hb P1
  replace E := b_trans E hb
  clear hb cn
  have q3 : y2.cell? ⟨w.heap.size, 3, none⟩ = some (.int .i64 c) := (cell_of_row _ _ 3 _ _ _ P0).trans rfl
  go_wp2_with fail
  refine (cb _).mono ?_
  rintro e y3 ⟨rfl, hb⟩
  clear q3
  replace P0 := row_keep hb P0
  replace P1 := row_keep hb P1
  replace E := b_trans E hb
  clear hb cb
  have q0 : y3.cell? ⟨w.heap.size, 0, none⟩ = some (.int .i64 m) := (cell_of_row _ _ 0 _ _ _ P0).trans rfl
  have q1 : y3.cell? ⟨w.heap.size, 1, none⟩ = some (.int .i64 n) := (cell_of_row _ _ 1 _ _ _ P0).trans rfl
  have q2 : y3.cell? ⟨w.heap.size, 2, none⟩ = some (.int .i64 r) := (cell_of_row _ _ 2 _ _ _ P0).trans rfl
  have q3 : y3.cell? ⟨w.heap.size, 3, none⟩ = some (.int .i64 c) := (cell_of_row _ _ 3 _ _ _ P0).trans rfl
  have r0 : y3.cell? ⟨w.heap.size + 1, 0, none⟩ = some (Value.int .i64 0) := (cell_of_row _ _ 0 _ _ _ P1).trans rfl
  have d0 := frozen_of_row y3 (w.heap.size + 1) 0 _ _ P1
  have r1 : y3.cell? ⟨w.heap.size + 1, 1, none⟩ = some (Value.int .i64 0) := (cell_of_row _ _ 1 _ _ _ P1).trans rfl
  have d1 := frozen_of_row y3 (w.heap.size + 1) 1 _ _ P1
  have r2 : y3.cell? ⟨w.heap.size + 1, 2, none⟩ = some (Value.bool false) := (cell_of_row _ _ 2 _ _ _ P1).trans rfl
  have d2 := frozen_of_row y3 (w.heap.size + 1) 2 _ _ P1
  have r3 : y3.cell? ⟨w.heap.size + 1, 3, none⟩ = some (Value.int .i64 0) := (cell_of_row _ _ 3 _ _ _ P1).trans rfl
  have d3 := frozen_of_row y3 (w.heap.size + 1) 3 _ _ P1
  have g1 : w.heap.size ≤ w.heap.size + 1 := Nat.le_succ _
  have E9 := Lib.hid (b_set4 (b := w.heap.size + 1) (x0 := .int .i64 l) (x1 := .int .i64 r) (x2 := .bool true) (x3 := .int .i64 0) E g1)
  clear P0 P1 E g1
  go_wp2
  exact bodyPost_ret (v := lw l r true 0) (by simp [results, Tryd.results11, go_sem, r0, r1, r2, r3]) rfl ⟨rfl, E9.out⟩
theorem rlevel_any (m n r c p : Int) (hc : GK c) (m0 : 0 ≤ m) (w : World) : Calls Tryd.prog 11 #[gvd m n r c, .int .i64 p] w (RetV (lw (lz c m p) (ln c m n r p) (nr c m p) (ae p)) w) := by
  cases g : gd p
  · rw [(l_bad (c := c) (m := m) (n := n) (r := r) g).1, (l_bad (c := c) (m := m) (n := n) (r := r) g).2, nr_bad g, ae_bad g]
    exact rlevel_bad m n r c p (raltitude_bad p g) w
  · rw [ae_ok g]
    have ca := raltitude_ok p g
    have cn := rnear_any m n r c p hc m0
    cases k : nr c m p
    · rw [k] at cn
      rw [(l_far (n := n) (r := r) g k).1, (l_far (n := n) (r := r) g k).2]
      exact rlevel_far m n r c p (al p) ca cn w
    · rw [k] at cn
      rw [(l_near (n := n) (r := r) g k).1, (l_near (n := n) (r := r) g k).2]
      have cb := raltitude_ok c (gk_good hc (nr_known k))
      by_cases h : al p < al c
      · rw [show mz (al p) (al c) = al c from if_pos h]
        exact rlevel_up m n r c p (al p) (al c) h ca cn cb w
      · rw [show mz (al p) (al c) = al p from if_neg h]
        exact rlevel_same m n r c p (al p) (al c) h ca cn cb w
end Go.Proofs.YthnaeoagooahbaaDoor

/- Layer 18: the chapter's example; GroundBelow. -/
import Derived.Test.YthnaeoagooahbaaDoorGroE
namespace Go.Proofs.YthnaeoagooahbaaDoor
open Go.RowKit Go.Shelf Go.Joins

instance (c : Int) : Decidable (GK c) := inferInstanceAs (Decidable (_ ∨ _))
theorem near_fixed (b : Nat) (c p : Int) (k : Bool) (hc : GK c) (e : nr c 240 p = k) (w : World) (h : GR w b c 240 1 2) : Calls Tryd.prog 13 #[.pointer (some ⟨b, 0, none⟩), .int .i64 p] w (RetV (.bool k) w) := by
  have := near_any b c 240 1 2 p hc (by decide) (by decide) w h
  rwa [e] at this
set_option maxHeartbeats 4000000 in
set_option maxRecDepth 10000 in
theorem fixed_gro (w : World) : Calls Tryd.prog 5 #[] w (RetV (.bool true) w) := by
  go_enter Tryd.func5, Tryd.ntmps5
  go_wp2_with fail
  refine (newground_any 240 1 2 _).mono ?_
  rintro e y0 ⟨b, rfl, gb, h, E⟩
  rw [show bd 240 = 240 from rfl] at h
  go_wp2_with fail
  refine (near_fixed b 0 400000 false (by decide) (by decide) _ h).mono ?_
  rintro e y1 ⟨rfl, hb⟩
  replace h := row_keep hb h
  replace E := b_trans E hb
  clear hb
  go_wp2_with fail
  refine (set_any b 0 240 1 2 400000 _ h).mono ?_
  rintro e y2 ⟨rfl, h, hb⟩
  rw [show sc 0 400000 = 400000 by decide] at h
  rw [show sne 0 400000 = 0 by decide]
  replace E := below_but E gb hb
  clear hb
  go_wp2_with fail
  refine (near_fixed b 400000 399760 true (by decide) (by decide) _ h).mono ?_
  rintro e y3 ⟨rfl, hb⟩
  replace h := row_keep hb h
  replace E := b_trans E hb
  clear hb
  go_wp2_with fail
  refine (near_fixed b 400000 399759 false (by decide) (by decide) _ h).mono ?_
  rintro e y4 ⟨rfl, hb⟩
  replace h := row_keep hb h
  replace E := b_trans E hb
  clear hb
  go_wp2
  go_ret
  exact ⟨rfl, E⟩
set_option maxHeartbeats 4000000 in
set_option maxRecDepth 10000 in
theorem below_bad (x y z p q : Int) (x1 : x ≤ 9223372036854775807) (g : gd p = false) (w : World) (hT : TB w) : Calls Tryd.prog 4 #[.agg #[.int .i64 x, .int .i64 y, .int .i64 z], .int .i64 p, .int .i64 q] w (RetV (.bool true) w) := by
  have m := bd_range x1
  have P := heap_alloc_last w (Obj.cells #[.int .i64 x, .int .i64 y, .int .i64 z] 22)
  have E := b_alloc (o := (Obj.cells #[.int .i64 x, .int .i64 y, .int .i64 z] 22)) (Below.refl w.heap.size w)
  replace hT := tb_keep E hT
  have HP := Lib.hid (And.intro P (And.intro E hT))
  clear P E hT
  go_enter Tryd.func4, Tryd.ntmps4
  go_wp2_with fail
  obtain ⟨P, E, hT⟩ := HP.out
  clear HP
  generalize w.alloc (Obj.cells #[.int .i64 x, .int .i64 y, .int .i64 z] 22) = y9 at *
  have Q := P
  have hw := tb_lt hT
  refine (newground_any x y z _).mono ?_
  rintro e y0 ⟨b, rfl, gb, h, hb⟩
  replace P := row_keep hb P
  replace hT := tb_keep hb hT
  have gs := Nat.le_trans (E.size) gb
  have gn : w.heap.size ≠ b := by have := (Array.getElem?_eq_some_iff.1 Q).1; omega
  replace E := b_trans E hb
  clear hb gb Q
  go_wp2_with fail
  refine (set_any b 0 (bd x) y z p _ h).mono ?_
  rintro e y1 ⟨rfl, h, hb⟩
  replace P := but_row hb gn P
  replace hT := tb_but hb (by omega) hT
  replace E := below_but E gs hb
  clear hb
  rw [(s_bad (c := 0) g).1] at h
  rw [(s_bad (c := 0) g).2]
  have cg := good_any p
  rw [g] at cg
  clear g
  go_wp2_with fail
  refine (Known_any b 0 (bd x) y z _ h).mono ?_
  rintro e y2 ⟨rfl, hb⟩
  replace P := row_keep hb P
  replace h := row_keep hb h
  replace hT := tb_keep hb hT
  replace E := b_trans E hb
  clear hb
  rw [show decide ((0 : Int) ≠ 0) = false from rfl]
  go_wp2_with fail
  refine (fixed_gro _).mono ?_
  rintro e y3 ⟨rfl, hb⟩
  replace P := row_keep hb P
  replace h := row_keep hb h
  replace hT := tb_keep hb hT
  replace E := b_trans E hb
  clear hb
  go_wp2_with fail
  refine (cg _).mono ?_
  rintro e y4 ⟨rfl, hb⟩
  replace P := row_keep hb P
  replace h := row_keep hb h
  replace hT := tb_keep hb hT
  replace E := b_trans E hb
  clear hb cg
  have cn := near_any b 0 (bd x) y z q (Or.inl rfl) m.1 m.2
  rw [show nr 0 (bd x) q = false by simp [nr]] at cn
  go_wp2_with fail
  refine (cn _ h).mono ?_
  rintro e y5 ⟨rfl, hb⟩
  replace P := row_keep hb P
  replace h := row_keep hb h
  replace hT := tb_keep hb hT
  replace E := b_trans E hb
  clear hb cn
  go_wp2
  go_ret
  exact ⟨rfl, E⟩
set_option maxHeartbeats 4000000 in
set_option maxRecDepth 10000 in
theorem below_none (x y z p q : Int) (x1 : x ≤ 9223372036854775807) (g : gd p = true) 
    (co : ∀ w, TB w → Calls Tryd.prog 16 #[.int .i64 q] w (RetV (.tuple #[.int .i64 0, .int .i64 2]) w))
    (cl : ∀ b w, TB w → GR w b p (bd x) y z → Calls Tryd.prog 10 #[.pointer (some ⟨b, 0, none⟩), .int .i64 q] w (RetV (.tuple #[.int .i64 0, .int .i64 0, .bool false, .int .i64 2]) w)) (w : World) (hT : TB w) : Calls Tryd.prog 4 #[.agg #[.int .i64 x, .int .i64 y, .int .i64 z], .int .i64 p, .int .i64 q] w (RetV (.bool true) w) := by
  have m := bd_range x1
  have P := heap_alloc_last w (Obj.cells #[.int .i64 x, .int .i64 y, .int .i64 z] 22)
  have E := b_alloc (o := (Obj.cells #[.int .i64 x, .int .i64 y, .int .i64 z] 22)) (Below.refl w.heap.size w)
  replace hT := tb_keep E hT
  have HP := Lib.hid (And.intro P (And.intro E hT))
  clear P E hT
  go_enter Tryd.func4, Tryd.ntmps4
  go_wp2_with fail
  obtain ⟨P, E, hT⟩ := HP.out
  clear HP
  generalize w.alloc (Obj.cells #[.int .i64 x, .int .i64 y, .int .i64 z] 22) = y9 at *
  have Q := P
  have hw := tb_lt hT
  refine (newground_any x y z _).mono ?_
  rintro e y0 ⟨b, rfl, gb, h, hb⟩
  replace P := row_keep hb P
  replace hT := tb_keep hb hT
  have gs := Nat.le_trans (E.size) gb
  have gn : w.heap.size ≠ b := by have := (Array.getElem?_eq_some_iff.1 Q).1; omega
  replace E := b_trans E hb
  clear hb gb Q
  go_wp2_with fail
  refine (set_any b 0 (bd x) y z p _ h).mono ?_
  rintro e y1 ⟨rfl, h, hb⟩
  replace P := but_row hb gn P
  replace hT := tb_but hb (by omega) hT
  replace E := below_but E gs hb
  clear hb
  rw [(s_ok g).1] at h
  rw [(s_ok g).2]
  clear gs gn hw
  go_wp2_with fail
  refine (altitude_ok p g _ hT).mono ?_
  rintro e y2 ⟨rfl, hb⟩
  replace P := row_keep hb P
  replace h := row_keep hb h
  replace hT := tb_keep hb hT
  replace E := b_trans E hb
  clear hb
  go_wp2_with fail
  refine (co _ hT).mono ?_
  rintro e y3 ⟨rfl, hb⟩
  replace P := row_keep hb P
  replace h := row_keep hb h
  replace hT := tb_keep hb hT
  replace E := b_trans E hb
  clear hb co
  go_wp2_with fail
  refine (cl b _ hT h).mono ?_
  rintro e y4 ⟨rfl, hb⟩
  replace P := row_keep hb P
  replace h := row_keep hb h
  replace hT := tb_keep hb hT
  replace E := b_trans E hb
  clear hb cl
  go_wp2_with fail
  refine (fixed_gro _).mono ?_
  rintro e y5 ⟨rfl, hb⟩
  replace P := row_keep hb P
  replace h := row_keep hb h
  replace hT := tb_keep hb hT
  replace E := b_trans E hb
  clear hb
  clear P h hT m g
  go_wp2
  go_ret
  exact ⟨rfl, E⟩
set_option maxHeartbeats 4000000 in
set_option maxRecDepth 10000 in
theorem below_far (x y z p q a : Int) (x1 : x ≤ 9223372036854775807) (g : gd p = true) 
    (co : ∀ w, TB w → Calls Tryd.prog 16 #[.int .i64 q] w (RetV (.tuple #[.int .i64 a, .int .i64 0]) w))
    (cl : ∀ b w, TB w → GR w b p (bd x) y z → Calls Tryd.prog 10 #[.pointer (some ⟨b, 0, none⟩), .int .i64 q] w (RetV (.tuple #[.int .i64 a, .int .i64 y, .bool false, .int .i64 0]) w)) (h1 : al p < a) (h2 : q < p) (w : World) (hT : TB w) : Calls Tryd.prog 4 #[.agg #[.int .i64 x, .int .i64 y, .int .i64 z], .int .i64 p, .int .i64 q] w (RetV (.bool true) w) := by
  have m := bd_range x1
  have P := heap_alloc_last w (Obj.cells #[.int .i64 x, .int .i64 y, .int .i64 z] 22)
  have E := b_alloc (o := (Obj.cells #[.int .i64 x, .int .i64 y, .int .i64 z] 22)) (Below.refl w.heap.size w)
  replace hT := tb_keep E hT
  have HP := Lib.hid (And.intro P (And.intro E hT))
  clear P E hT
  go_enter Tryd.func4, Tryd.ntmps4
  go_wp2_with fail
  obtain ⟨P, E, hT⟩ := HP.out
  clear HP
  generalize w.alloc (Obj.cells #[.int .i64 x, .int .i64 y, .int .i64 z] 22) = y9 at *
  have Q := P
  have hw := tb_lt hT
  refine (newground_any x y z _).mono ?_
  rintro e y0 ⟨b, rfl, gb, h, hb⟩
  replace P := row_keep hb P
  replace hT := tb_keep hb hT
  have gs := Nat.le_trans (E.size) gb
  have gn : w.heap.size ≠ b := by have := (Array.getElem?_eq_some_iff.1 Q).1; omega
  replace E := b_trans E hb
  clear hb gb Q
  go_wp2_with fail
  refine (set_any b 0 (bd x) y z p _ h).mono ?_
  rintro e y1 ⟨rfl, h, hb⟩
  replace P := but_row hb gn P
  replace hT := tb_but hb (by omega) hT
  replace E := below_but E gs hb
  clear hb
  rw [(s_ok g).1] at h
  rw [(s_ok g).2]
  clear gs gn hw
  go_wp2_with fail
  refine (altitude_ok p g _ hT).mono ?_
  rintro e y2 ⟨rfl, hb⟩
  replace P := row_keep hb P
  replace h := row_keep hb h
  replace hT := tb_keep hb hT
  replace E := b_trans E hb
  clear hb
  go_wp2_with fail
  refine (co _ hT).mono ?_
  rintro e y3 ⟨rfl, hb⟩
  replace P := row_keep hb P
  replace h := row_keep hb h
  replace hT := tb_keep hb hT
  replace E := b_trans E hb
  clear hb co
  go_wp2_with fail
  refine (cl b _ hT h).mono ?_
  rintro e y4 ⟨rfl, hb⟩
  replace P := row_keep hb P
  replace h := row_keep hb h
  replace hT := tb_keep hb hT
  replace E := b_trans E hb
  clear hb cl
  go_wp2_with fail
  refine (fixed_gro _).mono ?_
  rintro e y5 ⟨rfl, hb⟩
  replace P := row_keep hb P
  replace h := row_keep hb h
  replace hT := tb_keep hb hT
  replace E := b_trans E hb
  clear hb
  have q1 : y5.cell? ⟨w.heap.size, 1, none⟩ = some (.int .i64 y) := (cell_of_row _ _ 1 _ _ _ P).trans rfl
  clear P h hT m g
  go_wp2
  go_ret
  exact ⟨rfl, E⟩
set_option maxHeartbeats 4000000 in
set_option maxRecDepth 10000 in
theorem below_same (x y z p q a : Int) (x1 : x ≤ 9223372036854775807) (g : gd p = true) 
    (co : ∀ w, TB w → Calls Tryd.prog 16 #[.int .i64 q] w (RetV (.tuple #[.int .i64 a, .int .i64 0]) w))
    (cl : ∀ b w, TB w → GR w b p (bd x) y z → Calls Tryd.prog 10 #[.pointer (some ⟨b, 0, none⟩), .int .i64 q] w (RetV (.tuple #[.int .i64 a, .int .i64 z, .bool true, .int .i64 0]) w)) (h1 : al p ≤ a) (h2 : p < q) (w : World) (hT : TB w) : Calls Tryd.prog 4 #[.agg #[.int .i64 x, .int .i64 y, .int .i64 z], .int .i64 p, .int .i64 q] w (RetV (.bool true) w) := by
  have m := bd_range x1
  have P := heap_alloc_last w (Obj.cells #[.int .i64 x, .int .i64 y, .int .i64 z] 22)
  have E := b_alloc (o := (Obj.cells #[.int .i64 x, .int .i64 y, .int .i64 z] 22)) (Below.refl w.heap.size w)
  replace hT := tb_keep E hT
  have HP := Lib.hid (And.intro P (And.intro E hT))
  clear P E hT
  go_enter Tryd.func4, Tryd.ntmps4
  go_wp2_with fail
  obtain ⟨P, E, hT⟩ := HP.out
  clear HP
  generalize w.alloc (Obj.cells #[.int .i64 x, .int .i64 y, .int .i64 z] 22) = y9 at *
  have Q := P
  have hw := tb_lt hT
  refine (newground_any x y z _).mono ?_
  rintro e y0 ⟨b, rfl, gb, h, hb⟩
  replace P := row_keep hb P
  replace hT := tb_keep hb hT
  have gs := Nat.le_trans (E.size) gb
  have gn : w.heap.size ≠ b := by have := (Array.getElem?_eq_some_iff.1 Q).1; omega
  replace E := b_trans E hb
  clear hb gb Q
  go_wp2_with fail
  refine (set_any b 0 (bd x) y z p _ h).mono ?_
  rintro e y1 ⟨rfl, h, hb⟩
  replace P := but_row hb gn P
  replace hT := tb_but hb (by omega) hT
  replace E := below_but E gs hb
  clear hb
  rw [(s_ok g).1] at h
  rw [(s_ok g).2]
  clear gs gn hw
  go_wp2_with fail
  refine (altitude_ok p g _ hT).mono ?_
  rintro e y2 ⟨rfl, hb⟩
  replace P := row_keep hb P
  replace h := row_keep hb h
  replace hT := tb_keep hb hT
  replace E := b_trans E hb
  clear hb
  go_wp2_with fail
  refine (co _ hT).mono ?_
  rintro e y3 ⟨rfl, hb⟩
  replace P := row_keep hb P
  replace h := row_keep hb h
  replace hT := tb_keep hb hT
  replace E := b_trans E hb
  clear hb co
  go_wp2_with fail
  refine (cl b _ hT h).mono ?_
  rintro e y4 ⟨rfl, hb⟩
  replace P := row_keep hb P
  replace h := row_keep hb h
  replace hT := tb_keep hb hT
  replace E := b_trans E hb
  clear hb cl
  go_wp2_with fail
  refine (fixed_gro _).mono ?_
  rintro e y5 ⟨rfl, hb⟩
  replace P := row_keep hb P
  replace h := row_keep hb h
  replace hT := tb_keep hb hT
  replace E := b_trans E hb
  clear hb
  have q1 : y5.cell? ⟨w.heap.size, 2, none⟩ = some (.int .i64 z) := (cell_of_row _ _ 2 _ _ _ P).trans rfl
  clear P h hT m g
  go_wp2
  go_ret
  exact ⟨rfl, E⟩
set_option maxHeartbeats 4000000 in
set_option maxRecDepth 10000 in
theorem below_same2 (x y z p q a : Int) (x1 : x ≤ 9223372036854775807) (g : gd p = true) 
    (co : ∀ w, TB w → Calls Tryd.prog 16 #[.int .i64 q] w (RetV (.tuple #[.int .i64 a, .int .i64 0]) w))
    (cl : ∀ b w, TB w → GR w b p (bd x) y z → Calls Tryd.prog 10 #[.pointer (some ⟨b, 0, none⟩), .int .i64 q] w (RetV (.tuple #[.int .i64 a, .int .i64 z, .bool true, .int .i64 0]) w)) (h1 : al p ≤ a) (h2 : ¬ p < q) (w : World) (hT : TB w) : Calls Tryd.prog 4 #[.agg #[.int .i64 x, .int .i64 y, .int .i64 z], .int .i64 p, .int .i64 q] w (RetV (.bool true) w) := by
  have m := bd_range x1
  have P := heap_alloc_last w (Obj.cells #[.int .i64 x, .int .i64 y, .int .i64 z] 22)
  have E := b_alloc (o := (Obj.cells #[.int .i64 x, .int .i64 y, .int .i64 z] 22)) (Below.refl w.heap.size w)
  replace hT := tb_keep E hT
  have HP := Lib.hid (And.intro P (And.intro E hT))
  clear P E hT
  go_enter Tryd.func4, Tryd.ntmps4
  go_wp2_with fail
  obtain ⟨P, E, hT⟩ := HP.out
  clear HP
  generalize w.alloc (Obj.cells #[.int .i64 x, .int .i64 y, .int .i64 z] 22) = y9 at *
  have Q := P
  have hw := tb_lt hT
  refine (newground_any x y z _).mono ?_
  rintro e y0 ⟨b, rfl, gb, h, hb⟩
  replace P := row_keep hb P
  replace hT := tb_keep hb hT
  have gs := Nat.le_trans (E.size) gb
  have gn : w.heap.size ≠ b := by have := (Array.getElem?_eq_some_iff.1 Q).1; omega
  replace E := b_trans E hb
  clear hb gb Q
  go_wp2_with fail
  refine (set_any b 0 (bd x) y z p _ h).mono ?_
  rintro e y1 ⟨rfl, h, hb⟩
  replace P := but_row hb gn P
  replace hT := tb_but hb (by omega) hT
  replace E := below_but E gs hb
  clear hb
  rw [(s_ok g).1] at h
  rw [(s_ok g).2]
  clear gs gn hw
  go_wp2_with fail
  refine (altitude_ok p g _ hT).mono ?_
  rintro e y2 ⟨rfl, hb⟩
  replace P := row_keep hb P
  replace h := row_keep hb h
  replace hT := tb_keep hb hT
  replace E := b_trans E hb
  clear hb
  go_wp2_with fail
  refine (co _ hT).mono ?_
  rintro e y3 ⟨rfl, hb⟩
  replace P := row_keep hb P
  replace h := row_keep hb h
  replace hT := tb_keep hb hT
  replace E := b_trans E hb
  clear hb co
  go_wp2_with fail
  refine (cl b _ hT h).mono ?_
  rintro e y4 ⟨rfl, hb⟩
  replace P := row_keep hb P
  replace h := row_keep hb h
  replace hT := tb_keep hb hT
  replace E := b_trans E hb
  clear hb cl
  go_wp2_with fail
  refine (fixed_gro _).mono ?_
  rintro e y5 ⟨rfl, hb⟩
  replace P := row_keep hb P
  replace h := row_keep hb h
  replace hT := tb_keep hb hT
  replace E := b_trans E hb
  clear hb
  have q1 : y5.cell? ⟨w.heap.size, 2, none⟩ = some (.int .i64 z) := (cell_of_row _ _ 2 _ _ _ P).trans rfl
  clear P h hT m g
  go_wp2
  go_ret
  exact ⟨rfl, E⟩
set_option maxHeartbeats 4000000 in
set_option maxRecDepth 10000 in
theorem below_low (x y z p q a : Int) (x1 : x ≤ 9223372036854775807) (g : gd p = true) 
    (co : ∀ w, TB w → Calls Tryd.prog 16 #[.int .i64 q] w (RetV (.tuple #[.int .i64 a, .int .i64 0]) w))
    (cl : ∀ b w, TB w → GR w b p (bd x) y z → Calls Tryd.prog 10 #[.pointer (some ⟨b, 0, none⟩), .int .i64 q] w (RetV (.tuple #[.int .i64 (al p), .int .i64 z, .bool true, .int .i64 0]) w)) (h1 : (al p == a) = false) (h2 : p < q) (w : World) (hT : TB w) : Calls Tryd.prog 4 #[.agg #[.int .i64 x, .int .i64 y, .int .i64 z], .int .i64 p, .int .i64 q] w (RetV (.bool true) w) := by
  have m := bd_range x1
  have P := heap_alloc_last w (Obj.cells #[.int .i64 x, .int .i64 y, .int .i64 z] 22)
  have E := b_alloc (o := (Obj.cells #[.int .i64 x, .int .i64 y, .int .i64 z] 22)) (Below.refl w.heap.size w)
  replace hT := tb_keep E hT
  have HP := Lib.hid (And.intro P (And.intro E hT))
  clear P E hT
  go_enter Tryd.func4, Tryd.ntmps4
  go_wp2_with fail
  obtain ⟨P, E, hT⟩ := HP.out
  clear HP
  generalize w.alloc (Obj.cells #[.int .i64 x, .int .i64 y, .int .i64 z] 22) = y9 at *
  have Q := P
  have hw := tb_lt hT
  refine (newground_any x y z _).mono ?_
  rintro e y0 ⟨b, rfl, gb, h, hb⟩
  replace P := row_keep hb P
  replace hT := tb_keep hb hT
  have gs := Nat.le_trans (E.size) gb
  have gn : w.heap.size ≠ b := by have := (Array.getElem?_eq_some_iff.1 Q).1; omega
  replace E := b_trans E hb
  clear hb gb Q
  go_wp2_with fail
  refine (set_any b 0 (bd x) y z p _ h).mono ?_
  rintro e y1 ⟨rfl, h, hb⟩
  replace P := but_row hb gn P
  replace hT := tb_but hb (by omega) hT
  replace E := below_but E gs hb
  clear hb
  rw [(s_ok g).1] at h
  rw [(s_ok g).2]
  clear gs gn hw
  go_wp2_with fail
  refine (altitude_ok p g _ hT).mono ?_
  rintro e y2 ⟨rfl, hb⟩
  replace P := row_keep hb P
  replace h := row_keep hb h
  replace hT := tb_keep hb hT
  replace E := b_trans E hb
  clear hb
  go_wp2_with fail
  refine (co _ hT).mono ?_
  rintro e y3 ⟨rfl, hb⟩
  replace P := row_keep hb P
  replace h := row_keep hb h
  replace hT := tb_keep hb hT
  replace E := b_trans E hb
  clear hb co
  go_wp2_with fail
  refine (cl b _ hT h).mono ?_
  rintro e y4 ⟨rfl, hb⟩
  replace P := row_keep hb P
  replace h := row_keep hb h
  replace hT := tb_keep hb hT
  replace E := b_trans E hb
  clear hb cl
  go_wp2_with fail
  refine (fixed_gro _).mono ?_
  rintro e y5 ⟨rfl, hb⟩
  replace P := row_keep hb P
  replace h := row_keep hb h
  replace hT := tb_keep hb hT
  replace E := b_trans E hb
  clear hb
  have q1 : y5.cell? ⟨w.heap.size, 2, none⟩ = some (.int .i64 z) := (cell_of_row _ _ 2 _ _ _ P).trans rfl
  clear P h hT m g
  go_wp2
  go_ret
  exact ⟨rfl, E⟩
theorem groundBelow_any (x y z p q : Int) (x1 : x ≤ 9223372036854775807) (w : World) (hT : TB w) : Calls Tryd.prog 4 #[.agg #[.int .i64 x, .int .i64 y, .int .i64 z], .int .i64 p, .int .i64 q] w (RetV (.bool true) w) := by
  cases g : gd p
  · exact below_bad x y z p q x1 g w hT
  · have m := bd_range x1
    have cl := fun b (w : World) (hT : TB w) (h : GR w b p (bd x) y z) => Level_any b p (bd x) y z q (Or.inr g) m.1 m.2 w hT h
    cases k : gd q
    · rw [(l_bad (c := p) (m := bd x) (n := y) (r := z) k).1, (l_bad (c := p) (m := bd x) (n := y) (r := z) k).2, nr_bad k, ae_bad k] at cl
      exact below_none x y z p q x1 g (fun w _ => altitude_bad q k w) cl w hT
    · have co := altitude_ok q k
      rw [ae_ok k] at cl
      cases e : nr p (bd x) q
      · rw [(l_far (n := y) (r := z) k e).1, (l_far (n := y) (r := z) k e).2, e] at cl
        have h2 : q < p := by
          have gp := gd_range g
          simp [nr, k] at e
          omega
        exact below_far x y z p q (al q) x1 g co cl (al_fall k g h2) h2 w hT
      · rw [(l_near (n := y) (r := z) k e).1, (l_near (n := y) (r := z) k e).2, e] at cl
        by_cases h : al q < al p
        · rw [show mz (al q) (al p) = al p from if_pos h] at cl
          have h2 : p < q := by
            rcases Int.lt_trichotomy p q with c | c | c
            · exact c
            · rw [c] at h
              omega
            · have := al_fall k g c
              omega
          have h1 : (al p == al q) = false := by
            simp
            omega
          exact below_low x y z p q (al q) x1 g co cl h1 h2 w hT
        · rw [show mz (al q) (al p) = al q from if_neg h] at cl
          by_cases h2 : p < q
          · exact below_same x y z p q (al q) x1 g co cl (by omega) h2 w hT
          · exact below_same2 x y z p q (al q) x1 g co cl (by omega) h2 w hT
end Go.Proofs.YthnaeoagooahbaaDoor

/- SpreadOn: what the law's call answers: true, for every matrix and every row. -/
import Derived.Test.YtlpmmnfijfljoaaDoorSprG
import Derived.Test.YtlpmmnfijfljoaaDoorSprH
import Derived.Deep.QuietTactic
import Derived.BigQuiet
namespace Go.Proofs.YtlpmmnfijfljoaaDoor
open Go.RowKit Go.Shelf Go.Joins

/-- An entry of the document's, as a wide number. -/
theorem wide_entry (v : Value) (m : Nat → Int) (i j : Nat) (hm : I6 m) (w : World) (hz : BG w v (rwn m i j)) :
    Calls Tryd.prog 10 #[v] w (RetV (.tuple #[wv (rwn m i j / 18446744073709551616) (rwn m i j % 18446744073709551616), .int .i64 0]) w) := by
  have h := clp_three hm i j (Nat.le_refl 3)
  rw [clp_rwn] at h
  have f : Fits (rwn m i j) := ⟨by omega, by omega⟩
  have c := wide_big v (rwn m i j) w hz (rwn_tiny hm i j)
  rw [fz_of f, fe_of f] at c
  exact c.mono fun _ _ r => retWE_det (IsW.mk' f) r

/-- What the law keeps: the doubt, the addition, the entries as they are, the tables. -/
structure LM (W : World) (m : Nat → Int) (R : Nat) (f g : Nat → Int) (U : World) : Prop where
  b : Below W.heap.size W U
  k : SC U W.heap.size m
  y : YC U R f g
  ml : ML U
  pl : PL U
theorem lm_keep {W U U' : World} {m : Nat → Int} {R : Nat} {f g : Nat → Int} (h : LM W m R f g U) (hb : Below U.heap.size U U') : LM W m R f g U' :=
  ⟨b_trans h.b hb, sc_keep hb h.k, yc_keep hb h.y, ml_keep hb h.ml, pl_keep hb h.pl⟩
/-- What the law keeps ahead of its loops. -/
structure LA (W : World) (m : Nat → Int) (d0 d1 d2 : Int) (U : World) : Prop where
  b : Below W.heap.size W U
  k : SC U W.heap.size m
  d : TC U (W.heap.size + 1) d0 d1 d2
  ml : ML U
  pl : PL U
theorem la_keep {W U U' : World} {m : Nat → Int} {d0 d1 d2 : Int} (h : LA W m d0 d1 d2 U) (hb : Below U.heap.size U U') : LA W m d0 d1 d2 U' :=
  ⟨b_trans h.b hb, sc_keep hb h.k, tc_keep hb h.d, ml_keep hb h.ml, pl_keep hb h.pl⟩

set_option maxHeartbeats 16000000 in
set_option maxRecDepth 10000 in
theorem spreadOn_ok (m x f g : Nat → Int) (d0 d1 d2 e : Int) (hm : I6 m) (ef : f6b m = true)
    (hE : ∀ k, k < 6 → rawn m k / 18446744073709551616 = f k ∧ rawn m k % 18446744073709551616 = g k)
    (c1 : ∀ w, ML w → PL w → Calls Tryd.prog 6 #[sv m, tv d0 d1 d2] w (RetV (.tuple #[sv x, .int .i64 e]) w))
    (c2 : ∀ w, PL w → Calls Tryd.prog 7 #[sv m, tv d0 d1 d2] w (RetV (.tuple #[sv x, .int .i64 e]) w))
    (c3 : ∀ w, ML w → PL w → Calls Tryd.prog 8 #[sv m] w (RetV (.tuple #[rv f g, .int .i64 0]) w)) (w : World) (hl : ML w) (hp : PL w) :
    Calls Tryd.prog 3 #[sv m, tv d0 d1 d2] w (RetV (.bool true) w) := by
  have s : LA w m d0 d1 d2 ((w.alloc (Obj.cells #[.int .i64 (m 0), .int .i64 (m 1), .int .i64 (m 2), .int .i64 (m 3), .int .i64 (m 4), .int .i64 (m 5)] 23)).alloc (Obj.cells #[.int .i64 d0, .int .i64 d1, .int .i64 d2] 25)) := ⟨b_alloc (b_alloc (Below.refl _ _)), sc_alloc (sc_new (w := w) (m := m) (t := 23) rfl), tc_new (by simp), ml_keep (b_alloc (b_alloc (Below.refl _ _))) hl, pl_keep (b_alloc (b_alloc (Below.refl _ _))) hp⟩
  clear hl hp
  have ea := Lib.hid ef
  clear ef
  have H6 := Lib.hid hm
  clear hm
  have HE := Lib.hid hE
  clear hE
  go_enter Tryd.func3, Tryd.ntmps3
  have l6 := sc_six s.k
  have l3 := s.d
  go_wp2_with fail
  refine (c1 _ s.ml s.pl).mono ?_
  rintro e1 w1 ⟨rfl, hb1⟩
  replace s := la_keep s hb1
  clear hb1 l6 l3 c1
  have kX : SC (w1.alloc (Obj.cells #[.int .i64 (x 0), .int .i64 (x 1), .int .i64 (x 2), .int .i64 (x 3), .int .i64 (x 4), .int .i64 (x 5)] 23)) w1.heap.size x := sc_new (m := x) rfl
  replace s := la_keep s (b_alloc (o := (Obj.cells #[.int .i64 (x 0), .int .i64 (x 1), .int .i64 (x 2), .int .i64 (x 3), .int .i64 (x 4), .int .i64 (x 5)] 23)) (Below.refl _ _))
  have l6 := sc_six s.k
  have l3 := s.d
  go_wp2_with fail
  generalize w1.alloc (Obj.cells #[.int .i64 (x 0), .int .i64 (x 1), .int .i64 (x 2), .int .i64 (x 3), .int .i64 (x 4), .int .i64 (x 5)] 23) = u1 at *
  generalize w1.heap.size = X at *
  refine (c2 _ s.pl).mono ?_
  rintro e2 w2 ⟨rfl, hb2⟩
  replace s := la_keep s hb2
  replace kX := sc_keep hb2 kX
  clear hb2 l6 l3 c2
  have kY : SC (w2.alloc (Obj.cells #[.int .i64 (x 0), .int .i64 (x 1), .int .i64 (x 2), .int .i64 (x 3), .int .i64 (x 4), .int .i64 (x 5)] 23)) w2.heap.size x := sc_new (m := x) rfl
  replace s := la_keep s (b_alloc (o := (Obj.cells #[.int .i64 (x 0), .int .i64 (x 1), .int .i64 (x 2), .int .i64 (x 3), .int .i64 (x 4), .int .i64 (x 5)] 23)) (Below.refl _ _))
  replace kX := sc_alloc (o := (Obj.cells #[.int .i64 (x 0), .int .i64 (x 1), .int .i64 (x 2), .int .i64 (x 3), .int .i64 (x 4), .int .i64 (x 5)] 23)) kX
  have l6 := sc_six s.k
  go_wp2_with fail
  generalize w2.alloc (Obj.cells #[.int .i64 (x 0), .int .i64 (x 1), .int .i64 (x 2), .int .i64 (x 3), .int .i64 (x 4), .int .i64 (x 5)] 23) = u2 at *
  generalize w2.heap.size = Y at *
  refine (c3 _ s.ml s.pl).mono ?_
  rintro e3 w3 ⟨rfl, hb3⟩
  replace s := la_keep s hb3
  replace kX := sc_keep hb3 kX
  replace kY := sc_keep hb3 kY
  clear hb3 l6 c3
  have kR : YC (w3.alloc (Obj.cells #[.int .i64 (f 0), .int .u64 (g 0), .int .i64 (f 1), .int .u64 (g 1), .int .i64 (f 2), .int .u64 (g 2), .int .i64 (f 3), .int .u64 (g 3), .int .i64 (f 4), .int .u64 (g 4), .int .i64 (f 5), .int .u64 (g 5)] 34)) w3.heap.size f g := yc_of ⟨by simp [go_sem], by simp [go_sem], by simp [go_sem], by simp [go_sem], by simp [go_sem], by simp [go_sem], by simp [go_sem], by simp [go_sem], by simp [go_sem], by simp [go_sem], by simp [go_sem], by simp [go_sem]⟩
  replace s := la_keep s (b_alloc (o := (Obj.cells #[.int .i64 (f 0), .int .u64 (g 0), .int .i64 (f 1), .int .u64 (g 1), .int .i64 (f 2), .int .u64 (g 2), .int .i64 (f 3), .int .u64 (g 3), .int .i64 (f 4), .int .u64 (g 4), .int .i64 (f 5), .int .u64 (g 5)] 34)) (Below.refl _ _))
  replace kX := sc_alloc (o := (Obj.cells #[.int .i64 (f 0), .int .u64 (g 0), .int .i64 (f 1), .int .u64 (g 1), .int .i64 (f 2), .int .u64 (g 2), .int .i64 (f 3), .int .u64 (g 3), .int .i64 (f 4), .int .u64 (g 4), .int .i64 (f 5), .int .u64 (g 5)] 34)) kX
  replace kY := sc_alloc (o := (Obj.cells #[.int .i64 (f 0), .int .u64 (g 0), .int .i64 (f 1), .int .u64 (g 1), .int .i64 (f 2), .int .u64 (g 2), .int .i64 (f 3), .int .u64 (g 3), .int .i64 (f 4), .int .u64 (g 4), .int .i64 (f 5), .int .u64 (g 5)] 34)) kY
  have l6 := sc_six s.k
  have lx := sc_six kX
  have ly := sc_six kY
  have hse := sym_eq_self
  go_wp2_with fail
  generalize w3.alloc (Obj.cells #[.int .i64 (f 0), .int .u64 (g 0), .int .i64 (f 1), .int .u64 (g 1), .int .i64 (f 2), .int .u64 (g 2), .int .i64 (f 3), .int .u64 (g 3), .int .i64 (f 4), .int .u64 (g 4), .int .i64 (f 5), .int .u64 (g 5)] 34) = u3 at *
  generalize w3.heap.size = R at *
  refine (fits_sref m H6.out _).mono ?_
  rintro e4 w4 ⟨rfl, hb4⟩
  rw [ea.out]
  replace s := la_keep s hb4
  replace kR := yc_keep hb4 kR
  have j : LM w m R f g w4 := ⟨s.b, s.k, kR, s.ml, s.pl⟩
  clear s kX kY kR lx ly l6 hse hb4
  go_wp2
  refine wp_loop_rounds 4 ?_
  rw [rounds_succ]
  go_wp2
  refine wp_loop_rounds 4 ?_
  rw [rounds_succ]
  have l6 := sc_six j.k
  go_wp2_with fail
  refine (raw_ref m 0 0 H6.out (by decide) (by decide) _).mono ?_
  rintro e5 w5 ⟨v5, rfl, g5, hb5⟩
  obtain ⟨n5, a5, k5, c5, rfl⟩ := bg_form g5
  replace j := lm_keep j hb5
  clear hb5 l6
  go_wp2_with fail
  refine (wide_entry _ m 0 0 H6.out _ g5).mono ?_
  rintro e6 w6 ⟨rfl, hb6⟩
  replace j := lm_keep j hb6
  clear hb6 g5
  have q1 : (rwn m 0 0 / 18446744073709551616) = f 0 := (HE.out 0 (by decide)).1
  have q2 : (rwn m 0 0 % 18446744073709551616) = g 0 := (HE.out 0 (by decide)).2
  rw [q1, q2]
  clear q1 q2
  have kW : WC (w6.alloc (Obj.cells #[.int .i64 (f 0), .int .u64 (g 0)] 33)) w6.heap.size (f 0) (g 0) := ⟨by simp [go_sem], by simp [go_sem]⟩
  replace j := lm_keep j (b_alloc (o := (Obj.cells #[.int .i64 (f 0), .int .u64 (g 0)] 33)) (Below.refl _ _))
  have ly := yc_12 j.y
  have hwe := wide_eq_self
  go_wp2
  go_quiet (fail)
  replace j := lm_keep j (below_draws _ _ nq)
  clear kW ly hwe
  go_wp2
  rw [rounds_succ]
  have l6 := sc_six j.k
  go_wp2_with fail
  refine (raw_ref m 0 1 H6.out (by decide) (by decide) _).mono ?_
  rintro e5 w5 ⟨v5, rfl, g5, hb5⟩
  obtain ⟨n5, a5, k5, c5, rfl⟩ := bg_form g5
  replace j := lm_keep j hb5
  clear hb5 l6
  go_wp2_with fail
  refine (wide_entry _ m 0 1 H6.out _ g5).mono ?_
  rintro e6 w6 ⟨rfl, hb6⟩
  replace j := lm_keep j hb6
  clear hb6 g5
  have q1 : (rwn m 0 1 / 18446744073709551616) = f 1 := (HE.out 1 (by decide)).1
  have q2 : (rwn m 0 1 % 18446744073709551616) = g 1 := (HE.out 1 (by decide)).2
  rw [q1, q2]
  clear q1 q2
  have kW : WC (w6.alloc (Obj.cells #[.int .i64 (f 1), .int .u64 (g 1)] 33)) w6.heap.size (f 1) (g 1) := ⟨by simp [go_sem], by simp [go_sem]⟩
  replace j := lm_keep j (b_alloc (o := (Obj.cells #[.int .i64 (f 1), .int .u64 (g 1)] 33)) (Below.refl _ _))
  have ly := yc_12 j.y
  have hwe := wide_eq_self
  go_wp2
  go_quiet (fail)
  replace j := lm_keep j (below_draws _ _ nq)
  clear kW ly hwe
  go_wp2
  rw [rounds_succ]
  have l6 := sc_six j.k
  go_wp2_with fail
  refine (raw_ref m 0 2 H6.out (by decide) (by decide) _).mono ?_
  rintro e5 w5 ⟨v5, rfl, g5, hb5⟩
  obtain ⟨n5, a5, k5, c5, rfl⟩ := bg_form g5
  replace j := lm_keep j hb5
  clear hb5 l6
  go_wp2_with fail
  refine (wide_entry _ m 0 2 H6.out _ g5).mono ?_
  rintro e6 w6 ⟨rfl, hb6⟩
  replace j := lm_keep j hb6
  clear hb6 g5
  have q1 : (rwn m 0 2 / 18446744073709551616) = f 2 := (HE.out 2 (by decide)).1
  have q2 : (rwn m 0 2 % 18446744073709551616) = g 2 := (HE.out 2 (by decide)).2
  rw [q1, q2]
  clear q1 q2
  have kW : WC (w6.alloc (Obj.cells #[.int .i64 (f 2), .int .u64 (g 2)] 33)) w6.heap.size (f 2) (g 2) := ⟨by simp [go_sem], by simp [go_sem]⟩
  replace j := lm_keep j (b_alloc (o := (Obj.cells #[.int .i64 (f 2), .int .u64 (g 2)] 33)) (Below.refl _ _))
  have ly := yc_12 j.y
  have hwe := wide_eq_self
  go_wp2
  go_quiet (fail)
  replace j := lm_keep j (below_draws _ _ nq)
  clear kW ly hwe
  go_wp2
  rw [rounds_succ]
  go_wp2
  rw [rounds_succ]
  go_wp2
  refine wp_loop_rounds 4 ?_
  rw [rounds_succ]
  have l6 := sc_six j.k
  go_wp2_with fail
  refine (raw_ref m 1 1 H6.out (by decide) (by decide) _).mono ?_
  rintro e5 w5 ⟨v5, rfl, g5, hb5⟩
  obtain ⟨n5, a5, k5, c5, rfl⟩ := bg_form g5
  replace j := lm_keep j hb5
  clear hb5 l6
  go_wp2_with fail
  refine (wide_entry _ m 1 1 H6.out _ g5).mono ?_
  rintro e6 w6 ⟨rfl, hb6⟩
  replace j := lm_keep j hb6
  clear hb6 g5
  have q1 : (rwn m 1 1 / 18446744073709551616) = f 3 := (HE.out 3 (by decide)).1
  have q2 : (rwn m 1 1 % 18446744073709551616) = g 3 := (HE.out 3 (by decide)).2
  rw [q1, q2]
  clear q1 q2
  have kW : WC (w6.alloc (Obj.cells #[.int .i64 (f 3), .int .u64 (g 3)] 33)) w6.heap.size (f 3) (g 3) := ⟨by simp [go_sem], by simp [go_sem]⟩
  replace j := lm_keep j (b_alloc (o := (Obj.cells #[.int .i64 (f 3), .int .u64 (g 3)] 33)) (Below.refl _ _))
  have ly := yc_12 j.y
  have hwe := wide_eq_self
  go_wp2
  go_quiet (fail)
  replace j := lm_keep j (below_draws _ _ nq)
  clear kW ly hwe
  go_wp2
  rw [rounds_succ]
  have l6 := sc_six j.k
  go_wp2_with fail
  refine (raw_ref m 1 2 H6.out (by decide) (by decide) _).mono ?_
  rintro e5 w5 ⟨v5, rfl, g5, hb5⟩
  obtain ⟨n5, a5, k5, c5, rfl⟩ := bg_form g5
  replace j := lm_keep j hb5
  clear hb5 l6
  go_wp2_with fail
  refine (wide_entry _ m 1 2 H6.out _ g5).mono ?_
  rintro e6 w6 ⟨rfl, hb6⟩
  replace j := lm_keep j hb6
  clear hb6 g5
  have q1 : (rwn m 1 2 / 18446744073709551616) = f 4 := (HE.out 4 (by decide)).1
  have q2 : (rwn m 1 2 % 18446744073709551616) = g 4 := (HE.out 4 (by decide)).2
  rw [q1, q2]
  clear q1 q2
  have kW : WC (w6.alloc (Obj.cells #[.int .i64 (f 4), .int .u64 (g 4)] 33)) w6.heap.size (f 4) (g 4) := ⟨by simp [go_sem], by simp [go_sem]⟩
  replace j := lm_keep j (b_alloc (o := (Obj.cells #[.int .i64 (f 4), .int .u64 (g 4)] 33)) (Below.refl _ _))
  have ly := yc_12 j.y
  have hwe := wide_eq_self
  go_wp2
  go_quiet (fail)
  replace j := lm_keep j (below_draws _ _ nq)
  clear kW ly hwe
  go_wp2
  rw [rounds_succ]
  go_wp2
  rw [rounds_succ]
  go_wp2
  refine wp_loop_rounds 4 ?_
  rw [rounds_succ]
  have l6 := sc_six j.k
  go_wp2_with fail
  refine (raw_ref m 2 2 H6.out (by decide) (by decide) _).mono ?_
  rintro e5 w5 ⟨v5, rfl, g5, hb5⟩
  obtain ⟨n5, a5, k5, c5, rfl⟩ := bg_form g5
  replace j := lm_keep j hb5
  clear hb5 l6
  go_wp2_with fail
  refine (wide_entry _ m 2 2 H6.out _ g5).mono ?_
  rintro e6 w6 ⟨rfl, hb6⟩
  replace j := lm_keep j hb6
  clear hb6 g5
  have q1 : (rwn m 2 2 / 18446744073709551616) = f 5 := (HE.out 5 (by decide)).1
  have q2 : (rwn m 2 2 % 18446744073709551616) = g 5 := (HE.out 5 (by decide)).2
  rw [q1, q2]
  clear q1 q2
  have kW : WC (w6.alloc (Obj.cells #[.int .i64 (f 5), .int .u64 (g 5)] 33)) w6.heap.size (f 5) (g 5) := ⟨by simp [go_sem], by simp [go_sem]⟩
  replace j := lm_keep j (b_alloc (o := (Obj.cells #[.int .i64 (f 5), .int .u64 (g 5)] 33)) (Below.refl _ _))
  have ly := yc_12 j.y
  have hwe := wide_eq_self
  go_wp2
  go_quiet (fail)
  replace j := lm_keep j (below_draws _ _ nq)
  clear kW ly hwe
  go_wp2
  rw [rounds_succ]
  go_wp2
  rw [rounds_succ]
  go_wp2_with fail
  refine (fixed_spr _ j.ml j.pl).mono ?_
  rintro e9 w9 ⟨rfl, hb9⟩
  replace j := lm_keep j hb9
  have B9 := j.b
  clear j hb9
  go_wp2
  go_ret
  exact ⟨rfl, B9⟩

set_option maxHeartbeats 16000000 in
set_option maxRecDepth 10000 in
theorem spreadOn_bad (m x : Nat → Int) (d0 d1 d2 e : Int) (hm : I6 m) (ef : f6b m = false)
    (hE : True)
    (c1 : ∀ w, ML w → PL w → Calls Tryd.prog 6 #[sv m, tv d0 d1 d2] w (RetV (.tuple #[sv x, .int .i64 e]) w))
    (c2 : ∀ w, PL w → Calls Tryd.prog 7 #[sv m, tv d0 d1 d2] w (RetV (.tuple #[sv x, .int .i64 e]) w))
    (c3 : ∀ w, ML w → PL w → Calls Tryd.prog 8 #[sv m] w (RetV (.tuple #[.agg #[.int .i64 0, .int .u64 0, .int .i64 0, .int .u64 0, .int .i64 0, .int .u64 0, .int .i64 0, .int .u64 0, .int .i64 0, .int .u64 0, .int .i64 0, .int .u64 0], .int .i64 1]) w)) (w : World) (hl : ML w) (hp : PL w) :
    Calls Tryd.prog 3 #[sv m, tv d0 d1 d2] w (RetV (.bool true) w) := by
  have s : LA w m d0 d1 d2 ((w.alloc (Obj.cells #[.int .i64 (m 0), .int .i64 (m 1), .int .i64 (m 2), .int .i64 (m 3), .int .i64 (m 4), .int .i64 (m 5)] 23)).alloc (Obj.cells #[.int .i64 d0, .int .i64 d1, .int .i64 d2] 25)) := ⟨b_alloc (b_alloc (Below.refl _ _)), sc_alloc (sc_new (w := w) (m := m) (t := 23) rfl), tc_new (by simp), ml_keep (b_alloc (b_alloc (Below.refl _ _))) hl, pl_keep (b_alloc (b_alloc (Below.refl _ _))) hp⟩
  clear hl hp
  have ea := Lib.hid ef
  clear ef
  have H6 := Lib.hid hm
  clear hm
  have HE := Lib.hid hE
  clear hE
  go_enter Tryd.func3, Tryd.ntmps3
  have l6 := sc_six s.k
  have l3 := s.d
  go_wp2_with fail
  refine (c1 _ s.ml s.pl).mono ?_
  rintro e1 w1 ⟨rfl, hb1⟩
  replace s := la_keep s hb1
  clear hb1 l6 l3 c1
  have kX : SC (w1.alloc (Obj.cells #[.int .i64 (x 0), .int .i64 (x 1), .int .i64 (x 2), .int .i64 (x 3), .int .i64 (x 4), .int .i64 (x 5)] 23)) w1.heap.size x := sc_new (m := x) rfl
  replace s := la_keep s (b_alloc (o := (Obj.cells #[.int .i64 (x 0), .int .i64 (x 1), .int .i64 (x 2), .int .i64 (x 3), .int .i64 (x 4), .int .i64 (x 5)] 23)) (Below.refl _ _))
  have l6 := sc_six s.k
  have l3 := s.d
  go_wp2_with fail
  generalize w1.alloc (Obj.cells #[.int .i64 (x 0), .int .i64 (x 1), .int .i64 (x 2), .int .i64 (x 3), .int .i64 (x 4), .int .i64 (x 5)] 23) = u1 at *
  generalize w1.heap.size = X at *
  refine (c2 _ s.pl).mono ?_
  rintro e2 w2 ⟨rfl, hb2⟩
  replace s := la_keep s hb2
  replace kX := sc_keep hb2 kX
  clear hb2 l6 l3 c2
  have kY : SC (w2.alloc (Obj.cells #[.int .i64 (x 0), .int .i64 (x 1), .int .i64 (x 2), .int .i64 (x 3), .int .i64 (x 4), .int .i64 (x 5)] 23)) w2.heap.size x := sc_new (m := x) rfl
  replace s := la_keep s (b_alloc (o := (Obj.cells #[.int .i64 (x 0), .int .i64 (x 1), .int .i64 (x 2), .int .i64 (x 3), .int .i64 (x 4), .int .i64 (x 5)] 23)) (Below.refl _ _))
  replace kX := sc_alloc (o := (Obj.cells #[.int .i64 (x 0), .int .i64 (x 1), .int .i64 (x 2), .int .i64 (x 3), .int .i64 (x 4), .int .i64 (x 5)] 23)) kX
  have l6 := sc_six s.k
  go_wp2_with fail
  generalize w2.alloc (Obj.cells #[.int .i64 (x 0), .int .i64 (x 1), .int .i64 (x 2), .int .i64 (x 3), .int .i64 (x 4), .int .i64 (x 5)] 23) = u2 at *
  generalize w2.heap.size = Y at *
  refine (c3 _ s.ml s.pl).mono ?_
  rintro e3 w3 ⟨rfl, hb3⟩
  replace s := la_keep s hb3
  replace kX := sc_keep hb3 kX
  replace kY := sc_keep hb3 kY
  clear hb3 l6 c3
  have kR : YC (w3.alloc (Obj.cells #[.int .i64 0, .int .u64 0, .int .i64 0, .int .u64 0, .int .i64 0, .int .u64 0, .int .i64 0, .int .u64 0, .int .i64 0, .int .u64 0, .int .i64 0, .int .u64 0] 34)) w3.heap.size (fun _ => 0) (fun _ => 0) := yc_of ⟨by simp [go_sem], by simp [go_sem], by simp [go_sem], by simp [go_sem], by simp [go_sem], by simp [go_sem], by simp [go_sem], by simp [go_sem], by simp [go_sem], by simp [go_sem], by simp [go_sem], by simp [go_sem]⟩
  replace s := la_keep s (b_alloc (o := (Obj.cells #[.int .i64 0, .int .u64 0, .int .i64 0, .int .u64 0, .int .i64 0, .int .u64 0, .int .i64 0, .int .u64 0, .int .i64 0, .int .u64 0, .int .i64 0, .int .u64 0] 34)) (Below.refl _ _))
  replace kX := sc_alloc (o := (Obj.cells #[.int .i64 0, .int .u64 0, .int .i64 0, .int .u64 0, .int .i64 0, .int .u64 0, .int .i64 0, .int .u64 0, .int .i64 0, .int .u64 0, .int .i64 0, .int .u64 0] 34)) kX
  replace kY := sc_alloc (o := (Obj.cells #[.int .i64 0, .int .u64 0, .int .i64 0, .int .u64 0, .int .i64 0, .int .u64 0, .int .i64 0, .int .u64 0, .int .i64 0, .int .u64 0, .int .i64 0, .int .u64 0] 34)) kY
  have l6 := sc_six s.k
  have lx := sc_six kX
  have ly := sc_six kY
  have hse := sym_eq_self
  go_wp2_with fail
  generalize w3.alloc (Obj.cells #[.int .i64 0, .int .u64 0, .int .i64 0, .int .u64 0, .int .i64 0, .int .u64 0, .int .i64 0, .int .u64 0, .int .i64 0, .int .u64 0, .int .i64 0, .int .u64 0] 34) = u3 at *
  generalize w3.heap.size = R at *
  refine (fits_sref m H6.out _).mono ?_
  rintro e4 w4 ⟨rfl, hb4⟩
  rw [ea.out]
  replace s := la_keep s hb4
  replace kR := yc_keep hb4 kR
  have j : LM w m R (fun _ => 0) (fun _ => 0) w4 := ⟨s.b, s.k, kR, s.ml, s.pl⟩
  clear s kX kY kR lx ly l6 hse hb4
  go_wp2
  refine wp_loop_rounds 4 ?_
  rw [rounds_succ]
  go_wp2
  refine wp_loop_rounds 4 ?_
  rw [rounds_succ]
  have l6 := sc_six j.k
  go_wp2_with fail
  refine (raw_ref m 0 0 H6.out (by decide) (by decide) _).mono ?_
  rintro e5 w5 ⟨v5, rfl, g5, hb5⟩
  obtain ⟨n5, a5, k5, c5, rfl⟩ := bg_form g5
  replace j := lm_keep j hb5
  clear hb5 l6
  go_wp2_with fail
  refine (wide_entry _ m 0 0 H6.out _ g5).mono ?_
  rintro e6 w6 ⟨rfl, hb6⟩
  replace j := lm_keep j hb6
  clear hb6 g5
  generalize (rwn m 0 0 / 18446744073709551616) = hh
  generalize (rwn m 0 0 % 18446744073709551616) = ll
  have kW : WC (w6.alloc (Obj.cells #[.int .i64 hh, .int .u64 ll] 33)) w6.heap.size hh ll := ⟨by simp [go_sem], by simp [go_sem]⟩
  replace j := lm_keep j (b_alloc (o := (Obj.cells #[.int .i64 hh, .int .u64 ll] 33)) (Below.refl _ _))
  have ly := yc_12 j.y
  have hwe := wide_eq_self
  go_wp2
  go_quiet (fail)
  replace j := lm_keep j (below_draws _ _ nq)
  clear kW ly hwe
  go_wp2
  rw [rounds_succ]
  have l6 := sc_six j.k
  go_wp2_with fail
  refine (raw_ref m 0 1 H6.out (by decide) (by decide) _).mono ?_
  rintro e5 w5 ⟨v5, rfl, g5, hb5⟩
  obtain ⟨n5, a5, k5, c5, rfl⟩ := bg_form g5
  replace j := lm_keep j hb5
  clear hb5 l6
  go_wp2_with fail
  refine (wide_entry _ m 0 1 H6.out _ g5).mono ?_
  rintro e6 w6 ⟨rfl, hb6⟩
  replace j := lm_keep j hb6
  clear hb6 g5
  generalize (rwn m 0 1 / 18446744073709551616) = hh
  generalize (rwn m 0 1 % 18446744073709551616) = ll
  have kW : WC (w6.alloc (Obj.cells #[.int .i64 hh, .int .u64 ll] 33)) w6.heap.size hh ll := ⟨by simp [go_sem], by simp [go_sem]⟩
  replace j := lm_keep j (b_alloc (o := (Obj.cells #[.int .i64 hh, .int .u64 ll] 33)) (Below.refl _ _))
  have ly := yc_12 j.y
  have hwe := wide_eq_self
  go_wp2
  go_quiet (fail)
  replace j := lm_keep j (below_draws _ _ nq)
  clear kW ly hwe
  go_wp2
  rw [rounds_succ]
  have l6 := sc_six j.k
  go_wp2_with fail
  refine (raw_ref m 0 2 H6.out (by decide) (by decide) _).mono ?_
  rintro e5 w5 ⟨v5, rfl, g5, hb5⟩
  obtain ⟨n5, a5, k5, c5, rfl⟩ := bg_form g5
  replace j := lm_keep j hb5
  clear hb5 l6
  go_wp2_with fail
  refine (wide_entry _ m 0 2 H6.out _ g5).mono ?_
  rintro e6 w6 ⟨rfl, hb6⟩
  replace j := lm_keep j hb6
  clear hb6 g5
  generalize (rwn m 0 2 / 18446744073709551616) = hh
  generalize (rwn m 0 2 % 18446744073709551616) = ll
  have kW : WC (w6.alloc (Obj.cells #[.int .i64 hh, .int .u64 ll] 33)) w6.heap.size hh ll := ⟨by simp [go_sem], by simp [go_sem]⟩
  replace j := lm_keep j (b_alloc (o := (Obj.cells #[.int .i64 hh, .int .u64 ll] 33)) (Below.refl _ _))
  have ly := yc_12 j.y
  have hwe := wide_eq_self
  go_wp2
  go_quiet (fail)
  replace j := lm_keep j (below_draws _ _ nq)
  clear kW ly hwe
  go_wp2
  rw [rounds_succ]
  go_wp2
  rw [rounds_succ]
  go_wp2
  refine wp_loop_rounds 4 ?_
  rw [rounds_succ]
  have l6 := sc_six j.k
  go_wp2_with fail
  refine (raw_ref m 1 1 H6.out (by decide) (by decide) _).mono ?_
  rintro e5 w5 ⟨v5, rfl, g5, hb5⟩
  obtain ⟨n5, a5, k5, c5, rfl⟩ := bg_form g5
  replace j := lm_keep j hb5
  clear hb5 l6
  go_wp2_with fail
  refine (wide_entry _ m 1 1 H6.out _ g5).mono ?_
  rintro e6 w6 ⟨rfl, hb6⟩
  replace j := lm_keep j hb6
  clear hb6 g5
  generalize (rwn m 1 1 / 18446744073709551616) = hh
  generalize (rwn m 1 1 % 18446744073709551616) = ll
  have kW : WC (w6.alloc (Obj.cells #[.int .i64 hh, .int .u64 ll] 33)) w6.heap.size hh ll := ⟨by simp [go_sem], by simp [go_sem]⟩
  replace j := lm_keep j (b_alloc (o := (Obj.cells #[.int .i64 hh, .int .u64 ll] 33)) (Below.refl _ _))
  have ly := yc_12 j.y
  have hwe := wide_eq_self
  go_wp2
  go_quiet (fail)
  replace j := lm_keep j (below_draws _ _ nq)
  clear kW ly hwe
  go_wp2
  rw [rounds_succ]
  have l6 := sc_six j.k
  go_wp2_with fail
  refine (raw_ref m 1 2 H6.out (by decide) (by decide) _).mono ?_
  rintro e5 w5 ⟨v5, rfl, g5, hb5⟩
  obtain ⟨n5, a5, k5, c5, rfl⟩ := bg_form g5
  replace j := lm_keep j hb5
  clear hb5 l6
  go_wp2_with fail
  refine (wide_entry _ m 1 2 H6.out _ g5).mono ?_
  rintro e6 w6 ⟨rfl, hb6⟩
  replace j := lm_keep j hb6
  clear hb6 g5
  generalize (rwn m 1 2 / 18446744073709551616) = hh
  generalize (rwn m 1 2 % 18446744073709551616) = ll
  have kW : WC (w6.alloc (Obj.cells #[.int .i64 hh, .int .u64 ll] 33)) w6.heap.size hh ll := ⟨by simp [go_sem], by simp [go_sem]⟩
  replace j := lm_keep j (b_alloc (o := (Obj.cells #[.int .i64 hh, .int .u64 ll] 33)) (Below.refl _ _))
  have ly := yc_12 j.y
  have hwe := wide_eq_self
  go_wp2
  go_quiet (fail)
  replace j := lm_keep j (below_draws _ _ nq)
  clear kW ly hwe
  go_wp2
  rw [rounds_succ]
  go_wp2
  rw [rounds_succ]
  go_wp2
  refine wp_loop_rounds 4 ?_
  rw [rounds_succ]
  have l6 := sc_six j.k
  go_wp2_with fail
  refine (raw_ref m 2 2 H6.out (by decide) (by decide) _).mono ?_
  rintro e5 w5 ⟨v5, rfl, g5, hb5⟩
  obtain ⟨n5, a5, k5, c5, rfl⟩ := bg_form g5
  replace j := lm_keep j hb5
  clear hb5 l6
  go_wp2_with fail
  refine (wide_entry _ m 2 2 H6.out _ g5).mono ?_
  rintro e6 w6 ⟨rfl, hb6⟩
  replace j := lm_keep j hb6
  clear hb6 g5
  generalize (rwn m 2 2 / 18446744073709551616) = hh
  generalize (rwn m 2 2 % 18446744073709551616) = ll
  have kW : WC (w6.alloc (Obj.cells #[.int .i64 hh, .int .u64 ll] 33)) w6.heap.size hh ll := ⟨by simp [go_sem], by simp [go_sem]⟩
  replace j := lm_keep j (b_alloc (o := (Obj.cells #[.int .i64 hh, .int .u64 ll] 33)) (Below.refl _ _))
  have ly := yc_12 j.y
  have hwe := wide_eq_self
  go_wp2
  go_quiet (fail)
  replace j := lm_keep j (below_draws _ _ nq)
  clear kW ly hwe
  go_wp2
  rw [rounds_succ]
  go_wp2
  rw [rounds_succ]
  go_wp2_with fail
  refine (fixed_spr _ j.ml j.pl).mono ?_
  rintro e9 w9 ⟨rfl, hb9⟩
  replace j := lm_keep j hb9
  have B9 := j.b
  clear j hb9
  go_wp2
  go_ret
  exact ⟨rfl, B9⟩

theorem spreadOn_any (m : Nat → Int) (d0 d1 d2 : Int) (hm : I6 m) (hd0 : I64 d0) (hd1 : I64 d1) (hd2 : I64 d2) (w : World) (hl : ML w) (hp : PL w) :
    Calls Tryd.prog 3 #[sv m, tv d0 d1 d2] w (RetV (.bool true) w) := by
  by_cases c : F6 m
  · exact spreadOn_ok m _ (hin (rawn m)) (lon (rawn m)) d0 d1 d2 _ hm (f6b_yes c) (fun k _ => ⟨rfl, rfl⟩) (fun w h k => on_spr m d0 d1 d2 hm hd0 hd1 hd2 w h k) (fun w k => on_dref m d0 d1 d2 hm hd0 hd1 hd2 w k) (fun w h k => raw_ok m hm c w h k) w hl hp
  · exact spreadOn_bad m _ d0 d1 d2 _ hm (f6b_no c) trivial (fun w h k => on_spr m d0 d1 d2 hm hd0 hd1 hd2 w h k) (fun w k => on_dref m d0 d1 d2 hm hd0 hd1 hd2 w k) (fun w h k => raw_bad m hm c w h k) w hl hp
end Go.Proofs.YtlpmmnfijfljoaaDoor

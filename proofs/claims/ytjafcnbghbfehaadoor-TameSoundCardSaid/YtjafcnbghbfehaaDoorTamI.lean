/- TameSound, TameStays: what the laws' calls answer: true, for every matrix and every two rows. -/
import Derived.Test.YtjafcnbghbfehaaDoorTamG
import Derived.Deep.QuietTactic
import Derived.BigQuiet
import Derived.Lib.SmallJoins
namespace Go.Proofs.YtjafcnbghbfehaaDoor
open Go.RowKit Go.Shelf Go.Joins

/-- A number from 0 to 2^58. -/
def c58 (d : Int) : Int := if (if 288230376151711744 < d then 288230376151711744 else d) < 0 then 0 else (if 288230376151711744 < d then 288230376151711744 else d)
theorem c58_bd (d : Int) : 0 ≤ c58 d ∧ c58 d ≤ 288230376151711744 := by
  unfold c58
  by_cases a : 288230376151711744 < d
  · rw [if_pos a]; decide
  · rw [if_neg a]
    by_cases b : d < 0
    · rw [if_pos b]; decide
    · rw [if_neg b]; omega
def lo58 (a b : Int) : Int := if c58 b < c58 a then c58 b else c58 a
def hi58 (a b : Int) : Int := if c58 a < c58 b then c58 b else c58 a
theorem fb58 (a b : Int) : FB (lo58 a b) (hi58 a b) := by
  have ha := c58_bd a
  have hb := c58_bd b
  unfold lo58 hi58
  by_cases k : c58 b < c58 a
  · rw [if_pos k, if_neg (by omega)]; omega
  · rw [if_neg k]
    by_cases q : c58 a < c58 b
    · rw [if_pos q]; omega
    · rw [if_neg q]; omega
theorem lbetween_any (a0 a1 a2 b0 b1 b2 : Int) (w : World) :
    Calls Tryd.prog 12 #[tv a0 a1 a2, tv b0 b1 b2] w (RetV (.tuple #[tv (lo58 a0 b0) (lo58 a1 b1) (lo58 a2 b2), tv (hi58 a0 b0) (hi58 a1 b1) (hi58 a2 b2)]) w) :=
  lbetween_go a0 a1 a2 b0 b1 b2 _ _ _ (c58 a0) (c58 a1) (c58 a2) _ _ _ (c58 b0) (c58 b1) (c58 b2) _ _ _ _ _ _ rfl rfl rfl rfl rfl rfl rfl rfl rfl rfl rfl rfl rfl rfl rfl rfl rfl rfl w

/-- What the laws keep: the matrix, the floor, the ceiling, the table. -/
structure QM (W : World) (F C : Nat) (m : Nat → Int) (f0 f1 f2 c0 c1 c2 : Int) (U : World) : Prop where
  b : Below W.heap.size W U
  ka : SC U W.heap.size m
  kf : TC U F f0 f1 f2
  kc : TC U C c0 c1 c2
  pl : PL U
theorem qm_keep {W U U' : World} {F C : Nat} {m : Nat → Int} {f0 f1 f2 c0 c1 c2 : Int} (h : QM W F C m f0 f1 f2 c0 c1 c2 U) (hb : Below U.heap.size U U') : QM W F C m f0 f1 f2 c0 c1 c2 U' :=
  ⟨b_trans h.b hb, sc_keep hb h.ka, tc_keep hb h.kf, tc_keep hb h.kc, pl_keep hb h.pl⟩

set_option maxHeartbeats 8000000 in
set_option maxRecDepth 10000 in
theorem tameSound_go (m x : Nat → Int) (a0 a1 a2 b0 b1 b2 f0 f1 f2 c0 c1 c2 : Int)
    (cL : ∀ w, Calls Tryd.prog 12 #[tv a0 a1 a2, tv b0 b1 b2] w (RetV (.tuple #[tv f0 f1 f2, tv c0 c1 c2]) w))
    (cT : ∀ w, PL w → Calls Tryd.prog 6 #[sv m, tv f0 f1 f2, tv c0 c1 c2] w (RetV (.tuple #[sv x, .int .i64 0]) w))
    (cU : ∀ w, PL w → Calls Tryd.prog 6 #[sv x, tv f0 f1 f2, tv c0 c1 c2] w (RetV (.tuple #[sv x, .int .i64 0]) w))
    (cS : ∀ w, PL w → Calls Tryd.prog 14 #[sv x, tv f0 f1 f2] w (RetV (.bool true) w))
    (cI : ∀ w, PL w → Calls Tryd.prog 11 #[sv x, tv f0 f1 f2, tv c0 c1 c2] w (RetV (.bool true) w))
    (hxx : Hid (∀ w, (Op.equalIn 10000 23 (sv x) (sv x)).run Tryd.prog w = .ok true w))
    (H0 : Hid (decide (c0 < x 0) = false ∧ decide (x 0 < f0) = false))
    (H1 : Hid (decide (c1 < x 3) = false ∧ decide (x 3 < f1) = false))
    (H2 : Hid (decide (c2 < x 5) = false ∧ decide (x 5 < f2) = false)) (w : World) (hp : PL w) :
    Calls Tryd.prog 4 #[sv m, tv a0 a1 a2, tv b0 b1 b2] w (RetV (.bool true) w) := by
  have kA : SC (((w.alloc (Obj.cells #[.int .i64 (m 0), .int .i64 (m 1), .int .i64 (m 2), .int .i64 (m 3), .int .i64 (m 4), .int .i64 (m 5)] 23)).alloc (Obj.cells #[.int .i64 a0, .int .i64 a1, .int .i64 a2] 25)).alloc (Obj.cells #[.int .i64 b0, .int .i64 b1, .int .i64 b2] 25)) w.heap.size m := sc_alloc (sc_alloc (sc_new (m := m) rfl))
  have la := (tc_alloc (tc_new (w := (w.alloc (Obj.cells #[.int .i64 (m 0), .int .i64 (m 1), .int .i64 (m 2), .int .i64 (m 3), .int .i64 (m 4), .int .i64 (m 5)] 23))) (x := a0) (y := a1) (z := a2) (t := 25) (by simp)) : TC (((w.alloc (Obj.cells #[.int .i64 (m 0), .int .i64 (m 1), .int .i64 (m 2), .int .i64 (m 3), .int .i64 (m 4), .int .i64 (m 5)] 23)).alloc (Obj.cells #[.int .i64 a0, .int .i64 a1, .int .i64 a2] 25)).alloc (Obj.cells #[.int .i64 b0, .int .i64 b1, .int .i64 b2] 25)) (w.heap.size + 1) a0 a1 a2)
  have lb : TC (((w.alloc (Obj.cells #[.int .i64 (m 0), .int .i64 (m 1), .int .i64 (m 2), .int .i64 (m 3), .int .i64 (m 4), .int .i64 (m 5)] 23)).alloc (Obj.cells #[.int .i64 a0, .int .i64 a1, .int .i64 a2] 25)).alloc (Obj.cells #[.int .i64 b0, .int .i64 b1, .int .i64 b2] 25)) (w.heap.size + 1 + 1) b0 b1 b2 := tc_new (by simp)
  have B : Below w.heap.size w (((w.alloc (Obj.cells #[.int .i64 (m 0), .int .i64 (m 1), .int .i64 (m 2), .int .i64 (m 3), .int .i64 (m 4), .int .i64 (m 5)] 23)).alloc (Obj.cells #[.int .i64 a0, .int .i64 a1, .int .i64 a2] 25)).alloc (Obj.cells #[.int .i64 b0, .int .i64 b1, .int .i64 b2] 25)) := b_alloc (b_alloc (b_alloc (Below.refl _ _)))
  replace hp := pl_keep B hp
  go_enter Tryd.func4, Tryd.ntmps4
  go_wp2_with fail
  generalize (((w.alloc (Obj.cells #[.int .i64 (m 0), .int .i64 (m 1), .int .i64 (m 2), .int .i64 (m 3), .int .i64 (m 4), .int .i64 (m 5)] 23)).alloc (Obj.cells #[.int .i64 a0, .int .i64 a1, .int .i64 a2] 25)).alloc (Obj.cells #[.int .i64 b0, .int .i64 b1, .int .i64 b2] 25)) = y0 at *
  refine (cL _).mono ?_
  rintro e1 y1 ⟨rfl, hb⟩
  replace kA := sc_keep hb kA
  replace hp := pl_keep hb hp
  replace B := b_trans B hb
  clear hb la lb cL
  have s : QM w y1.heap.size (y1.heap.size + 1) m f0 f1 f2 c0 c1 c2 ((y1.alloc (Obj.cells #[.int .i64 f0, .int .i64 f1, .int .i64 f2] 25)).alloc (Obj.cells #[.int .i64 c0, .int .i64 c1, .int .i64 c2] 25)) := ⟨b_alloc (b_alloc B), sc_alloc (sc_alloc kA), tc_alloc (tc_new rfl), tc_new (by simp), pl_keep (b_alloc (b_alloc (Below.refl _ _))) hp⟩
  clear kA hp B
  have l6 := sc_six s.ka
  have lf := s.kf
  have lc := s.kc
  go_wp2_with fail
  generalize ((y1.alloc (Obj.cells #[.int .i64 f0, .int .i64 f1, .int .i64 f2] 25)).alloc (Obj.cells #[.int .i64 c0, .int .i64 c1, .int .i64 c2] 25)) = y2 at *
  generalize y1.heap.size = F at *
  refine (cT _ s.pl).mono ?_
  rintro e2 y3 ⟨rfl, hb⟩
  replace s := qm_keep s hb
  clear hb l6 lf lc cT
  have kX : SC (y3.alloc (Obj.cells #[.int .i64 (x 0), .int .i64 (x 1), .int .i64 (x 2), .int .i64 (x 3), .int .i64 (x 4), .int .i64 (x 5)] 23)) y3.heap.size x := sc_new (m := x) rfl
  replace s := qm_keep s (b_alloc (o := (Obj.cells #[.int .i64 (x 0), .int .i64 (x 1), .int .i64 (x 2), .int .i64 (x 3), .int .i64 (x 4), .int .i64 (x 5)] 23)) (Below.refl _ _))
  have l6 := sc_six kX
  have lf := s.kf
  have lc := s.kc
  go_wp2_with fail
  generalize y3.alloc (Obj.cells #[.int .i64 (x 0), .int .i64 (x 1), .int .i64 (x 2), .int .i64 (x 3), .int .i64 (x 4), .int .i64 (x 5)] 23) = y4 at *
  generalize y3.heap.size = X at *
  refine (cU _ s.pl).mono ?_
  rintro e3 y5 ⟨rfl, hb⟩
  replace s := qm_keep s hb
  replace kX := sc_keep hb kX
  clear hb l6 lf lc cU
  have kY : SC (y5.alloc (Obj.cells #[.int .i64 (x 0), .int .i64 (x 1), .int .i64 (x 2), .int .i64 (x 3), .int .i64 (x 4), .int .i64 (x 5)] 23)) y5.heap.size x := sc_new (m := x) rfl
  replace s := qm_keep s (b_alloc (o := (Obj.cells #[.int .i64 (x 0), .int .i64 (x 1), .int .i64 (x 2), .int .i64 (x 3), .int .i64 (x 4), .int .i64 (x 5)] 23)) (Below.refl _ _))
  replace kX := sc_alloc (o := (Obj.cells #[.int .i64 (x 0), .int .i64 (x 1), .int .i64 (x 2), .int .i64 (x 3), .int .i64 (x 4), .int .i64 (x 5)] 23)) kX
  have l6 := sc_six kX
  go_wp2_with fail
  generalize y5.alloc (Obj.cells #[.int .i64 (x 0), .int .i64 (x 1), .int .i64 (x 2), .int .i64 (x 3), .int .i64 (x 4), .int .i64 (x 5)] 23) = y6 at *
  generalize y5.heap.size = Y at *
  refine (main_any x _ s.pl).mono ?_
  rintro e4 y7 ⟨rfl, hb⟩
  replace s := qm_keep s hb
  replace kX := sc_keep hb kX
  replace kY := sc_keep hb kY
  clear hb l6
  have kD : TC (y7.alloc (Obj.cells #[.int .i64 (x 0), .int .i64 (x 3), .int .i64 (x 5)] 25)) y7.heap.size (x 0) (x 3) (x 5) := tc_new rfl
  replace s := qm_keep s (b_alloc (o := (Obj.cells #[.int .i64 (x 0), .int .i64 (x 3), .int .i64 (x 5)] 25)) (Below.refl _ _))
  replace kX := sc_alloc (o := (Obj.cells #[.int .i64 (x 0), .int .i64 (x 3), .int .i64 (x 5)] 25)) kX
  replace kY := sc_alloc (o := (Obj.cells #[.int .i64 (x 0), .int .i64 (x 3), .int .i64 (x 5)] 25)) kY
  go_wp2
  generalize y7.alloc (Obj.cells #[.int .i64 (x 0), .int .i64 (x 3), .int .i64 (x 5)] 25) = z0 at *
  generalize y7.heap.size = D at *
  refine wp_loop_rounds 4 ?_
  rw [rounds_succ]
  have lf := s.kf
  have lc := s.kc
  have g0 := H0.out.1
  have l0 := H0.out.2
  go_wp2
  go_quiet (fail)
  clear lf lc g0 l0 H0
  replace s := qm_keep s (below_draws _ _ nq)
  replace kD := tc_keep (below_draws _ _ nq) kD
  replace kX := sc_keep (below_draws _ _ nq) kX
  replace kY := sc_keep (below_draws _ _ nq) kY
  generalize z0.drewN nq = z1 at *
  go_wp2
  rw [rounds_succ]
  have lf := s.kf
  have lc := s.kc
  have g1 := H1.out.1
  have l1 := H1.out.2
  go_wp2
  go_quiet (fail)
  clear lf lc g1 l1 H1
  replace s := qm_keep s (below_draws _ _ nq)
  replace kD := tc_keep (below_draws _ _ nq) kD
  replace kX := sc_keep (below_draws _ _ nq) kX
  replace kY := sc_keep (below_draws _ _ nq) kY
  generalize z1.drewN nq = z2 at *
  go_wp2
  rw [rounds_succ]
  have lf := s.kf
  have lc := s.kc
  have g2 := H2.out.1
  have l2 := H2.out.2
  go_wp2
  go_quiet (fail)
  clear lf lc g2 l2 H2
  replace s := qm_keep s (below_draws _ _ nq)
  replace kD := tc_keep (below_draws _ _ nq) kD
  replace kX := sc_keep (below_draws _ _ nq) kX
  replace kY := sc_keep (below_draws _ _ nq) kY
  generalize z2.drewN nq = z3 at *
  go_wp2
  rw [rounds_succ]
  clear kD
  go_wp2_with fail
  refine (fixed_tam _ s.pl).mono ?_
  rintro e5 v1 ⟨rfl, hb⟩
  replace s := qm_keep s hb
  replace kX := sc_keep hb kX
  replace kY := sc_keep hb kY
  clear hb
  have l6 := sc_six kX
  have j6 := sc_six kY
  have lf := s.kf
  have lc := s.kc
  have hse := hxx.out
  go_wp2_with fail
  refine (cS _ s.pl).mono ?_
  rintro e6 v2 ⟨rfl, hb⟩
  replace s := qm_keep s hb
  replace kX := sc_keep hb kX
  clear hb l6 j6 lf lc cS hse
  have l6 := sc_six kX
  have lf := s.kf
  have lc := s.kc
  go_wp2_with fail
  refine (cI _ s.pl).mono ?_
  rintro e7 v3 ⟨rfl, hb⟩
  replace s := qm_keep s hb
  have B9 := s.b
  clear hb l6 lf lc cI s kX
  go_wp2
  go_ret
  exact ⟨rfl, B9⟩

set_option maxHeartbeats 8000000 in
set_option maxRecDepth 10000 in
theorem tameStays_0 (m : Nat → Int) (a0 a1 a2 b0 b1 b2 f0 f1 f2 c0 c1 c2 : Int)
    (cL : ∀ w, Calls Tryd.prog 12 #[tv a0 a1 a2, tv b0 b1 b2] w (RetV (.tuple #[tv f0 f1 f2, tv c0 c1 c2]) w))
    (cI : ∀ w, PL w → Calls Tryd.prog 11 #[sv m, tv f0 f1 f2, tv c0 c1 c2] w (RetV (.bool false) w))
    (H0 : Hid (decide (m 0 ≤ c0) = false)) (w : World) (hp : PL w) :
    Calls Tryd.prog 5 #[sv m, tv a0 a1 a2, tv b0 b1 b2] w (RetV (.bool true) w) := by
  have kA : SC (((w.alloc (Obj.cells #[.int .i64 (m 0), .int .i64 (m 1), .int .i64 (m 2), .int .i64 (m 3), .int .i64 (m 4), .int .i64 (m 5)] 23)).alloc (Obj.cells #[.int .i64 a0, .int .i64 a1, .int .i64 a2] 25)).alloc (Obj.cells #[.int .i64 b0, .int .i64 b1, .int .i64 b2] 25)) w.heap.size m := sc_alloc (sc_alloc (sc_new (m := m) rfl))
  have la := (tc_alloc (tc_new (w := (w.alloc (Obj.cells #[.int .i64 (m 0), .int .i64 (m 1), .int .i64 (m 2), .int .i64 (m 3), .int .i64 (m 4), .int .i64 (m 5)] 23))) (x := a0) (y := a1) (z := a2) (t := 25) (by simp)) : TC (((w.alloc (Obj.cells #[.int .i64 (m 0), .int .i64 (m 1), .int .i64 (m 2), .int .i64 (m 3), .int .i64 (m 4), .int .i64 (m 5)] 23)).alloc (Obj.cells #[.int .i64 a0, .int .i64 a1, .int .i64 a2] 25)).alloc (Obj.cells #[.int .i64 b0, .int .i64 b1, .int .i64 b2] 25)) (w.heap.size + 1) a0 a1 a2)
  have lb : TC (((w.alloc (Obj.cells #[.int .i64 (m 0), .int .i64 (m 1), .int .i64 (m 2), .int .i64 (m 3), .int .i64 (m 4), .int .i64 (m 5)] 23)).alloc (Obj.cells #[.int .i64 a0, .int .i64 a1, .int .i64 a2] 25)).alloc (Obj.cells #[.int .i64 b0, .int .i64 b1, .int .i64 b2] 25)) (w.heap.size + 1 + 1) b0 b1 b2 := tc_new (by simp)
  have B : Below w.heap.size w (((w.alloc (Obj.cells #[.int .i64 (m 0), .int .i64 (m 1), .int .i64 (m 2), .int .i64 (m 3), .int .i64 (m 4), .int .i64 (m 5)] 23)).alloc (Obj.cells #[.int .i64 a0, .int .i64 a1, .int .i64 a2] 25)).alloc (Obj.cells #[.int .i64 b0, .int .i64 b1, .int .i64 b2] 25)) := b_alloc (b_alloc (b_alloc (Below.refl _ _)))
  replace hp := pl_keep B hp
  go_enter Tryd.func5, Tryd.ntmps5
  go_wp2_with fail
  generalize (((w.alloc (Obj.cells #[.int .i64 (m 0), .int .i64 (m 1), .int .i64 (m 2), .int .i64 (m 3), .int .i64 (m 4), .int .i64 (m 5)] 23)).alloc (Obj.cells #[.int .i64 a0, .int .i64 a1, .int .i64 a2] 25)).alloc (Obj.cells #[.int .i64 b0, .int .i64 b1, .int .i64 b2] 25)) = y0 at *
  refine (cL _).mono ?_
  rintro e1 y1 ⟨rfl, hb⟩
  replace kA := sc_keep hb kA
  replace hp := pl_keep hb hp
  replace B := b_trans B hb
  clear hb la lb cL
  have s : QM w y1.heap.size (y1.heap.size + 1) m f0 f1 f2 c0 c1 c2 ((y1.alloc (Obj.cells #[.int .i64 f0, .int .i64 f1, .int .i64 f2] 25)).alloc (Obj.cells #[.int .i64 c0, .int .i64 c1, .int .i64 c2] 25)) := ⟨b_alloc (b_alloc B), sc_alloc (sc_alloc kA), tc_alloc (tc_new rfl), tc_new (by simp), pl_keep (b_alloc (b_alloc (Below.refl _ _))) hp⟩
  clear kA hp B
  have l6 := sc_six s.ka
  go_wp2_with fail
  generalize ((y1.alloc (Obj.cells #[.int .i64 f0, .int .i64 f1, .int .i64 f2] 25)).alloc (Obj.cells #[.int .i64 c0, .int .i64 c1, .int .i64 c2] 25)) = y2 at *
  generalize y1.heap.size = F at *
  refine (main_any m _ s.pl).mono ?_
  rintro e4 y7 ⟨rfl, hb⟩
  replace s := qm_keep s hb
  clear hb l6
  have kD : TC (y7.alloc (Obj.cells #[.int .i64 (m 0), .int .i64 (m 3), .int .i64 (m 5)] 25)) y7.heap.size (m 0) (m 3) (m 5) := tc_new rfl
  replace s := qm_keep s (b_alloc (o := (Obj.cells #[.int .i64 (m 0), .int .i64 (m 3), .int .i64 (m 5)] 25)) (Below.refl _ _))
  go_wp2
  generalize y7.alloc (Obj.cells #[.int .i64 (m 0), .int .i64 (m 3), .int .i64 (m 5)] 25) = z0 at *
  generalize y7.heap.size = D at *
  refine wp_loop_rounds 4 ?_
  rw [rounds_succ]
  have lc := s.kc
  have g0 := H0.out
  go_wp2
  go_quiet (fail)
  clear lc g0 H0
  replace s := qm_keep s (below_draws _ _ nq)
  replace kD := tc_keep (below_draws _ _ nq) kD
  generalize z0.drewN nq = z1 at *
  go_wp2
  rw [rounds_succ]
  go_wp2
  go_quiet (fail)
  replace s := qm_keep s (below_draws _ _ nq)
  replace kD := tc_keep (below_draws _ _ nq) kD
  generalize z1.drewN nq = z2 at *
  go_wp2
  rw [rounds_succ]
  go_wp2
  go_quiet (fail)
  replace s := qm_keep s (below_draws _ _ nq)
  replace kD := tc_keep (below_draws _ _ nq) kD
  generalize z2.drewN nq = z3 at *
  go_wp2
  rw [rounds_succ]
  clear kD
  go_wp2_with fail
  refine (fixed_tam _ s.pl).mono ?_
  rintro e5 v1 ⟨rfl, hb⟩
  replace s := qm_keep s hb
  clear hb
  have l6 := sc_six s.ka
  have lf := s.kf
  have lc := s.kc
  go_wp2_with fail
  refine (cI _ s.pl).mono ?_
  rintro e7 v3 ⟨rfl, hb⟩
  replace s := qm_keep s hb
  clear hb l6 lf lc cI
  have B9 := s.b
  clear s
  go_wp2
  go_ret
  exact ⟨rfl, B9⟩

set_option maxHeartbeats 8000000 in
set_option maxRecDepth 10000 in
theorem tameStays_1 (m : Nat → Int) (a0 a1 a2 b0 b1 b2 f0 f1 f2 c0 c1 c2 : Int)
    (cL : ∀ w, Calls Tryd.prog 12 #[tv a0 a1 a2, tv b0 b1 b2] w (RetV (.tuple #[tv f0 f1 f2, tv c0 c1 c2]) w))
    (cI : ∀ w, PL w → Calls Tryd.prog 11 #[sv m, tv f0 f1 f2, tv c0 c1 c2] w (RetV (.bool false) w))
    (H0 : Hid (decide (m 0 ≤ c0) = true))
    (H1 : Hid (decide (m 3 ≤ c1) = false)) (w : World) (hp : PL w) :
    Calls Tryd.prog 5 #[sv m, tv a0 a1 a2, tv b0 b1 b2] w (RetV (.bool true) w) := by
  have kA : SC (((w.alloc (Obj.cells #[.int .i64 (m 0), .int .i64 (m 1), .int .i64 (m 2), .int .i64 (m 3), .int .i64 (m 4), .int .i64 (m 5)] 23)).alloc (Obj.cells #[.int .i64 a0, .int .i64 a1, .int .i64 a2] 25)).alloc (Obj.cells #[.int .i64 b0, .int .i64 b1, .int .i64 b2] 25)) w.heap.size m := sc_alloc (sc_alloc (sc_new (m := m) rfl))
  have la := (tc_alloc (tc_new (w := (w.alloc (Obj.cells #[.int .i64 (m 0), .int .i64 (m 1), .int .i64 (m 2), .int .i64 (m 3), .int .i64 (m 4), .int .i64 (m 5)] 23))) (x := a0) (y := a1) (z := a2) (t := 25) (by simp)) : TC (((w.alloc (Obj.cells #[.int .i64 (m 0), .int .i64 (m 1), .int .i64 (m 2), .int .i64 (m 3), .int .i64 (m 4), .int .i64 (m 5)] 23)).alloc (Obj.cells #[.int .i64 a0, .int .i64 a1, .int .i64 a2] 25)).alloc (Obj.cells #[.int .i64 b0, .int .i64 b1, .int .i64 b2] 25)) (w.heap.size + 1) a0 a1 a2)
  have lb : TC (((w.alloc (Obj.cells #[.int .i64 (m 0), .int .i64 (m 1), .int .i64 (m 2), .int .i64 (m 3), .int .i64 (m 4), .int .i64 (m 5)] 23)).alloc (Obj.cells #[.int .i64 a0, .int .i64 a1, .int .i64 a2] 25)).alloc (Obj.cells #[.int .i64 b0, .int .i64 b1, .int .i64 b2] 25)) (w.heap.size + 1 + 1) b0 b1 b2 := tc_new (by simp)
  have B : Below w.heap.size w (((w.alloc (Obj.cells #[.int .i64 (m 0), .int .i64 (m 1), .int .i64 (m 2), .int .i64 (m 3), .int .i64 (m 4), .int .i64 (m 5)] 23)).alloc (Obj.cells #[.int .i64 a0, .int .i64 a1, .int .i64 a2] 25)).alloc (Obj.cells #[.int .i64 b0, .int .i64 b1, .int .i64 b2] 25)) := b_alloc (b_alloc (b_alloc (Below.refl _ _)))
  replace hp := pl_keep B hp
  go_enter Tryd.func5, Tryd.ntmps5
  go_wp2_with fail
  generalize (((w.alloc (Obj.cells #[.int .i64 (m 0), .int .i64 (m 1), .int .i64 (m 2), .int .i64 (m 3), .int .i64 (m 4), .int .i64 (m 5)] 23)).alloc (Obj.cells #[.int .i64 a0, .int .i64 a1, .int .i64 a2] 25)).alloc (Obj.cells #[.int .i64 b0, .int .i64 b1, .int .i64 b2] 25)) = y0 at *
  refine (cL _).mono ?_
  rintro e1 y1 ⟨rfl, hb⟩
  replace kA := sc_keep hb kA
  replace hp := pl_keep hb hp
  replace B := b_trans B hb
  clear hb la lb cL
  have s : QM w y1.heap.size (y1.heap.size + 1) m f0 f1 f2 c0 c1 c2 ((y1.alloc (Obj.cells #[.int .i64 f0, .int .i64 f1, .int .i64 f2] 25)).alloc (Obj.cells #[.int .i64 c0, .int .i64 c1, .int .i64 c2] 25)) := ⟨b_alloc (b_alloc B), sc_alloc (sc_alloc kA), tc_alloc (tc_new rfl), tc_new (by simp), pl_keep (b_alloc (b_alloc (Below.refl _ _))) hp⟩
  clear kA hp B
  have l6 := sc_six s.ka
  go_wp2_with fail
  generalize ((y1.alloc (Obj.cells #[.int .i64 f0, .int .i64 f1, .int .i64 f2] 25)).alloc (Obj.cells #[.int .i64 c0, .int .i64 c1, .int .i64 c2] 25)) = y2 at *
  generalize y1.heap.size = F at *
  refine (main_any m _ s.pl).mono ?_
  rintro e4 y7 ⟨rfl, hb⟩
  replace s := qm_keep s hb
  clear hb l6
  have kD : TC (y7.alloc (Obj.cells #[.int .i64 (m 0), .int .i64 (m 3), .int .i64 (m 5)] 25)) y7.heap.size (m 0) (m 3) (m 5) := tc_new rfl
  replace s := qm_keep s (b_alloc (o := (Obj.cells #[.int .i64 (m 0), .int .i64 (m 3), .int .i64 (m 5)] 25)) (Below.refl _ _))
  go_wp2
  generalize y7.alloc (Obj.cells #[.int .i64 (m 0), .int .i64 (m 3), .int .i64 (m 5)] 25) = z0 at *
  generalize y7.heap.size = D at *
  refine wp_loop_rounds 4 ?_
  rw [rounds_succ]
  have lc := s.kc
  have g0 := H0.out
  go_wp2
  go_quiet (fail)
  clear lc g0 H0
  replace s := qm_keep s (below_draws _ _ nq)
  replace kD := tc_keep (below_draws _ _ nq) kD
  generalize z0.drewN nq = z1 at *
  go_wp2
  rw [rounds_succ]
  have lc := s.kc
  have g1 := H1.out
  go_wp2
  go_quiet (fail)
  clear lc g1 H1
  replace s := qm_keep s (below_draws _ _ nq)
  replace kD := tc_keep (below_draws _ _ nq) kD
  generalize z1.drewN nq = z2 at *
  go_wp2
  rw [rounds_succ]
  go_wp2
  go_quiet (fail)
  replace s := qm_keep s (below_draws _ _ nq)
  replace kD := tc_keep (below_draws _ _ nq) kD
  generalize z2.drewN nq = z3 at *
  go_wp2
  rw [rounds_succ]
  clear kD
  go_wp2_with fail
  refine (fixed_tam _ s.pl).mono ?_
  rintro e5 v1 ⟨rfl, hb⟩
  replace s := qm_keep s hb
  clear hb
  have l6 := sc_six s.ka
  have lf := s.kf
  have lc := s.kc
  go_wp2_with fail
  refine (cI _ s.pl).mono ?_
  rintro e7 v3 ⟨rfl, hb⟩
  replace s := qm_keep s hb
  clear hb l6 lf lc cI
  have B9 := s.b
  clear s
  go_wp2
  go_ret
  exact ⟨rfl, B9⟩

set_option maxHeartbeats 8000000 in
set_option maxRecDepth 10000 in
theorem tameStays_2 (m : Nat → Int) (a0 a1 a2 b0 b1 b2 f0 f1 f2 c0 c1 c2 : Int)
    (cL : ∀ w, Calls Tryd.prog 12 #[tv a0 a1 a2, tv b0 b1 b2] w (RetV (.tuple #[tv f0 f1 f2, tv c0 c1 c2]) w))
    (cI : ∀ w, PL w → Calls Tryd.prog 11 #[sv m, tv f0 f1 f2, tv c0 c1 c2] w (RetV (.bool false) w))
    (H0 : Hid (decide (m 0 ≤ c0) = true))
    (H1 : Hid (decide (m 3 ≤ c1) = true))
    (H2 : Hid (decide (m 5 ≤ c2) = false)) (w : World) (hp : PL w) :
    Calls Tryd.prog 5 #[sv m, tv a0 a1 a2, tv b0 b1 b2] w (RetV (.bool true) w) := by
  have kA : SC (((w.alloc (Obj.cells #[.int .i64 (m 0), .int .i64 (m 1), .int .i64 (m 2), .int .i64 (m 3), .int .i64 (m 4), .int .i64 (m 5)] 23)).alloc (Obj.cells #[.int .i64 a0, .int .i64 a1, .int .i64 a2] 25)).alloc (Obj.cells #[.int .i64 b0, .int .i64 b1, .int .i64 b2] 25)) w.heap.size m := sc_alloc (sc_alloc (sc_new (m := m) rfl))
  have la := (tc_alloc (tc_new (w := (w.alloc (Obj.cells #[.int .i64 (m 0), .int .i64 (m 1), .int .i64 (m 2), .int .i64 (m 3), .int .i64 (m 4), .int .i64 (m 5)] 23))) (x := a0) (y := a1) (z := a2) (t := 25) (by simp)) : TC (((w.alloc (Obj.cells #[.int .i64 (m 0), .int .i64 (m 1), .int .i64 (m 2), .int .i64 (m 3), .int .i64 (m 4), .int .i64 (m 5)] 23)).alloc (Obj.cells #[.int .i64 a0, .int .i64 a1, .int .i64 a2] 25)).alloc (Obj.cells #[.int .i64 b0, .int .i64 b1, .int .i64 b2] 25)) (w.heap.size + 1) a0 a1 a2)
  have lb : TC (((w.alloc (Obj.cells #[.int .i64 (m 0), .int .i64 (m 1), .int .i64 (m 2), .int .i64 (m 3), .int .i64 (m 4), .int .i64 (m 5)] 23)).alloc (Obj.cells #[.int .i64 a0, .int .i64 a1, .int .i64 a2] 25)).alloc (Obj.cells #[.int .i64 b0, .int .i64 b1, .int .i64 b2] 25)) (w.heap.size + 1 + 1) b0 b1 b2 := tc_new (by simp)
  have B : Below w.heap.size w (((w.alloc (Obj.cells #[.int .i64 (m 0), .int .i64 (m 1), .int .i64 (m 2), .int .i64 (m 3), .int .i64 (m 4), .int .i64 (m 5)] 23)).alloc (Obj.cells #[.int .i64 a0, .int .i64 a1, .int .i64 a2] 25)).alloc (Obj.cells #[.int .i64 b0, .int .i64 b1, .int .i64 b2] 25)) := b_alloc (b_alloc (b_alloc (Below.refl _ _)))
  replace hp := pl_keep B hp
  go_enter Tryd.func5, Tryd.ntmps5
  go_wp2_with fail
  generalize (((w.alloc (Obj.cells #[.int .i64 (m 0), .int .i64 (m 1), .int .i64 (m 2), .int .i64 (m 3), .int .i64 (m 4), .int .i64 (m 5)] 23)).alloc (Obj.cells #[.int .i64 a0, .int .i64 a1, .int .i64 a2] 25)).alloc (Obj.cells #[.int .i64 b0, .int .i64 b1, .int .i64 b2] 25)) = y0 at *
  refine (cL _).mono ?_
  rintro e1 y1 ⟨rfl, hb⟩
  replace kA := sc_keep hb kA
  replace hp := pl_keep hb hp
  replace B := b_trans B hb
  clear hb la lb cL
  have s : QM w y1.heap.size (y1.heap.size + 1) m f0 f1 f2 c0 c1 c2 ((y1.alloc (Obj.cells #[.int .i64 f0, .int .i64 f1, .int .i64 f2] 25)).alloc (Obj.cells #[.int .i64 c0, .int .i64 c1, .int .i64 c2] 25)) := ⟨b_alloc (b_alloc B), sc_alloc (sc_alloc kA), tc_alloc (tc_new rfl), tc_new (by simp), pl_keep (b_alloc (b_alloc (Below.refl _ _))) hp⟩
  clear kA hp B
  have l6 := sc_six s.ka
  go_wp2_with fail
  generalize ((y1.alloc (Obj.cells #[.int .i64 f0, .int .i64 f1, .int .i64 f2] 25)).alloc (Obj.cells #[.int .i64 c0, .int .i64 c1, .int .i64 c2] 25)) = y2 at *
  generalize y1.heap.size = F at *
  refine (main_any m _ s.pl).mono ?_
  rintro e4 y7 ⟨rfl, hb⟩
  replace s := qm_keep s hb
  clear hb l6
  have kD : TC (y7.alloc (Obj.cells #[.int .i64 (m 0), .int .i64 (m 3), .int .i64 (m 5)] 25)) y7.heap.size (m 0) (m 3) (m 5) := tc_new rfl
  replace s := qm_keep s (b_alloc (o := (Obj.cells #[.int .i64 (m 0), .int .i64 (m 3), .int .i64 (m 5)] 25)) (Below.refl _ _))
  go_wp2
  generalize y7.alloc (Obj.cells #[.int .i64 (m 0), .int .i64 (m 3), .int .i64 (m 5)] 25) = z0 at *
  generalize y7.heap.size = D at *
  refine wp_loop_rounds 4 ?_
  rw [rounds_succ]
  have lc := s.kc
  have g0 := H0.out
  go_wp2
  go_quiet (fail)
  clear lc g0 H0
  replace s := qm_keep s (below_draws _ _ nq)
  replace kD := tc_keep (below_draws _ _ nq) kD
  generalize z0.drewN nq = z1 at *
  go_wp2
  rw [rounds_succ]
  have lc := s.kc
  have g1 := H1.out
  go_wp2
  go_quiet (fail)
  clear lc g1 H1
  replace s := qm_keep s (below_draws _ _ nq)
  replace kD := tc_keep (below_draws _ _ nq) kD
  generalize z1.drewN nq = z2 at *
  go_wp2
  rw [rounds_succ]
  have lc := s.kc
  have g2 := H2.out
  go_wp2
  go_quiet (fail)
  clear lc g2 H2
  replace s := qm_keep s (below_draws _ _ nq)
  replace kD := tc_keep (below_draws _ _ nq) kD
  generalize z2.drewN nq = z3 at *
  go_wp2
  rw [rounds_succ]
  clear kD
  go_wp2_with fail
  refine (fixed_tam _ s.pl).mono ?_
  rintro e5 v1 ⟨rfl, hb⟩
  replace s := qm_keep s hb
  clear hb
  have l6 := sc_six s.ka
  have lf := s.kf
  have lc := s.kc
  go_wp2_with fail
  refine (cI _ s.pl).mono ?_
  rintro e7 v3 ⟨rfl, hb⟩
  replace s := qm_keep s hb
  clear hb l6 lf lc cI
  have B9 := s.b
  clear s
  go_wp2
  go_ret
  exact ⟨rfl, B9⟩

set_option maxHeartbeats 8000000 in
set_option maxRecDepth 10000 in
theorem tameStays_3 (m : Nat → Int) (a0 a1 a2 b0 b1 b2 f0 f1 f2 c0 c1 c2 : Int) (g : Bool)
    (cL : ∀ w, Calls Tryd.prog 12 #[tv a0 a1 a2, tv b0 b1 b2] w (RetV (.tuple #[tv f0 f1 f2, tv c0 c1 c2]) w))
    (cI : ∀ w, PL w → Calls Tryd.prog 11 #[sv m, tv f0 f1 f2, tv c0 c1 c2] w (RetV (.bool g) w))
    (cS : ∀ w, PL w → Calls Tryd.prog 14 #[sv m, tv f0 f1 f2] w (RetV (.bool g) w))
    (H0 : Hid (decide (m 0 ≤ c0) = true))
    (H1 : Hid (decide (m 3 ≤ c1) = true))
    (H2 : Hid (decide (m 5 ≤ c2) = true)) (w : World) (hp : PL w) :
    Calls Tryd.prog 5 #[sv m, tv a0 a1 a2, tv b0 b1 b2] w (RetV (.bool true) w) := by
  have kA : SC (((w.alloc (Obj.cells #[.int .i64 (m 0), .int .i64 (m 1), .int .i64 (m 2), .int .i64 (m 3), .int .i64 (m 4), .int .i64 (m 5)] 23)).alloc (Obj.cells #[.int .i64 a0, .int .i64 a1, .int .i64 a2] 25)).alloc (Obj.cells #[.int .i64 b0, .int .i64 b1, .int .i64 b2] 25)) w.heap.size m := sc_alloc (sc_alloc (sc_new (m := m) rfl))
  have la := (tc_alloc (tc_new (w := (w.alloc (Obj.cells #[.int .i64 (m 0), .int .i64 (m 1), .int .i64 (m 2), .int .i64 (m 3), .int .i64 (m 4), .int .i64 (m 5)] 23))) (x := a0) (y := a1) (z := a2) (t := 25) (by simp)) : TC (((w.alloc (Obj.cells #[.int .i64 (m 0), .int .i64 (m 1), .int .i64 (m 2), .int .i64 (m 3), .int .i64 (m 4), .int .i64 (m 5)] 23)).alloc (Obj.cells #[.int .i64 a0, .int .i64 a1, .int .i64 a2] 25)).alloc (Obj.cells #[.int .i64 b0, .int .i64 b1, .int .i64 b2] 25)) (w.heap.size + 1) a0 a1 a2)
  have lb : TC (((w.alloc (Obj.cells #[.int .i64 (m 0), .int .i64 (m 1), .int .i64 (m 2), .int .i64 (m 3), .int .i64 (m 4), .int .i64 (m 5)] 23)).alloc (Obj.cells #[.int .i64 a0, .int .i64 a1, .int .i64 a2] 25)).alloc (Obj.cells #[.int .i64 b0, .int .i64 b1, .int .i64 b2] 25)) (w.heap.size + 1 + 1) b0 b1 b2 := tc_new (by simp)
  have B : Below w.heap.size w (((w.alloc (Obj.cells #[.int .i64 (m 0), .int .i64 (m 1), .int .i64 (m 2), .int .i64 (m 3), .int .i64 (m 4), .int .i64 (m 5)] 23)).alloc (Obj.cells #[.int .i64 a0, .int .i64 a1, .int .i64 a2] 25)).alloc (Obj.cells #[.int .i64 b0, .int .i64 b1, .int .i64 b2] 25)) := b_alloc (b_alloc (b_alloc (Below.refl _ _)))
  replace hp := pl_keep B hp
  go_enter Tryd.func5, Tryd.ntmps5
  go_wp2_with fail
  generalize (((w.alloc (Obj.cells #[.int .i64 (m 0), .int .i64 (m 1), .int .i64 (m 2), .int .i64 (m 3), .int .i64 (m 4), .int .i64 (m 5)] 23)).alloc (Obj.cells #[.int .i64 a0, .int .i64 a1, .int .i64 a2] 25)).alloc (Obj.cells #[.int .i64 b0, .int .i64 b1, .int .i64 b2] 25)) = y0 at *
  refine (cL _).mono ?_
  rintro e1 y1 ⟨rfl, hb⟩
  replace kA := sc_keep hb kA
  replace hp := pl_keep hb hp
  replace B := b_trans B hb
  clear hb la lb cL
  have s : QM w y1.heap.size (y1.heap.size + 1) m f0 f1 f2 c0 c1 c2 ((y1.alloc (Obj.cells #[.int .i64 f0, .int .i64 f1, .int .i64 f2] 25)).alloc (Obj.cells #[.int .i64 c0, .int .i64 c1, .int .i64 c2] 25)) := ⟨b_alloc (b_alloc B), sc_alloc (sc_alloc kA), tc_alloc (tc_new rfl), tc_new (by simp), pl_keep (b_alloc (b_alloc (Below.refl _ _))) hp⟩
  clear kA hp B
  have l6 := sc_six s.ka
  go_wp2_with fail
  generalize ((y1.alloc (Obj.cells #[.int .i64 f0, .int .i64 f1, .int .i64 f2] 25)).alloc (Obj.cells #[.int .i64 c0, .int .i64 c1, .int .i64 c2] 25)) = y2 at *
  generalize y1.heap.size = F at *
  refine (main_any m _ s.pl).mono ?_
  rintro e4 y7 ⟨rfl, hb⟩
  replace s := qm_keep s hb
  clear hb l6
  have kD : TC (y7.alloc (Obj.cells #[.int .i64 (m 0), .int .i64 (m 3), .int .i64 (m 5)] 25)) y7.heap.size (m 0) (m 3) (m 5) := tc_new rfl
  replace s := qm_keep s (b_alloc (o := (Obj.cells #[.int .i64 (m 0), .int .i64 (m 3), .int .i64 (m 5)] 25)) (Below.refl _ _))
  go_wp2
  generalize y7.alloc (Obj.cells #[.int .i64 (m 0), .int .i64 (m 3), .int .i64 (m 5)] 25) = z0 at *
  generalize y7.heap.size = D at *
  refine wp_loop_rounds 4 ?_
  rw [rounds_succ]
  have lc := s.kc
  have g0 := H0.out
  go_wp2
  go_quiet (fail)
  clear lc g0 H0
  replace s := qm_keep s (below_draws _ _ nq)
  replace kD := tc_keep (below_draws _ _ nq) kD
  generalize z0.drewN nq = z1 at *
  go_wp2
  rw [rounds_succ]
  have lc := s.kc
  have g1 := H1.out
  go_wp2
  go_quiet (fail)
  clear lc g1 H1
  replace s := qm_keep s (below_draws _ _ nq)
  replace kD := tc_keep (below_draws _ _ nq) kD
  generalize z1.drewN nq = z2 at *
  go_wp2
  rw [rounds_succ]
  have lc := s.kc
  have g2 := H2.out
  go_wp2
  go_quiet (fail)
  clear lc g2 H2
  replace s := qm_keep s (below_draws _ _ nq)
  replace kD := tc_keep (below_draws _ _ nq) kD
  generalize z2.drewN nq = z3 at *
  go_wp2
  rw [rounds_succ]
  clear kD
  go_wp2_with fail
  refine (fixed_tam _ s.pl).mono ?_
  rintro e5 v1 ⟨rfl, hb⟩
  replace s := qm_keep s hb
  clear hb
  have l6 := sc_six s.ka
  have lf := s.kf
  have lc := s.kc
  go_wp2_with fail
  refine (cI _ s.pl).mono ?_
  rintro e7 v3 ⟨rfl, hb⟩
  replace s := qm_keep s hb
  clear hb l6 lf lc cI
  have l6 := sc_six s.ka
  have lf := s.kf
  go_wp2_with fail
  refine (cS _ s.pl).mono ?_
  rintro e6 v2 ⟨rfl, hb⟩
  replace s := qm_keep s hb
  clear hb l6 lf cS
  have B9 := s.b
  clear s
  go_wp2
  go_ret
  exact ⟨by simp, B9⟩

theorem tameSound_any (m : Nat → Int) (a0 a1 a2 b0 b1 b2 : Int) (hm : I6 m) (w : World) (hp : PL w) :
    Calls Tryd.prog 4 #[sv m, tv a0 a1 a2, tv b0 b1 b2] w (RetV (.bool true) w) := by
  have h0 := fb58 a0 b0
  have h1 := fb58 a1 b1
  have h2 := fb58 a2 b2
  have cL := fun w => lbetween_any a0 a1 a2 b0 b1 b2 w
  generalize lo58 a0 b0 = f0 at *
  generalize lo58 a1 b1 = f1 at *
  generalize lo58 a2 b2 = f2 at *
  generalize hi58 a0 b0 = c0 at *
  generalize hi58 a1 b1 = c1 at *
  generalize hi58 a2 b2 = c2 at *
  obtain ⟨a, b, c, R⟩ := tr_some m h0 h1 h2
  have S := tmz_snd h0 h1 h2 R
  have G := tmz_again h0 h1 h2 R
  have R2 := tr_again h0 h1 h2 R
  have d0 := tdg_in (x := m 0) h0.2.1
  have d1 := tdg_in (x := m 3) h1.2.1
  have d2 := tdg_in (x := m 5) h2.2.1
  obtain ⟨e0, _, _, e3, _, e5⟩ := tmz_lits m f0 f1 f2 c0 c1 c2 a b c
  rw [← e0] at d0
  rw [← e3] at d1
  rw [← e5] at d2
  have cT := fun w k => tame_ok m f0 f1 f2 c0 c1 c2 a b c hm h0 h1 h2 R w k
  generalize tmz m f0 f1 f2 c0 c1 c2 a b c = x at *
  have hx : I6 x := fun i hi => fit_i64 (S.1 i hi)
  have hs : sv (tmz x f0 f1 f2 c0 c1 c2 a b c) = sv x := by
    simp only [sv, G 0 (by decide), G 1 (by decide), G 2 (by decide), G 3 (by decide), G 4 (by decide), G 5 (by decide)]
  have cU := fun w k => tame_ok x f0 f1 f2 c0 c1 c2 a b c hx h0 h1 h2 R2 w k
  have cI := fun w k => is_ok x f0 f1 f2 c0 c1 c2 a b c hx h0 h1 h2 R2 w k
  simp only [hs] at cU
  simp only [sqb_same G] at cI
  have i64 : ∀ {f c : Int}, FB f c → I64 f := fun h => ⟨by have := h.1; omega, by have := h.2; omega⟩
  have cS := fun w k => sound_sym x f0 f1 f2 hx (i64 h0) (i64 h1) (i64 h2) w k
  simp only [sndb_yes S] at cS
  exact tameSound_go m x a0 a1 a2 b0 b1 b2 f0 f1 f2 c0 c1 c2 cL cT cU cS cI (Lib.hid fun w => (sym_eq x x w).trans (by rw [sqb_same fun _ _ => rfl]))
    (Lib.hid ⟨decide_eq_false (by omega), decide_eq_false (by omega)⟩) (Lib.hid ⟨decide_eq_false (by omega), decide_eq_false (by omega)⟩) (Lib.hid ⟨decide_eq_false (by omega), decide_eq_false (by omega)⟩) w hp
theorem tameStays_any (m : Nat → Int) (a0 a1 a2 b0 b1 b2 : Int) (hm : I6 m) (w : World) (hp : PL w) :
    Calls Tryd.prog 5 #[sv m, tv a0 a1 a2, tv b0 b1 b2] w (RetV (.bool true) w) := by
  have h0 := fb58 a0 b0
  have h1 := fb58 a1 b1
  have h2 := fb58 a2 b2
  have cL := fun w => lbetween_any a0 a1 a2 b0 b1 b2 w
  generalize lo58 a0 b0 = f0 at *
  generalize lo58 a1 b1 = f1 at *
  generalize lo58 a2 b2 = f2 at *
  generalize hi58 a0 b0 = c0 at *
  generalize hi58 a1 b1 = c1 at *
  generalize hi58 a2 b2 = c2 at *
  obtain ⟨a, b, c, R⟩ := tr_some m h0 h1 h2
  have T := tmz_stays h0 h1 h2 R
  have cI := fun w k => is_ok m f0 f1 f2 c0 c1 c2 a b c hm h0 h1 h2 R w k
  have i64 : ∀ {f c : Int}, FB f c → I64 f := fun h => ⟨by have := h.1; omega, by have := h.2; omega⟩
  have cS := fun w k => sound_sym m f0 f1 f2 hm (i64 h0) (i64 h1) (i64 h2) w k
  have no : ¬ (m 0 ≤ c0 ∧ m 3 ≤ c1 ∧ m 5 ≤ c2) → sqb (tmz m f0 f1 f2 c0 c1 c2 a b c) m = false := fun h => by
    cases e : sqb (tmz m f0 f1 f2 c0 c1 c2 a b c) m with
    | false => rfl
    | true => exact absurd (T.1 (sqb_iff.1 e)).1 h
  by_cases u0 : m 0 ≤ c0
  · by_cases u1 : m 3 ≤ c1
    · by_cases u2 : m 5 ≤ c2
      · have e : sqb (tmz m f0 f1 f2 c0 c1 c2 a b c) m = sndb m f0 f1 f2 := by
          by_cases k : Snd m f0 f1 f2
          · rw [sndb_yes k, sqb_same (T.2 ⟨⟨u0, u1, u2⟩, k⟩)]
          · rw [sndb_no k]
            cases e : sqb (tmz m f0 f1 f2 c0 c1 c2 a b c) m with
            | false => rfl
            | true => exact absurd (T.1 (sqb_iff.1 e)).2 k
        simp only [e] at cI
        exact tameStays_3 m a0 a1 a2 b0 b1 b2 f0 f1 f2 c0 c1 c2 _ cL cI cS (Lib.hid (decide_eq_true u0)) (Lib.hid (decide_eq_true u1)) (Lib.hid (decide_eq_true u2)) w hp
      · simp only [no (fun h => u2 h.2.2)] at cI
        exact tameStays_2 m a0 a1 a2 b0 b1 b2 f0 f1 f2 c0 c1 c2 cL cI (Lib.hid (decide_eq_true u0)) (Lib.hid (decide_eq_true u1)) (Lib.hid (decide_eq_false u2)) w hp
    · simp only [no (fun h => u1 h.2.1)] at cI
      exact tameStays_1 m a0 a1 a2 b0 b1 b2 f0 f1 f2 c0 c1 c2 cL cI (Lib.hid (decide_eq_true u0)) (Lib.hid (decide_eq_false u1)) w hp
  · simp only [no (fun h => u0 h.1)] at cI
    exact tameStays_0 m a0 a1 a2 b0 b1 b2 f0 f1 f2 c0 c1 c2 cL cI (Lib.hid (decide_eq_false u0)) w hp
end Go.Proofs.YtjafcnbghbfehaaDoor

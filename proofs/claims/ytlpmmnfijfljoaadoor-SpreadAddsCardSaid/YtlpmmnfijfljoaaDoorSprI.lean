/- SpreadAdds: what the law's call answers: true, for every matrix and every two rows. -/
import Derived.Test.YtlpmmnfijfljoaaDoorSprH
import Derived.Deep.QuietTactic
import Derived.BigQuiet
namespace Go.Proofs.YtlpmmnfijfljoaaDoor
open Go.RowKit Go.Shelf Go.Joins

/-- An addition that fits. -/
theorem one_ok {m : Nat → Int} {d0 d1 d2 : Int} (h : one m d0 d1 d2 = 0) : ∀ i, i < 6 → onz m d0 d1 d2 i = qun m i + dgm d0 d1 d2 i := by
  by_cases c : F6 m ∧ F3 d0 d1 d2
  · by_cases k : F6 (qun m)
    · rw [(on_good c k).2] at h
      rw [(on_good c k).1]
      exact fun i hi => ((sum_fits h).2.2 i hi).1
    · rw [(on_far c k).2] at h; cases h
  · rw [(on_bad c).2] at h; cases h
theorem one_err {m : Nat → Int} {d0 d1 d2 : Int} (h : ¬ one m d0 d1 d2 = 0) : onz m d0 d1 d2 = fun _ => 0 := by
  by_cases c : F6 m ∧ F3 d0 d1 d2
  · by_cases k : F6 (qun m)
    · rw [(on_good c k).2] at h
      rw [(on_good c k).1]
      unfold sumz
      unfold sume at h
      by_cases f : F6 (qun m) ∧ F6 (dgm d0 d1 d2)
      · rw [if_pos f] at h
        rw [if_pos f]
        funext i
        exact if_neg h
      · exact if_neg f
    · exact (on_far c k).1
  · exact (on_bad c).1

/-- What the law keeps: the doubt, two rows, the tables. -/
structure AM (W : World) (m : Nat → Int) (a0 a1 a2 b0 b1 b2 : Int) (U : World) : Prop where
  b : Below W.heap.size W U
  k : SC U W.heap.size m
  ka : TC U (W.heap.size + 1) a0 a1 a2
  kb : TC U (W.heap.size + 1 + 1) b0 b1 b2
  ml : ML U
  pl : PL U
theorem am_keep {W U U' : World} {m : Nat → Int} {a0 a1 a2 b0 b1 b2 : Int} (h : AM W m a0 a1 a2 b0 b1 b2 U) (hb : Below U.heap.size U U') : AM W m a0 a1 a2 b0 b1 b2 U' :=
  ⟨b_trans h.b hb, sc_keep hb h.k, tc_keep hb h.ka, tc_keep hb h.kb, ml_keep hb h.ml, pl_keep hb h.pl⟩

set_option maxHeartbeats 4000000 in
set_option maxRecDepth 10000 in
theorem spreadAdds_none (m : Nat → Int) (a0 a1 a2 b0 b1 b2 : Int) (e f : Int) (ne : ¬ e = 0) (nf : ¬ f = 0)
    (c1 : ∀ w, ML w → PL w → Calls Tryd.prog 6 #[sv m, tv a0 a1 a2] w (RetV (.tuple #[.agg #[.int .i64 0, .int .i64 0, .int .i64 0, .int .i64 0, .int .i64 0, .int .i64 0], .int .i64 e]) w))
    (c2 : ∀ w, ML w → PL w → Calls Tryd.prog 6 #[sv m, tv b0 b1 b2] w (RetV (.tuple #[.agg #[.int .i64 0, .int .i64 0, .int .i64 0, .int .i64 0, .int .i64 0, .int .i64 0], .int .i64 f]) w)) (w : World) (hl : ML w) (hp : PL w) :
    Calls Tryd.prog 5 #[sv m, tv a0 a1 a2, tv b0 b1 b2] w (RetV (.bool true) w) := by
  have e1 := neb_of ne
  have e2 : (e == 0) = false := by simpa using ne
  clear ne
  have f1 := neb_of nf
  have f2 : (f == 0) = false := by simpa using nf
  clear nf
  have s : AM w m a0 a1 a2 b0 b1 b2 (((w.alloc (Obj.cells #[.int .i64 (m 0), .int .i64 (m 1), .int .i64 (m 2), .int .i64 (m 3), .int .i64 (m 4), .int .i64 (m 5)] 23)).alloc (Obj.cells #[.int .i64 a0, .int .i64 a1, .int .i64 a2] 25)).alloc (Obj.cells #[.int .i64 b0, .int .i64 b1, .int .i64 b2] 25)) := ⟨b_alloc (b_alloc (b_alloc (Below.refl _ _))), sc_alloc (sc_alloc (sc_new (w := w) (m := m) (t := 23) rfl)), tc_alloc (tc_new (by simp)), tc_new (by simp), ml_keep (b_alloc (b_alloc (b_alloc (Below.refl _ _)))) hl, pl_keep (b_alloc (b_alloc (b_alloc (Below.refl _ _)))) hp⟩
  clear hl hp
  go_enter Tryd.func5, Tryd.ntmps5
  have l6 := sc_six s.k
  have l3 := s.ka
  go_wp2_with fail
  refine (c1 _ s.ml s.pl).mono ?_
  rintro e1 w1 ⟨rfl, hb1⟩
  replace s := am_keep s hb1
  clear hb1 l6 l3 c1
  have kX : SC (w1.alloc (Obj.cells #[.int .i64 0, .int .i64 0, .int .i64 0, .int .i64 0, .int .i64 0, .int .i64 0] 23)) w1.heap.size (fun _ => 0) := sc_new (m := (fun _ => 0)) rfl
  replace s := am_keep s (b_alloc (o := (Obj.cells #[.int .i64 0, .int .i64 0, .int .i64 0, .int .i64 0, .int .i64 0, .int .i64 0] 23)) (Below.refl _ _))
  have l6 := sc_six s.k
  have l3 := s.kb
  go_wp2_with fail
  generalize w1.alloc (Obj.cells #[.int .i64 0, .int .i64 0, .int .i64 0, .int .i64 0, .int .i64 0, .int .i64 0] 23) = u1 at *
  generalize w1.heap.size = X at *
  refine (c2 _ s.ml s.pl).mono ?_
  rintro e2 w2 ⟨rfl, hb2⟩
  replace s := am_keep s hb2
  replace kX := sc_keep hb2 kX
  clear hb2 l6 l3 c2
  have kY : SC (w2.alloc (Obj.cells #[.int .i64 0, .int .i64 0, .int .i64 0, .int .i64 0, .int .i64 0, .int .i64 0] 23)) w2.heap.size (fun _ => 0) := sc_new (m := (fun _ => 0)) rfl
  replace s := am_keep s (b_alloc (o := (Obj.cells #[.int .i64 0, .int .i64 0, .int .i64 0, .int .i64 0, .int .i64 0, .int .i64 0] 23)) (Below.refl _ _))
  replace kX := sc_alloc (o := (Obj.cells #[.int .i64 0, .int .i64 0, .int .i64 0, .int .i64 0, .int .i64 0, .int .i64 0] 23)) kX
  have hse := sym_eq_self
  go_wp2_with fail
  generalize w2.alloc (Obj.cells #[.int .i64 0, .int .i64 0, .int .i64 0, .int .i64 0, .int .i64 0, .int .i64 0] 23) = u2 at *
  generalize w2.heap.size = Y at *
  refine (fixed_spr _ s.ml s.pl).mono ?_
  rintro e3 w3 ⟨rfl, hb3⟩
  replace s := am_keep s hb3
  replace kX := sc_keep hb3 kX
  replace kY := sc_keep hb3 kY
  clear hb3
  have lx := sc_six kX
  have ly := sc_six kY
  have B9 := s.b
  clear s kX kY
  go_wp2
  go_ret
  exact ⟨rfl, B9⟩

set_option maxHeartbeats 4000000 in
set_option maxRecDepth 10000 in
theorem spreadAdds_first (m : Nat → Int) (a0 a1 a2 b0 b1 b2 : Int) (x : Nat → Int) (f : Int) (nf : ¬ f = 0)
    (c1 : ∀ w, ML w → PL w → Calls Tryd.prog 6 #[sv m, tv a0 a1 a2] w (RetV (.tuple #[sv x, .int .i64 0]) w))
    (c2 : ∀ w, ML w → PL w → Calls Tryd.prog 6 #[sv m, tv b0 b1 b2] w (RetV (.tuple #[.agg #[.int .i64 0, .int .i64 0, .int .i64 0, .int .i64 0, .int .i64 0, .int .i64 0], .int .i64 f]) w)) (w : World) (hl : ML w) (hp : PL w) :
    Calls Tryd.prog 5 #[sv m, tv a0 a1 a2, tv b0 b1 b2] w (RetV (.bool true) w) := by
  have f1 := neb_of nf
  have f2 : (f == 0) = false := by simpa using nf
  clear nf
  have s : AM w m a0 a1 a2 b0 b1 b2 (((w.alloc (Obj.cells #[.int .i64 (m 0), .int .i64 (m 1), .int .i64 (m 2), .int .i64 (m 3), .int .i64 (m 4), .int .i64 (m 5)] 23)).alloc (Obj.cells #[.int .i64 a0, .int .i64 a1, .int .i64 a2] 25)).alloc (Obj.cells #[.int .i64 b0, .int .i64 b1, .int .i64 b2] 25)) := ⟨b_alloc (b_alloc (b_alloc (Below.refl _ _))), sc_alloc (sc_alloc (sc_new (w := w) (m := m) (t := 23) rfl)), tc_alloc (tc_new (by simp)), tc_new (by simp), ml_keep (b_alloc (b_alloc (b_alloc (Below.refl _ _)))) hl, pl_keep (b_alloc (b_alloc (b_alloc (Below.refl _ _)))) hp⟩
  clear hl hp
  go_enter Tryd.func5, Tryd.ntmps5
  have l6 := sc_six s.k
  have l3 := s.ka
  go_wp2_with fail
  refine (c1 _ s.ml s.pl).mono ?_
  rintro e1 w1 ⟨rfl, hb1⟩
  replace s := am_keep s hb1
  clear hb1 l6 l3 c1
  have kX : SC (w1.alloc (Obj.cells #[.int .i64 (x 0), .int .i64 (x 1), .int .i64 (x 2), .int .i64 (x 3), .int .i64 (x 4), .int .i64 (x 5)] 23)) w1.heap.size x := sc_new (m := x) rfl
  replace s := am_keep s (b_alloc (o := (Obj.cells #[.int .i64 (x 0), .int .i64 (x 1), .int .i64 (x 2), .int .i64 (x 3), .int .i64 (x 4), .int .i64 (x 5)] 23)) (Below.refl _ _))
  have l6 := sc_six s.k
  have l3 := s.kb
  go_wp2_with fail
  generalize w1.alloc (Obj.cells #[.int .i64 (x 0), .int .i64 (x 1), .int .i64 (x 2), .int .i64 (x 3), .int .i64 (x 4), .int .i64 (x 5)] 23) = u1 at *
  generalize w1.heap.size = X at *
  refine (c2 _ s.ml s.pl).mono ?_
  rintro e2 w2 ⟨rfl, hb2⟩
  replace s := am_keep s hb2
  replace kX := sc_keep hb2 kX
  clear hb2 l6 l3 c2
  have kY : SC (w2.alloc (Obj.cells #[.int .i64 0, .int .i64 0, .int .i64 0, .int .i64 0, .int .i64 0, .int .i64 0] 23)) w2.heap.size (fun _ => 0) := sc_new (m := (fun _ => 0)) rfl
  replace s := am_keep s (b_alloc (o := (Obj.cells #[.int .i64 0, .int .i64 0, .int .i64 0, .int .i64 0, .int .i64 0, .int .i64 0] 23)) (Below.refl _ _))
  replace kX := sc_alloc (o := (Obj.cells #[.int .i64 0, .int .i64 0, .int .i64 0, .int .i64 0, .int .i64 0, .int .i64 0] 23)) kX
  have hse := sym_eq_self
  go_wp2_with fail
  generalize w2.alloc (Obj.cells #[.int .i64 0, .int .i64 0, .int .i64 0, .int .i64 0, .int .i64 0, .int .i64 0] 23) = u2 at *
  generalize w2.heap.size = Y at *
  refine (fixed_spr _ s.ml s.pl).mono ?_
  rintro e3 w3 ⟨rfl, hb3⟩
  replace s := am_keep s hb3
  replace kX := sc_keep hb3 kX
  replace kY := sc_keep hb3 kY
  clear hb3
  have lx := sc_six kX
  have ly := sc_six kY
  have B9 := s.b
  clear s kX kY
  go_wp2
  go_ret
  exact ⟨rfl, B9⟩

set_option maxHeartbeats 4000000 in
set_option maxRecDepth 10000 in
theorem spreadAdds_second (m : Nat → Int) (a0 a1 a2 b0 b1 b2 : Int) (y : Nat → Int) (e : Int) (ne : ¬ e = 0)
    (c1 : ∀ w, ML w → PL w → Calls Tryd.prog 6 #[sv m, tv a0 a1 a2] w (RetV (.tuple #[.agg #[.int .i64 0, .int .i64 0, .int .i64 0, .int .i64 0, .int .i64 0, .int .i64 0], .int .i64 e]) w))
    (c2 : ∀ w, ML w → PL w → Calls Tryd.prog 6 #[sv m, tv b0 b1 b2] w (RetV (.tuple #[sv y, .int .i64 0]) w)) (w : World) (hl : ML w) (hp : PL w) :
    Calls Tryd.prog 5 #[sv m, tv a0 a1 a2, tv b0 b1 b2] w (RetV (.bool true) w) := by
  have e1 := neb_of ne
  have e2 : (e == 0) = false := by simpa using ne
  clear ne
  have s : AM w m a0 a1 a2 b0 b1 b2 (((w.alloc (Obj.cells #[.int .i64 (m 0), .int .i64 (m 1), .int .i64 (m 2), .int .i64 (m 3), .int .i64 (m 4), .int .i64 (m 5)] 23)).alloc (Obj.cells #[.int .i64 a0, .int .i64 a1, .int .i64 a2] 25)).alloc (Obj.cells #[.int .i64 b0, .int .i64 b1, .int .i64 b2] 25)) := ⟨b_alloc (b_alloc (b_alloc (Below.refl _ _))), sc_alloc (sc_alloc (sc_new (w := w) (m := m) (t := 23) rfl)), tc_alloc (tc_new (by simp)), tc_new (by simp), ml_keep (b_alloc (b_alloc (b_alloc (Below.refl _ _)))) hl, pl_keep (b_alloc (b_alloc (b_alloc (Below.refl _ _)))) hp⟩
  clear hl hp
  go_enter Tryd.func5, Tryd.ntmps5
  have l6 := sc_six s.k
  have l3 := s.ka
  go_wp2_with fail
  refine (c1 _ s.ml s.pl).mono ?_
  rintro e1 w1 ⟨rfl, hb1⟩
  replace s := am_keep s hb1
  clear hb1 l6 l3 c1
  have kX : SC (w1.alloc (Obj.cells #[.int .i64 0, .int .i64 0, .int .i64 0, .int .i64 0, .int .i64 0, .int .i64 0] 23)) w1.heap.size (fun _ => 0) := sc_new (m := (fun _ => 0)) rfl
  replace s := am_keep s (b_alloc (o := (Obj.cells #[.int .i64 0, .int .i64 0, .int .i64 0, .int .i64 0, .int .i64 0, .int .i64 0] 23)) (Below.refl _ _))
  have l6 := sc_six s.k
  have l3 := s.kb
  go_wp2_with fail
  generalize w1.alloc (Obj.cells #[.int .i64 0, .int .i64 0, .int .i64 0, .int .i64 0, .int .i64 0, .int .i64 0] 23) = u1 at *
  generalize w1.heap.size = X at *
  refine (c2 _ s.ml s.pl).mono ?_
  rintro e2 w2 ⟨rfl, hb2⟩
  replace s := am_keep s hb2
  replace kX := sc_keep hb2 kX
  clear hb2 l6 l3 c2
  have kY : SC (w2.alloc (Obj.cells #[.int .i64 (y 0), .int .i64 (y 1), .int .i64 (y 2), .int .i64 (y 3), .int .i64 (y 4), .int .i64 (y 5)] 23)) w2.heap.size y := sc_new (m := y) rfl
  replace s := am_keep s (b_alloc (o := (Obj.cells #[.int .i64 (y 0), .int .i64 (y 1), .int .i64 (y 2), .int .i64 (y 3), .int .i64 (y 4), .int .i64 (y 5)] 23)) (Below.refl _ _))
  replace kX := sc_alloc (o := (Obj.cells #[.int .i64 (y 0), .int .i64 (y 1), .int .i64 (y 2), .int .i64 (y 3), .int .i64 (y 4), .int .i64 (y 5)] 23)) kX
  have hse := sym_eq_self
  go_wp2_with fail
  generalize w2.alloc (Obj.cells #[.int .i64 (y 0), .int .i64 (y 1), .int .i64 (y 2), .int .i64 (y 3), .int .i64 (y 4), .int .i64 (y 5)] 23) = u2 at *
  generalize w2.heap.size = Y at *
  refine (fixed_spr _ s.ml s.pl).mono ?_
  rintro e3 w3 ⟨rfl, hb3⟩
  replace s := am_keep s hb3
  replace kX := sc_keep hb3 kX
  replace kY := sc_keep hb3 kY
  clear hb3
  have lx := sc_six kX
  have ly := sc_six kY
  have B9 := s.b
  clear s kX kY
  go_wp2
  go_ret
  exact ⟨rfl, B9⟩

set_option maxHeartbeats 8000000 in
set_option maxRecDepth 10000 in
theorem spreadAdds_both (m : Nat → Int) (a0 a1 a2 b0 b1 b2 : Int) (x y : Nat → Int) (d0 d1 d2 : Int)
    (h0 : IntKind.i64.wrap (x 0 - y 0) = d0) (h1 : IntKind.i64.wrap (x 1 - y 1) = 0) (h2 : IntKind.i64.wrap (x 2 - y 2) = 0) (h3 : IntKind.i64.wrap (x 3 - y 3) = d1) (h4 : IntKind.i64.wrap (x 4 - y 4) = 0) (h5 : IntKind.i64.wrap (x 5 - y 5) = d2)
    (g0 : IntKind.i64.wrap (a0 - b0) = d0) (g1 : IntKind.i64.wrap (a1 - b1) = d1) (g2 : IntKind.i64.wrap (a2 - b2) = d2)
    (c1 : ∀ w, ML w → PL w → Calls Tryd.prog 6 #[sv m, tv a0 a1 a2] w (RetV (.tuple #[sv x, .int .i64 0]) w))
    (c2 : ∀ w, ML w → PL w → Calls Tryd.prog 6 #[sv m, tv b0 b1 b2] w (RetV (.tuple #[sv y, .int .i64 0]) w)) (w : World) (hl : ML w) (hp : PL w) :
    Calls Tryd.prog 5 #[sv m, tv a0 a1 a2, tv b0 b1 b2] w (RetV (.bool true) w) := by
  have s : AM w m a0 a1 a2 b0 b1 b2 (((w.alloc (Obj.cells #[.int .i64 (m 0), .int .i64 (m 1), .int .i64 (m 2), .int .i64 (m 3), .int .i64 (m 4), .int .i64 (m 5)] 23)).alloc (Obj.cells #[.int .i64 a0, .int .i64 a1, .int .i64 a2] 25)).alloc (Obj.cells #[.int .i64 b0, .int .i64 b1, .int .i64 b2] 25)) := ⟨b_alloc (b_alloc (b_alloc (Below.refl _ _))), sc_alloc (sc_alloc (sc_new (w := w) (m := m) (t := 23) rfl)), tc_alloc (tc_new (by simp)), tc_new (by simp), ml_keep (b_alloc (b_alloc (b_alloc (Below.refl _ _)))) hl, pl_keep (b_alloc (b_alloc (b_alloc (Below.refl _ _)))) hp⟩
  clear hl hp
  go_enter Tryd.func5, Tryd.ntmps5
  have l6 := sc_six s.k
  have l3 := s.ka
  go_wp2_with fail
  refine (c1 _ s.ml s.pl).mono ?_
  rintro e1 w1 ⟨rfl, hb1⟩
  replace s := am_keep s hb1
  clear hb1 l6 l3 c1
  have kX : SC (w1.alloc (Obj.cells #[.int .i64 (x 0), .int .i64 (x 1), .int .i64 (x 2), .int .i64 (x 3), .int .i64 (x 4), .int .i64 (x 5)] 23)) w1.heap.size x := sc_new (m := x) rfl
  replace s := am_keep s (b_alloc (o := (Obj.cells #[.int .i64 (x 0), .int .i64 (x 1), .int .i64 (x 2), .int .i64 (x 3), .int .i64 (x 4), .int .i64 (x 5)] 23)) (Below.refl _ _))
  have l6 := sc_six s.k
  have l3 := s.kb
  go_wp2_with fail
  generalize w1.alloc (Obj.cells #[.int .i64 (x 0), .int .i64 (x 1), .int .i64 (x 2), .int .i64 (x 3), .int .i64 (x 4), .int .i64 (x 5)] 23) = u1 at *
  generalize w1.heap.size = X at *
  refine (c2 _ s.ml s.pl).mono ?_
  rintro e2 w2 ⟨rfl, hb2⟩
  replace s := am_keep s hb2
  replace kX := sc_keep hb2 kX
  clear hb2 l6 l3 c2
  have kY : SC (w2.alloc (Obj.cells #[.int .i64 (y 0), .int .i64 (y 1), .int .i64 (y 2), .int .i64 (y 3), .int .i64 (y 4), .int .i64 (y 5)] 23)) w2.heap.size y := sc_new (m := y) rfl
  replace s := am_keep s (b_alloc (o := (Obj.cells #[.int .i64 (y 0), .int .i64 (y 1), .int .i64 (y 2), .int .i64 (y 3), .int .i64 (y 4), .int .i64 (y 5)] 23)) (Below.refl _ _))
  replace kX := sc_alloc (o := (Obj.cells #[.int .i64 (y 0), .int .i64 (y 1), .int .i64 (y 2), .int .i64 (y 3), .int .i64 (y 4), .int .i64 (y 5)] 23)) kX
  go_wp2
  generalize w2.alloc (Obj.cells #[.int .i64 (y 0), .int .i64 (y 1), .int .i64 (y 2), .int .i64 (y 3), .int .i64 (y 4), .int .i64 (y 5)] 23) = u2 at *
  generalize w2.heap.size = Y at *
  refine wp_loop_rounds 7 ?_
  rw [rounds_succ]
  have lx := sc_six kX
  have ly := sc_six kY
  have la := s.ka
  have lb := s.kb
  go_wp2
  go_quiet (fail)
  replace s := am_keep s (below_draws _ _ nq)
  replace kX := sc_keep (below_draws _ _ nq) kX
  replace kY := sc_keep (below_draws _ _ nq) kY
  clear lx ly la lb
  generalize u2.drewN nq = v0 at *
  go_wp2
  rw [rounds_succ]
  have lx := sc_six kX
  have ly := sc_six kY
  have la := s.ka
  have lb := s.kb
  go_wp2
  go_quiet (fail)
  replace s := am_keep s (below_draws _ _ nq)
  replace kX := sc_keep (below_draws _ _ nq) kX
  replace kY := sc_keep (below_draws _ _ nq) kY
  clear lx ly la lb
  generalize v0.drewN nq = v1 at *
  go_wp2
  rw [rounds_succ]
  have lx := sc_six kX
  have ly := sc_six kY
  have la := s.ka
  have lb := s.kb
  go_wp2
  go_quiet (fail)
  replace s := am_keep s (below_draws _ _ nq)
  replace kX := sc_keep (below_draws _ _ nq) kX
  replace kY := sc_keep (below_draws _ _ nq) kY
  clear lx ly la lb
  generalize v1.drewN nq = v2 at *
  go_wp2
  rw [rounds_succ]
  have lx := sc_six kX
  have ly := sc_six kY
  have la := s.ka
  have lb := s.kb
  go_wp2
  go_quiet (fail)
  replace s := am_keep s (below_draws _ _ nq)
  replace kX := sc_keep (below_draws _ _ nq) kX
  replace kY := sc_keep (below_draws _ _ nq) kY
  clear lx ly la lb
  generalize v2.drewN nq = v3 at *
  go_wp2
  rw [rounds_succ]
  have lx := sc_six kX
  have ly := sc_six kY
  have la := s.ka
  have lb := s.kb
  go_wp2
  go_quiet (fail)
  replace s := am_keep s (below_draws _ _ nq)
  replace kX := sc_keep (below_draws _ _ nq) kX
  replace kY := sc_keep (below_draws _ _ nq) kY
  clear lx ly la lb
  generalize v3.drewN nq = v4 at *
  go_wp2
  rw [rounds_succ]
  have lx := sc_six kX
  have ly := sc_six kY
  have la := s.ka
  have lb := s.kb
  go_wp2
  go_quiet (fail)
  replace s := am_keep s (below_draws _ _ nq)
  replace kX := sc_keep (below_draws _ _ nq) kX
  replace kY := sc_keep (below_draws _ _ nq) kY
  clear lx ly la lb
  generalize v4.drewN nq = v5 at *
  go_wp2
  rw [rounds_succ]
  go_wp2_with fail
  refine (fixed_spr _ s.ml s.pl).mono ?_
  rintro e3 w3 ⟨rfl, hb3⟩
  replace s := am_keep s hb3
  have B9 := s.b
  clear s kX kY hb3
  go_wp2
  go_ret
  exact ⟨rfl, B9⟩

theorem spreadAdds_any (m : Nat → Int) (a0 a1 a2 b0 b1 b2 : Int) (hm : I6 m) (ha0 : I64 a0) (ha1 : I64 a1) (ha2 : I64 a2) (hb0 : I64 b0) (hb1 : I64 b1) (hb2 : I64 b2) (w : World) (hl : ML w) (hp : PL w) :
    Calls Tryd.prog 5 #[sv m, tv a0 a1 a2, tv b0 b1 b2] w (RetV (.bool true) w) := by
  have c1 := fun w h k => on_spr m a0 a1 a2 hm ha0 ha1 ha2 w h k
  have c2 := fun w h k => on_spr m b0 b1 b2 hm hb0 hb1 hb2 w h k
  by_cases e : one m a0 a1 a2 = 0 <;> by_cases f : one m b0 b1 b2 = 0
  · have E := one_ok e
    have F := one_ok f
    rw [e] at c1
    rw [f] at c2
    have K : ∀ i, i < 6 → ∀ z, dgm a0 a1 a2 i - dgm b0 b1 b2 i = z → onz m a0 a1 a2 i - onz m b0 b1 b2 i = z := fun i hi z hz => by rw [E i hi, F i hi]; omega
    exact spreadAdds_both m a0 a1 a2 b0 b1 b2 _ _ (IntKind.i64.wrap (a0 - b0)) (IntKind.i64.wrap (a1 - b1)) (IntKind.i64.wrap (a2 - b2))
      (by rw [K 0 (by decide) _ rfl]; rfl) (by rw [K 1 (by decide) 0 rfl]; rfl) (by rw [K 2 (by decide) 0 rfl]; rfl) (by rw [K 3 (by decide) _ rfl]; rfl) (by rw [K 4 (by decide) 0 rfl]; rfl) (by rw [K 5 (by decide) _ rfl]; rfl)
      rfl rfl rfl c1 c2 w hl hp
  · rw [e] at c1
    rw [one_err f] at c2
    exact spreadAdds_first m a0 a1 a2 b0 b1 b2 _ _ f c1 c2 w hl hp
  · rw [f] at c2
    rw [one_err e] at c1
    exact spreadAdds_second m a0 a1 a2 b0 b1 b2 _ _ e c1 c2 w hl hp
  · rw [one_err e] at c1
    rw [one_err f] at c2
    exact spreadAdds_none m a0 a1 a2 b0 b1 b2 _ _ e f c1 c2 w hl hp
end Go.Proofs.YtlpmmnfijfljoaaDoor

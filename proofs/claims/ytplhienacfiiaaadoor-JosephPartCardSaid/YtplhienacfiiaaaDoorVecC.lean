/- What 'each' makes of three answers. -/
import Derived.Test.YtplhienacfiiaaaDoorVecB
import Derived.LoopN
namespace Go.Proofs.YtplhienacfiiaaaDoor
open Go.RowKit Go.Shelf

theorem tc_put0 {w : World} {b : Nat} {x y z v : Int} (c : TC w b x y z) : TC (w.setCell ⟨b, 0, none⟩ (.int .i64 v)) b v y z := by
  obtain ⟨c0, c1, c2⟩ := c
  simp [TC, go_sem, c0, c1, c2]
theorem tc_put1 {w : World} {b : Nat} {x y z v : Int} (c : TC w b x y z) : TC (w.setCell ⟨b, 1, none⟩ (.int .i64 v)) b x v z := by
  obtain ⟨c0, c1, c2⟩ := c
  simp [TC, go_sem, c0, c1, c2]
theorem tc_put2 {w : World} {b : Nat} {x y z v : Int} (c : TC w b x y z) : TC (w.setCell ⟨b, 2, none⟩ (.int .i64 v)) b x y v := by
  obtain ⟨c0, c1, c2⟩ := c
  simp [TC, go_sem, c0, c1, c2]
/-- A call's own two rows: q, which is handed back, and r, which is written. -/
structure ES (w : World) (q r : Nat) (x y z : Int) (w' : World) : Prop where
  b : Below w.heap.size w w'
  qc : TC w' q 0 0 0
  qf : TF w' q
  rc : TC w' r x y z
  rf : TF w' r
theorem es_keep {w w1 w2 : World} {q r : Nat} {x y z : Int} (s : ES w q r x y z w1) (hb : Below w1.heap.size w1 w2) : ES w q r x y z w2 :=
  ⟨b_trans s.b hb, tc_keep hb s.qc, tf_keep hb s.qc s.qf, tc_keep hb s.rc, tf_keep hb s.rc s.rf⟩
theorem es_put0 {w w1 : World} {q r : Nat} {x y z v : Int} (s : ES w q r x y z w1) (h : q ≠ r) (k : w.heap.size ≤ r) : ES w q r v y z (w1.setCell ⟨r, 0, none⟩ (.int .i64 v)) :=
  ⟨b_set s.b k, tc_set s.qc h.symm, tf_set s.qf, tc_put0 s.rc, tf_set s.rf⟩
theorem es_put1 {w w1 : World} {q r : Nat} {x y z v : Int} (s : ES w q r x y z w1) (h : q ≠ r) (k : w.heap.size ≤ r) : ES w q r x v z (w1.setCell ⟨r, 1, none⟩ (.int .i64 v)) :=
  ⟨b_set s.b k, tc_set s.qc h.symm, tf_set s.qf, tc_put1 s.rc, tf_set s.rf⟩
theorem es_put2 {w w1 : World} {q r : Nat} {x y z v : Int} (s : ES w q r x y z w1) (h : q ≠ r) (k : w.heap.size ≤ r) : ES w q r x y v (w1.setCell ⟨r, 2, none⟩ (.int .i64 v)) :=
  ⟨b_set s.b k, tc_set s.qc h.symm, tf_set s.qf, tc_put2 s.rc, tf_set s.rf⟩
theorem es_new (w : World) : ES w w.heap.size (w.heap.size + 1) 0 0 0 ((w.alloc (Obj.cells #[.int .i64 0, .int .i64 0, .int .i64 0] 23)).alloc (Obj.cells #[.int .i64 0, .int .i64 0, .int .i64 0] 23)) :=
  ⟨b_alloc (b_alloc (Below.refl _ _)), tc_alloc (tc_new rfl), tf_keep (b_alloc (Below.refl _ _)) (tc_new rfl) (tf_new rfl), tc_new (by simp), tf_new (by simp)⟩
theorem es_done {w w1 : World} {q r : Nat} {x y z a b c : Int} (s : ES w q r x y z w1) (k : w.heap.size ≤ q) : Below w.heap.size w (((w1.setCell ⟨q, 0, none⟩ (.int .i64 a)).setCell ⟨q, 1, none⟩ (.int .i64 b)).setCell ⟨q, 2, none⟩ (.int .i64 c)) :=
  b_set (b_set (b_set s.b k) k) k

set_option maxHeartbeats 1000000 in
set_option maxRecDepth 10000 in
theorem each_add_0 (A B : Nat) (x0 e : Int) (e0 : (e == 0) = false) (w : World)
    (d0 : ∀ w', Below w.heap.size w w' → Calls Tryd.prog 33 #[.int .i64 0, .pointer (some ⟨A, 0, none⟩), .pointer (some ⟨B, 0, none⟩)] w' (RetV (.tuple #[.int .i64 x0, .int .i64 e]) w')) :
    Calls Tryd.prog 30 #[.func (.func 33) #[] #[.pointer (some ⟨A, 0, none⟩), .pointer (some ⟨B, 0, none⟩)]] w (RetV (.tuple #[tv 0 0 0, .int .i64 e]) w) := by
  have s0 := es_new w
  go_enter Tryd.func30, Tryd.ntmps30
  go_wp2
  refine wp_loop_rounds 4 ?_
  rw [rounds_succ]
  go_wp2_with fail
  refine (d0 _ s0.b).mono ?_
  rintro e1 w1 ⟨rfl, hb1⟩
  replace s0 := es_keep s0 hb1
  clear hb1 d0
  have B9 := es_done (a := 0) (b := 0) (c := 0) s0 (Nat.le_refl _)
  obtain ⟨_, qc, qf, rc, rf⟩ := s0
  clear rc rf
  go_wp2
  exact bodyPost_ret (v := .tuple #[tv 0 0 0, .int .i64 e]) (by simp [results, Tryd.results30, go_sem, qc]) rfl ⟨rfl, B9⟩

set_option maxHeartbeats 1000000 in
set_option maxRecDepth 10000 in
theorem each_add_1 (A B : Nat) (x0 x1 e : Int) (e0 : (e == 0) = false) (w : World)
    (d0 : ∀ w', Below w.heap.size w w' → Calls Tryd.prog 33 #[.int .i64 0, .pointer (some ⟨A, 0, none⟩), .pointer (some ⟨B, 0, none⟩)] w' (RetV (.tuple #[.int .i64 x0, .int .i64 0]) w'))
    (d1 : ∀ w', Below w.heap.size w w' → Calls Tryd.prog 33 #[.int .i64 1, .pointer (some ⟨A, 0, none⟩), .pointer (some ⟨B, 0, none⟩)] w' (RetV (.tuple #[.int .i64 x1, .int .i64 e]) w')) :
    Calls Tryd.prog 30 #[.func (.func 33) #[] #[.pointer (some ⟨A, 0, none⟩), .pointer (some ⟨B, 0, none⟩)]] w (RetV (.tuple #[tv 0 0 0, .int .i64 e]) w) := by
  have s0 := es_new w
  go_enter Tryd.func30, Tryd.ntmps30
  go_wp2
  refine wp_loop_rounds 4 ?_
  rw [rounds_succ]
  go_wp2_with fail
  refine (d0 _ s0.b).mono ?_
  rintro e1 w1 ⟨rfl, hb1⟩
  replace s0 := es_keep s0 hb1
  clear hb1 d0
  have s1 := es_put0 (v := x0) s0 (by omega) (Nat.le_succ _)
  obtain ⟨_, qc, qf, rc, rf⟩ := s0
  clear qc qf
  go_wp2
  clear rc rf
  have s0 := s1
  clear s1
  generalize w1.setCell ⟨w.heap.size + 1, 0, none⟩ (.int .i64 x0) = u1 at *
  rw [rounds_succ]
  go_wp2_with fail
  refine (d1 _ s0.b).mono ?_
  rintro e2 w2 ⟨rfl, hb2⟩
  replace s0 := es_keep s0 hb2
  clear hb2 d1
  have B9 := es_done (a := 0) (b := 0) (c := 0) s0 (Nat.le_refl _)
  obtain ⟨_, qc, qf, rc, rf⟩ := s0
  clear rc rf
  go_wp2
  exact bodyPost_ret (v := .tuple #[tv 0 0 0, .int .i64 e]) (by simp [results, Tryd.results30, go_sem, qc]) rfl ⟨rfl, B9⟩

set_option maxHeartbeats 1000000 in
set_option maxRecDepth 10000 in
theorem each_add_2 (A B : Nat) (x0 x1 x2 e : Int) (e0 : (e == 0) = false) (w : World)
    (d0 : ∀ w', Below w.heap.size w w' → Calls Tryd.prog 33 #[.int .i64 0, .pointer (some ⟨A, 0, none⟩), .pointer (some ⟨B, 0, none⟩)] w' (RetV (.tuple #[.int .i64 x0, .int .i64 0]) w'))
    (d1 : ∀ w', Below w.heap.size w w' → Calls Tryd.prog 33 #[.int .i64 1, .pointer (some ⟨A, 0, none⟩), .pointer (some ⟨B, 0, none⟩)] w' (RetV (.tuple #[.int .i64 x1, .int .i64 0]) w'))
    (d2 : ∀ w', Below w.heap.size w w' → Calls Tryd.prog 33 #[.int .i64 2, .pointer (some ⟨A, 0, none⟩), .pointer (some ⟨B, 0, none⟩)] w' (RetV (.tuple #[.int .i64 x2, .int .i64 e]) w')) :
    Calls Tryd.prog 30 #[.func (.func 33) #[] #[.pointer (some ⟨A, 0, none⟩), .pointer (some ⟨B, 0, none⟩)]] w (RetV (.tuple #[tv 0 0 0, .int .i64 e]) w) := by
  have s0 := es_new w
  go_enter Tryd.func30, Tryd.ntmps30
  go_wp2
  refine wp_loop_rounds 4 ?_
  rw [rounds_succ]
  go_wp2_with fail
  refine (d0 _ s0.b).mono ?_
  rintro e1 w1 ⟨rfl, hb1⟩
  replace s0 := es_keep s0 hb1
  clear hb1 d0
  have s1 := es_put0 (v := x0) s0 (by omega) (Nat.le_succ _)
  obtain ⟨_, qc, qf, rc, rf⟩ := s0
  clear qc qf
  go_wp2
  clear rc rf
  have s0 := s1
  clear s1
  generalize w1.setCell ⟨w.heap.size + 1, 0, none⟩ (.int .i64 x0) = u1 at *
  rw [rounds_succ]
  go_wp2_with fail
  refine (d1 _ s0.b).mono ?_
  rintro e2 w2 ⟨rfl, hb2⟩
  replace s0 := es_keep s0 hb2
  clear hb2 d1
  have s1 := es_put1 (v := x1) s0 (by omega) (Nat.le_succ _)
  obtain ⟨_, qc, qf, rc, rf⟩ := s0
  clear qc qf
  go_wp2
  clear rc rf
  have s0 := s1
  clear s1
  generalize w2.setCell ⟨w.heap.size + 1, 1, none⟩ (.int .i64 x1) = u2 at *
  rw [rounds_succ]
  go_wp2_with fail
  refine (d2 _ s0.b).mono ?_
  rintro e3 w3 ⟨rfl, hb3⟩
  replace s0 := es_keep s0 hb3
  clear hb3 d2
  have B9 := es_done (a := 0) (b := 0) (c := 0) s0 (Nat.le_refl _)
  obtain ⟨_, qc, qf, rc, rf⟩ := s0
  clear rc rf
  go_wp2
  exact bodyPost_ret (v := .tuple #[tv 0 0 0, .int .i64 e]) (by simp [results, Tryd.results30, go_sem, qc]) rfl ⟨rfl, B9⟩

set_option maxHeartbeats 1000000 in
set_option maxRecDepth 10000 in
theorem each_add_3 (A B : Nat) (x0 x1 x2 : Int) (w : World)
    (d0 : ∀ w', Below w.heap.size w w' → Calls Tryd.prog 33 #[.int .i64 0, .pointer (some ⟨A, 0, none⟩), .pointer (some ⟨B, 0, none⟩)] w' (RetV (.tuple #[.int .i64 x0, .int .i64 0]) w'))
    (d1 : ∀ w', Below w.heap.size w w' → Calls Tryd.prog 33 #[.int .i64 1, .pointer (some ⟨A, 0, none⟩), .pointer (some ⟨B, 0, none⟩)] w' (RetV (.tuple #[.int .i64 x1, .int .i64 0]) w'))
    (d2 : ∀ w', Below w.heap.size w w' → Calls Tryd.prog 33 #[.int .i64 2, .pointer (some ⟨A, 0, none⟩), .pointer (some ⟨B, 0, none⟩)] w' (RetV (.tuple #[.int .i64 x2, .int .i64 0]) w')) :
    Calls Tryd.prog 30 #[.func (.func 33) #[] #[.pointer (some ⟨A, 0, none⟩), .pointer (some ⟨B, 0, none⟩)]] w (RetV (.tuple #[tv x0 x1 x2, .int .i64 0]) w) := by
  have s0 := es_new w
  go_enter Tryd.func30, Tryd.ntmps30
  go_wp2
  refine wp_loop_rounds 4 ?_
  rw [rounds_succ]
  go_wp2_with fail
  refine (d0 _ s0.b).mono ?_
  rintro e1 w1 ⟨rfl, hb1⟩
  replace s0 := es_keep s0 hb1
  clear hb1 d0
  have s1 := es_put0 (v := x0) s0 (by omega) (Nat.le_succ _)
  obtain ⟨_, qc, qf, rc, rf⟩ := s0
  clear qc qf
  go_wp2
  clear rc rf
  have s0 := s1
  clear s1
  generalize w1.setCell ⟨w.heap.size + 1, 0, none⟩ (.int .i64 x0) = u1 at *
  rw [rounds_succ]
  go_wp2_with fail
  refine (d1 _ s0.b).mono ?_
  rintro e2 w2 ⟨rfl, hb2⟩
  replace s0 := es_keep s0 hb2
  clear hb2 d1
  have s1 := es_put1 (v := x1) s0 (by omega) (Nat.le_succ _)
  obtain ⟨_, qc, qf, rc, rf⟩ := s0
  clear qc qf
  go_wp2
  clear rc rf
  have s0 := s1
  clear s1
  generalize w2.setCell ⟨w.heap.size + 1, 1, none⟩ (.int .i64 x1) = u2 at *
  rw [rounds_succ]
  go_wp2_with fail
  refine (d2 _ s0.b).mono ?_
  rintro e3 w3 ⟨rfl, hb3⟩
  replace s0 := es_keep s0 hb3
  clear hb3 d2
  have s1 := es_put2 (v := x2) s0 (by omega) (Nat.le_succ _)
  obtain ⟨_, qc, qf, rc, rf⟩ := s0
  clear qc qf
  go_wp2
  clear rc rf
  have s0 := s1
  clear s1
  generalize w3.setCell ⟨w.heap.size + 1, 2, none⟩ (.int .i64 x2) = u3 at *
  have B9 := es_done (a := x0) (b := x1) (c := x2) s0 (Nat.le_refl _)
  obtain ⟨_, qc, qf, rc, rf⟩ := s0
  rw [rounds_succ]
  go_wp2
  exact bodyPost_ret (v := .tuple #[tv x0 x1 x2, .int .i64 0]) (by simp [results, Tryd.results30, go_sem, qc]) rfl ⟨rfl, B9⟩

set_option maxHeartbeats 1000000 in
set_option maxRecDepth 10000 in
theorem each_scale_0 (A B : Nat) (x0 e : Int) (e0 : (e == 0) = false) (w : World)
    (d0 : ∀ w', Below w.heap.size w w' → Calls Tryd.prog 31 #[.int .i64 0, .pointer (some ⟨A, 0, none⟩), .pointer (some ⟨B, 0, none⟩)] w' (RetV (.tuple #[.int .i64 x0, .int .i64 e]) w')) :
    Calls Tryd.prog 30 #[.func (.func 31) #[] #[.pointer (some ⟨A, 0, none⟩), .pointer (some ⟨B, 0, none⟩)]] w (RetV (.tuple #[tv 0 0 0, .int .i64 e]) w) := by
  have s0 := es_new w
  go_enter Tryd.func30, Tryd.ntmps30
  go_wp2
  refine wp_loop_rounds 4 ?_
  rw [rounds_succ]
  go_wp2_with fail
  refine (d0 _ s0.b).mono ?_
  rintro e1 w1 ⟨rfl, hb1⟩
  replace s0 := es_keep s0 hb1
  clear hb1 d0
  have B9 := es_done (a := 0) (b := 0) (c := 0) s0 (Nat.le_refl _)
  obtain ⟨_, qc, qf, rc, rf⟩ := s0
  clear rc rf
  go_wp2
  exact bodyPost_ret (v := .tuple #[tv 0 0 0, .int .i64 e]) (by simp [results, Tryd.results30, go_sem, qc]) rfl ⟨rfl, B9⟩

set_option maxHeartbeats 1000000 in
set_option maxRecDepth 10000 in
theorem each_scale_1 (A B : Nat) (x0 x1 e : Int) (e0 : (e == 0) = false) (w : World)
    (d0 : ∀ w', Below w.heap.size w w' → Calls Tryd.prog 31 #[.int .i64 0, .pointer (some ⟨A, 0, none⟩), .pointer (some ⟨B, 0, none⟩)] w' (RetV (.tuple #[.int .i64 x0, .int .i64 0]) w'))
    (d1 : ∀ w', Below w.heap.size w w' → Calls Tryd.prog 31 #[.int .i64 1, .pointer (some ⟨A, 0, none⟩), .pointer (some ⟨B, 0, none⟩)] w' (RetV (.tuple #[.int .i64 x1, .int .i64 e]) w')) :
    Calls Tryd.prog 30 #[.func (.func 31) #[] #[.pointer (some ⟨A, 0, none⟩), .pointer (some ⟨B, 0, none⟩)]] w (RetV (.tuple #[tv 0 0 0, .int .i64 e]) w) := by
  have s0 := es_new w
  go_enter Tryd.func30, Tryd.ntmps30
  go_wp2
  refine wp_loop_rounds 4 ?_
  rw [rounds_succ]
  go_wp2_with fail
  refine (d0 _ s0.b).mono ?_
  rintro e1 w1 ⟨rfl, hb1⟩
  replace s0 := es_keep s0 hb1
  clear hb1 d0
  have s1 := es_put0 (v := x0) s0 (by omega) (Nat.le_succ _)
  obtain ⟨_, qc, qf, rc, rf⟩ := s0
  clear qc qf
  go_wp2
  clear rc rf
  have s0 := s1
  clear s1
  generalize w1.setCell ⟨w.heap.size + 1, 0, none⟩ (.int .i64 x0) = u1 at *
  rw [rounds_succ]
  go_wp2_with fail
  refine (d1 _ s0.b).mono ?_
  rintro e2 w2 ⟨rfl, hb2⟩
  replace s0 := es_keep s0 hb2
  clear hb2 d1
  have B9 := es_done (a := 0) (b := 0) (c := 0) s0 (Nat.le_refl _)
  obtain ⟨_, qc, qf, rc, rf⟩ := s0
  clear rc rf
  go_wp2
  exact bodyPost_ret (v := .tuple #[tv 0 0 0, .int .i64 e]) (by simp [results, Tryd.results30, go_sem, qc]) rfl ⟨rfl, B9⟩

set_option maxHeartbeats 1000000 in
set_option maxRecDepth 10000 in
theorem each_scale_2 (A B : Nat) (x0 x1 x2 e : Int) (e0 : (e == 0) = false) (w : World)
    (d0 : ∀ w', Below w.heap.size w w' → Calls Tryd.prog 31 #[.int .i64 0, .pointer (some ⟨A, 0, none⟩), .pointer (some ⟨B, 0, none⟩)] w' (RetV (.tuple #[.int .i64 x0, .int .i64 0]) w'))
    (d1 : ∀ w', Below w.heap.size w w' → Calls Tryd.prog 31 #[.int .i64 1, .pointer (some ⟨A, 0, none⟩), .pointer (some ⟨B, 0, none⟩)] w' (RetV (.tuple #[.int .i64 x1, .int .i64 0]) w'))
    (d2 : ∀ w', Below w.heap.size w w' → Calls Tryd.prog 31 #[.int .i64 2, .pointer (some ⟨A, 0, none⟩), .pointer (some ⟨B, 0, none⟩)] w' (RetV (.tuple #[.int .i64 x2, .int .i64 e]) w')) :
    Calls Tryd.prog 30 #[.func (.func 31) #[] #[.pointer (some ⟨A, 0, none⟩), .pointer (some ⟨B, 0, none⟩)]] w (RetV (.tuple #[tv 0 0 0, .int .i64 e]) w) := by
  have s0 := es_new w
  go_enter Tryd.func30, Tryd.ntmps30
  go_wp2
  refine wp_loop_rounds 4 ?_
  rw [rounds_succ]
  go_wp2_with fail
  refine (d0 _ s0.b).mono ?_
  rintro e1 w1 ⟨rfl, hb1⟩
  replace s0 := es_keep s0 hb1
  clear hb1 d0
  have s1 := es_put0 (v := x0) s0 (by omega) (Nat.le_succ _)
  obtain ⟨_, qc, qf, rc, rf⟩ := s0
  clear qc qf
  go_wp2
  clear rc rf
  have s0 := s1
  clear s1
  generalize w1.setCell ⟨w.heap.size + 1, 0, none⟩ (.int .i64 x0) = u1 at *
  rw [rounds_succ]
  go_wp2_with fail
  refine (d1 _ s0.b).mono ?_
  rintro e2 w2 ⟨rfl, hb2⟩
  replace s0 := es_keep s0 hb2
  clear hb2 d1
  have s1 := es_put1 (v := x1) s0 (by omega) (Nat.le_succ _)
  obtain ⟨_, qc, qf, rc, rf⟩ := s0
  clear qc qf
  go_wp2
  clear rc rf
  have s0 := s1
  clear s1
  generalize w2.setCell ⟨w.heap.size + 1, 1, none⟩ (.int .i64 x1) = u2 at *
  rw [rounds_succ]
  go_wp2_with fail
  refine (d2 _ s0.b).mono ?_
  rintro e3 w3 ⟨rfl, hb3⟩
  replace s0 := es_keep s0 hb3
  clear hb3 d2
  have B9 := es_done (a := 0) (b := 0) (c := 0) s0 (Nat.le_refl _)
  obtain ⟨_, qc, qf, rc, rf⟩ := s0
  clear rc rf
  go_wp2
  exact bodyPost_ret (v := .tuple #[tv 0 0 0, .int .i64 e]) (by simp [results, Tryd.results30, go_sem, qc]) rfl ⟨rfl, B9⟩

set_option maxHeartbeats 1000000 in
set_option maxRecDepth 10000 in
theorem each_scale_3 (A B : Nat) (x0 x1 x2 : Int) (w : World)
    (d0 : ∀ w', Below w.heap.size w w' → Calls Tryd.prog 31 #[.int .i64 0, .pointer (some ⟨A, 0, none⟩), .pointer (some ⟨B, 0, none⟩)] w' (RetV (.tuple #[.int .i64 x0, .int .i64 0]) w'))
    (d1 : ∀ w', Below w.heap.size w w' → Calls Tryd.prog 31 #[.int .i64 1, .pointer (some ⟨A, 0, none⟩), .pointer (some ⟨B, 0, none⟩)] w' (RetV (.tuple #[.int .i64 x1, .int .i64 0]) w'))
    (d2 : ∀ w', Below w.heap.size w w' → Calls Tryd.prog 31 #[.int .i64 2, .pointer (some ⟨A, 0, none⟩), .pointer (some ⟨B, 0, none⟩)] w' (RetV (.tuple #[.int .i64 x2, .int .i64 0]) w')) :
    Calls Tryd.prog 30 #[.func (.func 31) #[] #[.pointer (some ⟨A, 0, none⟩), .pointer (some ⟨B, 0, none⟩)]] w (RetV (.tuple #[tv x0 x1 x2, .int .i64 0]) w) := by
  have s0 := es_new w
  go_enter Tryd.func30, Tryd.ntmps30
  go_wp2
  refine wp_loop_rounds 4 ?_
  rw [rounds_succ]
  go_wp2_with fail
  refine (d0 _ s0.b).mono ?_
  rintro e1 w1 ⟨rfl, hb1⟩
  replace s0 := es_keep s0 hb1
  clear hb1 d0
  have s1 := es_put0 (v := x0) s0 (by omega) (Nat.le_succ _)
  obtain ⟨_, qc, qf, rc, rf⟩ := s0
  clear qc qf
  go_wp2
  clear rc rf
  have s0 := s1
  clear s1
  generalize w1.setCell ⟨w.heap.size + 1, 0, none⟩ (.int .i64 x0) = u1 at *
  rw [rounds_succ]
  go_wp2_with fail
  refine (d1 _ s0.b).mono ?_
  rintro e2 w2 ⟨rfl, hb2⟩
  replace s0 := es_keep s0 hb2
  clear hb2 d1
  have s1 := es_put1 (v := x1) s0 (by omega) (Nat.le_succ _)
  obtain ⟨_, qc, qf, rc, rf⟩ := s0
  clear qc qf
  go_wp2
  clear rc rf
  have s0 := s1
  clear s1
  generalize w2.setCell ⟨w.heap.size + 1, 1, none⟩ (.int .i64 x1) = u2 at *
  rw [rounds_succ]
  go_wp2_with fail
  refine (d2 _ s0.b).mono ?_
  rintro e3 w3 ⟨rfl, hb3⟩
  replace s0 := es_keep s0 hb3
  clear hb3 d2
  have s1 := es_put2 (v := x2) s0 (by omega) (Nat.le_succ _)
  obtain ⟨_, qc, qf, rc, rf⟩ := s0
  clear qc qf
  go_wp2
  clear rc rf
  have s0 := s1
  clear s1
  generalize w3.setCell ⟨w.heap.size + 1, 2, none⟩ (.int .i64 x2) = u3 at *
  have B9 := es_done (a := x0) (b := x1) (c := x2) s0 (Nat.le_refl _)
  obtain ⟨_, qc, qf, rc, rf⟩ := s0
  rw [rounds_succ]
  go_wp2
  exact bodyPost_ret (v := .tuple #[tv x0 x1 x2, .int .i64 0]) (by simp [results, Tryd.results30, go_sem, qc]) rfl ⟨rfl, B9⟩

set_option maxHeartbeats 1000000 in
set_option maxRecDepth 10000 in
theorem each_clamp_3 (A B : Nat) (x0 x1 x2 : Int) (w : World)
    (d0 : ∀ w', Below w.heap.size w w' → Calls Tryd.prog 53 #[.int .i64 0, .pointer (some ⟨A, 0, none⟩), .pointer (some ⟨B, 0, none⟩)] w' (RetV (.tuple #[.int .i64 x0, .int .i64 0]) w'))
    (d1 : ∀ w', Below w.heap.size w w' → Calls Tryd.prog 53 #[.int .i64 1, .pointer (some ⟨A, 0, none⟩), .pointer (some ⟨B, 0, none⟩)] w' (RetV (.tuple #[.int .i64 x1, .int .i64 0]) w'))
    (d2 : ∀ w', Below w.heap.size w w' → Calls Tryd.prog 53 #[.int .i64 2, .pointer (some ⟨A, 0, none⟩), .pointer (some ⟨B, 0, none⟩)] w' (RetV (.tuple #[.int .i64 x2, .int .i64 0]) w')) :
    Calls Tryd.prog 30 #[.func (.func 53) #[] #[.pointer (some ⟨A, 0, none⟩), .pointer (some ⟨B, 0, none⟩)]] w (RetV (.tuple #[tv x0 x1 x2, .int .i64 0]) w) := by
  have s0 := es_new w
  go_enter Tryd.func30, Tryd.ntmps30
  go_wp2
  refine wp_loop_rounds 4 ?_
  rw [rounds_succ]
  go_wp2_with fail
  refine (d0 _ s0.b).mono ?_
  rintro e1 w1 ⟨rfl, hb1⟩
  replace s0 := es_keep s0 hb1
  clear hb1 d0
  have s1 := es_put0 (v := x0) s0 (by omega) (Nat.le_succ _)
  obtain ⟨_, qc, qf, rc, rf⟩ := s0
  clear qc qf
  go_wp2
  clear rc rf
  have s0 := s1
  clear s1
  generalize w1.setCell ⟨w.heap.size + 1, 0, none⟩ (.int .i64 x0) = u1 at *
  rw [rounds_succ]
  go_wp2_with fail
  refine (d1 _ s0.b).mono ?_
  rintro e2 w2 ⟨rfl, hb2⟩
  replace s0 := es_keep s0 hb2
  clear hb2 d1
  have s1 := es_put1 (v := x1) s0 (by omega) (Nat.le_succ _)
  obtain ⟨_, qc, qf, rc, rf⟩ := s0
  clear qc qf
  go_wp2
  clear rc rf
  have s0 := s1
  clear s1
  generalize w2.setCell ⟨w.heap.size + 1, 1, none⟩ (.int .i64 x1) = u2 at *
  rw [rounds_succ]
  go_wp2_with fail
  refine (d2 _ s0.b).mono ?_
  rintro e3 w3 ⟨rfl, hb3⟩
  replace s0 := es_keep s0 hb3
  clear hb3 d2
  have s1 := es_put2 (v := x2) s0 (by omega) (Nat.le_succ _)
  obtain ⟨_, qc, qf, rc, rf⟩ := s0
  clear qc qf
  go_wp2
  clear rc rf
  have s0 := s1
  clear s1
  generalize w3.setCell ⟨w.heap.size + 1, 2, none⟩ (.int .i64 x2) = u3 at *
  have B9 := es_done (a := x0) (b := x1) (c := x2) s0 (Nat.le_refl _)
  obtain ⟨_, qc, qf, rc, rf⟩ := s0
  rw [rounds_succ]
  go_wp2
  exact bodyPost_ret (v := .tuple #[tv x0 x1 x2, .int .i64 0]) (by simp [results, Tryd.results30, go_sem, qc]) rfl ⟨rfl, B9⟩

end Go.Proofs.YtplhienacfiiaaaDoor

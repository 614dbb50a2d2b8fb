/- The document's gain: Best: every way of the call. -/
import Derived.Test.YtccpcabhcfpbfaaDoorGaiB
namespace Go.Proofs.YtccpcabhcfpbfaaDoor
open Go.RowKit Go.Shelf

set_option maxHeartbeats 2000000 in
set_option maxRecDepth 10000 in
theorem rbest_0 (m : Nat → Int) (s : Int)
    (cV : ∀ w, Calls Tryd.prog 16 #[sv m] w (RetV (.bool false) w))
    (w : World) :
    Calls Tryd.prog 7 #[sv m, .int .i64 s] w (RetV (.tuple #[tv 0 0 0, .int .i64 1]) w) := by
  have B : Below w.heap.size w ((w.alloc (Obj.cells #[.int .i64 (m 0), .int .i64 (m 1), .int .i64 (m 2), .int .i64 (m 3), .int .i64 (m 4), .int .i64 (m 5)] 23)).alloc (Obj.cells #[.int .i64 0, .int .i64 0, .int .i64 0] 25)) := b_alloc (b_alloc (Below.refl _ _))
  have S : SC6 ((w.alloc (Obj.cells #[.int .i64 (m 0), .int .i64 (m 1), .int .i64 (m 2), .int .i64 (m 3), .int .i64 (m 4), .int .i64 (m 5)] 23)).alloc (Obj.cells #[.int .i64 0, .int .i64 0, .int .i64 0] 25)) w.heap.size m := sc_six (sc_alloc (sc_new rfl))
  have R : TC ((w.alloc (Obj.cells #[.int .i64 (m 0), .int .i64 (m 1), .int .i64 (m 2), .int .i64 (m 3), .int .i64 (m 4), .int .i64 (m 5)] 23)).alloc (Obj.cells #[.int .i64 0, .int .i64 0, .int .i64 0] 25)) (w.heap.size + 1) 0 0 0 := tc_new (by simp)
  have RF : TF ((w.alloc (Obj.cells #[.int .i64 (m 0), .int .i64 (m 1), .int .i64 (m 2), .int .i64 (m 3), .int .i64 (m 4), .int .i64 (m 5)] 23)).alloc (Obj.cells #[.int .i64 0, .int .i64 0, .int .i64 0] 25)) (w.heap.size + 1) := tf_new (by simp)
  go_enter Tryd.func7, Tryd.ntmps7
  go_wp2_with fail
  refine (cV _).mono ?_
  rintro e w1 ⟨rfl, hb⟩
  replace RF := tf_keep hb R RF
  replace R := tc_keep hb R
  replace S := sc_six (sc_keep hb (six_sc S))
  replace B := b_trans B hb
  clear hb
  go_wp2
  obtain ⟨q0, q1, q2⟩ := R
  refine bodyPost_ret (v := .tuple #[tv 0 0 0, .int .i64 1]) (by simp [results, Tryd.results7, go_sem, q0, q1, q2]) rfl ⟨rfl, ?_⟩
  repeat (first | exact B | refine b_alloc ?_ | refine b_set ?_ (by omega) | refine b_set ?_ (by simp))

set_option maxHeartbeats 2000000 in
set_option maxRecDepth 10000 in
theorem rbest_1 (m : Nat → Int) (s : Int)
    (cV : ∀ w, Calls Tryd.prog 16 #[sv m] w (RetV (.bool true) w))
    (cA : ∀ w, Calls Tryd.prog 17 #[.int .i64 s] w fun e w' => e = .returned (.bool false) ∧ w = w')
    (w : World) :
    Calls Tryd.prog 7 #[sv m, .int .i64 s] w (RetV (.tuple #[tv 0 0 0, .int .i64 1]) w) := by
  have B : Below w.heap.size w ((w.alloc (Obj.cells #[.int .i64 (m 0), .int .i64 (m 1), .int .i64 (m 2), .int .i64 (m 3), .int .i64 (m 4), .int .i64 (m 5)] 23)).alloc (Obj.cells #[.int .i64 0, .int .i64 0, .int .i64 0] 25)) := b_alloc (b_alloc (Below.refl _ _))
  have S : SC6 ((w.alloc (Obj.cells #[.int .i64 (m 0), .int .i64 (m 1), .int .i64 (m 2), .int .i64 (m 3), .int .i64 (m 4), .int .i64 (m 5)] 23)).alloc (Obj.cells #[.int .i64 0, .int .i64 0, .int .i64 0] 25)) w.heap.size m := sc_six (sc_alloc (sc_new rfl))
  have R : TC ((w.alloc (Obj.cells #[.int .i64 (m 0), .int .i64 (m 1), .int .i64 (m 2), .int .i64 (m 3), .int .i64 (m 4), .int .i64 (m 5)] 23)).alloc (Obj.cells #[.int .i64 0, .int .i64 0, .int .i64 0] 25)) (w.heap.size + 1) 0 0 0 := tc_new (by simp)
  have RF : TF ((w.alloc (Obj.cells #[.int .i64 (m 0), .int .i64 (m 1), .int .i64 (m 2), .int .i64 (m 3), .int .i64 (m 4), .int .i64 (m 5)] 23)).alloc (Obj.cells #[.int .i64 0, .int .i64 0, .int .i64 0] 25)) (w.heap.size + 1) := tf_new (by simp)
  go_enter Tryd.func7, Tryd.ntmps7
  go_wp2_with fail
  refine (cV _).mono ?_
  rintro e w1 ⟨rfl, hb⟩
  replace RF := tf_keep hb R RF
  replace R := tc_keep hb R
  replace S := sc_six (sc_keep hb (six_sc S))
  replace B := b_trans B hb
  clear hb
  go_wp2_with fail
  refine (cA _).mono ?_
  rintro e w9 ⟨rfl, rfl⟩
  go_wp2
  obtain ⟨q0, q1, q2⟩ := R
  refine bodyPost_ret (v := .tuple #[tv 0 0 0, .int .i64 1]) (by simp [results, Tryd.results7, go_sem, q0, q1, q2]) rfl ⟨rfl, ?_⟩
  repeat (first | exact B | refine b_alloc ?_ | refine b_set ?_ (by omega) | refine b_set ?_ (by simp))

set_option maxHeartbeats 2000000 in
set_option maxRecDepth 10000 in
theorem rbest_2 (m : Nat → Int) (s : Int)
    (cV : ∀ w, Calls Tryd.prog 16 #[sv m] w (RetV (.bool true) w))
    (cA : ∀ w, Calls Tryd.prog 17 #[.int .i64 s] w fun e w' => e = .returned (.bool true) ∧ w = w')
    (s1 : s < 1)
    (w : World) :
    Calls Tryd.prog 7 #[sv m, .int .i64 s] w (RetV (.tuple #[tv 0 0 0, .int .i64 1]) w) := by
  have B : Below w.heap.size w ((w.alloc (Obj.cells #[.int .i64 (m 0), .int .i64 (m 1), .int .i64 (m 2), .int .i64 (m 3), .int .i64 (m 4), .int .i64 (m 5)] 23)).alloc (Obj.cells #[.int .i64 0, .int .i64 0, .int .i64 0] 25)) := b_alloc (b_alloc (Below.refl _ _))
  have S : SC6 ((w.alloc (Obj.cells #[.int .i64 (m 0), .int .i64 (m 1), .int .i64 (m 2), .int .i64 (m 3), .int .i64 (m 4), .int .i64 (m 5)] 23)).alloc (Obj.cells #[.int .i64 0, .int .i64 0, .int .i64 0] 25)) w.heap.size m := sc_six (sc_alloc (sc_new rfl))
  have R : TC ((w.alloc (Obj.cells #[.int .i64 (m 0), .int .i64 (m 1), .int .i64 (m 2), .int .i64 (m 3), .int .i64 (m 4), .int .i64 (m 5)] 23)).alloc (Obj.cells #[.int .i64 0, .int .i64 0, .int .i64 0] 25)) (w.heap.size + 1) 0 0 0 := tc_new (by simp)
  have RF : TF ((w.alloc (Obj.cells #[.int .i64 (m 0), .int .i64 (m 1), .int .i64 (m 2), .int .i64 (m 3), .int .i64 (m 4), .int .i64 (m 5)] 23)).alloc (Obj.cells #[.int .i64 0, .int .i64 0, .int .i64 0] 25)) (w.heap.size + 1) := tf_new (by simp)
  go_enter Tryd.func7, Tryd.ntmps7
  go_wp2_with fail
  refine (cV _).mono ?_
  rintro e w1 ⟨rfl, hb⟩
  replace RF := tf_keep hb R RF
  replace R := tc_keep hb R
  replace S := sc_six (sc_keep hb (six_sc S))
  replace B := b_trans B hb
  clear hb
  go_wp2_with fail
  refine (cA _).mono ?_
  rintro e w9 ⟨rfl, rfl⟩
  go_wp2
  obtain ⟨q0, q1, q2⟩ := R
  refine bodyPost_ret (v := .tuple #[tv 0 0 0, .int .i64 1]) (by simp [results, Tryd.results7, go_sem, q0, q1, q2]) rfl ⟨rfl, ?_⟩
  repeat (first | exact B | refine b_alloc ?_ | refine b_set ?_ (by omega) | refine b_set ?_ (by simp))

set_option maxHeartbeats 2000000 in
set_option maxRecDepth 10000 in
theorem rbest_3 (m : Nat → Int) (s : Int)
    (cV : ∀ w, Calls Tryd.prog 16 #[sv m] w (RetV (.bool true) w))
    (cA : ∀ w, Calls Tryd.prog 17 #[.int .i64 s] w fun e w' => e = .returned (.bool true) ∧ w = w')
    (s1 : ¬ s < 1)
    (p0 : ∀ w, Calls Tryd.prog 19 #[.int .i64 0, .int .i64 0] w (RetV (.int .i64 0) w))
    (c0 : ∀ w, Calls Tryd.prog 18 #[.int .i64 (m 0), .int .i64 s] w (RetV (.tuple #[.int .i64 0, .int .i64 3]) w))
    (w : World) :
    Calls Tryd.prog 7 #[sv m, .int .i64 s] w (RetV (.tuple #[tv 0 0 0, .int .i64 3]) w) := by
  have B : Below w.heap.size w ((w.alloc (Obj.cells #[.int .i64 (m 0), .int .i64 (m 1), .int .i64 (m 2), .int .i64 (m 3), .int .i64 (m 4), .int .i64 (m 5)] 23)).alloc (Obj.cells #[.int .i64 0, .int .i64 0, .int .i64 0] 25)) := b_alloc (b_alloc (Below.refl _ _))
  have S : SC6 ((w.alloc (Obj.cells #[.int .i64 (m 0), .int .i64 (m 1), .int .i64 (m 2), .int .i64 (m 3), .int .i64 (m 4), .int .i64 (m 5)] 23)).alloc (Obj.cells #[.int .i64 0, .int .i64 0, .int .i64 0] 25)) w.heap.size m := sc_six (sc_alloc (sc_new rfl))
  have R : TC ((w.alloc (Obj.cells #[.int .i64 (m 0), .int .i64 (m 1), .int .i64 (m 2), .int .i64 (m 3), .int .i64 (m 4), .int .i64 (m 5)] 23)).alloc (Obj.cells #[.int .i64 0, .int .i64 0, .int .i64 0] 25)) (w.heap.size + 1) 0 0 0 := tc_new (by simp)
  have RF : TF ((w.alloc (Obj.cells #[.int .i64 (m 0), .int .i64 (m 1), .int .i64 (m 2), .int .i64 (m 3), .int .i64 (m 4), .int .i64 (m 5)] 23)).alloc (Obj.cells #[.int .i64 0, .int .i64 0, .int .i64 0] 25)) (w.heap.size + 1) := tf_new (by simp)
  go_enter Tryd.func7, Tryd.ntmps7
  go_wp2_with fail
  refine (cV _).mono ?_
  rintro e w1 ⟨rfl, hb⟩
  replace RF := tf_keep hb R RF
  replace R := tc_keep hb R
  replace S := sc_six (sc_keep hb (six_sc S))
  replace B := b_trans B hb
  clear hb
  go_wp2_with fail
  refine (cA _).mono ?_
  rintro e w9 ⟨rfl, rfl⟩
  have K : TC (w1.alloc (Obj.cells #[.int .i64 0, .int .i64 0, .int .i64 0] 25)) w1.heap.size 0 0 0 := tc_new rfl
  have KF : TF (w1.alloc (Obj.cells #[.int .i64 0, .int .i64 0, .int .i64 0] 25)) w1.heap.size := tf_new rfl
  have l0 := sc_lt (six_sc S)
  have l1 := tc_lt R
  replace RF := tf_keep (b_alloc (o := (Obj.cells #[.int .i64 0, .int .i64 0, .int .i64 0] 25)) (Below.refl _ _)) R RF
  replace R := tc_alloc (o := (Obj.cells #[.int .i64 0, .int .i64 0, .int .i64 0] 25)) R
  replace S := sc_six (sc_alloc (o := (Obj.cells #[.int .i64 0, .int .i64 0, .int .i64 0] 25)) (six_sc S))
  replace B := b_alloc (o := (Obj.cells #[.int .i64 0, .int .i64 0, .int .i64 0] 25)) B
  have n1 : w1.heap.size ≠ w.heap.size + 1 := by omega
  have n2 : w1.heap.size ≠ w.heap.size := by omega
  have g1 : w.heap.size ≤ w1.heap.size := by omega
  go_wp2
  refine wp_loop_rounds 4 ?_
  rw [rounds_succ]
  go_wp2_with fail
  refine (p0 _).mono ?_
  rintro e x0 ⟨rfl, hb⟩
  replace KF := tf_keep hb K KF
  replace K := tc_keep hb K
  replace RF := tf_keep hb R RF
  replace R := tc_keep hb R
  replace S := sc_six (sc_keep hb (six_sc S))
  replace B := b_trans B hb
  clear hb
  clear p0
  go_wp2_with fail
  refine (c0 _).mono ?_
  rintro e y0 ⟨rfl, hb⟩
  replace KF := tf_keep hb K KF
  replace K := tc_keep hb K
  replace RF := tf_keep hb R RF
  replace R := tc_keep hb R
  replace S := sc_six (sc_keep hb (six_sc S))
  replace B := b_trans B hb
  clear hb
  clear c0
  go_wp2
  obtain ⟨q0, q1, q2⟩ := R
  refine bodyPost_ret (v := .tuple #[tv 0 0 0, .int .i64 3]) (by simp [results, Tryd.results7, go_sem, q0, q1, q2]) rfl ⟨rfl, ?_⟩
  repeat (first | exact B | refine b_alloc ?_ | refine b_set ?_ (by omega) | refine b_set ?_ (by simp))

set_option maxHeartbeats 2000000 in
set_option maxRecDepth 10000 in
theorem rbest_4 (m : Nat → Int) (s z0 : Int)
    (cV : ∀ w, Calls Tryd.prog 16 #[sv m] w (RetV (.bool true) w))
    (cA : ∀ w, Calls Tryd.prog 17 #[.int .i64 s] w fun e w' => e = .returned (.bool true) ∧ w = w')
    (s1 : ¬ s < 1)
    (p0 : ∀ w, Calls Tryd.prog 19 #[.int .i64 0, .int .i64 0] w (RetV (.int .i64 0) w))
    (p1 : ∀ w, Calls Tryd.prog 19 #[.int .i64 0, .int .i64 1] w (RetV (.int .i64 1) w))
    (c0 : ∀ w, Calls Tryd.prog 18 #[.int .i64 (m 0), .int .i64 s] w (RetV (.tuple #[.int .i64 z0, .int .i64 0]) w))
    (c1 : ∀ w, Calls Tryd.prog 18 #[.int .i64 (m 1), .int .i64 s] w (RetV (.tuple #[.int .i64 0, .int .i64 3]) w))
    (w : World) :
    Calls Tryd.prog 7 #[sv m, .int .i64 s] w (RetV (.tuple #[tv 0 0 0, .int .i64 3]) w) := by
  have B : Below w.heap.size w ((w.alloc (Obj.cells #[.int .i64 (m 0), .int .i64 (m 1), .int .i64 (m 2), .int .i64 (m 3), .int .i64 (m 4), .int .i64 (m 5)] 23)).alloc (Obj.cells #[.int .i64 0, .int .i64 0, .int .i64 0] 25)) := b_alloc (b_alloc (Below.refl _ _))
  have S : SC6 ((w.alloc (Obj.cells #[.int .i64 (m 0), .int .i64 (m 1), .int .i64 (m 2), .int .i64 (m 3), .int .i64 (m 4), .int .i64 (m 5)] 23)).alloc (Obj.cells #[.int .i64 0, .int .i64 0, .int .i64 0] 25)) w.heap.size m := sc_six (sc_alloc (sc_new rfl))
  have R : TC ((w.alloc (Obj.cells #[.int .i64 (m 0), .int .i64 (m 1), .int .i64 (m 2), .int .i64 (m 3), .int .i64 (m 4), .int .i64 (m 5)] 23)).alloc (Obj.cells #[.int .i64 0, .int .i64 0, .int .i64 0] 25)) (w.heap.size + 1) 0 0 0 := tc_new (by simp)
  have RF : TF ((w.alloc (Obj.cells #[.int .i64 (m 0), .int .i64 (m 1), .int .i64 (m 2), .int .i64 (m 3), .int .i64 (m 4), .int .i64 (m 5)] 23)).alloc (Obj.cells #[.int .i64 0, .int .i64 0, .int .i64 0] 25)) (w.heap.size + 1) := tf_new (by simp)
  go_enter Tryd.func7, Tryd.ntmps7
  go_wp2_with fail
  refine (cV _).mono ?_
  rintro e w1 ⟨rfl, hb⟩
  replace RF := tf_keep hb R RF
  replace R := tc_keep hb R
  replace S := sc_six (sc_keep hb (six_sc S))
  replace B := b_trans B hb
  clear hb
  go_wp2_with fail
  refine (cA _).mono ?_
  rintro e w9 ⟨rfl, rfl⟩
  have K : TC (w1.alloc (Obj.cells #[.int .i64 0, .int .i64 0, .int .i64 0] 25)) w1.heap.size 0 0 0 := tc_new rfl
  have KF : TF (w1.alloc (Obj.cells #[.int .i64 0, .int .i64 0, .int .i64 0] 25)) w1.heap.size := tf_new rfl
  have l0 := sc_lt (six_sc S)
  have l1 := tc_lt R
  replace RF := tf_keep (b_alloc (o := (Obj.cells #[.int .i64 0, .int .i64 0, .int .i64 0] 25)) (Below.refl _ _)) R RF
  replace R := tc_alloc (o := (Obj.cells #[.int .i64 0, .int .i64 0, .int .i64 0] 25)) R
  replace S := sc_six (sc_alloc (o := (Obj.cells #[.int .i64 0, .int .i64 0, .int .i64 0] 25)) (six_sc S))
  replace B := b_alloc (o := (Obj.cells #[.int .i64 0, .int .i64 0, .int .i64 0] 25)) B
  have n1 : w1.heap.size ≠ w.heap.size + 1 := by omega
  have n2 : w1.heap.size ≠ w.heap.size := by omega
  have g1 : w.heap.size ≤ w1.heap.size := by omega
  go_wp2
  refine wp_loop_rounds 4 ?_
  rw [rounds_succ]
  go_wp2_with fail
  refine (p0 _).mono ?_
  rintro e x0 ⟨rfl, hb⟩
  replace KF := tf_keep hb K KF
  replace K := tc_keep hb K
  replace RF := tf_keep hb R RF
  replace R := tc_keep hb R
  replace S := sc_six (sc_keep hb (six_sc S))
  replace B := b_trans B hb
  clear hb
  clear p0
  go_wp2_with fail
  refine (c0 _).mono ?_
  rintro e y0 ⟨rfl, hb⟩
  replace KF := tf_keep hb K KF
  replace K := tc_keep hb K
  replace RF := tf_keep hb R RF
  replace R := tc_keep hb R
  replace S := sc_six (sc_keep hb (six_sc S))
  replace B := b_trans B hb
  clear hb
  clear c0
  go_wp2
  replace K := tc_put0 (v := z0) K
  replace KF := tf_set (b1 := w1.heap.size) (o := 0) (v := .int .i64 z0) KF
  replace R := tc_set (o := 0) (v := .int .i64 z0) R n1
  replace RF := tf_set (b1 := w1.heap.size) (o := 0) (v := .int .i64 z0) RF
  replace S := sc_six (sc_set (o := 0) (v := .int .i64 z0) (six_sc S) n2)
  replace B := b_set (p := ⟨w1.heap.size, 0, none⟩) (v := .int .i64 z0) B g1
  rw [rounds_succ]
  go_wp2_with fail
  refine (p1 _).mono ?_
  rintro e x1 ⟨rfl, hb⟩
  replace KF := tf_keep hb K KF
  replace K := tc_keep hb K
  replace RF := tf_keep hb R RF
  replace R := tc_keep hb R
  replace S := sc_six (sc_keep hb (six_sc S))
  replace B := b_trans B hb
  clear hb
  clear p1
  go_wp2_with fail
  refine (c1 _).mono ?_
  rintro e y1 ⟨rfl, hb⟩
  replace KF := tf_keep hb K KF
  replace K := tc_keep hb K
  replace RF := tf_keep hb R RF
  replace R := tc_keep hb R
  replace S := sc_six (sc_keep hb (six_sc S))
  replace B := b_trans B hb
  clear hb
  clear c1
  go_wp2
  obtain ⟨q0, q1, q2⟩ := R
  refine bodyPost_ret (v := .tuple #[tv 0 0 0, .int .i64 3]) (by simp [results, Tryd.results7, go_sem, q0, q1, q2]) rfl ⟨rfl, ?_⟩
  repeat (first | exact B | refine b_alloc ?_ | refine b_set ?_ (by omega) | refine b_set ?_ (by simp))

set_option maxHeartbeats 2000000 in
set_option maxRecDepth 10000 in
theorem rbest_5 (m : Nat → Int) (s z0 z1 : Int)
    (cV : ∀ w, Calls Tryd.prog 16 #[sv m] w (RetV (.bool true) w))
    (cA : ∀ w, Calls Tryd.prog 17 #[.int .i64 s] w fun e w' => e = .returned (.bool true) ∧ w = w')
    (s1 : ¬ s < 1)
    (p0 : ∀ w, Calls Tryd.prog 19 #[.int .i64 0, .int .i64 0] w (RetV (.int .i64 0) w))
    (p1 : ∀ w, Calls Tryd.prog 19 #[.int .i64 0, .int .i64 1] w (RetV (.int .i64 1) w))
    (p2 : ∀ w, Calls Tryd.prog 19 #[.int .i64 0, .int .i64 2] w (RetV (.int .i64 2) w))
    (c0 : ∀ w, Calls Tryd.prog 18 #[.int .i64 (m 0), .int .i64 s] w (RetV (.tuple #[.int .i64 z0, .int .i64 0]) w))
    (c1 : ∀ w, Calls Tryd.prog 18 #[.int .i64 (m 1), .int .i64 s] w (RetV (.tuple #[.int .i64 z1, .int .i64 0]) w))
    (c2 : ∀ w, Calls Tryd.prog 18 #[.int .i64 (m 2), .int .i64 s] w (RetV (.tuple #[.int .i64 0, .int .i64 3]) w))
    (w : World) :
    Calls Tryd.prog 7 #[sv m, .int .i64 s] w (RetV (.tuple #[tv 0 0 0, .int .i64 3]) w) := by
  have B : Below w.heap.size w ((w.alloc (Obj.cells #[.int .i64 (m 0), .int .i64 (m 1), .int .i64 (m 2), .int .i64 (m 3), .int .i64 (m 4), .int .i64 (m 5)] 23)).alloc (Obj.cells #[.int .i64 0, .int .i64 0, .int .i64 0] 25)) := b_alloc (b_alloc (Below.refl _ _))
  have S : SC6 ((w.alloc (Obj.cells #[.int .i64 (m 0), .int .i64 (m 1), .int .i64 (m 2), .int .i64 (m 3), .int .i64 (m 4), .int .i64 (m 5)] 23)).alloc (Obj.cells #[.int .i64 0, .int .i64 0, .int .i64 0] 25)) w.heap.size m := sc_six (sc_alloc (sc_new rfl))
  have R : TC ((w.alloc (Obj.cells #[.int .i64 (m 0), .int .i64 (m 1), .int .i64 (m 2), .int .i64 (m 3), .int .i64 (m 4), .int .i64 (m 5)] 23)).alloc (Obj.cells #[.int .i64 0, .int .i64 0, .int .i64 0] 25)) (w.heap.size + 1) 0 0 0 := tc_new (by simp)
  have RF : TF ((w.alloc (Obj.cells #[.int .i64 (m 0), .int .i64 (m 1), .int .i64 (m 2), .int .i64 (m 3), .int .i64 (m 4), .int .i64 (m 5)] 23)).alloc (Obj.cells #[.int .i64 0, .int .i64 0, .int .i64 0] 25)) (w.heap.size + 1) := tf_new (by simp)
  go_enter Tryd.func7, Tryd.ntmps7
  go_wp2_with fail
  refine (cV _).mono ?_
  rintro e w1 ⟨rfl, hb⟩
  replace RF := tf_keep hb R RF
  replace R := tc_keep hb R
  replace S := sc_six (sc_keep hb (six_sc S))
  replace B := b_trans B hb
  clear hb
  go_wp2_with fail
  refine (cA _).mono ?_
  rintro e w9 ⟨rfl, rfl⟩
  have K : TC (w1.alloc (Obj.cells #[.int .i64 0, .int .i64 0, .int .i64 0] 25)) w1.heap.size 0 0 0 := tc_new rfl
  have KF : TF (w1.alloc (Obj.cells #[.int .i64 0, .int .i64 0, .int .i64 0] 25)) w1.heap.size := tf_new rfl
  have l0 := sc_lt (six_sc S)
  have l1 := tc_lt R
  replace RF := tf_keep (b_alloc (o := (Obj.cells #[.int .i64 0, .int .i64 0, .int .i64 0] 25)) (Below.refl _ _)) R RF
  replace R := tc_alloc (o := (Obj.cells #[.int .i64 0, .int .i64 0, .int .i64 0] 25)) R
  replace S := sc_six (sc_alloc (o := (Obj.cells #[.int .i64 0, .int .i64 0, .int .i64 0] 25)) (six_sc S))
  replace B := b_alloc (o := (Obj.cells #[.int .i64 0, .int .i64 0, .int .i64 0] 25)) B
  have n1 : w1.heap.size ≠ w.heap.size + 1 := by omega
  have n2 : w1.heap.size ≠ w.heap.size := by omega
  have g1 : w.heap.size ≤ w1.heap.size := by omega
  go_wp2
  refine wp_loop_rounds 4 ?_
  rw [rounds_succ]
  go_wp2_with fail
  refine (p0 _).mono ?_
  rintro e x0 ⟨rfl, hb⟩
  replace KF := tf_keep hb K KF
  replace K := tc_keep hb K
  replace RF := tf_keep hb R RF
  replace R := tc_keep hb R
  replace S := sc_six (sc_keep hb (six_sc S))
  replace B := b_trans B hb
  clear hb
  clear p0
  go_wp2_with fail
  refine (c0 _).mono ?_
  rintro e y0 ⟨rfl, hb⟩
  replace KF := tf_keep hb K KF
  replace K := tc_keep hb K
  replace RF := tf_keep hb R RF
  replace R := tc_keep hb R
  replace S := sc_six (sc_keep hb (six_sc S))
  replace B := b_trans B hb
  clear hb
  clear c0
  go_wp2
  replace K := tc_put0 (v := z0) K
  replace KF := tf_set (b1 := w1.heap.size) (o := 0) (v := .int .i64 z0) KF
  replace R := tc_set (o := 0) (v := .int .i64 z0) R n1
  replace RF := tf_set (b1 := w1.heap.size) (o := 0) (v := .int .i64 z0) RF
  replace S := sc_six (sc_set (o := 0) (v := .int .i64 z0) (six_sc S) n2)
  replace B := b_set (p := ⟨w1.heap.size, 0, none⟩) (v := .int .i64 z0) B g1
  rw [rounds_succ]
  go_wp2_with fail
  refine (p1 _).mono ?_
  rintro e x1 ⟨rfl, hb⟩
  replace KF := tf_keep hb K KF
  replace K := tc_keep hb K
  replace RF := tf_keep hb R RF
  replace R := tc_keep hb R
  replace S := sc_six (sc_keep hb (six_sc S))
  replace B := b_trans B hb
  clear hb
  clear p1
  go_wp2_with fail
  refine (c1 _).mono ?_
  rintro e y1 ⟨rfl, hb⟩
  replace KF := tf_keep hb K KF
  replace K := tc_keep hb K
  replace RF := tf_keep hb R RF
  replace R := tc_keep hb R
  replace S := sc_six (sc_keep hb (six_sc S))
  replace B := b_trans B hb
  clear hb
  clear c1
  go_wp2
  replace K := tc_put1 (v := z1) K
  replace KF := tf_set (b1 := w1.heap.size) (o := 1) (v := .int .i64 z1) KF
  replace R := tc_set (o := 1) (v := .int .i64 z1) R n1
  replace RF := tf_set (b1 := w1.heap.size) (o := 1) (v := .int .i64 z1) RF
  replace S := sc_six (sc_set (o := 1) (v := .int .i64 z1) (six_sc S) n2)
  replace B := b_set (p := ⟨w1.heap.size, 1, none⟩) (v := .int .i64 z1) B g1
  rw [rounds_succ]
  go_wp2_with fail
  refine (p2 _).mono ?_
  rintro e x2 ⟨rfl, hb⟩
  replace KF := tf_keep hb K KF
  replace K := tc_keep hb K
  replace RF := tf_keep hb R RF
  replace R := tc_keep hb R
  replace S := sc_six (sc_keep hb (six_sc S))
  replace B := b_trans B hb
  clear hb
  clear p2
  go_wp2_with fail
  refine (c2 _).mono ?_
  rintro e y2 ⟨rfl, hb⟩
  replace KF := tf_keep hb K KF
  replace K := tc_keep hb K
  replace RF := tf_keep hb R RF
  replace R := tc_keep hb R
  replace S := sc_six (sc_keep hb (six_sc S))
  replace B := b_trans B hb
  clear hb
  clear c2
  go_wp2
  obtain ⟨q0, q1, q2⟩ := R
  refine bodyPost_ret (v := .tuple #[tv 0 0 0, .int .i64 3]) (by simp [results, Tryd.results7, go_sem, q0, q1, q2]) rfl ⟨rfl, ?_⟩
  repeat (first | exact B | refine b_alloc ?_ | refine b_set ?_ (by omega) | refine b_set ?_ (by simp))

set_option maxHeartbeats 2000000 in
set_option maxRecDepth 10000 in
theorem rbest_6 (m : Nat → Int) (s z0 z1 z2 : Int)
    (cV : ∀ w, Calls Tryd.prog 16 #[sv m] w (RetV (.bool true) w))
    (cA : ∀ w, Calls Tryd.prog 17 #[.int .i64 s] w fun e w' => e = .returned (.bool true) ∧ w = w')
    (s1 : ¬ s < 1)
    (p0 : ∀ w, Calls Tryd.prog 19 #[.int .i64 0, .int .i64 0] w (RetV (.int .i64 0) w))
    (p1 : ∀ w, Calls Tryd.prog 19 #[.int .i64 0, .int .i64 1] w (RetV (.int .i64 1) w))
    (p2 : ∀ w, Calls Tryd.prog 19 #[.int .i64 0, .int .i64 2] w (RetV (.int .i64 2) w))
    (c0 : ∀ w, Calls Tryd.prog 18 #[.int .i64 (m 0), .int .i64 s] w (RetV (.tuple #[.int .i64 z0, .int .i64 0]) w))
    (c1 : ∀ w, Calls Tryd.prog 18 #[.int .i64 (m 1), .int .i64 s] w (RetV (.tuple #[.int .i64 z1, .int .i64 0]) w))
    (c2 : ∀ w, Calls Tryd.prog 18 #[.int .i64 (m 2), .int .i64 s] w (RetV (.tuple #[.int .i64 z2, .int .i64 0]) w))
    (w : World) :
    Calls Tryd.prog 7 #[sv m, .int .i64 s] w (RetV (.tuple #[tv z0 z1 z2, .int .i64 0]) w) := by
  have B : Below w.heap.size w ((w.alloc (Obj.cells #[.int .i64 (m 0), .int .i64 (m 1), .int .i64 (m 2), .int .i64 (m 3), .int .i64 (m 4), .int .i64 (m 5)] 23)).alloc (Obj.cells #[.int .i64 0, .int .i64 0, .int .i64 0] 25)) := b_alloc (b_alloc (Below.refl _ _))
  have S : SC6 ((w.alloc (Obj.cells #[.int .i64 (m 0), .int .i64 (m 1), .int .i64 (m 2), .int .i64 (m 3), .int .i64 (m 4), .int .i64 (m 5)] 23)).alloc (Obj.cells #[.int .i64 0, .int .i64 0, .int .i64 0] 25)) w.heap.size m := sc_six (sc_alloc (sc_new rfl))
  have R : TC ((w.alloc (Obj.cells #[.int .i64 (m 0), .int .i64 (m 1), .int .i64 (m 2), .int .i64 (m 3), .int .i64 (m 4), .int .i64 (m 5)] 23)).alloc (Obj.cells #[.int .i64 0, .int .i64 0, .int .i64 0] 25)) (w.heap.size + 1) 0 0 0 := tc_new (by simp)
  have RF : TF ((w.alloc (Obj.cells #[.int .i64 (m 0), .int .i64 (m 1), .int .i64 (m 2), .int .i64 (m 3), .int .i64 (m 4), .int .i64 (m 5)] 23)).alloc (Obj.cells #[.int .i64 0, .int .i64 0, .int .i64 0] 25)) (w.heap.size + 1) := tf_new (by simp)
  go_enter Tryd.func7, Tryd.ntmps7
  go_wp2_with fail
  refine (cV _).mono ?_
  rintro e w1 ⟨rfl, hb⟩
  replace RF := tf_keep hb R RF
  replace R := tc_keep hb R
  replace S := sc_six (sc_keep hb (six_sc S))
  replace B := b_trans B hb
  clear hb
  go_wp2_with fail
  refine (cA _).mono ?_
  rintro e w9 ⟨rfl, rfl⟩
  have K : TC (w1.alloc (Obj.cells #[.int .i64 0, .int .i64 0, .int .i64 0] 25)) w1.heap.size 0 0 0 := tc_new rfl
  have KF : TF (w1.alloc (Obj.cells #[.int .i64 0, .int .i64 0, .int .i64 0] 25)) w1.heap.size := tf_new rfl
  have l0 := sc_lt (six_sc S)
  have l1 := tc_lt R
  replace RF := tf_keep (b_alloc (o := (Obj.cells #[.int .i64 0, .int .i64 0, .int .i64 0] 25)) (Below.refl _ _)) R RF
  replace R := tc_alloc (o := (Obj.cells #[.int .i64 0, .int .i64 0, .int .i64 0] 25)) R
  replace S := sc_six (sc_alloc (o := (Obj.cells #[.int .i64 0, .int .i64 0, .int .i64 0] 25)) (six_sc S))
  replace B := b_alloc (o := (Obj.cells #[.int .i64 0, .int .i64 0, .int .i64 0] 25)) B
  have n1 : w1.heap.size ≠ w.heap.size + 1 := by omega
  have n2 : w1.heap.size ≠ w.heap.size := by omega
  have g1 : w.heap.size ≤ w1.heap.size := by omega
  go_wp2
  refine wp_loop_rounds 4 ?_
  rw [rounds_succ]
  go_wp2_with fail
  refine (p0 _).mono ?_
  rintro e x0 ⟨rfl, hb⟩
  replace KF := tf_keep hb K KF
  replace K := tc_keep hb K
  replace RF := tf_keep hb R RF
  replace R := tc_keep hb R
  replace S := sc_six (sc_keep hb (six_sc S))
  replace B := b_trans B hb
  clear hb
  clear p0
  go_wp2_with fail
  refine (c0 _).mono ?_
  rintro e y0 ⟨rfl, hb⟩
  replace KF := tf_keep hb K KF
  replace K := tc_keep hb K
  replace RF := tf_keep hb R RF
  replace R := tc_keep hb R
  replace S := sc_six (sc_keep hb (six_sc S))
  replace B := b_trans B hb
  clear hb
  clear c0
  go_wp2
  replace K := tc_put0 (v := z0) K
  replace KF := tf_set (b1 := w1.heap.size) (o := 0) (v := .int .i64 z0) KF
  replace R := tc_set (o := 0) (v := .int .i64 z0) R n1
  replace RF := tf_set (b1 := w1.heap.size) (o := 0) (v := .int .i64 z0) RF
  replace S := sc_six (sc_set (o := 0) (v := .int .i64 z0) (six_sc S) n2)
  replace B := b_set (p := ⟨w1.heap.size, 0, none⟩) (v := .int .i64 z0) B g1
  rw [rounds_succ]
  go_wp2_with fail
  refine (p1 _).mono ?_
  rintro e x1 ⟨rfl, hb⟩
  replace KF := tf_keep hb K KF
  replace K := tc_keep hb K
  replace RF := tf_keep hb R RF
  replace R := tc_keep hb R
  replace S := sc_six (sc_keep hb (six_sc S))
  replace B := b_trans B hb
  clear hb
  clear p1
  go_wp2_with fail
  refine (c1 _).mono ?_
  rintro e y1 ⟨rfl, hb⟩
  replace KF := tf_keep hb K KF
  replace K := tc_keep hb K
  replace RF := tf_keep hb R RF
  replace R := tc_keep hb R
  replace S := sc_six (sc_keep hb (six_sc S))
  replace B := b_trans B hb
  clear hb
  clear c1
  go_wp2
  replace K := tc_put1 (v := z1) K
  replace KF := tf_set (b1 := w1.heap.size) (o := 1) (v := .int .i64 z1) KF
  replace R := tc_set (o := 1) (v := .int .i64 z1) R n1
  replace RF := tf_set (b1 := w1.heap.size) (o := 1) (v := .int .i64 z1) RF
  replace S := sc_six (sc_set (o := 1) (v := .int .i64 z1) (six_sc S) n2)
  replace B := b_set (p := ⟨w1.heap.size, 1, none⟩) (v := .int .i64 z1) B g1
  rw [rounds_succ]
  go_wp2_with fail
  refine (p2 _).mono ?_
  rintro e x2 ⟨rfl, hb⟩
  replace KF := tf_keep hb K KF
  replace K := tc_keep hb K
  replace RF := tf_keep hb R RF
  replace R := tc_keep hb R
  replace S := sc_six (sc_keep hb (six_sc S))
  replace B := b_trans B hb
  clear hb
  clear p2
  go_wp2_with fail
  refine (c2 _).mono ?_
  rintro e y2 ⟨rfl, hb⟩
  replace KF := tf_keep hb K KF
  replace K := tc_keep hb K
  replace RF := tf_keep hb R RF
  replace R := tc_keep hb R
  replace S := sc_six (sc_keep hb (six_sc S))
  replace B := b_trans B hb
  clear hb
  clear c2
  go_wp2
  replace K := tc_put2 (v := z2) K
  replace KF := tf_set (b1 := w1.heap.size) (o := 2) (v := .int .i64 z2) KF
  replace R := tc_set (o := 2) (v := .int .i64 z2) R n1
  replace RF := tf_set (b1 := w1.heap.size) (o := 2) (v := .int .i64 z2) RF
  replace S := sc_six (sc_set (o := 2) (v := .int .i64 z2) (six_sc S) n2)
  replace B := b_set (p := ⟨w1.heap.size, 2, none⟩) (v := .int .i64 z2) B g1
  rw [rounds_succ]
  go_wp2
  obtain ⟨q0, q1, q2⟩ := R
  refine bodyPost_ret (v := .tuple #[tv z0 z1 z2, .int .i64 0]) (by simp [results, Tryd.results7, go_sem, q0, q1, q2]) rfl ⟨rfl, ?_⟩
  repeat (first | exact B | refine b_alloc ?_ | refine b_set ?_ (by omega) | refine b_set ?_ (by simp))

end Go.Proofs.YtccpcabhcfpbfaaDoor

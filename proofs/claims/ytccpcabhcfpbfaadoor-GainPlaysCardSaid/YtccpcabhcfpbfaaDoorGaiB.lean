/- Package gain: fits, Best: what each call answers, for every argument. -/
import Derived.Test.YtccpcabhcfpbfaaDoorGaiA
import Derived.Test.YtccpcabhcfpbfaaDoorFixB
import Derived.Test.YtccpcabhcfpbfaaDoorSymB
import Derived.Test.YtccpcabhcfpbfaaDoorVecC
namespace Go.Proofs.YtccpcabhcfpbfaaDoor
open Go.RowKit Go.Shelf

set_option maxHeartbeats 1000000 in
set_option maxRecDepth 10000 in
theorem fits_gai (m : Nat → Int) (hm : I6 m) (w : World) :
    Calls Tryd.prog 12 #[sv m] w (RetV (.bool (f6b m)) w) := by
  have B := b_alloc (o := Obj.cells #[.int .i64 (m 0), .int .i64 (m 1), .int .i64 (m 2), .int .i64 (m 3), .int .i64 (m 4), .int .i64 (m 5)] 23) (Below.refl w.heap.size w)
  obtain ⟨x0, x1, x2, x3, x4, x5⟩ := ix_sym m
  go_enter Tryd.func12, Tryd.ntmps12
  go_wp2
  go_loop [6] (fun iv => ∃ k : Nat, k ≤ 6 ∧ iv = .int .i64 k ∧ Hid (∀ i, i < k → FitP (m i))) (fun iv => 6 - (intOf iv).toNat)
  case atStart => exact ⟨0, by decide, rfl, Lib.hid (fun i hi => absurd hi (by omega))⟩
  case round =>
    obtain ⟨k, hk, rfl, hf⟩ := hrel
    by_cases c : k < 6 ∧ ¬ FitP (m k)
    · have E := Lib.hid (f6b_no (fun h => c.2 (h k c.1)))
      have ex := Lib.hid (fitb_no c.2)
      have hx := Lib.hid (hm k c.1)
      obtain ⟨c, _⟩ := c
      rcases seven hk with rfl | rfl | rfl | rfl | rfl | rfl | rfl
      · exact absurd c (by decide)
      all_goals
        go_wp2_with fail
        refine (fits_any _ hx.out.1 hx.out.2 _).mono ?_
        rintro e w9 ⟨rfl, rfl⟩
        rw [ex.out]
        go_wp2
        go_ret
        exact ⟨by rw [E.out]; rfl, B⟩
    · by_cases d : k = 6
      · subst d
        have E := Lib.hid (f6b_yes hf.out)
        go_wp2
        go_ret
        exact ⟨by rw [E.out]; rfl, B⟩
      · have fk : FitP (m k) := Classical.byContradiction (fun h => c ⟨by omega, h⟩)
        have hf' := Lib.hid (less_succ hf.out fk)
        have hx := Lib.hid (hm k (by omega))
        have ex := Lib.hid (fitb_yes fk)
        clear c fk
        rcases seven hk with rfl | rfl | rfl | rfl | rfl | rfl | rfl
        · exact absurd rfl d
        all_goals
          go_wp2_with fail
          refine (fits_any _ hx.out.1 hx.out.2 _).mono ?_
          rintro e w9 ⟨rfl, rfl⟩
          rw [ex.out]
          go_wp2
          go_round
          case rel => exact ⟨_, by decide, rfl, hf'⟩
          case measure => simp [intOf]

set_option maxHeartbeats 2000000 in
set_option maxRecDepth 10000 in
theorem best_0 (m : Nat → Int) (s : Int)
    (cV : ∀ w, Calls Tryd.prog 12 #[sv m] w (RetV (.bool false) w))
    (w : World) (hp : PL w) :
    Calls Tryd.prog 6 #[sv m, .int .i64 s] w (RetV (.tuple #[tv 0 0 0, .int .i64 1]) w) := by
  obtain ⟨v0, v1, v2⟩ := ix_vec (m 0) (m 1) (m 2)
  have B : Below w.heap.size w ((w.alloc (Obj.cells #[.int .i64 (m 0), .int .i64 (m 1), .int .i64 (m 2), .int .i64 (m 3), .int .i64 (m 4), .int .i64 (m 5)] 23)).alloc (Obj.cells #[.int .i64 0, .int .i64 0, .int .i64 0] 25)) := b_alloc (b_alloc (Below.refl _ _))
  have l0 := pl_lt hp
  have P := pl_keep B hp
  clear hp
  have S : SC6 ((w.alloc (Obj.cells #[.int .i64 (m 0), .int .i64 (m 1), .int .i64 (m 2), .int .i64 (m 3), .int .i64 (m 4), .int .i64 (m 5)] 23)).alloc (Obj.cells #[.int .i64 0, .int .i64 0, .int .i64 0] 25)) w.heap.size m := sc_six (sc_alloc (sc_new rfl))
  have R : TC ((w.alloc (Obj.cells #[.int .i64 (m 0), .int .i64 (m 1), .int .i64 (m 2), .int .i64 (m 3), .int .i64 (m 4), .int .i64 (m 5)] 23)).alloc (Obj.cells #[.int .i64 0, .int .i64 0, .int .i64 0] 25)) (w.heap.size + 1) 0 0 0 := tc_new (by simp)
  have RF : TF ((w.alloc (Obj.cells #[.int .i64 (m 0), .int .i64 (m 1), .int .i64 (m 2), .int .i64 (m 3), .int .i64 (m 4), .int .i64 (m 5)] 23)).alloc (Obj.cells #[.int .i64 0, .int .i64 0, .int .i64 0] 25)) (w.heap.size + 1) := tf_new (by simp)
  go_enter Tryd.func6, Tryd.ntmps6
  go_wp2_with fail
  refine (cV _).mono ?_
  rintro e w1 ⟨rfl, hb⟩
  replace RF := tf_keep hb R RF
  replace R := tc_keep hb R
  replace S := sc_six (sc_keep hb (six_sc S))
  replace P := pl_keep hb P
  replace B := b_trans B hb
  clear hb
  go_wp2
  obtain ⟨q0, q1, q2⟩ := R
  refine bodyPost_ret (v := .tuple #[tv 0 0 0, .int .i64 1]) (by simp [results, Tryd.results6, go_sem, q0, q1, q2]) rfl ⟨rfl, ?_⟩
  repeat (first | exact B | refine b_alloc ?_ | refine b_set ?_ (by omega) | refine b_set ?_ (by simp))

set_option maxHeartbeats 2000000 in
set_option maxRecDepth 10000 in
theorem best_1 (m : Nat → Int) (s : Int)
    (cV : ∀ w, Calls Tryd.prog 12 #[sv m] w (RetV (.bool true) w))
    (cA : ∀ w, Calls Tryd.prog 13 #[.int .i64 s] w fun e w' => e = .returned (.bool false) ∧ w = w')
    (w : World) (hp : PL w) :
    Calls Tryd.prog 6 #[sv m, .int .i64 s] w (RetV (.tuple #[tv 0 0 0, .int .i64 1]) w) := by
  obtain ⟨v0, v1, v2⟩ := ix_vec (m 0) (m 1) (m 2)
  have B : Below w.heap.size w ((w.alloc (Obj.cells #[.int .i64 (m 0), .int .i64 (m 1), .int .i64 (m 2), .int .i64 (m 3), .int .i64 (m 4), .int .i64 (m 5)] 23)).alloc (Obj.cells #[.int .i64 0, .int .i64 0, .int .i64 0] 25)) := b_alloc (b_alloc (Below.refl _ _))
  have l0 := pl_lt hp
  have P := pl_keep B hp
  clear hp
  have S : SC6 ((w.alloc (Obj.cells #[.int .i64 (m 0), .int .i64 (m 1), .int .i64 (m 2), .int .i64 (m 3), .int .i64 (m 4), .int .i64 (m 5)] 23)).alloc (Obj.cells #[.int .i64 0, .int .i64 0, .int .i64 0] 25)) w.heap.size m := sc_six (sc_alloc (sc_new rfl))
  have R : TC ((w.alloc (Obj.cells #[.int .i64 (m 0), .int .i64 (m 1), .int .i64 (m 2), .int .i64 (m 3), .int .i64 (m 4), .int .i64 (m 5)] 23)).alloc (Obj.cells #[.int .i64 0, .int .i64 0, .int .i64 0] 25)) (w.heap.size + 1) 0 0 0 := tc_new (by simp)
  have RF : TF ((w.alloc (Obj.cells #[.int .i64 (m 0), .int .i64 (m 1), .int .i64 (m 2), .int .i64 (m 3), .int .i64 (m 4), .int .i64 (m 5)] 23)).alloc (Obj.cells #[.int .i64 0, .int .i64 0, .int .i64 0] 25)) (w.heap.size + 1) := tf_new (by simp)
  go_enter Tryd.func6, Tryd.ntmps6
  go_wp2_with fail
  refine (cV _).mono ?_
  rintro e w1 ⟨rfl, hb⟩
  replace RF := tf_keep hb R RF
  replace R := tc_keep hb R
  replace S := sc_six (sc_keep hb (six_sc S))
  replace P := pl_keep hb P
  replace B := b_trans B hb
  clear hb
  go_wp2_with fail
  refine (cA _).mono ?_
  rintro e w9 ⟨rfl, rfl⟩
  go_wp2
  obtain ⟨q0, q1, q2⟩ := R
  refine bodyPost_ret (v := .tuple #[tv 0 0 0, .int .i64 1]) (by simp [results, Tryd.results6, go_sem, q0, q1, q2]) rfl ⟨rfl, ?_⟩
  repeat (first | exact B | refine b_alloc ?_ | refine b_set ?_ (by omega) | refine b_set ?_ (by simp))

set_option maxHeartbeats 2000000 in
set_option maxRecDepth 10000 in
theorem best_2 (m : Nat → Int) (s : Int)
    (cV : ∀ w, Calls Tryd.prog 12 #[sv m] w (RetV (.bool true) w))
    (cA : ∀ w, Calls Tryd.prog 13 #[.int .i64 s] w fun e w' => e = .returned (.bool true) ∧ w = w')
    (s1 : s < 1)
    (w : World) (hp : PL w) :
    Calls Tryd.prog 6 #[sv m, .int .i64 s] w (RetV (.tuple #[tv 0 0 0, .int .i64 1]) w) := by
  obtain ⟨v0, v1, v2⟩ := ix_vec (m 0) (m 1) (m 2)
  have B : Below w.heap.size w ((w.alloc (Obj.cells #[.int .i64 (m 0), .int .i64 (m 1), .int .i64 (m 2), .int .i64 (m 3), .int .i64 (m 4), .int .i64 (m 5)] 23)).alloc (Obj.cells #[.int .i64 0, .int .i64 0, .int .i64 0] 25)) := b_alloc (b_alloc (Below.refl _ _))
  have l0 := pl_lt hp
  have P := pl_keep B hp
  clear hp
  have S : SC6 ((w.alloc (Obj.cells #[.int .i64 (m 0), .int .i64 (m 1), .int .i64 (m 2), .int .i64 (m 3), .int .i64 (m 4), .int .i64 (m 5)] 23)).alloc (Obj.cells #[.int .i64 0, .int .i64 0, .int .i64 0] 25)) w.heap.size m := sc_six (sc_alloc (sc_new rfl))
  have R : TC ((w.alloc (Obj.cells #[.int .i64 (m 0), .int .i64 (m 1), .int .i64 (m 2), .int .i64 (m 3), .int .i64 (m 4), .int .i64 (m 5)] 23)).alloc (Obj.cells #[.int .i64 0, .int .i64 0, .int .i64 0] 25)) (w.heap.size + 1) 0 0 0 := tc_new (by simp)
  have RF : TF ((w.alloc (Obj.cells #[.int .i64 (m 0), .int .i64 (m 1), .int .i64 (m 2), .int .i64 (m 3), .int .i64 (m 4), .int .i64 (m 5)] 23)).alloc (Obj.cells #[.int .i64 0, .int .i64 0, .int .i64 0] 25)) (w.heap.size + 1) := tf_new (by simp)
  go_enter Tryd.func6, Tryd.ntmps6
  go_wp2_with fail
  refine (cV _).mono ?_
  rintro e w1 ⟨rfl, hb⟩
  replace RF := tf_keep hb R RF
  replace R := tc_keep hb R
  replace S := sc_six (sc_keep hb (six_sc S))
  replace P := pl_keep hb P
  replace B := b_trans B hb
  clear hb
  go_wp2_with fail
  refine (cA _).mono ?_
  rintro e w9 ⟨rfl, rfl⟩
  go_wp2
  obtain ⟨q0, q1, q2⟩ := R
  refine bodyPost_ret (v := .tuple #[tv 0 0 0, .int .i64 1]) (by simp [results, Tryd.results6, go_sem, q0, q1, q2]) rfl ⟨rfl, ?_⟩
  repeat (first | exact B | refine b_alloc ?_ | refine b_set ?_ (by omega) | refine b_set ?_ (by simp))

set_option maxHeartbeats 2000000 in
set_option maxRecDepth 10000 in
theorem best_3 (m : Nat → Int) (s : Int)
    (cV : ∀ w, Calls Tryd.prog 12 #[sv m] w (RetV (.bool true) w))
    (cA : ∀ w, Calls Tryd.prog 13 #[.int .i64 s] w fun e w' => e = .returned (.bool true) ∧ w = w')
    (cW : ∀ w, PL w → Calls Tryd.prog 14 #[sv m, .int .i64 0] w (RetV (.tuple #[tv (m 0) (m 1) (m 2), .int .i64 0]) w))
    (s1 : ¬ s < 1)
    (c0 : ∀ w, Calls Tryd.prog 15 #[.int .i64 (m 0), .int .i64 s] w (RetV (.tuple #[.int .i64 0, .int .i64 3]) w))
    (w : World) (hp : PL w) :
    Calls Tryd.prog 6 #[sv m, .int .i64 s] w (RetV (.tuple #[tv 0 0 0, .int .i64 3]) w) := by
  obtain ⟨v0, v1, v2⟩ := ix_vec (m 0) (m 1) (m 2)
  have B : Below w.heap.size w ((w.alloc (Obj.cells #[.int .i64 (m 0), .int .i64 (m 1), .int .i64 (m 2), .int .i64 (m 3), .int .i64 (m 4), .int .i64 (m 5)] 23)).alloc (Obj.cells #[.int .i64 0, .int .i64 0, .int .i64 0] 25)) := b_alloc (b_alloc (Below.refl _ _))
  have l0 := pl_lt hp
  have P := pl_keep B hp
  clear hp
  have S : SC6 ((w.alloc (Obj.cells #[.int .i64 (m 0), .int .i64 (m 1), .int .i64 (m 2), .int .i64 (m 3), .int .i64 (m 4), .int .i64 (m 5)] 23)).alloc (Obj.cells #[.int .i64 0, .int .i64 0, .int .i64 0] 25)) w.heap.size m := sc_six (sc_alloc (sc_new rfl))
  have R : TC ((w.alloc (Obj.cells #[.int .i64 (m 0), .int .i64 (m 1), .int .i64 (m 2), .int .i64 (m 3), .int .i64 (m 4), .int .i64 (m 5)] 23)).alloc (Obj.cells #[.int .i64 0, .int .i64 0, .int .i64 0] 25)) (w.heap.size + 1) 0 0 0 := tc_new (by simp)
  have RF : TF ((w.alloc (Obj.cells #[.int .i64 (m 0), .int .i64 (m 1), .int .i64 (m 2), .int .i64 (m 3), .int .i64 (m 4), .int .i64 (m 5)] 23)).alloc (Obj.cells #[.int .i64 0, .int .i64 0, .int .i64 0] 25)) (w.heap.size + 1) := tf_new (by simp)
  go_enter Tryd.func6, Tryd.ntmps6
  go_wp2_with fail
  refine (cV _).mono ?_
  rintro e w1 ⟨rfl, hb⟩
  replace RF := tf_keep hb R RF
  replace R := tc_keep hb R
  replace S := sc_six (sc_keep hb (six_sc S))
  replace P := pl_keep hb P
  replace B := b_trans B hb
  clear hb
  go_wp2_with fail
  refine (cA _).mono ?_
  rintro e w9 ⟨rfl, rfl⟩
  go_wp2_with fail
  refine (cW _ P).mono ?_
  rintro e w1 ⟨rfl, hb⟩
  replace RF := tf_keep hb R RF
  replace R := tc_keep hb R
  replace S := sc_six (sc_keep hb (six_sc S))
  replace P := pl_keep hb P
  replace B := b_trans B hb
  clear hb
  clear S P cW
  have K : TC (w1.alloc (Obj.cells #[.int .i64 (m 0), .int .i64 (m 1), .int .i64 (m 2)] 25)) w1.heap.size (m 0) (m 1) (m 2) := tc_new rfl
  have KF : TF (w1.alloc (Obj.cells #[.int .i64 (m 0), .int .i64 (m 1), .int .i64 (m 2)] 25)) w1.heap.size := tf_new rfl
  have l1 := tc_lt R
  replace RF := tf_keep (b_alloc (o := (Obj.cells #[.int .i64 (m 0), .int .i64 (m 1), .int .i64 (m 2)] 25)) (Below.refl _ _)) R RF
  replace R := tc_alloc (o := (Obj.cells #[.int .i64 (m 0), .int .i64 (m 1), .int .i64 (m 2)] 25)) R
  replace B := b_alloc (o := (Obj.cells #[.int .i64 (m 0), .int .i64 (m 1), .int .i64 (m 2)] 25)) B
  have n1 : w1.heap.size ≠ w.heap.size + 1 := by omega
  have g1 : w.heap.size ≤ w1.heap.size := by omega
  go_wp2
  refine wp_loop_rounds 4 ?_
  rw [rounds_succ]
  go_wp2_with fail
  refine (c0 _).mono ?_
  rintro e x0 ⟨rfl, hb⟩
  replace KF := tf_keep hb K KF
  replace K := tc_keep hb K
  replace RF := tf_keep hb R RF
  replace R := tc_keep hb R
  replace B := b_trans B hb
  clear hb c0
  go_wp2
  obtain ⟨q0, q1, q2⟩ := R
  refine bodyPost_ret (v := .tuple #[tv 0 0 0, .int .i64 3]) (by simp [results, Tryd.results6, go_sem, q0, q1, q2]) rfl ⟨rfl, ?_⟩
  repeat (first | exact B | refine b_alloc ?_ | refine b_set ?_ (by omega) | refine b_set ?_ (by simp))

set_option maxHeartbeats 2000000 in
set_option maxRecDepth 10000 in
theorem best_4 (m : Nat → Int) (s z0 : Int)
    (cV : ∀ w, Calls Tryd.prog 12 #[sv m] w (RetV (.bool true) w))
    (cA : ∀ w, Calls Tryd.prog 13 #[.int .i64 s] w fun e w' => e = .returned (.bool true) ∧ w = w')
    (cW : ∀ w, PL w → Calls Tryd.prog 14 #[sv m, .int .i64 0] w (RetV (.tuple #[tv (m 0) (m 1) (m 2), .int .i64 0]) w))
    (s1 : ¬ s < 1)
    (c0 : ∀ w, Calls Tryd.prog 15 #[.int .i64 (m 0), .int .i64 s] w (RetV (.tuple #[.int .i64 z0, .int .i64 0]) w))
    (c1 : ∀ w, Calls Tryd.prog 15 #[.int .i64 (m 1), .int .i64 s] w (RetV (.tuple #[.int .i64 0, .int .i64 3]) w))
    (w : World) (hp : PL w) :
    Calls Tryd.prog 6 #[sv m, .int .i64 s] w (RetV (.tuple #[tv 0 0 0, .int .i64 3]) w) := by
  obtain ⟨v0, v1, v2⟩ := ix_vec (m 0) (m 1) (m 2)
  have B : Below w.heap.size w ((w.alloc (Obj.cells #[.int .i64 (m 0), .int .i64 (m 1), .int .i64 (m 2), .int .i64 (m 3), .int .i64 (m 4), .int .i64 (m 5)] 23)).alloc (Obj.cells #[.int .i64 0, .int .i64 0, .int .i64 0] 25)) := b_alloc (b_alloc (Below.refl _ _))
  have l0 := pl_lt hp
  have P := pl_keep B hp
  clear hp
  have S : SC6 ((w.alloc (Obj.cells #[.int .i64 (m 0), .int .i64 (m 1), .int .i64 (m 2), .int .i64 (m 3), .int .i64 (m 4), .int .i64 (m 5)] 23)).alloc (Obj.cells #[.int .i64 0, .int .i64 0, .int .i64 0] 25)) w.heap.size m := sc_six (sc_alloc (sc_new rfl))
  have R : TC ((w.alloc (Obj.cells #[.int .i64 (m 0), .int .i64 (m 1), .int .i64 (m 2), .int .i64 (m 3), .int .i64 (m 4), .int .i64 (m 5)] 23)).alloc (Obj.cells #[.int .i64 0, .int .i64 0, .int .i64 0] 25)) (w.heap.size + 1) 0 0 0 := tc_new (by simp)
  have RF : TF ((w.alloc (Obj.cells #[.int .i64 (m 0), .int .i64 (m 1), .int .i64 (m 2), .int .i64 (m 3), .int .i64 (m 4), .int .i64 (m 5)] 23)).alloc (Obj.cells #[.int .i64 0, .int .i64 0, .int .i64 0] 25)) (w.heap.size + 1) := tf_new (by simp)
  go_enter Tryd.func6, Tryd.ntmps6
  go_wp2_with fail
  refine (cV _).mono ?_
  rintro e w1 ⟨rfl, hb⟩
  replace RF := tf_keep hb R RF
  replace R := tc_keep hb R
  replace S := sc_six (sc_keep hb (six_sc S))
  replace P := pl_keep hb P
  replace B := b_trans B hb
  clear hb
  go_wp2_with fail
  refine (cA _).mono ?_
  rintro e w9 ⟨rfl, rfl⟩
  go_wp2_with fail
  refine (cW _ P).mono ?_
  rintro e w1 ⟨rfl, hb⟩
  replace RF := tf_keep hb R RF
  replace R := tc_keep hb R
  replace S := sc_six (sc_keep hb (six_sc S))
  replace P := pl_keep hb P
  replace B := b_trans B hb
  clear hb
  clear S P cW
  have K : TC (w1.alloc (Obj.cells #[.int .i64 (m 0), .int .i64 (m 1), .int .i64 (m 2)] 25)) w1.heap.size (m 0) (m 1) (m 2) := tc_new rfl
  have KF : TF (w1.alloc (Obj.cells #[.int .i64 (m 0), .int .i64 (m 1), .int .i64 (m 2)] 25)) w1.heap.size := tf_new rfl
  have l1 := tc_lt R
  replace RF := tf_keep (b_alloc (o := (Obj.cells #[.int .i64 (m 0), .int .i64 (m 1), .int .i64 (m 2)] 25)) (Below.refl _ _)) R RF
  replace R := tc_alloc (o := (Obj.cells #[.int .i64 (m 0), .int .i64 (m 1), .int .i64 (m 2)] 25)) R
  replace B := b_alloc (o := (Obj.cells #[.int .i64 (m 0), .int .i64 (m 1), .int .i64 (m 2)] 25)) B
  have n1 : w1.heap.size ≠ w.heap.size + 1 := by omega
  have g1 : w.heap.size ≤ w1.heap.size := by omega
  go_wp2
  refine wp_loop_rounds 4 ?_
  rw [rounds_succ]
  go_wp2_with fail
  refine (c0 _).mono ?_
  rintro e x0 ⟨rfl, hb⟩
  replace KF := tf_keep hb K KF
  replace K := tc_keep hb K
  replace RF := tf_keep hb R RF
  replace R := tc_keep hb R
  replace B := b_trans B hb
  clear hb c0
  go_wp2
  replace K := tc_put0 (v := z0) K
  replace KF := tf_set (b1 := w1.heap.size) (o := 0) (v := .int .i64 z0) KF
  replace R := tc_set (o := 0) (v := .int .i64 z0) R n1
  replace RF := tf_set (b1 := w1.heap.size) (o := 0) (v := .int .i64 z0) RF
  replace B := b_set (p := ⟨w1.heap.size, 0, none⟩) (v := .int .i64 z0) B g1
  rw [rounds_succ]
  go_wp2_with fail
  refine (c1 _).mono ?_
  rintro e x1 ⟨rfl, hb⟩
  replace KF := tf_keep hb K KF
  replace K := tc_keep hb K
  replace RF := tf_keep hb R RF
  replace R := tc_keep hb R
  replace B := b_trans B hb
  clear hb c1
  go_wp2
  obtain ⟨q0, q1, q2⟩ := R
  refine bodyPost_ret (v := .tuple #[tv 0 0 0, .int .i64 3]) (by simp [results, Tryd.results6, go_sem, q0, q1, q2]) rfl ⟨rfl, ?_⟩
  repeat (first | exact B | refine b_alloc ?_ | refine b_set ?_ (by omega) | refine b_set ?_ (by simp))

set_option maxHeartbeats 2000000 in
set_option maxRecDepth 10000 in
theorem best_5 (m : Nat → Int) (s z0 z1 : Int)
    (cV : ∀ w, Calls Tryd.prog 12 #[sv m] w (RetV (.bool true) w))
    (cA : ∀ w, Calls Tryd.prog 13 #[.int .i64 s] w fun e w' => e = .returned (.bool true) ∧ w = w')
    (cW : ∀ w, PL w → Calls Tryd.prog 14 #[sv m, .int .i64 0] w (RetV (.tuple #[tv (m 0) (m 1) (m 2), .int .i64 0]) w))
    (s1 : ¬ s < 1)
    (c0 : ∀ w, Calls Tryd.prog 15 #[.int .i64 (m 0), .int .i64 s] w (RetV (.tuple #[.int .i64 z0, .int .i64 0]) w))
    (c1 : ∀ w, Calls Tryd.prog 15 #[.int .i64 (m 1), .int .i64 s] w (RetV (.tuple #[.int .i64 z1, .int .i64 0]) w))
    (c2 : ∀ w, Calls Tryd.prog 15 #[.int .i64 (m 2), .int .i64 s] w (RetV (.tuple #[.int .i64 0, .int .i64 3]) w))
    (w : World) (hp : PL w) :
    Calls Tryd.prog 6 #[sv m, .int .i64 s] w (RetV (.tuple #[tv 0 0 0, .int .i64 3]) w) := by
  obtain ⟨v0, v1, v2⟩ := ix_vec (m 0) (m 1) (m 2)
  have B : Below w.heap.size w ((w.alloc (Obj.cells #[.int .i64 (m 0), .int .i64 (m 1), .int .i64 (m 2), .int .i64 (m 3), .int .i64 (m 4), .int .i64 (m 5)] 23)).alloc (Obj.cells #[.int .i64 0, .int .i64 0, .int .i64 0] 25)) := b_alloc (b_alloc (Below.refl _ _))
  have l0 := pl_lt hp
  have P := pl_keep B hp
  clear hp
  have S : SC6 ((w.alloc (Obj.cells #[.int .i64 (m 0), .int .i64 (m 1), .int .i64 (m 2), .int .i64 (m 3), .int .i64 (m 4), .int .i64 (m 5)] 23)).alloc (Obj.cells #[.int .i64 0, .int .i64 0, .int .i64 0] 25)) w.heap.size m := sc_six (sc_alloc (sc_new rfl))
  have R : TC ((w.alloc (Obj.cells #[.int .i64 (m 0), .int .i64 (m 1), .int .i64 (m 2), .int .i64 (m 3), .int .i64 (m 4), .int .i64 (m 5)] 23)).alloc (Obj.cells #[.int .i64 0, .int .i64 0, .int .i64 0] 25)) (w.heap.size + 1) 0 0 0 := tc_new (by simp)
  have RF : TF ((w.alloc (Obj.cells #[.int .i64 (m 0), .int .i64 (m 1), .int .i64 (m 2), .int .i64 (m 3), .int .i64 (m 4), .int .i64 (m 5)] 23)).alloc (Obj.cells #[.int .i64 0, .int .i64 0, .int .i64 0] 25)) (w.heap.size + 1) := tf_new (by simp)
  go_enter Tryd.func6, Tryd.ntmps6
  go_wp2_with fail
  refine (cV _).mono ?_
  rintro e w1 ⟨rfl, hb⟩
  replace RF := tf_keep hb R RF
  replace R := tc_keep hb R
  replace S := sc_six (sc_keep hb (six_sc S))
  replace P := pl_keep hb P
  replace B := b_trans B hb
  clear hb
  go_wp2_with fail
  refine (cA _).mono ?_
  rintro e w9 ⟨rfl, rfl⟩
  go_wp2_with fail
  refine (cW _ P).mono ?_
  rintro e w1 ⟨rfl, hb⟩
  replace RF := tf_keep hb R RF
  replace R := tc_keep hb R
  replace S := sc_six (sc_keep hb (six_sc S))
  replace P := pl_keep hb P
  replace B := b_trans B hb
  clear hb
  clear S P cW
  have K : TC (w1.alloc (Obj.cells #[.int .i64 (m 0), .int .i64 (m 1), .int .i64 (m 2)] 25)) w1.heap.size (m 0) (m 1) (m 2) := tc_new rfl
  have KF : TF (w1.alloc (Obj.cells #[.int .i64 (m 0), .int .i64 (m 1), .int .i64 (m 2)] 25)) w1.heap.size := tf_new rfl
  have l1 := tc_lt R
  replace RF := tf_keep (b_alloc (o := (Obj.cells #[.int .i64 (m 0), .int .i64 (m 1), .int .i64 (m 2)] 25)) (Below.refl _ _)) R RF
  replace R := tc_alloc (o := (Obj.cells #[.int .i64 (m 0), .int .i64 (m 1), .int .i64 (m 2)] 25)) R
  replace B := b_alloc (o := (Obj.cells #[.int .i64 (m 0), .int .i64 (m 1), .int .i64 (m 2)] 25)) B
  have n1 : w1.heap.size ≠ w.heap.size + 1 := by omega
  have g1 : w.heap.size ≤ w1.heap.size := by omega
  go_wp2
  refine wp_loop_rounds 4 ?_
  rw [rounds_succ]
  go_wp2_with fail
  refine (c0 _).mono ?_
  rintro e x0 ⟨rfl, hb⟩
  replace KF := tf_keep hb K KF
  replace K := tc_keep hb K
  replace RF := tf_keep hb R RF
  replace R := tc_keep hb R
  replace B := b_trans B hb
  clear hb c0
  go_wp2
  replace K := tc_put0 (v := z0) K
  replace KF := tf_set (b1 := w1.heap.size) (o := 0) (v := .int .i64 z0) KF
  replace R := tc_set (o := 0) (v := .int .i64 z0) R n1
  replace RF := tf_set (b1 := w1.heap.size) (o := 0) (v := .int .i64 z0) RF
  replace B := b_set (p := ⟨w1.heap.size, 0, none⟩) (v := .int .i64 z0) B g1
  rw [rounds_succ]
  go_wp2_with fail
  refine (c1 _).mono ?_
  rintro e x1 ⟨rfl, hb⟩
  replace KF := tf_keep hb K KF
  replace K := tc_keep hb K
  replace RF := tf_keep hb R RF
  replace R := tc_keep hb R
  replace B := b_trans B hb
  clear hb c1
  go_wp2
  replace K := tc_put1 (v := z1) K
  replace KF := tf_set (b1 := w1.heap.size) (o := 1) (v := .int .i64 z1) KF
  replace R := tc_set (o := 1) (v := .int .i64 z1) R n1
  replace RF := tf_set (b1 := w1.heap.size) (o := 1) (v := .int .i64 z1) RF
  replace B := b_set (p := ⟨w1.heap.size, 1, none⟩) (v := .int .i64 z1) B g1
  rw [rounds_succ]
  go_wp2_with fail
  refine (c2 _).mono ?_
  rintro e x2 ⟨rfl, hb⟩
  replace KF := tf_keep hb K KF
  replace K := tc_keep hb K
  replace RF := tf_keep hb R RF
  replace R := tc_keep hb R
  replace B := b_trans B hb
  clear hb c2
  go_wp2
  obtain ⟨q0, q1, q2⟩ := R
  refine bodyPost_ret (v := .tuple #[tv 0 0 0, .int .i64 3]) (by simp [results, Tryd.results6, go_sem, q0, q1, q2]) rfl ⟨rfl, ?_⟩
  repeat (first | exact B | refine b_alloc ?_ | refine b_set ?_ (by omega) | refine b_set ?_ (by simp))

set_option maxHeartbeats 2000000 in
set_option maxRecDepth 10000 in
theorem best_6 (m : Nat → Int) (s z0 z1 z2 : Int)
    (cV : ∀ w, Calls Tryd.prog 12 #[sv m] w (RetV (.bool true) w))
    (cA : ∀ w, Calls Tryd.prog 13 #[.int .i64 s] w fun e w' => e = .returned (.bool true) ∧ w = w')
    (cW : ∀ w, PL w → Calls Tryd.prog 14 #[sv m, .int .i64 0] w (RetV (.tuple #[tv (m 0) (m 1) (m 2), .int .i64 0]) w))
    (s1 : ¬ s < 1)
    (c0 : ∀ w, Calls Tryd.prog 15 #[.int .i64 (m 0), .int .i64 s] w (RetV (.tuple #[.int .i64 z0, .int .i64 0]) w))
    (c1 : ∀ w, Calls Tryd.prog 15 #[.int .i64 (m 1), .int .i64 s] w (RetV (.tuple #[.int .i64 z1, .int .i64 0]) w))
    (c2 : ∀ w, Calls Tryd.prog 15 #[.int .i64 (m 2), .int .i64 s] w (RetV (.tuple #[.int .i64 z2, .int .i64 0]) w))
    (w : World) (hp : PL w) :
    Calls Tryd.prog 6 #[sv m, .int .i64 s] w (RetV (.tuple #[tv z0 z1 z2, .int .i64 0]) w) := by
  obtain ⟨v0, v1, v2⟩ := ix_vec (m 0) (m 1) (m 2)
  have B : Below w.heap.size w ((w.alloc (Obj.cells #[.int .i64 (m 0), .int .i64 (m 1), .int .i64 (m 2), .int .i64 (m 3), .int .i64 (m 4), .int .i64 (m 5)] 23)).alloc (Obj.cells #[.int .i64 0, .int .i64 0, .int .i64 0] 25)) := b_alloc (b_alloc (Below.refl _ _))
  have l0 := pl_lt hp
  have P := pl_keep B hp
  clear hp
  have S : SC6 ((w.alloc (Obj.cells #[.int .i64 (m 0), .int .i64 (m 1), .int .i64 (m 2), .int .i64 (m 3), .int .i64 (m 4), .int .i64 (m 5)] 23)).alloc (Obj.cells #[.int .i64 0, .int .i64 0, .int .i64 0] 25)) w.heap.size m := sc_six (sc_alloc (sc_new rfl))
  have R : TC ((w.alloc (Obj.cells #[.int .i64 (m 0), .int .i64 (m 1), .int .i64 (m 2), .int .i64 (m 3), .int .i64 (m 4), .int .i64 (m 5)] 23)).alloc (Obj.cells #[.int .i64 0, .int .i64 0, .int .i64 0] 25)) (w.heap.size + 1) 0 0 0 := tc_new (by simp)
  have RF : TF ((w.alloc (Obj.cells #[.int .i64 (m 0), .int .i64 (m 1), .int .i64 (m 2), .int .i64 (m 3), .int .i64 (m 4), .int .i64 (m 5)] 23)).alloc (Obj.cells #[.int .i64 0, .int .i64 0, .int .i64 0] 25)) (w.heap.size + 1) := tf_new (by simp)
  go_enter Tryd.func6, Tryd.ntmps6
  go_wp2_with fail
  refine (cV _).mono ?_
  rintro e w1 ⟨rfl, hb⟩
  replace RF := tf_keep hb R RF
  replace R := tc_keep hb R
  replace S := sc_six (sc_keep hb (six_sc S))
  replace P := pl_keep hb P
  replace B := b_trans B hb
  clear hb
  go_wp2_with fail
  refine (cA _).mono ?_
  rintro e w9 ⟨rfl, rfl⟩
  go_wp2_with fail
  refine (cW _ P).mono ?_
  rintro e w1 ⟨rfl, hb⟩
  replace RF := tf_keep hb R RF
  replace R := tc_keep hb R
  replace S := sc_six (sc_keep hb (six_sc S))
  replace P := pl_keep hb P
  replace B := b_trans B hb
  clear hb
  clear S P cW
  have K : TC (w1.alloc (Obj.cells #[.int .i64 (m 0), .int .i64 (m 1), .int .i64 (m 2)] 25)) w1.heap.size (m 0) (m 1) (m 2) := tc_new rfl
  have KF : TF (w1.alloc (Obj.cells #[.int .i64 (m 0), .int .i64 (m 1), .int .i64 (m 2)] 25)) w1.heap.size := tf_new rfl
  have l1 := tc_lt R
  replace RF := tf_keep (b_alloc (o := (Obj.cells #[.int .i64 (m 0), .int .i64 (m 1), .int .i64 (m 2)] 25)) (Below.refl _ _)) R RF
  replace R := tc_alloc (o := (Obj.cells #[.int .i64 (m 0), .int .i64 (m 1), .int .i64 (m 2)] 25)) R
  replace B := b_alloc (o := (Obj.cells #[.int .i64 (m 0), .int .i64 (m 1), .int .i64 (m 2)] 25)) B
  have n1 : w1.heap.size ≠ w.heap.size + 1 := by omega
  have g1 : w.heap.size ≤ w1.heap.size := by omega
  go_wp2
  refine wp_loop_rounds 4 ?_
  rw [rounds_succ]
  go_wp2_with fail
  refine (c0 _).mono ?_
  rintro e x0 ⟨rfl, hb⟩
  replace KF := tf_keep hb K KF
  replace K := tc_keep hb K
  replace RF := tf_keep hb R RF
  replace R := tc_keep hb R
  replace B := b_trans B hb
  clear hb c0
  go_wp2
  replace K := tc_put0 (v := z0) K
  replace KF := tf_set (b1 := w1.heap.size) (o := 0) (v := .int .i64 z0) KF
  replace R := tc_set (o := 0) (v := .int .i64 z0) R n1
  replace RF := tf_set (b1 := w1.heap.size) (o := 0) (v := .int .i64 z0) RF
  replace B := b_set (p := ⟨w1.heap.size, 0, none⟩) (v := .int .i64 z0) B g1
  rw [rounds_succ]
  go_wp2_with fail
  refine (c1 _).mono ?_
  rintro e x1 ⟨rfl, hb⟩
  replace KF := tf_keep hb K KF
  replace K := tc_keep hb K
  replace RF := tf_keep hb R RF
  replace R := tc_keep hb R
  replace B := b_trans B hb
  clear hb c1
  go_wp2
  replace K := tc_put1 (v := z1) K
  replace KF := tf_set (b1 := w1.heap.size) (o := 1) (v := .int .i64 z1) KF
  replace R := tc_set (o := 1) (v := .int .i64 z1) R n1
  replace RF := tf_set (b1 := w1.heap.size) (o := 1) (v := .int .i64 z1) RF
  replace B := b_set (p := ⟨w1.heap.size, 1, none⟩) (v := .int .i64 z1) B g1
  rw [rounds_succ]
  go_wp2_with fail
  refine (c2 _).mono ?_
  rintro e x2 ⟨rfl, hb⟩
  replace KF := tf_keep hb K KF
  replace K := tc_keep hb K
  replace RF := tf_keep hb R RF
  replace R := tc_keep hb R
  replace B := b_trans B hb
  clear hb c2
  go_wp2
  replace K := tc_put2 (v := z2) K
  replace KF := tf_set (b1 := w1.heap.size) (o := 2) (v := .int .i64 z2) KF
  replace R := tc_set (o := 2) (v := .int .i64 z2) R n1
  replace RF := tf_set (b1 := w1.heap.size) (o := 2) (v := .int .i64 z2) RF
  replace B := b_set (p := ⟨w1.heap.size, 2, none⟩) (v := .int .i64 z2) B g1
  rw [rounds_succ]
  go_wp2
  obtain ⟨q0, q1, q2⟩ := R
  refine bodyPost_ret (v := .tuple #[tv z0 z1 z2, .int .i64 0]) (by simp [results, Tryd.results6, go_sem, q0, q1, q2]) rfl ⟨rfl, ?_⟩
  repeat (first | exact B | refine b_alloc ?_ | refine b_set ?_ (by omega) | refine b_set ?_ (by simp))

end Go.Proofs.YtccpcabhcfpbfaaDoor

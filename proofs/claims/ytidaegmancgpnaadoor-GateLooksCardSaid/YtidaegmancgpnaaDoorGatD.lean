/- Package gate: fits, Look: the program's answer and the document's. -/
import Derived.Test.YtidaegmancgpnaaDoorGatA
import Derived.Test.YtidaegmancgpnaaDoorFixB
import Derived.Test.YtidaegmancgpnaaDoorFixD
import Derived.Test.YtidaegmancgpnaaDoorSymB
import Derived.Test.YtidaegmancgpnaaDoorVecE
namespace Go.Proofs.YtidaegmancgpnaaDoor
open Go.RowKit Go.Shelf

set_option maxHeartbeats 1000000 in
set_option maxRecDepth 10000 in
theorem fits_gate (m : Nat → Int) (hm : I6 m) (w : World) :
    Calls Tryd.prog 8 #[sv m] w (RetV (.bool (f6b m)) w) := by
  have B := b_alloc (o := Obj.cells #[.int .i64 (m 0), .int .i64 (m 1), .int .i64 (m 2), .int .i64 (m 3), .int .i64 (m 4), .int .i64 (m 5)] 25) (Below.refl w.heap.size w)
  obtain ⟨x0, x1, x2, x3, x4, x5⟩ := ix_sym m
  go_enter Tryd.func8, Tryd.ntmps8
  go_wp2
  go_loop [6] (fun iv => ∃ k : Nat, k ≤ 6 ∧ iv = .int .i64 k ∧ Hid (∀ i, i < k → FitP (m i))) (fun iv => 6 - (intOf iv).toNat)
  case atStart => exact ⟨0, by decide, rfl, Lib.hid (fun i hi => absurd hi (by omega))⟩
  case round =>
    obtain ⟨k, hk, rfl, hf⟩ := hrel
    by_cases c : k < 6 ∧ ¬ FitP (m k)
    · have E := Lib.hid (f6b_no (fun h => c.2 (h k c.1)))
      have ex := Lib.hid (fitb_no c.2)
      have hx := Lib.hid (hm k c.1)
      obtain ⟨c, _⟩ := c
      rcases seven hk with rfl | rfl | rfl | rfl | rfl | rfl | rfl
      · exact absurd c (by decide)
      all_goals
        go_wp2_with fail
        refine (fits_any _ hx.out.1 hx.out.2 _).mono ?_
        rintro e w9 ⟨rfl, rfl⟩
        rw [ex.out]
        go_wp2
        go_ret
        exact ⟨by rw [E.out]; rfl, B⟩
    · by_cases d : k = 6
      · subst d
        have E := Lib.hid (f6b_yes hf.out)
        go_wp2
        go_ret
        exact ⟨by rw [E.out]; rfl, B⟩
      · have fk : FitP (m k) := Classical.byContradiction (fun h => c ⟨by omega, h⟩)
        have hf' := Lib.hid (less_succ hf.out fk)
        have hx := Lib.hid (hm k (by omega))
        have ex := Lib.hid (fitb_yes fk)
        clear c fk
        rcases seven hk with rfl | rfl | rfl | rfl | rfl | rfl | rfl
        · exact absurd rfl d
        all_goals
          go_wp2_with fail
          refine (fits_any _ hx.out.1 hx.out.2 _).mono ?_
          rintro e w9 ⟨rfl, rfl⟩
          rw [ex.out]
          go_wp2
          go_round
          case rel => exact ⟨_, by decide, rfl, hf'⟩
          case measure => simp [intOf]

set_option maxHeartbeats 2000000 in
set_option maxRecDepth 10000 in
theorem lookg_0 (x0 x1 x2 : Int) (m : Nat → Int) (a n : Int)
    (cV : ∀ w, Calls Tryd.prog 7 #[tv x0 x1 x2] w (RetV (.bool false) w))
    (w : World) (hp : PL w) :
    Calls Tryd.prog 4 #[tv x0 x1 x2, sv m, .int .i64 a, .int .i64 n] w (RetV (.tuple #[.int .i64 0, .int .i64 0, .int .i64 1]) w) := by
  have B : Below w.heap.size w ((w.alloc (Obj.cells #[.int .i64 x0, .int .i64 x1, .int .i64 x2] 23)).alloc (Obj.cells #[.int .i64 (m 0), .int .i64 (m 1), .int .i64 (m 2), .int .i64 (m 3), .int .i64 (m 4), .int .i64 (m 5)] 25)) := b_alloc (b_alloc (Below.refl _ _))
  have P := pl_keep (b_alloc (o := (Obj.cells #[.int .i64 (m 0), .int .i64 (m 1), .int .i64 (m 2), .int .i64 (m 3), .int .i64 (m 4), .int .i64 (m 5)] 25)) (b_alloc (o := (Obj.cells #[.int .i64 x0, .int .i64 x1, .int .i64 x2] 23)) (Below.refl w.heap.size w))) hp
  go_enter Tryd.func4, Tryd.ntmps4
  have T : TC ((w.alloc (Obj.cells #[.int .i64 x0, .int .i64 x1, .int .i64 x2] 23)).alloc (Obj.cells #[.int .i64 (m 0), .int .i64 (m 1), .int .i64 (m 2), .int .i64 (m 3), .int .i64 (m 4), .int .i64 (m 5)] 25)) w.heap.size x0 x1 x2 := tc_alloc (tc_new rfl)
  have S : SC6 ((w.alloc (Obj.cells #[.int .i64 x0, .int .i64 x1, .int .i64 x2] 23)).alloc (Obj.cells #[.int .i64 (m 0), .int .i64 (m 1), .int .i64 (m 2), .int .i64 (m 3), .int .i64 (m 4), .int .i64 (m 5)] 25)) (w.heap.size + 1) m := sc_six (sc_new (by simp))
  go_wp2_with fail
  refine (cV _).mono ?_
  rintro e w1 ⟨rfl, hb1⟩
  replace T := tc_keep hb1 T
  replace S := sc_six (sc_keep hb1 (six_sc S))
  replace P := pl_keep hb1 P
  replace B := b_trans B hb1
  clear hb1
  go_wp2
  exact bodyPost_ret (v := .tuple #[.int .i64 0, .int .i64 0, .int .i64 1]) (by simp [results, Tryd.results4, go_sem]) rfl ⟨rfl, B⟩

set_option maxHeartbeats 2000000 in
set_option maxRecDepth 10000 in
theorem lookg_1 (x0 x1 x2 : Int) (m : Nat → Int) (a n : Int)
    (cV : ∀ w, Calls Tryd.prog 7 #[tv x0 x1 x2] w (RetV (.bool true) w))
    (cS : ∀ w, Calls Tryd.prog 8 #[sv m] w (RetV (.bool false) w))
    (w : World) (hp : PL w) :
    Calls Tryd.prog 4 #[tv x0 x1 x2, sv m, .int .i64 a, .int .i64 n] w (RetV (.tuple #[.int .i64 0, .int .i64 0, .int .i64 1]) w) := by
  have B : Below w.heap.size w ((w.alloc (Obj.cells #[.int .i64 x0, .int .i64 x1, .int .i64 x2] 23)).alloc (Obj.cells #[.int .i64 (m 0), .int .i64 (m 1), .int .i64 (m 2), .int .i64 (m 3), .int .i64 (m 4), .int .i64 (m 5)] 25)) := b_alloc (b_alloc (Below.refl _ _))
  have P := pl_keep (b_alloc (o := (Obj.cells #[.int .i64 (m 0), .int .i64 (m 1), .int .i64 (m 2), .int .i64 (m 3), .int .i64 (m 4), .int .i64 (m 5)] 25)) (b_alloc (o := (Obj.cells #[.int .i64 x0, .int .i64 x1, .int .i64 x2] 23)) (Below.refl w.heap.size w))) hp
  go_enter Tryd.func4, Tryd.ntmps4
  have T : TC ((w.alloc (Obj.cells #[.int .i64 x0, .int .i64 x1, .int .i64 x2] 23)).alloc (Obj.cells #[.int .i64 (m 0), .int .i64 (m 1), .int .i64 (m 2), .int .i64 (m 3), .int .i64 (m 4), .int .i64 (m 5)] 25)) w.heap.size x0 x1 x2 := tc_alloc (tc_new rfl)
  have S : SC6 ((w.alloc (Obj.cells #[.int .i64 x0, .int .i64 x1, .int .i64 x2] 23)).alloc (Obj.cells #[.int .i64 (m 0), .int .i64 (m 1), .int .i64 (m 2), .int .i64 (m 3), .int .i64 (m 4), .int .i64 (m 5)] 25)) (w.heap.size + 1) m := sc_six (sc_new (by simp))
  go_wp2_with fail
  refine (cV _).mono ?_
  rintro e w1 ⟨rfl, hb1⟩
  replace T := tc_keep hb1 T
  replace S := sc_six (sc_keep hb1 (six_sc S))
  replace P := pl_keep hb1 P
  replace B := b_trans B hb1
  clear hb1
  go_wp2_with fail
  refine (cS _).mono ?_
  rintro e w1 ⟨rfl, hb1⟩
  replace T := tc_keep hb1 T
  replace S := sc_six (sc_keep hb1 (six_sc S))
  replace P := pl_keep hb1 P
  replace B := b_trans B hb1
  clear hb1
  go_wp2
  exact bodyPost_ret (v := .tuple #[.int .i64 0, .int .i64 0, .int .i64 1]) (by simp [results, Tryd.results4, go_sem]) rfl ⟨rfl, B⟩

set_option maxHeartbeats 2000000 in
set_option maxRecDepth 10000 in
theorem lookg_2 (x0 x1 x2 : Int) (m : Nat → Int) (a n : Int)
    (cV : ∀ w, Calls Tryd.prog 7 #[tv x0 x1 x2] w (RetV (.bool true) w))
    (cS : ∀ w, Calls Tryd.prog 8 #[sv m] w (RetV (.bool true) w))
    (cA : ∀ w, Calls Tryd.prog 9 #[.int .i64 a] w fun e w' => e = .returned (.bool false) ∧ w = w')
    (w : World) (hp : PL w) :
    Calls Tryd.prog 4 #[tv x0 x1 x2, sv m, .int .i64 a, .int .i64 n] w (RetV (.tuple #[.int .i64 0, .int .i64 0, .int .i64 1]) w) := by
  have B : Below w.heap.size w ((w.alloc (Obj.cells #[.int .i64 x0, .int .i64 x1, .int .i64 x2] 23)).alloc (Obj.cells #[.int .i64 (m 0), .int .i64 (m 1), .int .i64 (m 2), .int .i64 (m 3), .int .i64 (m 4), .int .i64 (m 5)] 25)) := b_alloc (b_alloc (Below.refl _ _))
  have P := pl_keep (b_alloc (o := (Obj.cells #[.int .i64 (m 0), .int .i64 (m 1), .int .i64 (m 2), .int .i64 (m 3), .int .i64 (m 4), .int .i64 (m 5)] 25)) (b_alloc (o := (Obj.cells #[.int .i64 x0, .int .i64 x1, .int .i64 x2] 23)) (Below.refl w.heap.size w))) hp
  go_enter Tryd.func4, Tryd.ntmps4
  have T : TC ((w.alloc (Obj.cells #[.int .i64 x0, .int .i64 x1, .int .i64 x2] 23)).alloc (Obj.cells #[.int .i64 (m 0), .int .i64 (m 1), .int .i64 (m 2), .int .i64 (m 3), .int .i64 (m 4), .int .i64 (m 5)] 25)) w.heap.size x0 x1 x2 := tc_alloc (tc_new rfl)
  have S : SC6 ((w.alloc (Obj.cells #[.int .i64 x0, .int .i64 x1, .int .i64 x2] 23)).alloc (Obj.cells #[.int .i64 (m 0), .int .i64 (m 1), .int .i64 (m 2), .int .i64 (m 3), .int .i64 (m 4), .int .i64 (m 5)] 25)) (w.heap.size + 1) m := sc_six (sc_new (by simp))
  go_wp2_with fail
  refine (cV _).mono ?_
  rintro e w1 ⟨rfl, hb1⟩
  replace T := tc_keep hb1 T
  replace S := sc_six (sc_keep hb1 (six_sc S))
  replace P := pl_keep hb1 P
  replace B := b_trans B hb1
  clear hb1
  go_wp2_with fail
  refine (cS _).mono ?_
  rintro e w1 ⟨rfl, hb1⟩
  replace T := tc_keep hb1 T
  replace S := sc_six (sc_keep hb1 (six_sc S))
  replace P := pl_keep hb1 P
  replace B := b_trans B hb1
  clear hb1
  go_wp2_with fail
  refine (cA _).mono ?_
  rintro e w9 ⟨rfl, rfl⟩
  go_wp2
  exact bodyPost_ret (v := .tuple #[.int .i64 0, .int .i64 0, .int .i64 1]) (by simp [results, Tryd.results4, go_sem]) rfl ⟨rfl, B⟩

set_option maxHeartbeats 2000000 in
set_option maxRecDepth 10000 in
theorem lookg_3 (x0 x1 x2 : Int) (m : Nat → Int) (a n : Int)
    (cV : ∀ w, Calls Tryd.prog 7 #[tv x0 x1 x2] w (RetV (.bool true) w))
    (cS : ∀ w, Calls Tryd.prog 8 #[sv m] w (RetV (.bool true) w))
    (cA : ∀ w, Calls Tryd.prog 9 #[.int .i64 a] w fun e w' => e = .returned (.bool true) ∧ w = w')
    (cN : ∀ w, Calls Tryd.prog 9 #[.int .i64 n] w fun e w' => e = .returned (.bool false) ∧ w = w')
    (w : World) (hp : PL w) :
    Calls Tryd.prog 4 #[tv x0 x1 x2, sv m, .int .i64 a, .int .i64 n] w (RetV (.tuple #[.int .i64 0, .int .i64 0, .int .i64 1]) w) := by
  have B : Below w.heap.size w ((w.alloc (Obj.cells #[.int .i64 x0, .int .i64 x1, .int .i64 x2] 23)).alloc (Obj.cells #[.int .i64 (m 0), .int .i64 (m 1), .int .i64 (m 2), .int .i64 (m 3), .int .i64 (m 4), .int .i64 (m 5)] 25)) := b_alloc (b_alloc (Below.refl _ _))
  have P := pl_keep (b_alloc (o := (Obj.cells #[.int .i64 (m 0), .int .i64 (m 1), .int .i64 (m 2), .int .i64 (m 3), .int .i64 (m 4), .int .i64 (m 5)] 25)) (b_alloc (o := (Obj.cells #[.int .i64 x0, .int .i64 x1, .int .i64 x2] 23)) (Below.refl w.heap.size w))) hp
  go_enter Tryd.func4, Tryd.ntmps4
  have T : TC ((w.alloc (Obj.cells #[.int .i64 x0, .int .i64 x1, .int .i64 x2] 23)).alloc (Obj.cells #[.int .i64 (m 0), .int .i64 (m 1), .int .i64 (m 2), .int .i64 (m 3), .int .i64 (m 4), .int .i64 (m 5)] 25)) w.heap.size x0 x1 x2 := tc_alloc (tc_new rfl)
  have S : SC6 ((w.alloc (Obj.cells #[.int .i64 x0, .int .i64 x1, .int .i64 x2] 23)).alloc (Obj.cells #[.int .i64 (m 0), .int .i64 (m 1), .int .i64 (m 2), .int .i64 (m 3), .int .i64 (m 4), .int .i64 (m 5)] 25)) (w.heap.size + 1) m := sc_six (sc_new (by simp))
  go_wp2_with fail
  refine (cV _).mono ?_
  rintro e w1 ⟨rfl, hb1⟩
  replace T := tc_keep hb1 T
  replace S := sc_six (sc_keep hb1 (six_sc S))
  replace P := pl_keep hb1 P
  replace B := b_trans B hb1
  clear hb1
  go_wp2_with fail
  refine (cS _).mono ?_
  rintro e w1 ⟨rfl, hb1⟩
  replace T := tc_keep hb1 T
  replace S := sc_six (sc_keep hb1 (six_sc S))
  replace P := pl_keep hb1 P
  replace B := b_trans B hb1
  clear hb1
  go_wp2_with fail
  refine (cA _).mono ?_
  rintro e w9 ⟨rfl, rfl⟩
  go_wp2_with fail
  refine (cN _).mono ?_
  rintro e w9 ⟨rfl, rfl⟩
  go_wp2
  exact bodyPost_ret (v := .tuple #[.int .i64 0, .int .i64 0, .int .i64 1]) (by simp [results, Tryd.results4, go_sem]) rfl ⟨rfl, B⟩

set_option maxHeartbeats 2000000 in
set_option maxRecDepth 10000 in
theorem lookg_4 (x0 x1 x2 : Int) (m : Nat → Int) (a n : Int)
    (cV : ∀ w, Calls Tryd.prog 7 #[tv x0 x1 x2] w (RetV (.bool true) w))
    (cS : ∀ w, Calls Tryd.prog 8 #[sv m] w (RetV (.bool true) w))
    (cA : ∀ w, Calls Tryd.prog 9 #[.int .i64 a] w fun e w' => e = .returned (.bool true) ∧ w = w')
    (cN : ∀ w, Calls Tryd.prog 9 #[.int .i64 n] w fun e w' => e = .returned (.bool true) ∧ w = w')
    (cT : ∀ w, PL w → Calls Tryd.prog 10 #[sv m, .int .i64 0, .int .i64 0] w (RetV (.tuple #[.int .i64 (m 0), .int .i64 0]) w))
    (n1 : n < 1)
    (w : World) (hp : PL w) :
    Calls Tryd.prog 4 #[tv x0 x1 x2, sv m, .int .i64 a, .int .i64 n] w (RetV (.tuple #[.int .i64 0, .int .i64 0, .int .i64 1]) w) := by
  have B : Below w.heap.size w ((w.alloc (Obj.cells #[.int .i64 x0, .int .i64 x1, .int .i64 x2] 23)).alloc (Obj.cells #[.int .i64 (m 0), .int .i64 (m 1), .int .i64 (m 2), .int .i64 (m 3), .int .i64 (m 4), .int .i64 (m 5)] 25)) := b_alloc (b_alloc (Below.refl _ _))
  have P := pl_keep (b_alloc (o := (Obj.cells #[.int .i64 (m 0), .int .i64 (m 1), .int .i64 (m 2), .int .i64 (m 3), .int .i64 (m 4), .int .i64 (m 5)] 25)) (b_alloc (o := (Obj.cells #[.int .i64 x0, .int .i64 x1, .int .i64 x2] 23)) (Below.refl w.heap.size w))) hp
  go_enter Tryd.func4, Tryd.ntmps4
  have T : TC ((w.alloc (Obj.cells #[.int .i64 x0, .int .i64 x1, .int .i64 x2] 23)).alloc (Obj.cells #[.int .i64 (m 0), .int .i64 (m 1), .int .i64 (m 2), .int .i64 (m 3), .int .i64 (m 4), .int .i64 (m 5)] 25)) w.heap.size x0 x1 x2 := tc_alloc (tc_new rfl)
  have S : SC6 ((w.alloc (Obj.cells #[.int .i64 x0, .int .i64 x1, .int .i64 x2] 23)).alloc (Obj.cells #[.int .i64 (m 0), .int .i64 (m 1), .int .i64 (m 2), .int .i64 (m 3), .int .i64 (m 4), .int .i64 (m 5)] 25)) (w.heap.size + 1) m := sc_six (sc_new (by simp))
  go_wp2_with fail
  refine (cV _).mono ?_
  rintro e w1 ⟨rfl, hb1⟩
  replace T := tc_keep hb1 T
  replace S := sc_six (sc_keep hb1 (six_sc S))
  replace P := pl_keep hb1 P
  replace B := b_trans B hb1
  clear hb1
  go_wp2_with fail
  refine (cS _).mono ?_
  rintro e w1 ⟨rfl, hb1⟩
  replace T := tc_keep hb1 T
  replace S := sc_six (sc_keep hb1 (six_sc S))
  replace P := pl_keep hb1 P
  replace B := b_trans B hb1
  clear hb1
  go_wp2_with fail
  refine (cA _).mono ?_
  rintro e w9 ⟨rfl, rfl⟩
  go_wp2_with fail
  refine (cN _).mono ?_
  rintro e w9 ⟨rfl, rfl⟩
  go_wp2_with fail
  refine (cT _ P).mono ?_
  rintro e w1 ⟨rfl, hb1⟩
  replace T := tc_keep hb1 T
  replace S := sc_six (sc_keep hb1 (six_sc S))
  replace P := pl_keep hb1 P
  replace B := b_trans B hb1
  clear hb1
  go_wp2
  exact bodyPost_ret (v := .tuple #[.int .i64 0, .int .i64 0, .int .i64 1]) (by simp [results, Tryd.results4, go_sem]) rfl ⟨rfl, B⟩

set_option maxHeartbeats 2000000 in
set_option maxRecDepth 10000 in
theorem lookg_5 (x0 x1 x2 : Int) (m : Nat → Int) (a n : Int)
    (cV : ∀ w, Calls Tryd.prog 7 #[tv x0 x1 x2] w (RetV (.bool true) w))
    (cS : ∀ w, Calls Tryd.prog 8 #[sv m] w (RetV (.bool true) w))
    (cA : ∀ w, Calls Tryd.prog 9 #[.int .i64 a] w fun e w' => e = .returned (.bool true) ∧ w = w')
    (cN : ∀ w, Calls Tryd.prog 9 #[.int .i64 n] w fun e w' => e = .returned (.bool true) ∧ w = w')
    (cT : ∀ w, PL w → Calls Tryd.prog 10 #[sv m, .int .i64 0, .int .i64 0] w (RetV (.tuple #[.int .i64 (m 0), .int .i64 0]) w))
    (n1 : ¬ n < 1)
    (m0 : m 0 < 0)
    (w : World) (hp : PL w) :
    Calls Tryd.prog 4 #[tv x0 x1 x2, sv m, .int .i64 a, .int .i64 n] w (RetV (.tuple #[.int .i64 0, .int .i64 0, .int .i64 1]) w) := by
  have B : Below w.heap.size w ((w.alloc (Obj.cells #[.int .i64 x0, .int .i64 x1, .int .i64 x2] 23)).alloc (Obj.cells #[.int .i64 (m 0), .int .i64 (m 1), .int .i64 (m 2), .int .i64 (m 3), .int .i64 (m 4), .int .i64 (m 5)] 25)) := b_alloc (b_alloc (Below.refl _ _))
  have P := pl_keep (b_alloc (o := (Obj.cells #[.int .i64 (m 0), .int .i64 (m 1), .int .i64 (m 2), .int .i64 (m 3), .int .i64 (m 4), .int .i64 (m 5)] 25)) (b_alloc (o := (Obj.cells #[.int .i64 x0, .int .i64 x1, .int .i64 x2] 23)) (Below.refl w.heap.size w))) hp
  go_enter Tryd.func4, Tryd.ntmps4
  have T : TC ((w.alloc (Obj.cells #[.int .i64 x0, .int .i64 x1, .int .i64 x2] 23)).alloc (Obj.cells #[.int .i64 (m 0), .int .i64 (m 1), .int .i64 (m 2), .int .i64 (m 3), .int .i64 (m 4), .int .i64 (m 5)] 25)) w.heap.size x0 x1 x2 := tc_alloc (tc_new rfl)
  have S : SC6 ((w.alloc (Obj.cells #[.int .i64 x0, .int .i64 x1, .int .i64 x2] 23)).alloc (Obj.cells #[.int .i64 (m 0), .int .i64 (m 1), .int .i64 (m 2), .int .i64 (m 3), .int .i64 (m 4), .int .i64 (m 5)] 25)) (w.heap.size + 1) m := sc_six (sc_new (by simp))
  go_wp2_with fail
  refine (cV _).mono ?_
  rintro e w1 ⟨rfl, hb1⟩
  replace T := tc_keep hb1 T
  replace S := sc_six (sc_keep hb1 (six_sc S))
  replace P := pl_keep hb1 P
  replace B := b_trans B hb1
  clear hb1
  go_wp2_with fail
  refine (cS _).mono ?_
  rintro e w1 ⟨rfl, hb1⟩
  replace T := tc_keep hb1 T
  replace S := sc_six (sc_keep hb1 (six_sc S))
  replace P := pl_keep hb1 P
  replace B := b_trans B hb1
  clear hb1
  go_wp2_with fail
  refine (cA _).mono ?_
  rintro e w9 ⟨rfl, rfl⟩
  go_wp2_with fail
  refine (cN _).mono ?_
  rintro e w9 ⟨rfl, rfl⟩
  go_wp2_with fail
  refine (cT _ P).mono ?_
  rintro e w1 ⟨rfl, hb1⟩
  replace T := tc_keep hb1 T
  replace S := sc_six (sc_keep hb1 (six_sc S))
  replace P := pl_keep hb1 P
  replace B := b_trans B hb1
  clear hb1
  go_wp2
  exact bodyPost_ret (v := .tuple #[.int .i64 0, .int .i64 0, .int .i64 1]) (by simp [results, Tryd.results4, go_sem]) rfl ⟨rfl, B⟩

set_option maxHeartbeats 2000000 in
set_option maxRecDepth 10000 in
theorem lookg_6 (x0 x1 x2 : Int) (m : Nat → Int) (a n : Int)
    (cV : ∀ w, Calls Tryd.prog 7 #[tv x0 x1 x2] w (RetV (.bool true) w))
    (cS : ∀ w, Calls Tryd.prog 8 #[sv m] w (RetV (.bool true) w))
    (cA : ∀ w, Calls Tryd.prog 9 #[.int .i64 a] w fun e w' => e = .returned (.bool true) ∧ w = w')
    (cN : ∀ w, Calls Tryd.prog 9 #[.int .i64 n] w fun e w' => e = .returned (.bool true) ∧ w = w')
    (cT : ∀ w, PL w → Calls Tryd.prog 10 #[sv m, .int .i64 0, .int .i64 0] w (RetV (.tuple #[.int .i64 (m 0), .int .i64 0]) w))
    (cU : ∀ w, Calls Tryd.prog 11 #[.int .i64 a, .int .i64 x0] w (RetV (.tuple #[.int .i64 0, .int .i64 3]) w))
    (n1 : ¬ n < 1)
    (m0 : ¬ m 0 < 0)
    (w : World) (hp : PL w) :
    Calls Tryd.prog 4 #[tv x0 x1 x2, sv m, .int .i64 a, .int .i64 n] w (RetV (.tuple #[.int .i64 0, .int .i64 0, .int .i64 3]) w) := by
  have B : Below w.heap.size w ((w.alloc (Obj.cells #[.int .i64 x0, .int .i64 x1, .int .i64 x2] 23)).alloc (Obj.cells #[.int .i64 (m 0), .int .i64 (m 1), .int .i64 (m 2), .int .i64 (m 3), .int .i64 (m 4), .int .i64 (m 5)] 25)) := b_alloc (b_alloc (Below.refl _ _))
  have P := pl_keep (b_alloc (o := (Obj.cells #[.int .i64 (m 0), .int .i64 (m 1), .int .i64 (m 2), .int .i64 (m 3), .int .i64 (m 4), .int .i64 (m 5)] 25)) (b_alloc (o := (Obj.cells #[.int .i64 x0, .int .i64 x1, .int .i64 x2] 23)) (Below.refl w.heap.size w))) hp
  go_enter Tryd.func4, Tryd.ntmps4
  have T : TC ((w.alloc (Obj.cells #[.int .i64 x0, .int .i64 x1, .int .i64 x2] 23)).alloc (Obj.cells #[.int .i64 (m 0), .int .i64 (m 1), .int .i64 (m 2), .int .i64 (m 3), .int .i64 (m 4), .int .i64 (m 5)] 25)) w.heap.size x0 x1 x2 := tc_alloc (tc_new rfl)
  have S : SC6 ((w.alloc (Obj.cells #[.int .i64 x0, .int .i64 x1, .int .i64 x2] 23)).alloc (Obj.cells #[.int .i64 (m 0), .int .i64 (m 1), .int .i64 (m 2), .int .i64 (m 3), .int .i64 (m 4), .int .i64 (m 5)] 25)) (w.heap.size + 1) m := sc_six (sc_new (by simp))
  go_wp2_with fail
  refine (cV _).mono ?_
  rintro e w1 ⟨rfl, hb1⟩
  replace T := tc_keep hb1 T
  replace S := sc_six (sc_keep hb1 (six_sc S))
  replace P := pl_keep hb1 P
  replace B := b_trans B hb1
  clear hb1
  go_wp2_with fail
  refine (cS _).mono ?_
  rintro e w1 ⟨rfl, hb1⟩
  replace T := tc_keep hb1 T
  replace S := sc_six (sc_keep hb1 (six_sc S))
  replace P := pl_keep hb1 P
  replace B := b_trans B hb1
  clear hb1
  go_wp2_with fail
  refine (cA _).mono ?_
  rintro e w9 ⟨rfl, rfl⟩
  go_wp2_with fail
  refine (cN _).mono ?_
  rintro e w9 ⟨rfl, rfl⟩
  go_wp2_with fail
  refine (cT _ P).mono ?_
  rintro e w1 ⟨rfl, hb1⟩
  replace T := tc_keep hb1 T
  replace S := sc_six (sc_keep hb1 (six_sc S))
  replace P := pl_keep hb1 P
  replace B := b_trans B hb1
  clear hb1
  go_wp2_with fail
  refine (cU _).mono ?_
  rintro e w1 ⟨rfl, hb1⟩
  replace T := tc_keep hb1 T
  replace S := sc_six (sc_keep hb1 (six_sc S))
  replace P := pl_keep hb1 P
  replace B := b_trans B hb1
  clear hb1
  go_wp2
  exact bodyPost_ret (v := .tuple #[.int .i64 0, .int .i64 0, .int .i64 3]) (by simp [results, Tryd.results4, go_sem]) rfl ⟨rfl, B⟩

set_option maxHeartbeats 2000000 in
set_option maxRecDepth 10000 in
theorem lookg_7 (x0 x1 x2 : Int) (m : Nat → Int) (a n y : Int)
    (cV : ∀ w, Calls Tryd.prog 7 #[tv x0 x1 x2] w (RetV (.bool true) w))
    (cS : ∀ w, Calls Tryd.prog 8 #[sv m] w (RetV (.bool true) w))
    (cA : ∀ w, Calls Tryd.prog 9 #[.int .i64 a] w fun e w' => e = .returned (.bool true) ∧ w = w')
    (cN : ∀ w, Calls Tryd.prog 9 #[.int .i64 n] w fun e w' => e = .returned (.bool true) ∧ w = w')
    (cT : ∀ w, PL w → Calls Tryd.prog 10 #[sv m, .int .i64 0, .int .i64 0] w (RetV (.tuple #[.int .i64 (m 0), .int .i64 0]) w))
    (cU : ∀ w, Calls Tryd.prog 11 #[.int .i64 a, .int .i64 x0] w (RetV (.tuple #[.int .i64 y, .int .i64 0]) w))
    (cD : ∀ w, Calls Tryd.prog 12 #[.int .i64 (m 0), .int .i64 n] w (RetV (.tuple #[.int .i64 0, .int .i64 3]) w))
    (n1 : ¬ n < 1)
    (m0 : ¬ m 0 < 0)
    (w : World) (hp : PL w) :
    Calls Tryd.prog 4 #[tv x0 x1 x2, sv m, .int .i64 a, .int .i64 n] w (RetV (.tuple #[.int .i64 0, .int .i64 0, .int .i64 3]) w) := by
  have B : Below w.heap.size w ((w.alloc (Obj.cells #[.int .i64 x0, .int .i64 x1, .int .i64 x2] 23)).alloc (Obj.cells #[.int .i64 (m 0), .int .i64 (m 1), .int .i64 (m 2), .int .i64 (m 3), .int .i64 (m 4), .int .i64 (m 5)] 25)) := b_alloc (b_alloc (Below.refl _ _))
  have P := pl_keep (b_alloc (o := (Obj.cells #[.int .i64 (m 0), .int .i64 (m 1), .int .i64 (m 2), .int .i64 (m 3), .int .i64 (m 4), .int .i64 (m 5)] 25)) (b_alloc (o := (Obj.cells #[.int .i64 x0, .int .i64 x1, .int .i64 x2] 23)) (Below.refl w.heap.size w))) hp
  go_enter Tryd.func4, Tryd.ntmps4
  have T : TC ((w.alloc (Obj.cells #[.int .i64 x0, .int .i64 x1, .int .i64 x2] 23)).alloc (Obj.cells #[.int .i64 (m 0), .int .i64 (m 1), .int .i64 (m 2), .int .i64 (m 3), .int .i64 (m 4), .int .i64 (m 5)] 25)) w.heap.size x0 x1 x2 := tc_alloc (tc_new rfl)
  have S : SC6 ((w.alloc (Obj.cells #[.int .i64 x0, .int .i64 x1, .int .i64 x2] 23)).alloc (Obj.cells #[.int .i64 (m 0), .int .i64 (m 1), .int .i64 (m 2), .int .i64 (m 3), .int .i64 (m 4), .int .i64 (m 5)] 25)) (w.heap.size + 1) m := sc_six (sc_new (by simp))
  go_wp2_with fail
  refine (cV _).mono ?_
  rintro e w1 ⟨rfl, hb1⟩
  replace T := tc_keep hb1 T
  replace S := sc_six (sc_keep hb1 (six_sc S))
  replace P := pl_keep hb1 P
  replace B := b_trans B hb1
  clear hb1
  go_wp2_with fail
  refine (cS _).mono ?_
  rintro e w1 ⟨rfl, hb1⟩
  replace T := tc_keep hb1 T
  replace S := sc_six (sc_keep hb1 (six_sc S))
  replace P := pl_keep hb1 P
  replace B := b_trans B hb1
  clear hb1
  go_wp2_with fail
  refine (cA _).mono ?_
  rintro e w9 ⟨rfl, rfl⟩
  go_wp2_with fail
  refine (cN _).mono ?_
  rintro e w9 ⟨rfl, rfl⟩
  go_wp2_with fail
  refine (cT _ P).mono ?_
  rintro e w1 ⟨rfl, hb1⟩
  replace T := tc_keep hb1 T
  replace S := sc_six (sc_keep hb1 (six_sc S))
  replace P := pl_keep hb1 P
  replace B := b_trans B hb1
  clear hb1
  go_wp2_with fail
  refine (cU _).mono ?_
  rintro e w1 ⟨rfl, hb1⟩
  replace T := tc_keep hb1 T
  replace S := sc_six (sc_keep hb1 (six_sc S))
  replace P := pl_keep hb1 P
  replace B := b_trans B hb1
  clear hb1
  go_wp2_with fail
  refine (cD _).mono ?_
  rintro e w1 ⟨rfl, hb1⟩
  replace T := tc_keep hb1 T
  replace S := sc_six (sc_keep hb1 (six_sc S))
  replace P := pl_keep hb1 P
  replace B := b_trans B hb1
  clear hb1
  go_wp2
  exact bodyPost_ret (v := .tuple #[.int .i64 0, .int .i64 0, .int .i64 3]) (by simp [results, Tryd.results4, go_sem]) rfl ⟨rfl, B⟩

set_option maxHeartbeats 2000000 in
set_option maxRecDepth 10000 in
theorem lookg_8 (x0 x1 x2 : Int) (m : Nat → Int) (a n y s : Int)
    (cV : ∀ w, Calls Tryd.prog 7 #[tv x0 x1 x2] w (RetV (.bool true) w))
    (cS : ∀ w, Calls Tryd.prog 8 #[sv m] w (RetV (.bool true) w))
    (cA : ∀ w, Calls Tryd.prog 9 #[.int .i64 a] w fun e w' => e = .returned (.bool true) ∧ w = w')
    (cN : ∀ w, Calls Tryd.prog 9 #[.int .i64 n] w fun e w' => e = .returned (.bool true) ∧ w = w')
    (cT : ∀ w, PL w → Calls Tryd.prog 10 #[sv m, .int .i64 0, .int .i64 0] w (RetV (.tuple #[.int .i64 (m 0), .int .i64 0]) w))
    (cU : ∀ w, Calls Tryd.prog 11 #[.int .i64 a, .int .i64 x0] w (RetV (.tuple #[.int .i64 y, .int .i64 0]) w))
    (cD : ∀ w, Calls Tryd.prog 12 #[.int .i64 (m 0), .int .i64 n] w (RetV (.tuple #[.int .i64 s, .int .i64 0]) w))
    (n1 : ¬ n < 1)
    (m0 : ¬ m 0 < 0)
    (w : World) (hp : PL w) :
    Calls Tryd.prog 4 #[tv x0 x1 x2, sv m, .int .i64 a, .int .i64 n] w (RetV (.tuple #[.int .i64 y, .int .i64 s, .int .i64 0]) w) := by
  have B : Below w.heap.size w ((w.alloc (Obj.cells #[.int .i64 x0, .int .i64 x1, .int .i64 x2] 23)).alloc (Obj.cells #[.int .i64 (m 0), .int .i64 (m 1), .int .i64 (m 2), .int .i64 (m 3), .int .i64 (m 4), .int .i64 (m 5)] 25)) := b_alloc (b_alloc (Below.refl _ _))
  have P := pl_keep (b_alloc (o := (Obj.cells #[.int .i64 (m 0), .int .i64 (m 1), .int .i64 (m 2), .int .i64 (m 3), .int .i64 (m 4), .int .i64 (m 5)] 25)) (b_alloc (o := (Obj.cells #[.int .i64 x0, .int .i64 x1, .int .i64 x2] 23)) (Below.refl w.heap.size w))) hp
  go_enter Tryd.func4, Tryd.ntmps4
  have T : TC ((w.alloc (Obj.cells #[.int .i64 x0, .int .i64 x1, .int .i64 x2] 23)).alloc (Obj.cells #[.int .i64 (m 0), .int .i64 (m 1), .int .i64 (m 2), .int .i64 (m 3), .int .i64 (m 4), .int .i64 (m 5)] 25)) w.heap.size x0 x1 x2 := tc_alloc (tc_new rfl)
  have S : SC6 ((w.alloc (Obj.cells #[.int .i64 x0, .int .i64 x1, .int .i64 x2] 23)).alloc (Obj.cells #[.int .i64 (m 0), .int .i64 (m 1), .int .i64 (m 2), .int .i64 (m 3), .int .i64 (m 4), .int .i64 (m 5)] 25)) (w.heap.size + 1) m := sc_six (sc_new (by simp))
  go_wp2_with fail
  refine (cV _).mono ?_
  rintro e w1 ⟨rfl, hb1⟩
  replace T := tc_keep hb1 T
  replace S := sc_six (sc_keep hb1 (six_sc S))
  replace P := pl_keep hb1 P
  replace B := b_trans B hb1
  clear hb1
  go_wp2_with fail
  refine (cS _).mono ?_
  rintro e w1 ⟨rfl, hb1⟩
  replace T := tc_keep hb1 T
  replace S := sc_six (sc_keep hb1 (six_sc S))
  replace P := pl_keep hb1 P
  replace B := b_trans B hb1
  clear hb1
  go_wp2_with fail
  refine (cA _).mono ?_
  rintro e w9 ⟨rfl, rfl⟩
  go_wp2_with fail
  refine (cN _).mono ?_
  rintro e w9 ⟨rfl, rfl⟩
  go_wp2_with fail
  refine (cT _ P).mono ?_
  rintro e w1 ⟨rfl, hb1⟩
  replace T := tc_keep hb1 T
  replace S := sc_six (sc_keep hb1 (six_sc S))
  replace P := pl_keep hb1 P
  replace B := b_trans B hb1
  clear hb1
  go_wp2_with fail
  refine (cU _).mono ?_
  rintro e w1 ⟨rfl, hb1⟩
  replace T := tc_keep hb1 T
  replace S := sc_six (sc_keep hb1 (six_sc S))
  replace P := pl_keep hb1 P
  replace B := b_trans B hb1
  clear hb1
  go_wp2_with fail
  refine (cD _).mono ?_
  rintro e w1 ⟨rfl, hb1⟩
  replace T := tc_keep hb1 T
  replace S := sc_six (sc_keep hb1 (six_sc S))
  replace P := pl_keep hb1 P
  replace B := b_trans B hb1
  clear hb1
  go_wp2
  exact bodyPost_ret (v := .tuple #[.int .i64 y, .int .i64 s, .int .i64 0]) (by simp [results, Tryd.results4, go_sem]) rfl ⟨rfl, B⟩

set_option maxHeartbeats 2000000 in
set_option maxRecDepth 10000 in
theorem lookr_0 (x0 x1 x2 : Int) (m : Nat → Int) (a n : Int)
    (cV : ∀ w, Calls Tryd.prog 13 #[tv x0 x1 x2] w (RetV (.bool false) w))
    (w : World) :
    Calls Tryd.prog 5 #[tv x0 x1 x2, sv m, .int .i64 a, .int .i64 n] w (RetV (.tuple #[.int .i64 0, .int .i64 0, .int .i64 1]) w) := by
  have B : Below w.heap.size w ((w.alloc (Obj.cells #[.int .i64 x0, .int .i64 x1, .int .i64 x2] 23)).alloc (Obj.cells #[.int .i64 (m 0), .int .i64 (m 1), .int .i64 (m 2), .int .i64 (m 3), .int .i64 (m 4), .int .i64 (m 5)] 25)) := b_alloc (b_alloc (Below.refl _ _))
  go_enter Tryd.func5, Tryd.ntmps5
  have T : TC ((w.alloc (Obj.cells #[.int .i64 x0, .int .i64 x1, .int .i64 x2] 23)).alloc (Obj.cells #[.int .i64 (m 0), .int .i64 (m 1), .int .i64 (m 2), .int .i64 (m 3), .int .i64 (m 4), .int .i64 (m 5)] 25)) w.heap.size x0 x1 x2 := tc_alloc (tc_new rfl)
  have S : SC6 ((w.alloc (Obj.cells #[.int .i64 x0, .int .i64 x1, .int .i64 x2] 23)).alloc (Obj.cells #[.int .i64 (m 0), .int .i64 (m 1), .int .i64 (m 2), .int .i64 (m 3), .int .i64 (m 4), .int .i64 (m 5)] 25)) (w.heap.size + 1) m := sc_six (sc_new (by simp))
  go_wp2_with fail
  refine (cV _).mono ?_
  rintro e w1 ⟨rfl, hb1⟩
  replace T := tc_keep hb1 T
  replace S := sc_six (sc_keep hb1 (six_sc S))
  replace B := b_trans B hb1
  clear hb1
  go_wp2
  exact bodyPost_ret (v := .tuple #[.int .i64 0, .int .i64 0, .int .i64 1]) (by simp [results, Tryd.results5, go_sem]) rfl ⟨rfl, B⟩

set_option maxHeartbeats 2000000 in
set_option maxRecDepth 10000 in
theorem lookr_1 (x0 x1 x2 : Int) (m : Nat → Int) (a n : Int)
    (cV : ∀ w, Calls Tryd.prog 13 #[tv x0 x1 x2] w (RetV (.bool true) w))
    (cS : ∀ w, Calls Tryd.prog 14 #[sv m] w (RetV (.bool false) w))
    (w : World) :
    Calls Tryd.prog 5 #[tv x0 x1 x2, sv m, .int .i64 a, .int .i64 n] w (RetV (.tuple #[.int .i64 0, .int .i64 0, .int .i64 1]) w) := by
  have B : Below w.heap.size w ((w.alloc (Obj.cells #[.int .i64 x0, .int .i64 x1, .int .i64 x2] 23)).alloc (Obj.cells #[.int .i64 (m 0), .int .i64 (m 1), .int .i64 (m 2), .int .i64 (m 3), .int .i64 (m 4), .int .i64 (m 5)] 25)) := b_alloc (b_alloc (Below.refl _ _))
  go_enter Tryd.func5, Tryd.ntmps5
  have T : TC ((w.alloc (Obj.cells #[.int .i64 x0, .int .i64 x1, .int .i64 x2] 23)).alloc (Obj.cells #[.int .i64 (m 0), .int .i64 (m 1), .int .i64 (m 2), .int .i64 (m 3), .int .i64 (m 4), .int .i64 (m 5)] 25)) w.heap.size x0 x1 x2 := tc_alloc (tc_new rfl)
  have S : SC6 ((w.alloc (Obj.cells #[.int .i64 x0, .int .i64 x1, .int .i64 x2] 23)).alloc (Obj.cells #[.int .i64 (m 0), .int .i64 (m 1), .int .i64 (m 2), .int .i64 (m 3), .int .i64 (m 4), .int .i64 (m 5)] 25)) (w.heap.size + 1) m := sc_six (sc_new (by simp))
  go_wp2_with fail
  refine (cV _).mono ?_
  rintro e w1 ⟨rfl, hb1⟩
  replace T := tc_keep hb1 T
  replace S := sc_six (sc_keep hb1 (six_sc S))
  replace B := b_trans B hb1
  clear hb1
  go_wp2_with fail
  refine (cS _).mono ?_
  rintro e w1 ⟨rfl, hb1⟩
  replace T := tc_keep hb1 T
  replace S := sc_six (sc_keep hb1 (six_sc S))
  replace B := b_trans B hb1
  clear hb1
  go_wp2
  exact bodyPost_ret (v := .tuple #[.int .i64 0, .int .i64 0, .int .i64 1]) (by simp [results, Tryd.results5, go_sem]) rfl ⟨rfl, B⟩

set_option maxHeartbeats 2000000 in
set_option maxRecDepth 10000 in
theorem lookr_2 (x0 x1 x2 : Int) (m : Nat → Int) (a n : Int)
    (cV : ∀ w, Calls Tryd.prog 13 #[tv x0 x1 x2] w (RetV (.bool true) w))
    (cS : ∀ w, Calls Tryd.prog 14 #[sv m] w (RetV (.bool true) w))
    (cA : ∀ w, Calls Tryd.prog 15 #[.int .i64 a] w fun e w' => e = .returned (.bool false) ∧ w = w')
    (w : World) :
    Calls Tryd.prog 5 #[tv x0 x1 x2, sv m, .int .i64 a, .int .i64 n] w (RetV (.tuple #[.int .i64 0, .int .i64 0, .int .i64 1]) w) := by
  have B : Below w.heap.size w ((w.alloc (Obj.cells #[.int .i64 x0, .int .i64 x1, .int .i64 x2] 23)).alloc (Obj.cells #[.int .i64 (m 0), .int .i64 (m 1), .int .i64 (m 2), .int .i64 (m 3), .int .i64 (m 4), .int .i64 (m 5)] 25)) := b_alloc (b_alloc (Below.refl _ _))
  go_enter Tryd.func5, Tryd.ntmps5
  have T : TC ((w.alloc (Obj.cells #[.int .i64 x0, .int .i64 x1, .int .i64 x2] 23)).alloc (Obj.cells #[.int .i64 (m 0), .int .i64 (m 1), .int .i64 (m 2), .int .i64 (m 3), .int .i64 (m 4), .int .i64 (m 5)] 25)) w.heap.size x0 x1 x2 := tc_alloc (tc_new rfl)
  have S : SC6 ((w.alloc (Obj.cells #[.int .i64 x0, .int .i64 x1, .int .i64 x2] 23)).alloc (Obj.cells #[.int .i64 (m 0), .int .i64 (m 1), .int .i64 (m 2), .int .i64 (m 3), .int .i64 (m 4), .int .i64 (m 5)] 25)) (w.heap.size + 1) m := sc_six (sc_new (by simp))
  go_wp2_with fail
  refine (cV _).mono ?_
  rintro e w1 ⟨rfl, hb1⟩
  replace T := tc_keep hb1 T
  replace S := sc_six (sc_keep hb1 (six_sc S))
  replace B := b_trans B hb1
  clear hb1
  go_wp2_with fail
  refine (cS _).mono ?_
  rintro e w1 ⟨rfl, hb1⟩
  replace T := tc_keep hb1 T
  replace S := sc_six (sc_keep hb1 (six_sc S))
  replace B := b_trans B hb1
  clear hb1
  go_wp2_with fail
  refine (cA _).mono ?_
  rintro e w9 ⟨rfl, rfl⟩
  go_wp2
  exact bodyPost_ret (v := .tuple #[.int .i64 0, .int .i64 0, .int .i64 1]) (by simp [results, Tryd.results5, go_sem]) rfl ⟨rfl, B⟩

set_option maxHeartbeats 2000000 in
set_option maxRecDepth 10000 in
theorem lookr_3 (x0 x1 x2 : Int) (m : Nat → Int) (a n : Int)
    (cV : ∀ w, Calls Tryd.prog 13 #[tv x0 x1 x2] w (RetV (.bool true) w))
    (cS : ∀ w, Calls Tryd.prog 14 #[sv m] w (RetV (.bool true) w))
    (cA : ∀ w, Calls Tryd.prog 15 #[.int .i64 a] w fun e w' => e = .returned (.bool true) ∧ w = w')
    (cN : ∀ w, Calls Tryd.prog 15 #[.int .i64 n] w fun e w' => e = .returned (.bool false) ∧ w = w')
    (w : World) :
    Calls Tryd.prog 5 #[tv x0 x1 x2, sv m, .int .i64 a, .int .i64 n] w (RetV (.tuple #[.int .i64 0, .int .i64 0, .int .i64 1]) w) := by
  have B : Below w.heap.size w ((w.alloc (Obj.cells #[.int .i64 x0, .int .i64 x1, .int .i64 x2] 23)).alloc (Obj.cells #[.int .i64 (m 0), .int .i64 (m 1), .int .i64 (m 2), .int .i64 (m 3), .int .i64 (m 4), .int .i64 (m 5)] 25)) := b_alloc (b_alloc (Below.refl _ _))
  go_enter Tryd.func5, Tryd.ntmps5
  have T : TC ((w.alloc (Obj.cells #[.int .i64 x0, .int .i64 x1, .int .i64 x2] 23)).alloc (Obj.cells #[.int .i64 (m 0), .int .i64 (m 1), .int .i64 (m 2), .int .i64 (m 3), .int .i64 (m 4), .int .i64 (m 5)] 25)) w.heap.size x0 x1 x2 := tc_alloc (tc_new rfl)
  have S : SC6 ((w.alloc (Obj.cells #[.int .i64 x0, .int .i64 x1, .int .i64 x2] 23)).alloc (Obj.cells #[.int .i64 (m 0), .int .i64 (m 1), .int .i64 (m 2), .int .i64 (m 3), .int .i64 (m 4), .int .i64 (m 5)] 25)) (w.heap.size + 1) m := sc_six (sc_new (by simp))
  go_wp2_with fail
  refine (cV _).mono ?_
  rintro e w1 ⟨rfl, hb1⟩
  replace T := tc_keep hb1 T
  replace S := sc_six (sc_keep hb1 (six_sc S))
  replace B := b_trans B hb1
  clear hb1
  go_wp2_with fail
  refine (cS _).mono ?_
  rintro e w1 ⟨rfl, hb1⟩
  replace T := tc_keep hb1 T
  replace S := sc_six (sc_keep hb1 (six_sc S))
  replace B := b_trans B hb1
  clear hb1
  go_wp2_with fail
  refine (cA _).mono ?_
  rintro e w9 ⟨rfl, rfl⟩
  go_wp2_with fail
  refine (cN _).mono ?_
  rintro e w9 ⟨rfl, rfl⟩
  go_wp2
  exact bodyPost_ret (v := .tuple #[.int .i64 0, .int .i64 0, .int .i64 1]) (by simp [results, Tryd.results5, go_sem]) rfl ⟨rfl, B⟩

set_option maxHeartbeats 2000000 in
set_option maxRecDepth 10000 in
theorem lookr_4 (x0 x1 x2 : Int) (m : Nat → Int) (a n : Int)
    (cV : ∀ w, Calls Tryd.prog 13 #[tv x0 x1 x2] w (RetV (.bool true) w))
    (cS : ∀ w, Calls Tryd.prog 14 #[sv m] w (RetV (.bool true) w))
    (cA : ∀ w, Calls Tryd.prog 15 #[.int .i64 a] w fun e w' => e = .returned (.bool true) ∧ w = w')
    (cN : ∀ w, Calls Tryd.prog 15 #[.int .i64 n] w fun e w' => e = .returned (.bool true) ∧ w = w')
    (n1 : n < 1)
    (w : World) :
    Calls Tryd.prog 5 #[tv x0 x1 x2, sv m, .int .i64 a, .int .i64 n] w (RetV (.tuple #[.int .i64 0, .int .i64 0, .int .i64 1]) w) := by
  have B : Below w.heap.size w ((w.alloc (Obj.cells #[.int .i64 x0, .int .i64 x1, .int .i64 x2] 23)).alloc (Obj.cells #[.int .i64 (m 0), .int .i64 (m 1), .int .i64 (m 2), .int .i64 (m 3), .int .i64 (m 4), .int .i64 (m 5)] 25)) := b_alloc (b_alloc (Below.refl _ _))
  go_enter Tryd.func5, Tryd.ntmps5
  have T : TC ((w.alloc (Obj.cells #[.int .i64 x0, .int .i64 x1, .int .i64 x2] 23)).alloc (Obj.cells #[.int .i64 (m 0), .int .i64 (m 1), .int .i64 (m 2), .int .i64 (m 3), .int .i64 (m 4), .int .i64 (m 5)] 25)) w.heap.size x0 x1 x2 := tc_alloc (tc_new rfl)
  have S : SC6 ((w.alloc (Obj.cells #[.int .i64 x0, .int .i64 x1, .int .i64 x2] 23)).alloc (Obj.cells #[.int .i64 (m 0), .int .i64 (m 1), .int .i64 (m 2), .int .i64 (m 3), .int .i64 (m 4), .int .i64 (m 5)] 25)) (w.heap.size + 1) m := sc_six (sc_new (by simp))
  go_wp2_with fail
  refine (cV _).mono ?_
  rintro e w1 ⟨rfl, hb1⟩
  replace T := tc_keep hb1 T
  replace S := sc_six (sc_keep hb1 (six_sc S))
  replace B := b_trans B hb1
  clear hb1
  go_wp2_with fail
  refine (cS _).mono ?_
  rintro e w1 ⟨rfl, hb1⟩
  replace T := tc_keep hb1 T
  replace S := sc_six (sc_keep hb1 (six_sc S))
  replace B := b_trans B hb1
  clear hb1
  go_wp2_with fail
  refine (cA _).mono ?_
  rintro e w9 ⟨rfl, rfl⟩
  go_wp2_with fail
  refine (cN _).mono ?_
  rintro e w9 ⟨rfl, rfl⟩
  go_wp2
  exact bodyPost_ret (v := .tuple #[.int .i64 0, .int .i64 0, .int .i64 1]) (by simp [results, Tryd.results5, go_sem]) rfl ⟨rfl, B⟩

set_option maxHeartbeats 2000000 in
set_option maxRecDepth 10000 in
theorem lookr_5 (x0 x1 x2 : Int) (m : Nat → Int) (a n : Int)
    (cV : ∀ w, Calls Tryd.prog 13 #[tv x0 x1 x2] w (RetV (.bool true) w))
    (cS : ∀ w, Calls Tryd.prog 14 #[sv m] w (RetV (.bool true) w))
    (cA : ∀ w, Calls Tryd.prog 15 #[.int .i64 a] w fun e w' => e = .returned (.bool true) ∧ w = w')
    (cN : ∀ w, Calls Tryd.prog 15 #[.int .i64 n] w fun e w' => e = .returned (.bool true) ∧ w = w')
    (n1 : ¬ n < 1)
    (m0 : m 0 < 0)
    (w : World) :
    Calls Tryd.prog 5 #[tv x0 x1 x2, sv m, .int .i64 a, .int .i64 n] w (RetV (.tuple #[.int .i64 0, .int .i64 0, .int .i64 1]) w) := by
  have B : Below w.heap.size w ((w.alloc (Obj.cells #[.int .i64 x0, .int .i64 x1, .int .i64 x2] 23)).alloc (Obj.cells #[.int .i64 (m 0), .int .i64 (m 1), .int .i64 (m 2), .int .i64 (m 3), .int .i64 (m 4), .int .i64 (m 5)] 25)) := b_alloc (b_alloc (Below.refl _ _))
  go_enter Tryd.func5, Tryd.ntmps5
  have T : TC ((w.alloc (Obj.cells #[.int .i64 x0, .int .i64 x1, .int .i64 x2] 23)).alloc (Obj.cells #[.int .i64 (m 0), .int .i64 (m 1), .int .i64 (m 2), .int .i64 (m 3), .int .i64 (m 4), .int .i64 (m 5)] 25)) w.heap.size x0 x1 x2 := tc_alloc (tc_new rfl)
  have S : SC6 ((w.alloc (Obj.cells #[.int .i64 x0, .int .i64 x1, .int .i64 x2] 23)).alloc (Obj.cells #[.int .i64 (m 0), .int .i64 (m 1), .int .i64 (m 2), .int .i64 (m 3), .int .i64 (m 4), .int .i64 (m 5)] 25)) (w.heap.size + 1) m := sc_six (sc_new (by simp))
  go_wp2_with fail
  refine (cV _).mono ?_
  rintro e w1 ⟨rfl, hb1⟩
  replace T := tc_keep hb1 T
  replace S := sc_six (sc_keep hb1 (six_sc S))
  replace B := b_trans B hb1
  clear hb1
  go_wp2_with fail
  refine (cS _).mono ?_
  rintro e w1 ⟨rfl, hb1⟩
  replace T := tc_keep hb1 T
  replace S := sc_six (sc_keep hb1 (six_sc S))
  replace B := b_trans B hb1
  clear hb1
  go_wp2_with fail
  refine (cA _).mono ?_
  rintro e w9 ⟨rfl, rfl⟩
  go_wp2_with fail
  refine (cN _).mono ?_
  rintro e w9 ⟨rfl, rfl⟩
  go_wp2
  exact bodyPost_ret (v := .tuple #[.int .i64 0, .int .i64 0, .int .i64 1]) (by simp [results, Tryd.results5, go_sem]) rfl ⟨rfl, B⟩

set_option maxHeartbeats 2000000 in
set_option maxRecDepth 10000 in
theorem lookr_6 (x0 x1 x2 : Int) (m : Nat → Int) (a n s f : Int)
    (cV : ∀ w, Calls Tryd.prog 13 #[tv x0 x1 x2] w (RetV (.bool true) w))
    (cS : ∀ w, Calls Tryd.prog 14 #[sv m] w (RetV (.bool true) w))
    (cA : ∀ w, Calls Tryd.prog 15 #[.int .i64 a] w fun e w' => e = .returned (.bool true) ∧ w = w')
    (cN : ∀ w, Calls Tryd.prog 15 #[.int .i64 n] w fun e w' => e = .returned (.bool true) ∧ w = w')
    (cU : ∀ w, Calls Tryd.prog 16 #[.int .i64 a, .int .i64 x0] w (RetV (.tuple #[.int .i64 0, .int .i64 3]) w))
    (cD : ∀ w, Calls Tryd.prog 17 #[.int .i64 (m 0), .int .i64 n] w (RetV (.tuple #[.int .i64 s, .int .i64 f]) w))
    (n1 : ¬ n < 1)
    (m0 : ¬ m 0 < 0)
    (w : World) :
    Calls Tryd.prog 5 #[tv x0 x1 x2, sv m, .int .i64 a, .int .i64 n] w (RetV (.tuple #[.int .i64 0, .int .i64 0, .int .i64 3]) w) := by
  have B : Below w.heap.size w ((w.alloc (Obj.cells #[.int .i64 x0, .int .i64 x1, .int .i64 x2] 23)).alloc (Obj.cells #[.int .i64 (m 0), .int .i64 (m 1), .int .i64 (m 2), .int .i64 (m 3), .int .i64 (m 4), .int .i64 (m 5)] 25)) := b_alloc (b_alloc (Below.refl _ _))
  go_enter Tryd.func5, Tryd.ntmps5
  have T : TC ((w.alloc (Obj.cells #[.int .i64 x0, .int .i64 x1, .int .i64 x2] 23)).alloc (Obj.cells #[.int .i64 (m 0), .int .i64 (m 1), .int .i64 (m 2), .int .i64 (m 3), .int .i64 (m 4), .int .i64 (m 5)] 25)) w.heap.size x0 x1 x2 := tc_alloc (tc_new rfl)
  have S : SC6 ((w.alloc (Obj.cells #[.int .i64 x0, .int .i64 x1, .int .i64 x2] 23)).alloc (Obj.cells #[.int .i64 (m 0), .int .i64 (m 1), .int .i64 (m 2), .int .i64 (m 3), .int .i64 (m 4), .int .i64 (m 5)] 25)) (w.heap.size + 1) m := sc_six (sc_new (by simp))
  go_wp2_with fail
  refine (cV _).mono ?_
  rintro e w1 ⟨rfl, hb1⟩
  replace T := tc_keep hb1 T
  replace S := sc_six (sc_keep hb1 (six_sc S))
  replace B := b_trans B hb1
  clear hb1
  go_wp2_with fail
  refine (cS _).mono ?_
  rintro e w1 ⟨rfl, hb1⟩
  replace T := tc_keep hb1 T
  replace S := sc_six (sc_keep hb1 (six_sc S))
  replace B := b_trans B hb1
  clear hb1
  go_wp2_with fail
  refine (cA _).mono ?_
  rintro e w9 ⟨rfl, rfl⟩
  go_wp2_with fail
  refine (cN _).mono ?_
  rintro e w9 ⟨rfl, rfl⟩
  go_wp2_with fail
  refine (cU _).mono ?_
  rintro e w1 ⟨rfl, hb1⟩
  replace T := tc_keep hb1 T
  replace S := sc_six (sc_keep hb1 (six_sc S))
  replace B := b_trans B hb1
  clear hb1
  go_wp2_with fail
  refine (cD _).mono ?_
  rintro e w1 ⟨rfl, hb1⟩
  replace T := tc_keep hb1 T
  replace S := sc_six (sc_keep hb1 (six_sc S))
  replace B := b_trans B hb1
  clear hb1
  go_wp2
  exact bodyPost_ret (v := .tuple #[.int .i64 0, .int .i64 0, .int .i64 3]) (by simp [results, Tryd.results5, go_sem]) rfl ⟨rfl, B⟩

set_option maxHeartbeats 2000000 in
set_option maxRecDepth 10000 in
theorem lookr_7 (x0 x1 x2 : Int) (m : Nat → Int) (a n y : Int)
    (cV : ∀ w, Calls Tryd.prog 13 #[tv x0 x1 x2] w (RetV (.bool true) w))
    (cS : ∀ w, Calls Tryd.prog 14 #[sv m] w (RetV (.bool true) w))
    (cA : ∀ w, Calls Tryd.prog 15 #[.int .i64 a] w fun e w' => e = .returned (.bool true) ∧ w = w')
    (cN : ∀ w, Calls Tryd.prog 15 #[.int .i64 n] w fun e w' => e = .returned (.bool true) ∧ w = w')
    (cU : ∀ w, Calls Tryd.prog 16 #[.int .i64 a, .int .i64 x0] w (RetV (.tuple #[.int .i64 y, .int .i64 0]) w))
    (cD : ∀ w, Calls Tryd.prog 17 #[.int .i64 (m 0), .int .i64 n] w (RetV (.tuple #[.int .i64 0, .int .i64 3]) w))
    (n1 : ¬ n < 1)
    (m0 : ¬ m 0 < 0)
    (w : World) :
    Calls Tryd.prog 5 #[tv x0 x1 x2, sv m, .int .i64 a, .int .i64 n] w (RetV (.tuple #[.int .i64 0, .int .i64 0, .int .i64 3]) w) := by
  have B : Below w.heap.size w ((w.alloc (Obj.cells #[.int .i64 x0, .int .i64 x1, .int .i64 x2] 23)).alloc (Obj.cells #[.int .i64 (m 0), .int .i64 (m 1), .int .i64 (m 2), .int .i64 (m 3), .int .i64 (m 4), .int .i64 (m 5)] 25)) := b_alloc (b_alloc (Below.refl _ _))
  go_enter Tryd.func5, Tryd.ntmps5
  have T : TC ((w.alloc (Obj.cells #[.int .i64 x0, .int .i64 x1, .int .i64 x2] 23)).alloc (Obj.cells #[.int .i64 (m 0), .int .i64 (m 1), .int .i64 (m 2), .int .i64 (m 3), .int .i64 (m 4), .int .i64 (m 5)] 25)) w.heap.size x0 x1 x2 := tc_alloc (tc_new rfl)
  have S : SC6 ((w.alloc (Obj.cells #[.int .i64 x0, .int .i64 x1, .int .i64 x2] 23)).alloc (Obj.cells #[.int .i64 (m 0), .int .i64 (m 1), .int .i64 (m 2), .int .i64 (m 3), .int .i64 (m 4), .int .i64 (m 5)] 25)) (w.heap.size + 1) m := sc_six (sc_new (by simp))
  go_wp2_with fail
  refine (cV _).mono ?_
  rintro e w1 ⟨rfl, hb1⟩
  replace T := tc_keep hb1 T
  replace S := sc_six (sc_keep hb1 (six_sc S))
  replace B := b_trans B hb1
  clear hb1
  go_wp2_with fail
  refine (cS _).mono ?_
  rintro e w1 ⟨rfl, hb1⟩
  replace T := tc_keep hb1 T
  replace S := sc_six (sc_keep hb1 (six_sc S))
  replace B := b_trans B hb1
  clear hb1
  go_wp2_with fail
  refine (cA _).mono ?_
  rintro e w9 ⟨rfl, rfl⟩
  go_wp2_with fail
  refine (cN _).mono ?_
  rintro e w9 ⟨rfl, rfl⟩
  go_wp2_with fail
  refine (cU _).mono ?_
  rintro e w1 ⟨rfl, hb1⟩
  replace T := tc_keep hb1 T
  replace S := sc_six (sc_keep hb1 (six_sc S))
  replace B := b_trans B hb1
  clear hb1
  go_wp2_with fail
  refine (cD _).mono ?_
  rintro e w1 ⟨rfl, hb1⟩
  replace T := tc_keep hb1 T
  replace S := sc_six (sc_keep hb1 (six_sc S))
  replace B := b_trans B hb1
  clear hb1
  go_wp2
  exact bodyPost_ret (v := .tuple #[.int .i64 0, .int .i64 0, .int .i64 3]) (by simp [results, Tryd.results5, go_sem]) rfl ⟨rfl, B⟩

set_option maxHeartbeats 2000000 in
set_option maxRecDepth 10000 in
theorem lookr_8 (x0 x1 x2 : Int) (m : Nat → Int) (a n y s : Int)
    (cV : ∀ w, Calls Tryd.prog 13 #[tv x0 x1 x2] w (RetV (.bool true) w))
    (cS : ∀ w, Calls Tryd.prog 14 #[sv m] w (RetV (.bool true) w))
    (cA : ∀ w, Calls Tryd.prog 15 #[.int .i64 a] w fun e w' => e = .returned (.bool true) ∧ w = w')
    (cN : ∀ w, Calls Tryd.prog 15 #[.int .i64 n] w fun e w' => e = .returned (.bool true) ∧ w = w')
    (cU : ∀ w, Calls Tryd.prog 16 #[.int .i64 a, .int .i64 x0] w (RetV (.tuple #[.int .i64 y, .int .i64 0]) w))
    (cD : ∀ w, Calls Tryd.prog 17 #[.int .i64 (m 0), .int .i64 n] w (RetV (.tuple #[.int .i64 s, .int .i64 0]) w))
    (n1 : ¬ n < 1)
    (m0 : ¬ m 0 < 0)
    (w : World) :
    Calls Tryd.prog 5 #[tv x0 x1 x2, sv m, .int .i64 a, .int .i64 n] w (RetV (.tuple #[.int .i64 y, .int .i64 s, .int .i64 0]) w) := by
  have B : Below w.heap.size w ((w.alloc (Obj.cells #[.int .i64 x0, .int .i64 x1, .int .i64 x2] 23)).alloc (Obj.cells #[.int .i64 (m 0), .int .i64 (m 1), .int .i64 (m 2), .int .i64 (m 3), .int .i64 (m 4), .int .i64 (m 5)] 25)) := b_alloc (b_alloc (Below.refl _ _))
  go_enter Tryd.func5, Tryd.ntmps5
  have T : TC ((w.alloc (Obj.cells #[.int .i64 x0, .int .i64 x1, .int .i64 x2] 23)).alloc (Obj.cells #[.int .i64 (m 0), .int .i64 (m 1), .int .i64 (m 2), .int .i64 (m 3), .int .i64 (m 4), .int .i64 (m 5)] 25)) w.heap.size x0 x1 x2 := tc_alloc (tc_new rfl)
  have S : SC6 ((w.alloc (Obj.cells #[.int .i64 x0, .int .i64 x1, .int .i64 x2] 23)).alloc (Obj.cells #[.int .i64 (m 0), .int .i64 (m 1), .int .i64 (m 2), .int .i64 (m 3), .int .i64 (m 4), .int .i64 (m 5)] 25)) (w.heap.size + 1) m := sc_six (sc_new (by simp))
  go_wp2_with fail
  refine (cV _).mono ?_
  rintro e w1 ⟨rfl, hb1⟩
  replace T := tc_keep hb1 T
  replace S := sc_six (sc_keep hb1 (six_sc S))
  replace B := b_trans B hb1
  clear hb1
  go_wp2_with fail
  refine (cS _).mono ?_
  rintro e w1 ⟨rfl, hb1⟩
  replace T := tc_keep hb1 T
  replace S := sc_six (sc_keep hb1 (six_sc S))
  replace B := b_trans B hb1
  clear hb1
  go_wp2_with fail
  refine (cA _).mono ?_
  rintro e w9 ⟨rfl, rfl⟩
  go_wp2_with fail
  refine (cN _).mono ?_
  rintro e w9 ⟨rfl, rfl⟩
  go_wp2_with fail
  refine (cU _).mono ?_
  rintro e w1 ⟨rfl, hb1⟩
  replace T := tc_keep hb1 T
  replace S := sc_six (sc_keep hb1 (six_sc S))
  replace B := b_trans B hb1
  clear hb1
  go_wp2_with fail
  refine (cD _).mono ?_
  rintro e w1 ⟨rfl, hb1⟩
  replace T := tc_keep hb1 T
  replace S := sc_six (sc_keep hb1 (six_sc S))
  replace B := b_trans B hb1
  clear hb1
  go_wp2
  exact bodyPost_ret (v := .tuple #[.int .i64 y, .int .i64 s, .int .i64 0]) (by simp [results, Tryd.results5, go_sem]) rfl ⟨rfl, B⟩

end Go.Proofs.YtidaegmancgpnaaDoor

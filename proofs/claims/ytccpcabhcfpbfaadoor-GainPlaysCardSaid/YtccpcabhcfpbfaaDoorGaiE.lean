/- The document's gain: Best by one contract, Of. -/
import Derived.Test.YtccpcabhcfpbfaaDoorGaiC
import Derived.Test.YtccpcabhcfpbfaaDoorGaiD
import Derived.Test.YtccpcabhcfpbfaaDoorFixE
namespace Go.Proofs.YtccpcabhcfpbfaaDoor
open Go.RowKit Go.Shelf

set_option maxRecDepth 10000 in
theorem rbest_any (m : Nat → Int) (s : Int) (hm : I6 m) (hs : I64 s) (w : World) :
    Calls Tryd.prog 7 #[sv m, .int .i64 s] w (RetV (.tuple #[tv (bz m s 0) (bz m s 1) (bz m s 2), .int .i64 (be m s)]) w) := by
  have cV := fits_sref m hm
  have cA := fits_ref s hs.1 hs.2
  have p0 := fun w => place_ok 0 0 0 (by simp [At9]) w
  have p1 := fun w => place_ok 0 1 1 (by simp [At9]) w
  have p2 := fun w => place_ok 0 2 2 (by simp [At9]) w
  by_cases c : F6 m
  rotate_left
  · rw [(b_wrong (s := s) (fun k : BK m s => c k.1)).1, (b_wrong (s := s) (fun k : BK m s => c k.1)).2]
    rw [f6b_no c] at cV
    exact rbest_0 m s cV w
  rw [f6b_yes c] at cV
  by_cases d : FitP s
  rotate_left
  · rw [(b_wrong (fun k : BK m s => d k.2.1)).1, (b_wrong (fun k : BK m s => d k.2.1)).2]
    rw [fitb_no d] at cA
    exact rbest_1 m s cV cA w
  rw [fitb_yes d] at cA
  by_cases e : s < 1
  · rw [(b_wrong (fun k : BK m s => absurd k.2.2 (by omega))).1, (b_wrong (fun k : BK m s => absurd k.2.2 (by omega))).2]
    exact rbest_2 m s cV cA e w
  have k : BK m s := ⟨c, d, by omega⟩
  have c0 := div_ref (m 0) s (hm 0 (by decide)).1 (hm 0 (by decide)).2 hs.1 hs.2
  have c1 := div_ref (m 1) s (hm 1 (by decide)).1 (hm 1 (by decide)).2 hs.1 hs.2
  have c2 := div_ref (m 2) s (hm 2 (by decide)).1 (hm 2 (by decide)).2 hs.1 hs.2
  rw [(div_bq k (by decide)).1, (div_bq k (by decide)).2] at c0 c1 c2
  by_cases f0 : FitP (bq m s 0)
  rotate_left
  · rw [(b_wide k (fun f : BF m s => f0 f.1)).1, (b_wide k (fun f : BF m s => f0 f.1)).2]
    rw [(nz_no f0).1, (nz_no f0).2] at c0
    exact rbest_3 m s cV cA e p0 c0 w
  rw [(nz_of f0).1, (nz_of f0).2] at c0
  by_cases f1 : FitP (bq m s 1)
  rotate_left
  · rw [(b_wide k (fun f : BF m s => f1 f.2.1)).1, (b_wide k (fun f : BF m s => f1 f.2.1)).2]
    rw [(nz_no f1).1, (nz_no f1).2] at c1
    exact rbest_4 m s _ cV cA e p0 p1 c0 c1 w
  rw [(nz_of f1).1, (nz_of f1).2] at c1
  by_cases f2 : FitP (bq m s 2)
  rotate_left
  · rw [(b_wide k (fun f : BF m s => f2 f.2.2)).1, (b_wide k (fun f : BF m s => f2 f.2.2)).2]
    rw [(nz_no f2).1, (nz_no f2).2] at c2
    exact rbest_5 m s _ _ cV cA e p0 p1 p2 c0 c1 c2 w
  rw [(nz_of f2).1, (nz_of f2).2] at c2
  rw [(b_ok k ⟨f0, f1, f2⟩).1, (b_ok k ⟨f0, f1, f2⟩).2]
  exact rbest_6 m s _ _ _ cV cA e p0 p1 p2 c0 c1 c2 w

set_option maxHeartbeats 2000000 in
set_option maxRecDepth 10000 in
theorem rof_false (m : Nat → Int) (s y0 y1 y2 k0 k1 k2 g : Int)
    (cB : ∀ w, Calls Tryd.prog 7 #[sv m, .int .i64 s] w (RetV (.tuple #[tv k0 k1 k2, .int .i64 g]) w)) (w : World) :
    Calls Tryd.prog 9 #[sv m, .int .i64 s, .bool false, tv y0 y1 y2] w (RetV (.tuple #[tv k0 k1 k2, .int .i64 g]) w) := by
  have B : Below w.heap.size w (((w.alloc (Obj.cells #[.int .i64 (m 0), .int .i64 (m 1), .int .i64 (m 2), .int .i64 (m 3), .int .i64 (m 4), .int .i64 (m 5)] 23)).alloc (Obj.cells #[.int .i64 y0, .int .i64 y1, .int .i64 y2] 25)).alloc (Obj.cells #[.int .i64 0, .int .i64 0, .int .i64 0] 25)) := b_alloc (b_alloc (b_alloc (Below.refl _ _)))
  have S : SC6 (((w.alloc (Obj.cells #[.int .i64 (m 0), .int .i64 (m 1), .int .i64 (m 2), .int .i64 (m 3), .int .i64 (m 4), .int .i64 (m 5)] 23)).alloc (Obj.cells #[.int .i64 y0, .int .i64 y1, .int .i64 y2] 25)).alloc (Obj.cells #[.int .i64 0, .int .i64 0, .int .i64 0] 25)) w.heap.size m := sc_six (sc_alloc (sc_alloc (sc_new rfl)))
  have Y : TC (((w.alloc (Obj.cells #[.int .i64 (m 0), .int .i64 (m 1), .int .i64 (m 2), .int .i64 (m 3), .int .i64 (m 4), .int .i64 (m 5)] 23)).alloc (Obj.cells #[.int .i64 y0, .int .i64 y1, .int .i64 y2] 25)).alloc (Obj.cells #[.int .i64 0, .int .i64 0, .int .i64 0] 25)) (w.heap.size + 1) y0 y1 y2 := tc_alloc (tc_new (by simp))
  have R : TC (((w.alloc (Obj.cells #[.int .i64 (m 0), .int .i64 (m 1), .int .i64 (m 2), .int .i64 (m 3), .int .i64 (m 4), .int .i64 (m 5)] 23)).alloc (Obj.cells #[.int .i64 y0, .int .i64 y1, .int .i64 y2] 25)).alloc (Obj.cells #[.int .i64 0, .int .i64 0, .int .i64 0] 25)) (w.heap.size + 1 + 1) 0 0 0 := tc_new (by simp)
  have RF : TF (((w.alloc (Obj.cells #[.int .i64 (m 0), .int .i64 (m 1), .int .i64 (m 2), .int .i64 (m 3), .int .i64 (m 4), .int .i64 (m 5)] 23)).alloc (Obj.cells #[.int .i64 y0, .int .i64 y1, .int .i64 y2] 25)).alloc (Obj.cells #[.int .i64 0, .int .i64 0, .int .i64 0] 25)) (w.heap.size + 1 + 1) := tf_new (by simp)
  go_enter Tryd.func9, Tryd.ntmps9
  go_wp2_with fail
  refine (cB _).mono ?_
  rintro e w1 ⟨rfl, hb⟩
  replace RF := tf_keep hb R RF
  replace R := tc_keep hb R
  replace Y := tc_keep hb Y
  replace S := sc_six (sc_keep hb (six_sc S))
  replace B := b_trans B hb
  clear hb
  go_wp2
  obtain ⟨q0, q1, q2⟩ := R
  refine bodyPost_ret (v := .tuple #[tv k0 k1 k2, .int .i64 g]) (by simp [results, Tryd.results9, go_sem, q0, q1, q2]) rfl ⟨rfl, ?_⟩
  have g2 : w.heap.size ≤ w.heap.size + 1 + 1 := Nat.le_trans (Nat.le_succ _) (Nat.le_succ _)
  repeat (first | exact B | refine b_set ?_ g2)

set_option maxHeartbeats 2000000 in
set_option maxRecDepth 10000 in
theorem rof_true_ok (m : Nat → Int) (s y0 y1 y2 : Int)
    (cV : ∀ w, Calls Tryd.prog 21 #[tv y0 y1 y2] w (RetV (.bool true) w)) (w : World) :
    Calls Tryd.prog 9 #[sv m, .int .i64 s, .bool true, tv y0 y1 y2] w (RetV (.tuple #[tv y0 y1 y2, .int .i64 0]) w) := by
  have B : Below w.heap.size w (((w.alloc (Obj.cells #[.int .i64 (m 0), .int .i64 (m 1), .int .i64 (m 2), .int .i64 (m 3), .int .i64 (m 4), .int .i64 (m 5)] 23)).alloc (Obj.cells #[.int .i64 y0, .int .i64 y1, .int .i64 y2] 25)).alloc (Obj.cells #[.int .i64 0, .int .i64 0, .int .i64 0] 25)) := b_alloc (b_alloc (b_alloc (Below.refl _ _)))
  have S : SC6 (((w.alloc (Obj.cells #[.int .i64 (m 0), .int .i64 (m 1), .int .i64 (m 2), .int .i64 (m 3), .int .i64 (m 4), .int .i64 (m 5)] 23)).alloc (Obj.cells #[.int .i64 y0, .int .i64 y1, .int .i64 y2] 25)).alloc (Obj.cells #[.int .i64 0, .int .i64 0, .int .i64 0] 25)) w.heap.size m := sc_six (sc_alloc (sc_alloc (sc_new rfl)))
  have Y : TC (((w.alloc (Obj.cells #[.int .i64 (m 0), .int .i64 (m 1), .int .i64 (m 2), .int .i64 (m 3), .int .i64 (m 4), .int .i64 (m 5)] 23)).alloc (Obj.cells #[.int .i64 y0, .int .i64 y1, .int .i64 y2] 25)).alloc (Obj.cells #[.int .i64 0, .int .i64 0, .int .i64 0] 25)) (w.heap.size + 1) y0 y1 y2 := tc_alloc (tc_new (by simp))
  have R : TC (((w.alloc (Obj.cells #[.int .i64 (m 0), .int .i64 (m 1), .int .i64 (m 2), .int .i64 (m 3), .int .i64 (m 4), .int .i64 (m 5)] 23)).alloc (Obj.cells #[.int .i64 y0, .int .i64 y1, .int .i64 y2] 25)).alloc (Obj.cells #[.int .i64 0, .int .i64 0, .int .i64 0] 25)) (w.heap.size + 1 + 1) 0 0 0 := tc_new (by simp)
  have RF : TF (((w.alloc (Obj.cells #[.int .i64 (m 0), .int .i64 (m 1), .int .i64 (m 2), .int .i64 (m 3), .int .i64 (m 4), .int .i64 (m 5)] 23)).alloc (Obj.cells #[.int .i64 y0, .int .i64 y1, .int .i64 y2] 25)).alloc (Obj.cells #[.int .i64 0, .int .i64 0, .int .i64 0] 25)) (w.heap.size + 1 + 1) := tf_new (by simp)
  go_enter Tryd.func9, Tryd.ntmps9
  go_wp2_with fail
  refine (cV _).mono ?_
  rintro e w1 ⟨rfl, hb⟩
  replace RF := tf_keep hb R RF
  replace R := tc_keep hb R
  replace Y := tc_keep hb Y
  replace S := sc_six (sc_keep hb (six_sc S))
  replace B := b_trans B hb
  clear hb
  go_wp2
  obtain ⟨q0, q1, q2⟩ := R
  refine bodyPost_ret (v := .tuple #[tv y0 y1 y2, .int .i64 0]) (by simp [results, Tryd.results9, go_sem, q0, q1, q2]) rfl ⟨rfl, ?_⟩
  have g2 : w.heap.size ≤ w.heap.size + 1 + 1 := Nat.le_trans (Nat.le_succ _) (Nat.le_succ _)
  repeat (first | exact B | refine b_set ?_ g2)

set_option maxHeartbeats 2000000 in
set_option maxRecDepth 10000 in
theorem rof_true_bad (m : Nat → Int) (s y0 y1 y2 : Int)
    (cV : ∀ w, Calls Tryd.prog 21 #[tv y0 y1 y2] w (RetV (.bool false) w)) (w : World) :
    Calls Tryd.prog 9 #[sv m, .int .i64 s, .bool true, tv y0 y1 y2] w (RetV (.tuple #[tv 0 0 0, .int .i64 1]) w) := by
  have B : Below w.heap.size w (((w.alloc (Obj.cells #[.int .i64 (m 0), .int .i64 (m 1), .int .i64 (m 2), .int .i64 (m 3), .int .i64 (m 4), .int .i64 (m 5)] 23)).alloc (Obj.cells #[.int .i64 y0, .int .i64 y1, .int .i64 y2] 25)).alloc (Obj.cells #[.int .i64 0, .int .i64 0, .int .i64 0] 25)) := b_alloc (b_alloc (b_alloc (Below.refl _ _)))
  have S : SC6 (((w.alloc (Obj.cells #[.int .i64 (m 0), .int .i64 (m 1), .int .i64 (m 2), .int .i64 (m 3), .int .i64 (m 4), .int .i64 (m 5)] 23)).alloc (Obj.cells #[.int .i64 y0, .int .i64 y1, .int .i64 y2] 25)).alloc (Obj.cells #[.int .i64 0, .int .i64 0, .int .i64 0] 25)) w.heap.size m := sc_six (sc_alloc (sc_alloc (sc_new rfl)))
  have Y : TC (((w.alloc (Obj.cells #[.int .i64 (m 0), .int .i64 (m 1), .int .i64 (m 2), .int .i64 (m 3), .int .i64 (m 4), .int .i64 (m 5)] 23)).alloc (Obj.cells #[.int .i64 y0, .int .i64 y1, .int .i64 y2] 25)).alloc (Obj.cells #[.int .i64 0, .int .i64 0, .int .i64 0] 25)) (w.heap.size + 1) y0 y1 y2 := tc_alloc (tc_new (by simp))
  have R : TC (((w.alloc (Obj.cells #[.int .i64 (m 0), .int .i64 (m 1), .int .i64 (m 2), .int .i64 (m 3), .int .i64 (m 4), .int .i64 (m 5)] 23)).alloc (Obj.cells #[.int .i64 y0, .int .i64 y1, .int .i64 y2] 25)).alloc (Obj.cells #[.int .i64 0, .int .i64 0, .int .i64 0] 25)) (w.heap.size + 1 + 1) 0 0 0 := tc_new (by simp)
  have RF : TF (((w.alloc (Obj.cells #[.int .i64 (m 0), .int .i64 (m 1), .int .i64 (m 2), .int .i64 (m 3), .int .i64 (m 4), .int .i64 (m 5)] 23)).alloc (Obj.cells #[.int .i64 y0, .int .i64 y1, .int .i64 y2] 25)).alloc (Obj.cells #[.int .i64 0, .int .i64 0, .int .i64 0] 25)) (w.heap.size + 1 + 1) := tf_new (by simp)
  go_enter Tryd.func9, Tryd.ntmps9
  go_wp2_with fail
  refine (cV _).mono ?_
  rintro e w1 ⟨rfl, hb⟩
  replace RF := tf_keep hb R RF
  replace R := tc_keep hb R
  replace Y := tc_keep hb Y
  replace S := sc_six (sc_keep hb (six_sc S))
  replace B := b_trans B hb
  clear hb
  go_wp2
  obtain ⟨q0, q1, q2⟩ := R
  refine bodyPost_ret (v := .tuple #[tv 0 0 0, .int .i64 1]) (by simp [results, Tryd.results9, go_sem, q0, q1, q2]) rfl ⟨rfl, ?_⟩
  have g2 : w.heap.size ≤ w.heap.size + 1 + 1 := Nat.le_trans (Nat.le_succ _) (Nat.le_succ _)
  repeat (first | exact B | refine b_set ?_ g2)

theorem rof_all (m : Nat → Int) (s : Int) (b : Bool) (y0 y1 y2 : Int) (hm : I6 m) (hs : I64 s) (h0 : I64 y0) (h1 : I64 y1) (h2 : I64 y2) (w : World) :
    Calls Tryd.prog 9 #[sv m, .int .i64 s, .bool b, tv y0 y1 y2] w (RetV (.tuple #[tv (oz b m s y0 y1 y2 y0 0) (oz b m s y0 y1 y2 y1 1) (oz b m s y0 y1 y2 y2 2), .int .i64 (oe b m s y0 y1 y2)]) w) := by
  cases b
  · exact rof_false m s y0 y1 y2 _ _ _ _ (rbest_any m s hm hs) w
  · have v := fits3_ref y0 y1 y2 h0 h1 h2
    by_cases c : F3 y0 y1 y2
    · rw [f3b_yes c] at v
      simp only [oz_yes m s c, oe_yes m s c]
      exact rof_true_ok m s y0 y1 y2 v w
    · rw [f3b_no c] at v
      simp only [oz_no m s c, oe_no m s c]
      exact rof_true_bad m s y0 y1 y2 v w

end Go.Proofs.YtccpcabhcfpbfaaDoor

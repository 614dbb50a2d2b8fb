/- Package gain: Best by one contract, the example, Mild, the source of a cycle, Of. -/
import Derived.Test.YtccpcabhcfpbfaaDoorGaiB
import Derived.Test.YtccpcabhcfpbfaaDoorVecE
import Derived.Test.YtccpcabhcfpbfaaDoorLate
namespace Go.Proofs.YtccpcabhcfpbfaaDoor
open Go.RowKit Go.Shelf

set_option maxRecDepth 10000 in
theorem best_any (m : Nat → Int) (s : Int) (hm : I6 m) (hs : I64 s) (w : World) (hp : PL w) :
    Calls Tryd.prog 6 #[sv m, .int .i64 s] w (RetV (.tuple #[tv (bz m s 0) (bz m s 1) (bz m s 2), .int .i64 (be m s)]) w) := by
  have cV := fits_gai m hm
  have cA := fits_any s hs.1 hs.2
  have cW := fun w hp => row_ok m 0 0 1 2 (by simp [Row3]) w hp
  by_cases c : F6 m
  rotate_left
  · rw [(b_wrong (s := s) (fun k : BK m s => c k.1)).1, (b_wrong (s := s) (fun k : BK m s => c k.1)).2]
    rw [f6b_no c] at cV
    exact best_0 m s cV w hp
  rw [f6b_yes c] at cV
  by_cases d : FitP s
  rotate_left
  · rw [(b_wrong (fun k : BK m s => d k.2.1)).1, (b_wrong (fun k : BK m s => d k.2.1)).2]
    rw [fitb_no d] at cA
    exact best_1 m s cV cA w hp
  rw [fitb_yes d] at cA
  by_cases e : s < 1
  · rw [(b_wrong (fun k : BK m s => absurd k.2.2 (by omega))).1, (b_wrong (fun k : BK m s => absurd k.2.2 (by omega))).2]
    exact best_2 m s cV cA e w hp
  have k : BK m s := ⟨c, d, by omega⟩
  have c0 := div_fix (m 0) s (hm 0 (by decide)).1 (hm 0 (by decide)).2 hs.1 hs.2
  have c1 := div_fix (m 1) s (hm 1 (by decide)).1 (hm 1 (by decide)).2 hs.1 hs.2
  have c2 := div_fix (m 2) s (hm 2 (by decide)).1 (hm 2 (by decide)).2 hs.1 hs.2
  rw [(div_bq k (by decide)).1, (div_bq k (by decide)).2] at c0 c1 c2
  by_cases f0 : FitP (bq m s 0)
  rotate_left
  · rw [(b_wide k (fun f : BF m s => f0 f.1)).1, (b_wide k (fun f : BF m s => f0 f.1)).2]
    rw [(nz_no f0).1, (nz_no f0).2] at c0
    exact best_3 m s cV cA cW e c0 w hp
  rw [(nz_of f0).1, (nz_of f0).2] at c0
  by_cases f1 : FitP (bq m s 1)
  rotate_left
  · rw [(b_wide k (fun f : BF m s => f1 f.2.1)).1, (b_wide k (fun f : BF m s => f1 f.2.1)).2]
    rw [(nz_no f1).1, (nz_no f1).2] at c1
    exact best_4 m s _ cV cA cW e c0 c1 w hp
  rw [(nz_of f1).1, (nz_of f1).2] at c1
  by_cases f2 : FitP (bq m s 2)
  rotate_left
  · rw [(b_wide k (fun f : BF m s => f2 f.2.2)).1, (b_wide k (fun f : BF m s => f2 f.2.2)).2]
    rw [(nz_no f2).1, (nz_no f2).2] at c2
    exact best_5 m s _ _ cV cA cW e c0 c1 c2 w hp
  rw [(nz_of f2).1, (nz_of f2).2] at c2
  rw [(b_ok k ⟨f0, f1, f2⟩).1, (b_ok k ⟨f0, f1, f2⟩).2]
  exact best_6 m s _ _ _ cV cA cW e c0 c1 c2 w hp

/-- A gain's first number is from 0 to 1. -/
def mildb (x : Int) : Bool := decide (0 ≤ x ∧ x ≤ 1099511627776)
theorem mildb_yes {x : Int} (h : 0 ≤ x ∧ x ≤ 1099511627776) : mildb x = true := decide_eq_true h
theorem mildb_no {x : Int} (h : ¬ (0 ≤ x ∧ x ≤ 1099511627776)) : mildb x = false := decide_eq_false h
set_option maxHeartbeats 1000000 in
theorem mild_any (x y z : Int) (w : World) : Calls Tryd.prog 11 #[tv x y z] w (RetV (.bool (mildb x)) w) := by
  by_cases c : 0 ≤ x
  · by_cases d : x ≤ 1099511627776
    · have E := Lib.hid (mildb_yes ⟨c, d⟩)
      go_enter Tryd.func11, Tryd.ntmps11
      go_wp2
      go_ret
      exact ⟨by rw [E.out]; try rfl, b_alloc (Below.refl _ _)⟩
    · have E := Lib.hid (mildb_no (x := x) (fun h => d h.2))
      go_enter Tryd.func11, Tryd.ntmps11
      go_wp2
      go_ret
      exact ⟨by rw [E.out]; try rfl, b_alloc (Below.refl _ _)⟩
  · have E := Lib.hid (mildb_no (x := x) (fun h => c h.1))
    go_enter Tryd.func11, Tryd.ntmps11
    go_wp2
    go_ret
    exact ⟨by rw [E.out]; try rfl, b_alloc (Below.refl _ _)⟩

/-- The example's doubt. -/
def exm : Nat → Int := fun i => if i = 0 then 1099511627776 else if i = 1 then 1099511627776 else 0
set_option maxHeartbeats 1000000 in
set_option maxRecDepth 10000 in
theorem fixed_gai (w : World) (hp : PL w) : Calls Tryd.prog 10 #[] w (RetV (.bool true) w) := by
  have cB : ∀ w, PL w → Calls Tryd.prog 6 #[.agg #[.int .i64 1099511627776, .int .i64 1099511627776, .int .i64 0, .int .i64 0, .int .i64 0, .int .i64 0], .int .i64 2199023255552] w (RetV (.tuple #[tv 549755813888 549755813888 0, .int .i64 0]) w) := fun w hp => by
    have h := best_any exm 2199023255552 (six (P := fun i => I64 (exm i)) (by decide) (by decide) (by decide) (by decide) (by decide) (by decide)) (by decide) w hp
    have k : BK exm 2199023255552 := ⟨six (P := fun i => FitP (exm i)) (by decide) (by decide) (by decide) (by decide) (by decide) (by decide), by decide, by decide⟩
    have f : BF exm 2199023255552 := ⟨by decide +kernel, by decide +kernel, by decide +kernel⟩
    rw [(b_ok k f).1, (b_ok k f).2, show bq exm 2199023255552 0 = 549755813888 by decide +kernel, show bq exm 2199023255552 1 = 549755813888 by decide +kernel, show bq exm 2199023255552 2 = 0 by decide +kernel] at h
    exact h
  go_enter Tryd.func10, Tryd.ntmps10
  go_wp2_with fail
  refine (cB _ hp).mono ?_
  rintro e w1 ⟨rfl, hb⟩
  have hse := fun w => vec_eq_self 549755813888 549755813888 0 w
  go_wp2
  go_ret
  exact ⟨rfl, b_alloc hb⟩

/-- A cycle's gain: a number of it, and the error. -/
def oz (b : Bool) (m : Nat → Int) (s y0 y1 y2 y : Int) (i : Nat) : Int := if b then (if F3 y0 y1 y2 then y else 0) else bz m s i
def oe (b : Bool) (m : Nat → Int) (s y0 y1 y2 : Int) : Int := if b then (if F3 y0 y1 y2 then 0 else 1) else be m s
theorem oz_yes (m : Nat → Int) (s : Int) {y0 y1 y2 : Int} (h : F3 y0 y1 y2) (y : Int) (i : Nat) : oz true m s y0 y1 y2 y i = y := if_pos h
theorem oe_yes (m : Nat → Int) (s : Int) {y0 y1 y2 : Int} (h : F3 y0 y1 y2) : oe true m s y0 y1 y2 = 0 := if_pos h
theorem oz_no (m : Nat → Int) (s : Int) {y0 y1 y2 : Int} (h : ¬ F3 y0 y1 y2) (y : Int) (i : Nat) : oz true m s y0 y1 y2 y i = 0 := if_neg h
theorem oe_no (m : Nat → Int) (s : Int) {y0 y1 y2 : Int} (h : ¬ F3 y0 y1 y2) : oe true m s y0 y1 y2 = 1 := if_neg h

set_option maxHeartbeats 2000000 in
set_option maxRecDepth 10000 in
theorem table_ok (m : Nat → Int) (s y0 y1 y2 : Int)
    (cV : ∀ w, Calls Tryd.prog 46 #[tv y0 y1 y2] w (RetV (.bool true) w)) (w : World) (hp : PL w) :
    Calls Tryd.prog 31 #[sv m, .int .i64 s, tv y0 y1 y2] w (RetV (.tuple #[tv y0 y1 y2, .int .i64 0]) w) := by
  have B : Below w.heap.size w (((w.alloc (Obj.cells #[.int .i64 (m 0), .int .i64 (m 1), .int .i64 (m 2), .int .i64 (m 3), .int .i64 (m 4), .int .i64 (m 5)] 23)).alloc (Obj.cells #[.int .i64 y0, .int .i64 y1, .int .i64 y2] 25)).alloc (Obj.cells #[.int .i64 0, .int .i64 0, .int .i64 0] 25)) := b_alloc (b_alloc (b_alloc (Below.refl _ _)))
  have P := pl_keep B hp
  clear hp
  have S : SC6 (((w.alloc (Obj.cells #[.int .i64 (m 0), .int .i64 (m 1), .int .i64 (m 2), .int .i64 (m 3), .int .i64 (m 4), .int .i64 (m 5)] 23)).alloc (Obj.cells #[.int .i64 y0, .int .i64 y1, .int .i64 y2] 25)).alloc (Obj.cells #[.int .i64 0, .int .i64 0, .int .i64 0] 25)) w.heap.size m := sc_six (sc_alloc (sc_alloc (sc_new rfl)))
  have Y : TC (((w.alloc (Obj.cells #[.int .i64 (m 0), .int .i64 (m 1), .int .i64 (m 2), .int .i64 (m 3), .int .i64 (m 4), .int .i64 (m 5)] 23)).alloc (Obj.cells #[.int .i64 y0, .int .i64 y1, .int .i64 y2] 25)).alloc (Obj.cells #[.int .i64 0, .int .i64 0, .int .i64 0] 25)) (w.heap.size + 1) y0 y1 y2 := tc_alloc (tc_new (by simp))
  have R : TC (((w.alloc (Obj.cells #[.int .i64 (m 0), .int .i64 (m 1), .int .i64 (m 2), .int .i64 (m 3), .int .i64 (m 4), .int .i64 (m 5)] 23)).alloc (Obj.cells #[.int .i64 y0, .int .i64 y1, .int .i64 y2] 25)).alloc (Obj.cells #[.int .i64 0, .int .i64 0, .int .i64 0] 25)) (w.heap.size + 1 + 1) 0 0 0 := tc_new (by simp)
  have RF : TF (((w.alloc (Obj.cells #[.int .i64 (m 0), .int .i64 (m 1), .int .i64 (m 2), .int .i64 (m 3), .int .i64 (m 4), .int .i64 (m 5)] 23)).alloc (Obj.cells #[.int .i64 y0, .int .i64 y1, .int .i64 y2] 25)).alloc (Obj.cells #[.int .i64 0, .int .i64 0, .int .i64 0] 25)) (w.heap.size + 1 + 1) := tf_new (by simp)
  go_enter Tryd.func31, Tryd.ntmps31
  go_wp2_with fail
  refine (cV _).mono ?_
  rintro e w1 ⟨rfl, hb⟩
  replace RF := tf_keep hb R RF
  replace R := tc_keep hb R
  replace Y := tc_keep hb Y
  replace S := sc_six (sc_keep hb (six_sc S))
  replace P := pl_keep hb P
  replace B := b_trans B hb
  clear hb
  go_wp2
  obtain ⟨q0, q1, q2⟩ := R
  refine bodyPost_ret (v := .tuple #[tv y0 y1 y2, .int .i64 0]) (by simp [results, Tryd.results31, go_sem, q0, q1, q2]) rfl ⟨rfl, ?_⟩
  have g2 : w.heap.size ≤ w.heap.size + 1 + 1 := Nat.le_trans (Nat.le_succ _) (Nat.le_succ _)
  repeat (first | exact B | refine b_set ?_ g2)

set_option maxHeartbeats 2000000 in
set_option maxRecDepth 10000 in
theorem table_bad (m : Nat → Int) (s y0 y1 y2 : Int)
    (cV : ∀ w, Calls Tryd.prog 46 #[tv y0 y1 y2] w (RetV (.bool false) w)) (w : World) (hp : PL w) :
    Calls Tryd.prog 31 #[sv m, .int .i64 s, tv y0 y1 y2] w (RetV (.tuple #[tv 0 0 0, .int .i64 1]) w) := by
  have B : Below w.heap.size w (((w.alloc (Obj.cells #[.int .i64 (m 0), .int .i64 (m 1), .int .i64 (m 2), .int .i64 (m 3), .int .i64 (m 4), .int .i64 (m 5)] 23)).alloc (Obj.cells #[.int .i64 y0, .int .i64 y1, .int .i64 y2] 25)).alloc (Obj.cells #[.int .i64 0, .int .i64 0, .int .i64 0] 25)) := b_alloc (b_alloc (b_alloc (Below.refl _ _)))
  have P := pl_keep B hp
  clear hp
  have S : SC6 (((w.alloc (Obj.cells #[.int .i64 (m 0), .int .i64 (m 1), .int .i64 (m 2), .int .i64 (m 3), .int .i64 (m 4), .int .i64 (m 5)] 23)).alloc (Obj.cells #[.int .i64 y0, .int .i64 y1, .int .i64 y2] 25)).alloc (Obj.cells #[.int .i64 0, .int .i64 0, .int .i64 0] 25)) w.heap.size m := sc_six (sc_alloc (sc_alloc (sc_new rfl)))
  have Y : TC (((w.alloc (Obj.cells #[.int .i64 (m 0), .int .i64 (m 1), .int .i64 (m 2), .int .i64 (m 3), .int .i64 (m 4), .int .i64 (m 5)] 23)).alloc (Obj.cells #[.int .i64 y0, .int .i64 y1, .int .i64 y2] 25)).alloc (Obj.cells #[.int .i64 0, .int .i64 0, .int .i64 0] 25)) (w.heap.size + 1) y0 y1 y2 := tc_alloc (tc_new (by simp))
  have R : TC (((w.alloc (Obj.cells #[.int .i64 (m 0), .int .i64 (m 1), .int .i64 (m 2), .int .i64 (m 3), .int .i64 (m 4), .int .i64 (m 5)] 23)).alloc (Obj.cells #[.int .i64 y0, .int .i64 y1, .int .i64 y2] 25)).alloc (Obj.cells #[.int .i64 0, .int .i64 0, .int .i64 0] 25)) (w.heap.size + 1 + 1) 0 0 0 := tc_new (by simp)
  have RF : TF (((w.alloc (Obj.cells #[.int .i64 (m 0), .int .i64 (m 1), .int .i64 (m 2), .int .i64 (m 3), .int .i64 (m 4), .int .i64 (m 5)] 23)).alloc (Obj.cells #[.int .i64 y0, .int .i64 y1, .int .i64 y2] 25)).alloc (Obj.cells #[.int .i64 0, .int .i64 0, .int .i64 0] 25)) (w.heap.size + 1 + 1) := tf_new (by simp)
  go_enter Tryd.func31, Tryd.ntmps31
  go_wp2_with fail
  refine (cV _).mono ?_
  rintro e w1 ⟨rfl, hb⟩
  replace RF := tf_keep hb R RF
  replace R := tc_keep hb R
  replace Y := tc_keep hb Y
  replace S := sc_six (sc_keep hb (six_sc S))
  replace P := pl_keep hb P
  replace B := b_trans B hb
  clear hb
  go_wp2
  obtain ⟨q0, q1, q2⟩ := R
  refine bodyPost_ret (v := .tuple #[tv 0 0 0, .int .i64 1]) (by simp [results, Tryd.results31, go_sem, q0, q1, q2]) rfl ⟨rfl, ?_⟩
  have g2 : w.heap.size ≤ w.heap.size + 1 + 1 := Nat.le_trans (Nat.le_succ _) (Nat.le_succ _)
  repeat (first | exact B | refine b_set ?_ g2)

set_option maxHeartbeats 2000000 in
set_option maxRecDepth 10000 in
theorem doubt_go (m : Nat → Int) (s y0 y1 y2 k0 k1 k2 g : Int)
    (cB : ∀ w, PL w → Calls Tryd.prog 6 #[sv m, .int .i64 s] w (RetV (.tuple #[tv k0 k1 k2, .int .i64 g]) w)) (w : World) (hp : PL w) :
    Calls Tryd.prog 32 #[sv m, .int .i64 s, tv y0 y1 y2] w (RetV (.tuple #[tv k0 k1 k2, .int .i64 g]) w) := by
  have B : Below w.heap.size w (((w.alloc (Obj.cells #[.int .i64 (m 0), .int .i64 (m 1), .int .i64 (m 2), .int .i64 (m 3), .int .i64 (m 4), .int .i64 (m 5)] 23)).alloc (Obj.cells #[.int .i64 y0, .int .i64 y1, .int .i64 y2] 25)).alloc (Obj.cells #[.int .i64 0, .int .i64 0, .int .i64 0] 25)) := b_alloc (b_alloc (b_alloc (Below.refl _ _)))
  have P := pl_keep B hp
  clear hp
  have S : SC6 (((w.alloc (Obj.cells #[.int .i64 (m 0), .int .i64 (m 1), .int .i64 (m 2), .int .i64 (m 3), .int .i64 (m 4), .int .i64 (m 5)] 23)).alloc (Obj.cells #[.int .i64 y0, .int .i64 y1, .int .i64 y2] 25)).alloc (Obj.cells #[.int .i64 0, .int .i64 0, .int .i64 0] 25)) w.heap.size m := sc_six (sc_alloc (sc_alloc (sc_new rfl)))
  have Y : TC (((w.alloc (Obj.cells #[.int .i64 (m 0), .int .i64 (m 1), .int .i64 (m 2), .int .i64 (m 3), .int .i64 (m 4), .int .i64 (m 5)] 23)).alloc (Obj.cells #[.int .i64 y0, .int .i64 y1, .int .i64 y2] 25)).alloc (Obj.cells #[.int .i64 0, .int .i64 0, .int .i64 0] 25)) (w.heap.size + 1) y0 y1 y2 := tc_alloc (tc_new (by simp))
  have R : TC (((w.alloc (Obj.cells #[.int .i64 (m 0), .int .i64 (m 1), .int .i64 (m 2), .int .i64 (m 3), .int .i64 (m 4), .int .i64 (m 5)] 23)).alloc (Obj.cells #[.int .i64 y0, .int .i64 y1, .int .i64 y2] 25)).alloc (Obj.cells #[.int .i64 0, .int .i64 0, .int .i64 0] 25)) (w.heap.size + 1 + 1) 0 0 0 := tc_new (by simp)
  have RF : TF (((w.alloc (Obj.cells #[.int .i64 (m 0), .int .i64 (m 1), .int .i64 (m 2), .int .i64 (m 3), .int .i64 (m 4), .int .i64 (m 5)] 23)).alloc (Obj.cells #[.int .i64 y0, .int .i64 y1, .int .i64 y2] 25)).alloc (Obj.cells #[.int .i64 0, .int .i64 0, .int .i64 0] 25)) (w.heap.size + 1 + 1) := tf_new (by simp)
  go_enter Tryd.func32, Tryd.ntmps32
  go_wp2_with fail
  refine (cB _ P).mono ?_
  rintro e w1 ⟨rfl, hb⟩
  replace RF := tf_keep hb R RF
  replace R := tc_keep hb R
  replace Y := tc_keep hb Y
  replace S := sc_six (sc_keep hb (six_sc S))
  replace P := pl_keep hb P
  replace B := b_trans B hb
  clear hb
  go_wp2
  obtain ⟨q0, q1, q2⟩ := R
  refine bodyPost_ret (v := .tuple #[tv k0 k1 k2, .int .i64 g]) (by simp [results, Tryd.results32, go_sem, q0, q1, q2]) rfl ⟨rfl, ?_⟩
  have g2 : w.heap.size ≤ w.heap.size + 1 + 1 := Nat.le_trans (Nat.le_succ _) (Nat.le_succ _)
  repeat (first | exact B | refine b_set ?_ g2)

set_option maxHeartbeats 2000000 in
set_option maxRecDepth 10000 in
theorem source_true (w : World) :
    Calls Tryd.prog 20 #[.bool true] w (RetV (.agg #[.func (.func 31) #[] #[]]) w) := by
  have hst : ∀ (w : World) (a : Addr), (store a (.func (.func 31) #[] #[])).run Tryd.prog w = stored Tryd.prog w a (.func (.func 31) #[] #[]) .plain := fun w a => run_store _ w a _ _ rfl
  go_enter Tryd.func20, Tryd.ntmps20
  go_wp2
  exact bodyPost_ret (v := .agg #[.func (.func 31) #[] #[]]) (by simp [results, Tryd.results20, go_sem]) rfl ⟨rfl, by first | exact b_alloc (Below.refl _ _) | exact b_set (b_alloc (Below.refl _ _)) (Nat.le_refl _)⟩

set_option maxHeartbeats 2000000 in
set_option maxRecDepth 10000 in
theorem source_false (w : World) :
    Calls Tryd.prog 20 #[.bool false] w (RetV (.agg #[.func (.func 32) #[] #[]]) w) := by
  have hst : ∀ (w : World) (a : Addr), (store a (.func (.func 32) #[] #[])).run Tryd.prog w = stored Tryd.prog w a (.func (.func 32) #[] #[]) .plain := fun w a => run_store _ w a _ _ rfl
  go_enter Tryd.func20, Tryd.ntmps20
  go_wp2
  exact bodyPost_ret (v := .agg #[.func (.func 32) #[] #[]]) (by simp [results, Tryd.results20, go_sem]) rfl ⟨rfl, by first | exact b_alloc (Below.refl _ _) | exact b_set (b_alloc (Below.refl _ _)) (Nat.le_refl _)⟩

set_option maxHeartbeats 4000000 in
set_option maxRecDepth 10000 in
theorem of_true (m : Nat → Int) (s y0 y1 y2 k0 k1 k2 g : Int)
    (cS : ∀ w, Calls Tryd.prog 20 #[.bool true] w (RetV (.agg #[.func (.func 31) #[] #[]]) w))
    (cT : ∀ w, PL w → Calls Tryd.prog 31 #[sv m, .int .i64 s, tv y0 y1 y2] w (RetV (.tuple #[tv k0 k1 k2, .int .i64 g]) w)) (w : World) (hp : PL w) :
    Calls Tryd.prog 8 #[sv m, .int .i64 s, .bool true, tv y0 y1 y2] w (RetV (.tuple #[tv k0 k1 k2, .int .i64 g]) w) := by
  have B : Below w.heap.size w (((w.alloc (Obj.cells #[.int .i64 (m 0), .int .i64 (m 1), .int .i64 (m 2), .int .i64 (m 3), .int .i64 (m 4), .int .i64 (m 5)] 23)).alloc (Obj.cells #[.int .i64 y0, .int .i64 y1, .int .i64 y2] 25)).alloc (Obj.cells #[.int .i64 0, .int .i64 0, .int .i64 0] 25)) := b_alloc (b_alloc (b_alloc (Below.refl _ _)))
  have P := pl_keep B hp
  clear hp
  have S : SC6 (((w.alloc (Obj.cells #[.int .i64 (m 0), .int .i64 (m 1), .int .i64 (m 2), .int .i64 (m 3), .int .i64 (m 4), .int .i64 (m 5)] 23)).alloc (Obj.cells #[.int .i64 y0, .int .i64 y1, .int .i64 y2] 25)).alloc (Obj.cells #[.int .i64 0, .int .i64 0, .int .i64 0] 25)) w.heap.size m := sc_six (sc_alloc (sc_alloc (sc_new rfl)))
  have Y : TC (((w.alloc (Obj.cells #[.int .i64 (m 0), .int .i64 (m 1), .int .i64 (m 2), .int .i64 (m 3), .int .i64 (m 4), .int .i64 (m 5)] 23)).alloc (Obj.cells #[.int .i64 y0, .int .i64 y1, .int .i64 y2] 25)).alloc (Obj.cells #[.int .i64 0, .int .i64 0, .int .i64 0] 25)) (w.heap.size + 1) y0 y1 y2 := tc_alloc (tc_new (by simp))
  have R : TC (((w.alloc (Obj.cells #[.int .i64 (m 0), .int .i64 (m 1), .int .i64 (m 2), .int .i64 (m 3), .int .i64 (m 4), .int .i64 (m 5)] 23)).alloc (Obj.cells #[.int .i64 y0, .int .i64 y1, .int .i64 y2] 25)).alloc (Obj.cells #[.int .i64 0, .int .i64 0, .int .i64 0] 25)) (w.heap.size + 1 + 1) 0 0 0 := tc_new (by simp)
  have RF : TF (((w.alloc (Obj.cells #[.int .i64 (m 0), .int .i64 (m 1), .int .i64 (m 2), .int .i64 (m 3), .int .i64 (m 4), .int .i64 (m 5)] 23)).alloc (Obj.cells #[.int .i64 y0, .int .i64 y1, .int .i64 y2] 25)).alloc (Obj.cells #[.int .i64 0, .int .i64 0, .int .i64 0] 25)) (w.heap.size + 1 + 1) := tf_new (by simp)
  go_enter Tryd.func8, Tryd.ntmps8
  go_wp2
  refine region_late [10, 11, 12, 13, 14, 15, 16, 17, 18] 8 (fun i_ X_ U_ => match i_ with | 0 => X_ = .bool true | 1 => X_ = .agg #[.func (.func 31) #[] #[]] | 2 => X_ = .func (.func 31) #[] #[] | 3 => X_ = sv m | 4 => X_ = .int .i64 s | 5 => X_ = tv y0 y1 y2 | 6 => X_ = .tuple #[tv k0 k1 k2, .int .i64 g] | 7 => X_ = tv k0 k1 k2 | 8 => X_ = .int .i64 g | _ => True) (fun i_ => false) (by kernel_rfl) (by kernel_rfl) (by kernel_rfl) (by kernel_rfl) ?_ (fun i x w hi ha h => by cases ha) ?_ ?_ ?_
  · refine swp (upS (upS (upS (upS (upS (upS (upS (upS (upS up0 ?_) ?_) ?_) ?_) ?_) ?_) ?_) ?_) ?_)
    all_goals exact fun _ _ _ h _ => h
  · refine upS (upS (upS (upS (upS (upS (upS (upS (upS up0 ?_) ?_) ?_) ?_) ?_) ?_) ?_) ?_) ?_
    all_goals intro v f w' hb hv hB hd
    · have b2 : f.tmps[2]? = some (.bool true) := (hb 2 (by decide)).trans rfl
      clear hb hv hd
      refine wpOp_step rfl fun K hK => ?_
      go_simp
      exact hK _ _ ⟨_, rfl, Below.refl _ _, rfl, fun h => absurd h (by decide)⟩
    · have d0 := got (hv 0 10 rfl) (hd 0 (by kernel_rfl))
      clear hb hv hd
      refine wpOp_call rfl Tryd.call20 (args1 (eval_tmp d0)) (cS _) ?_
      rintro e5 w5_ ⟨rfl, hb5⟩
      exact ⟨_, rfl, _, rfl, hb5, rfl, fun h => absurd h (by decide)⟩
    · have d1 := got (hv 1 11 rfl) (hd 1 (by kernel_rfl))
      clear hb hv hd
      refine wpOp_step rfl fun K hK => ?_
      go_simp
      exact hK _ _ ⟨_, rfl, Below.refl _ _, rfl, fun h => absurd h (by decide)⟩
    · have b4 : f.tmps[4]? = some (.pointer (some ⟨w.heap.size, 0, none⟩)) := (hb 4 (by decide)).trans rfl
      clear hb hv hd
      have c := sc_six (sc_keep hB (six_sc S))
      refine wpOp_step rfl fun K hK => ?_
      go_simp
      exact hK _ _ ⟨_, rfl, Below.refl _ _, rfl, fun h => absurd h (by decide)⟩
    · have b1 : f.tmps[1]? = some (.int .i64 s) := (hb 1 (by decide)).trans rfl
      clear hb hv hd
      refine wpOp_step rfl fun K hK => ?_
      go_simp
      exact hK _ _ ⟨_, rfl, Below.refl _ _, rfl, fun h => absurd h (by decide)⟩
    · have b7 : f.tmps[7]? = some (.pointer (some ⟨(w.heap.size + 1), 0, none⟩)) := (hb 7 (by decide)).trans rfl
      clear hb hv hd
      have c := tc_keep hB Y
      refine wpOp_step rfl fun K hK => ?_
      go_simp
      exact hK _ _ ⟨_, rfl, Below.refl _ _, rfl, fun h => absurd h (by decide)⟩
    · have d2 := got (hv 2 12 rfl) (hd 2 (by kernel_rfl))
      have d3 := got (hv 3 13 rfl) (hd 3 (by kernel_rfl))
      have d4 := got (hv 4 14 rfl) (hd 4 (by kernel_rfl))
      have d5 := got (hv 5 15 rfl) (hd 5 (by kernel_rfl))
      clear hb hv hd
      refine wpOp_step rfl fun K hK => ?_
      go_simp
      refine (cT _ (pl_keep hB P)).mono ?_
      rintro e5 w5_ ⟨rfl, hb5⟩
      exact hK _ _ ⟨_, rfl, hb5, rfl, fun h => absurd h (by decide)⟩
    · have d6 := got (hv 6 16 rfl) (hd 6 (by kernel_rfl))
      clear hb hv hd
      refine wpOp_step rfl fun K hK => ?_
      go_simp
      exact hK _ _ ⟨_, rfl, Below.refl _ _, rfl, fun h => absurd h (by decide)⟩
    · have d6 := got (hv 6 16 rfl) (hd 6 (by kernel_rfl))
      clear hb hv hd
      refine wpOp_step rfl fun K hK => ?_
      go_simp
      exact hK _ _ ⟨_, rfl, Below.refl _ _, rfl, fun h => absurd h (by decide)⟩
  · intro v w' hB hF hD
    have F0 : v 0 = _ := hF 0 (by simp)
    have F1 : v 1 = _ := hF 1 (by simp)
    have F2 : v 2 = _ := hF 2 (by simp)
    have F3 : v 3 = _ := hF 3 (by simp)
    have F4 : v 4 = _ := hF 4 (by simp)
    have F5 : v 5 = _ := hF 5 (by simp)
    have F6 : v 6 = _ := hF 6 (by simp)
    have F7 : v 7 = _ := hF 7 (by simp)
    have F8 : v 8 = _ := hF 8 (by simp)
    clear hF
    simp only [frOf, frGo, Nat.zero_add, Nat.reduceAdd, F0, F1, F2, F3, F4, F5, F6, F7, F8]
    replace RF := tf_keep hB R RF
    replace R := tc_keep hB R
    replace B := b_trans B hB
    clear F0 F1 F2 F3 F4 F5 F6 F7 F8 hD hB cS cT S Y P
    go_wp2
    obtain ⟨q0, q1, q2⟩ := R
    refine bodyPost_ret (v := .tuple #[tv k0 k1 k2, .int .i64 g]) (by simp [results, Tryd.results8, go_sem, q0, q1, q2]) rfl ⟨rfl, ?_⟩
    have g2 : w.heap.size ≤ w.heap.size + 1 + 1 := Nat.le_trans (Nat.le_succ _) (Nat.le_succ _)
    repeat (first | exact B | refine b_set ?_ g2)
  · intro v w' hB hF hD
    have F0 : v 0 = _ := hF 0 (by simp) (by decide)
    have F1 : v 1 = _ := hF 1 (by simp) (by decide)
    have F2 : v 2 = _ := hF 2 (by simp) (by decide)
    have F3 : v 3 = _ := hF 3 (by simp) (by decide)
    have F4 : v 4 = _ := hF 4 (by simp) (by decide)
    have F5 : v 5 = _ := hF 5 (by simp) (by decide)
    have F6 : v 6 = _ := hF 6 (by simp) (by decide)
    have F7 : v 7 = _ := hF 7 (by simp) (by decide)
    clear hF
    simp only [frOf, frGo, Nat.zero_add, Nat.reduceAdd, F0, F1, F2, F3, F4, F5, F6, F7]
    replace RF := tf_keep hB R RF
    replace R := tc_keep hB R
    replace B := b_trans B hB
    clear F0 F1 F2 F3 F4 F5 F6 F7 hD hB cS cT S Y P
    refine wpOp_step rfl (fun K hK => ?_)
    go_simp
    refine hK _ _ ?_
    clear hK K
    refine wpOp_step rfl (fun K hK => ?_)
    go_simp
    refine hK _ _ ?_
    clear hK K
    go_wp2
    obtain ⟨q0, q1, q2⟩ := R
    refine bodyPost_ret (v := .tuple #[tv k0 k1 k2, .int .i64 g]) (by simp [results, Tryd.results8, go_sem, q0, q1, q2]) rfl ⟨rfl, ?_⟩
    have g2 : w.heap.size ≤ w.heap.size + 1 + 1 := Nat.le_trans (Nat.le_succ _) (Nat.le_succ _)
    repeat (first | exact B | refine b_set ?_ g2)

set_option maxHeartbeats 4000000 in
set_option maxRecDepth 10000 in
theorem of_false (m : Nat → Int) (s y0 y1 y2 k0 k1 k2 g : Int)
    (cS : ∀ w, Calls Tryd.prog 20 #[.bool false] w (RetV (.agg #[.func (.func 32) #[] #[]]) w))
    (cT : ∀ w, PL w → Calls Tryd.prog 32 #[sv m, .int .i64 s, tv y0 y1 y2] w (RetV (.tuple #[tv k0 k1 k2, .int .i64 g]) w)) (w : World) (hp : PL w) :
    Calls Tryd.prog 8 #[sv m, .int .i64 s, .bool false, tv y0 y1 y2] w (RetV (.tuple #[tv k0 k1 k2, .int .i64 g]) w) := by
  have B : Below w.heap.size w (((w.alloc (Obj.cells #[.int .i64 (m 0), .int .i64 (m 1), .int .i64 (m 2), .int .i64 (m 3), .int .i64 (m 4), .int .i64 (m 5)] 23)).alloc (Obj.cells #[.int .i64 y0, .int .i64 y1, .int .i64 y2] 25)).alloc (Obj.cells #[.int .i64 0, .int .i64 0, .int .i64 0] 25)) := b_alloc (b_alloc (b_alloc (Below.refl _ _)))
  have P := pl_keep B hp
  clear hp
  have S : SC6 (((w.alloc (Obj.cells #[.int .i64 (m 0), .int .i64 (m 1), .int .i64 (m 2), .int .i64 (m 3), .int .i64 (m 4), .int .i64 (m 5)] 23)).alloc (Obj.cells #[.int .i64 y0, .int .i64 y1, .int .i64 y2] 25)).alloc (Obj.cells #[.int .i64 0, .int .i64 0, .int .i64 0] 25)) w.heap.size m := sc_six (sc_alloc (sc_alloc (sc_new rfl)))
  have Y : TC (((w.alloc (Obj.cells #[.int .i64 (m 0), .int .i64 (m 1), .int .i64 (m 2), .int .i64 (m 3), .int .i64 (m 4), .int .i64 (m 5)] 23)).alloc (Obj.cells #[.int .i64 y0, .int .i64 y1, .int .i64 y2] 25)).alloc (Obj.cells #[.int .i64 0, .int .i64 0, .int .i64 0] 25)) (w.heap.size + 1) y0 y1 y2 := tc_alloc (tc_new (by simp))
  have R : TC (((w.alloc (Obj.cells #[.int .i64 (m 0), .int .i64 (m 1), .int .i64 (m 2), .int .i64 (m 3), .int .i64 (m 4), .int .i64 (m 5)] 23)).alloc (Obj.cells #[.int .i64 y0, .int .i64 y1, .int .i64 y2] 25)).alloc (Obj.cells #[.int .i64 0, .int .i64 0, .int .i64 0] 25)) (w.heap.size + 1 + 1) 0 0 0 := tc_new (by simp)
  have RF : TF (((w.alloc (Obj.cells #[.int .i64 (m 0), .int .i64 (m 1), .int .i64 (m 2), .int .i64 (m 3), .int .i64 (m 4), .int .i64 (m 5)] 23)).alloc (Obj.cells #[.int .i64 y0, .int .i64 y1, .int .i64 y2] 25)).alloc (Obj.cells #[.int .i64 0, .int .i64 0, .int .i64 0] 25)) (w.heap.size + 1 + 1) := tf_new (by simp)
  go_enter Tryd.func8, Tryd.ntmps8
  go_wp2
  refine region_late [10, 11, 12, 13, 14, 15, 16, 17, 18] 8 (fun i_ X_ U_ => match i_ with | 0 => X_ = .bool false | 1 => X_ = .agg #[.func (.func 32) #[] #[]] | 2 => X_ = .func (.func 32) #[] #[] | 3 => X_ = sv m | 4 => X_ = .int .i64 s | 5 => X_ = tv y0 y1 y2 | 6 => X_ = .tuple #[tv k0 k1 k2, .int .i64 g] | 7 => X_ = tv k0 k1 k2 | 8 => X_ = .int .i64 g | _ => True) (fun i_ => false) (by kernel_rfl) (by kernel_rfl) (by kernel_rfl) (by kernel_rfl) ?_ (fun i x w hi ha h => by cases ha) ?_ ?_ ?_
  · refine swp (upS (upS (upS (upS (upS (upS (upS (upS (upS up0 ?_) ?_) ?_) ?_) ?_) ?_) ?_) ?_) ?_)
    all_goals exact fun _ _ _ h _ => h
  · refine upS (upS (upS (upS (upS (upS (upS (upS (upS up0 ?_) ?_) ?_) ?_) ?_) ?_) ?_) ?_) ?_
    all_goals intro v f w' hb hv hB hd
    · have b2 : f.tmps[2]? = some (.bool false) := (hb 2 (by decide)).trans rfl
      clear hb hv hd
      refine wpOp_step rfl fun K hK => ?_
      go_simp
      exact hK _ _ ⟨_, rfl, Below.refl _ _, rfl, fun h => absurd h (by decide)⟩
    · have d0 := got (hv 0 10 rfl) (hd 0 (by kernel_rfl))
      clear hb hv hd
      refine wpOp_call rfl Tryd.call20 (args1 (eval_tmp d0)) (cS _) ?_
      rintro e5 w5_ ⟨rfl, hb5⟩
      exact ⟨_, rfl, _, rfl, hb5, rfl, fun h => absurd h (by decide)⟩
    · have d1 := got (hv 1 11 rfl) (hd 1 (by kernel_rfl))
      clear hb hv hd
      refine wpOp_step rfl fun K hK => ?_
      go_simp
      exact hK _ _ ⟨_, rfl, Below.refl _ _, rfl, fun h => absurd h (by decide)⟩
    · have b4 : f.tmps[4]? = some (.pointer (some ⟨w.heap.size, 0, none⟩)) := (hb 4 (by decide)).trans rfl
      clear hb hv hd
      have c := sc_six (sc_keep hB (six_sc S))
      refine wpOp_step rfl fun K hK => ?_
      go_simp
      exact hK _ _ ⟨_, rfl, Below.refl _ _, rfl, fun h => absurd h (by decide)⟩
    · have b1 : f.tmps[1]? = some (.int .i64 s) := (hb 1 (by decide)).trans rfl
      clear hb hv hd
      refine wpOp_step rfl fun K hK => ?_
      go_simp
      exact hK _ _ ⟨_, rfl, Below.refl _ _, rfl, fun h => absurd h (by decide)⟩
    · have b7 : f.tmps[7]? = some (.pointer (some ⟨(w.heap.size + 1), 0, none⟩)) := (hb 7 (by decide)).trans rfl
      clear hb hv hd
      have c := tc_keep hB Y
      refine wpOp_step rfl fun K hK => ?_
      go_simp
      exact hK _ _ ⟨_, rfl, Below.refl _ _, rfl, fun h => absurd h (by decide)⟩
    · have d2 := got (hv 2 12 rfl) (hd 2 (by kernel_rfl))
      have d3 := got (hv 3 13 rfl) (hd 3 (by kernel_rfl))
      have d4 := got (hv 4 14 rfl) (hd 4 (by kernel_rfl))
      have d5 := got (hv 5 15 rfl) (hd 5 (by kernel_rfl))
      clear hb hv hd
      refine wpOp_step rfl fun K hK => ?_
      go_simp
      refine (cT _ (pl_keep hB P)).mono ?_
      rintro e5 w5_ ⟨rfl, hb5⟩
      exact hK _ _ ⟨_, rfl, hb5, rfl, fun h => absurd h (by decide)⟩
    · have d6 := got (hv 6 16 rfl) (hd 6 (by kernel_rfl))
      clear hb hv hd
      refine wpOp_step rfl fun K hK => ?_
      go_simp
      exact hK _ _ ⟨_, rfl, Below.refl _ _, rfl, fun h => absurd h (by decide)⟩
    · have d6 := got (hv 6 16 rfl) (hd 6 (by kernel_rfl))
      clear hb hv hd
      refine wpOp_step rfl fun K hK => ?_
      go_simp
      exact hK _ _ ⟨_, rfl, Below.refl _ _, rfl, fun h => absurd h (by decide)⟩
  · intro v w' hB hF hD
    have F0 : v 0 = _ := hF 0 (by simp)
    have F1 : v 1 = _ := hF 1 (by simp)
    have F2 : v 2 = _ := hF 2 (by simp)
    have F3 : v 3 = _ := hF 3 (by simp)
    have F4 : v 4 = _ := hF 4 (by simp)
    have F5 : v 5 = _ := hF 5 (by simp)
    have F6 : v 6 = _ := hF 6 (by simp)
    have F7 : v 7 = _ := hF 7 (by simp)
    have F8 : v 8 = _ := hF 8 (by simp)
    clear hF
    simp only [frOf, frGo, Nat.zero_add, Nat.reduceAdd, F0, F1, F2, F3, F4, F5, F6, F7, F8]
    replace RF := tf_keep hB R RF
    replace R := tc_keep hB R
    replace B := b_trans B hB
    clear F0 F1 F2 F3 F4 F5 F6 F7 F8 hD hB cS cT S Y P
    go_wp2
    obtain ⟨q0, q1, q2⟩ := R
    refine bodyPost_ret (v := .tuple #[tv k0 k1 k2, .int .i64 g]) (by simp [results, Tryd.results8, go_sem, q0, q1, q2]) rfl ⟨rfl, ?_⟩
    have g2 : w.heap.size ≤ w.heap.size + 1 + 1 := Nat.le_trans (Nat.le_succ _) (Nat.le_succ _)
    repeat (first | exact B | refine b_set ?_ g2)
  · intro v w' hB hF hD
    have F0 : v 0 = _ := hF 0 (by simp) (by decide)
    have F1 : v 1 = _ := hF 1 (by simp) (by decide)
    have F2 : v 2 = _ := hF 2 (by simp) (by decide)
    have F3 : v 3 = _ := hF 3 (by simp) (by decide)
    have F4 : v 4 = _ := hF 4 (by simp) (by decide)
    have F5 : v 5 = _ := hF 5 (by simp) (by decide)
    have F6 : v 6 = _ := hF 6 (by simp) (by decide)
    have F7 : v 7 = _ := hF 7 (by simp) (by decide)
    clear hF
    simp only [frOf, frGo, Nat.zero_add, Nat.reduceAdd, F0, F1, F2, F3, F4, F5, F6, F7]
    replace RF := tf_keep hB R RF
    replace R := tc_keep hB R
    replace B := b_trans B hB
    clear F0 F1 F2 F3 F4 F5 F6 F7 hD hB cS cT S Y P
    refine wpOp_step rfl (fun K hK => ?_)
    go_simp
    refine hK _ _ ?_
    clear hK K
    refine wpOp_step rfl (fun K hK => ?_)
    go_simp
    refine hK _ _ ?_
    clear hK K
    go_wp2
    obtain ⟨q0, q1, q2⟩ := R
    refine bodyPost_ret (v := .tuple #[tv k0 k1 k2, .int .i64 g]) (by simp [results, Tryd.results8, go_sem, q0, q1, q2]) rfl ⟨rfl, ?_⟩
    have g2 : w.heap.size ≤ w.heap.size + 1 + 1 := Nat.le_trans (Nat.le_succ _) (Nat.le_succ _)
    repeat (first | exact B | refine b_set ?_ g2)

/-- Of: what the program answers, by the row and the error that comes. -/
theorem of_all (m : Nat → Int) (s : Int) (b : Bool) (y0 y1 y2 : Int) (hm : I6 m) (hs : I64 s) (h0 : I64 y0) (h1 : I64 y1) (h2 : I64 y2) (w : World) (hp : PL w) :
    Calls Tryd.prog 8 #[sv m, .int .i64 s, .bool b, tv y0 y1 y2] w (RetV (.tuple #[tv (oz b m s y0 y1 y2 y0 0) (oz b m s y0 y1 y2 y1 1) (oz b m s y0 y1 y2 y2 2), .int .i64 (oe b m s y0 y1 y2)]) w) := by
  cases b
  · exact of_false m s y0 y1 y2 _ _ _ _ source_false (doubt_go m s y0 y1 y2 _ _ _ _ (best_any m s hm hs)) w hp
  · refine of_true m s y0 y1 y2 _ _ _ _ source_true ?_ w hp
    have v := fits3_vec y0 y1 y2 h0 h1 h2
    by_cases c : F3 y0 y1 y2
    · rw [f3b_yes c] at v
      simp only [oz_yes m s c, oe_yes m s c]
      exact table_ok m s y0 y1 y2 v
    · rw [f3b_no c] at v
      simp only [oz_no m s c, oe_no m s c]
      exact table_bad m s y0 y1 y2 v

end Go.Proofs.YtccpcabhcfpbfaaDoor

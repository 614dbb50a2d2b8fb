/- Package joseph: Doubt: the call's answer. -/
import Derived.Test.YtplhienacfiiaaaDoorJosP
namespace Go.Proofs.YtplhienacfiiaaaDoor
open Go.RowKit Go.Shelf

theorem bj_set {W w : World} {R : Nat} {v0 v1 v2 v3 v4 v5 : Value} (h : Below W.heap.size W w) (q : W.heap.size ≤ R) : Below W.heap.size W ((((((w.setCell ⟨R, 0, none⟩ v0).setCell ⟨R, 1, none⟩ v1).setCell ⟨R, 2, none⟩ v2).setCell ⟨R, 3, none⟩ v3).setCell ⟨R, 4, none⟩ v4).setCell ⟨R, 5, none⟩ v5) :=
  b_set (b_set (b_set (b_set (b_set (b_set h q) q) q) q) q) q
theorem six_sf {w : World} {b : Nat} (c : SF6 w b) : SF w b := fun i hi => by
  obtain ⟨c0, c1, c2, c3, c4, c5⟩ := c
  match i, hi with
  | 0, _ => exact c0
  | 1, _ => exact c1
  | 2, _ => exact c2
  | 3, _ => exact c3
  | 4, _ => exact c4
  | 5, _ => exact c5
theorem sc_full {U : World} {Q : Nat} {M M' : Nat → Int} (c : SC U Q M) : SC ((((((U.setCell ⟨Q, 0, none⟩ (.int .i64 (M' 0))).setCell ⟨Q, 1, none⟩ (.int .i64 (M' 1))).setCell ⟨Q, 2, none⟩ (.int .i64 (M' 2))).setCell ⟨Q, 3, none⟩ (.int .i64 (M' 3))).setCell ⟨Q, 4, none⟩ (.int .i64 (M' 4))).setCell ⟨Q, 5, none⟩ (.int .i64 (M' 5))) Q M' := by
  obtain ⟨c0, c1, c2, c3, c4, c5⟩ := sc_six c
  exact six_sc (by simp [SC6, go_sem, c0, c1, c2, c3, c4, c5])
/-- What Doubt's loops keep: the doubt, the gain, the answer's variable, and what has come so far. -/
structure DJ (W : World) (Q : Nat) (m k M : Nat → Int) (U : World) : Prop where
  b : Below W.heap.size W U
  pl : PL U
  z : 0 < W.heap.size
  q : W.heap.size + 1 + 1 < Q
  s : SC U W.heap.size m
  k : TC U (W.heap.size + 1) (k 0) (k 1) (k 2)
  r : SC U (W.heap.size + 1 + 1) (fun _ => 0)
  rf : SF U (W.heap.size + 1 + 1)
  n : SC U Q M
  nf : SF U Q
theorem dj_keep {W : World} {Q : Nat} {m k M : Nat → Int} {U U' : World} (h : DJ W Q m k M U) (hb : Below U.heap.size U U') : DJ W Q m k M U' :=
  ⟨b_trans h.b hb, pl_keep hb h.pl, h.z, h.q, sc_keep hb h.s, tc_keep hb h.k, sc_keep hb h.r, sf_keep hb h.r h.rf, sc_keep hb h.n, sf_keep hb h.n h.nf⟩
theorem dj_put {W : World} {Q : Nat} {m k M M' : Nat → Int} {U : World} (h : DJ W Q m k M U) : DJ W Q m k M' ((((((U.setCell ⟨Q, 0, none⟩ (.int .i64 (M' 0))).setCell ⟨Q, 1, none⟩ (.int .i64 (M' 1))).setCell ⟨Q, 2, none⟩ (.int .i64 (M' 2))).setCell ⟨Q, 3, none⟩ (.int .i64 (M' 3))).setCell ⟨Q, 4, none⟩ (.int .i64 (M' 4))).setCell ⟨Q, 5, none⟩ (.int .i64 (M' 5))) := by
  have q := h.q
  have a0 : W.heap.size ≤ Q := by omega
  have a1 : 0 < Q := by omega
  have a2 : Q ≠ W.heap.size := by omega
  have a3 : Q ≠ W.heap.size + 1 := by omega
  have a4 : Q ≠ W.heap.size + 1 + 1 := by omega
  exact ⟨b_set (b_set (b_set (b_set (b_set (b_set h.b a0) a0) a0) a0) a0) a0, pj_set (pj_set (pj_set (pj_set (pj_set (pj_set h.pl a1) a1) a1) a1) a1) a1, h.z, q, sc_set (sc_set (sc_set (sc_set (sc_set (sc_set h.s a2) a2) a2) a2) a2) a2, tc_set (tc_set (tc_set (tc_set (tc_set (tc_set h.k a3) a3) a3) a3) a3) a3, sc_set (sc_set (sc_set (sc_set (sc_set (sc_set h.r a4) a4) a4) a4) a4) a4, sf_set (sf_set (sf_set (sf_set (sf_set (sf_set h.rf))))), sc_full h.n, sf_set (sf_set (sf_set (sf_set (sf_set (sf_set h.nf)))))⟩

set_option maxHeartbeats 4000000 in
set_option maxRecDepth 10000 in
theorem doubt_0 (m k : Nat → Int) (s : Int)
    (cP : ∀ w, Calls Tryd.prog 23 #[sv m] w (RetV (.bool false) w)) (w : World) (hp : PL w) :
    Calls Tryd.prog 10 #[sv m, tv (k 0) (k 1) (k 2), .int .i64 s] w (RetV (.tuple #[.agg #[.int .i64 0, .int .i64 0, .int .i64 0, .int .i64 0, .int .i64 0, .int .i64 0], .int .i64 1]) w) := by
  have z0 := pl_lt hp
  have B : Below w.heap.size w (((w.alloc (Obj.cells #[.int .i64 (m 0), .int .i64 (m 1), .int .i64 (m 2), .int .i64 (m 3), .int .i64 (m 4), .int .i64 (m 5)] 32)).alloc (Obj.cells #[.int .i64 (k 0), .int .i64 (k 1), .int .i64 (k 2)] 23)).alloc (Obj.cells #[.int .i64 0, .int .i64 0, .int .i64 0, .int .i64 0, .int .i64 0, .int .i64 0] 32)) := b_alloc (b_alloc (b_alloc (Below.refl _ _)))
  have P := pl_keep B hp
  clear hp
  have S : SC6 (((w.alloc (Obj.cells #[.int .i64 (m 0), .int .i64 (m 1), .int .i64 (m 2), .int .i64 (m 3), .int .i64 (m 4), .int .i64 (m 5)] 32)).alloc (Obj.cells #[.int .i64 (k 0), .int .i64 (k 1), .int .i64 (k 2)] 23)).alloc (Obj.cells #[.int .i64 0, .int .i64 0, .int .i64 0, .int .i64 0, .int .i64 0, .int .i64 0] 32)) w.heap.size m := sc_six (sc_alloc (sc_alloc (sc_new rfl)))
  have K : TC (((w.alloc (Obj.cells #[.int .i64 (m 0), .int .i64 (m 1), .int .i64 (m 2), .int .i64 (m 3), .int .i64 (m 4), .int .i64 (m 5)] 32)).alloc (Obj.cells #[.int .i64 (k 0), .int .i64 (k 1), .int .i64 (k 2)] 23)).alloc (Obj.cells #[.int .i64 0, .int .i64 0, .int .i64 0, .int .i64 0, .int .i64 0, .int .i64 0] 32)) (w.heap.size + 1) (k 0) (k 1) (k 2) := tc_alloc (tc_new (by simp))
  have R : SC6 (((w.alloc (Obj.cells #[.int .i64 (m 0), .int .i64 (m 1), .int .i64 (m 2), .int .i64 (m 3), .int .i64 (m 4), .int .i64 (m 5)] 32)).alloc (Obj.cells #[.int .i64 (k 0), .int .i64 (k 1), .int .i64 (k 2)] 23)).alloc (Obj.cells #[.int .i64 0, .int .i64 0, .int .i64 0, .int .i64 0, .int .i64 0, .int .i64 0] 32)) (w.heap.size + 1 + 1) (fun _ => 0) := sc_six (sc_new (m := fun _ => 0) (by simp))
  have RF : SF6 (((w.alloc (Obj.cells #[.int .i64 (m 0), .int .i64 (m 1), .int .i64 (m 2), .int .i64 (m 3), .int .i64 (m 4), .int .i64 (m 5)] 32)).alloc (Obj.cells #[.int .i64 (k 0), .int .i64 (k 1), .int .i64 (k 2)] 23)).alloc (Obj.cells #[.int .i64 0, .int .i64 0, .int .i64 0, .int .i64 0, .int .i64 0, .int .i64 0] 32)) (w.heap.size + 1 + 1) := sf_six (sf_new (by simp))
  go_enter Tryd.func10, Tryd.ntmps10
  go_wp2_with fail
  refine (cP _).mono ?_
  rintro e w1 ⟨rfl, hb⟩
  replace RF := sf_six (sf_keep hb (six_sc R) (six_sf RF))
  replace R := sc_six (sc_keep hb (six_sc R))
  replace S := sc_six (sc_keep hb (six_sc S))
  replace K := tc_keep hb K
  replace P := pl_keep hb P
  replace B := b_trans B hb
  clear hb
  clear cP
  clear S K
  go_wp2
  obtain ⟨r0, r1, r2, r3, r4, r5⟩ := R
  refine bodyPost_ret (v := .tuple #[.agg #[.int .i64 0, .int .i64 0, .int .i64 0, .int .i64 0, .int .i64 0, .int .i64 0], .int .i64 1]) (by simp [results, Tryd.results10, go_sem, r0, r1, r2, r3, r4, r5]) rfl ⟨rfl, ?_⟩
  have g2 : w.heap.size ≤ w.heap.size + 1 + 1 := Nat.le_trans (Nat.le_succ _) (Nat.le_succ _)
  exact bj_set B g2

set_option maxHeartbeats 4000000 in
set_option maxRecDepth 10000 in
theorem doubt_1 (m k : Nat → Int) (s : Int)
    (cP : ∀ w, Calls Tryd.prog 23 #[sv m] w (RetV (.bool true) w))
    (cK : ∀ w, Calls Tryd.prog 13 #[tv (k 0) (k 1) (k 2)] w (RetV (.bool false) w)) (w : World) (hp : PL w) :
    Calls Tryd.prog 10 #[sv m, tv (k 0) (k 1) (k 2), .int .i64 s] w (RetV (.tuple #[.agg #[.int .i64 0, .int .i64 0, .int .i64 0, .int .i64 0, .int .i64 0, .int .i64 0], .int .i64 1]) w) := by
  have z0 := pl_lt hp
  have B : Below w.heap.size w (((w.alloc (Obj.cells #[.int .i64 (m 0), .int .i64 (m 1), .int .i64 (m 2), .int .i64 (m 3), .int .i64 (m 4), .int .i64 (m 5)] 32)).alloc (Obj.cells #[.int .i64 (k 0), .int .i64 (k 1), .int .i64 (k 2)] 23)).alloc (Obj.cells #[.int .i64 0, .int .i64 0, .int .i64 0, .int .i64 0, .int .i64 0, .int .i64 0] 32)) := b_alloc (b_alloc (b_alloc (Below.refl _ _)))
  have P := pl_keep B hp
  clear hp
  have S : SC6 (((w.alloc (Obj.cells #[.int .i64 (m 0), .int .i64 (m 1), .int .i64 (m 2), .int .i64 (m 3), .int .i64 (m 4), .int .i64 (m 5)] 32)).alloc (Obj.cells #[.int .i64 (k 0), .int .i64 (k 1), .int .i64 (k 2)] 23)).alloc (Obj.cells #[.int .i64 0, .int .i64 0, .int .i64 0, .int .i64 0, .int .i64 0, .int .i64 0] 32)) w.heap.size m := sc_six (sc_alloc (sc_alloc (sc_new rfl)))
  have K : TC (((w.alloc (Obj.cells #[.int .i64 (m 0), .int .i64 (m 1), .int .i64 (m 2), .int .i64 (m 3), .int .i64 (m 4), .int .i64 (m 5)] 32)).alloc (Obj.cells #[.int .i64 (k 0), .int .i64 (k 1), .int .i64 (k 2)] 23)).alloc (Obj.cells #[.int .i64 0, .int .i64 0, .int .i64 0, .int .i64 0, .int .i64 0, .int .i64 0] 32)) (w.heap.size + 1) (k 0) (k 1) (k 2) := tc_alloc (tc_new (by simp))
  have R : SC6 (((w.alloc (Obj.cells #[.int .i64 (m 0), .int .i64 (m 1), .int .i64 (m 2), .int .i64 (m 3), .int .i64 (m 4), .int .i64 (m 5)] 32)).alloc (Obj.cells #[.int .i64 (k 0), .int .i64 (k 1), .int .i64 (k 2)] 23)).alloc (Obj.cells #[.int .i64 0, .int .i64 0, .int .i64 0, .int .i64 0, .int .i64 0, .int .i64 0] 32)) (w.heap.size + 1 + 1) (fun _ => 0) := sc_six (sc_new (m := fun _ => 0) (by simp))
  have RF : SF6 (((w.alloc (Obj.cells #[.int .i64 (m 0), .int .i64 (m 1), .int .i64 (m 2), .int .i64 (m 3), .int .i64 (m 4), .int .i64 (m 5)] 32)).alloc (Obj.cells #[.int .i64 (k 0), .int .i64 (k 1), .int .i64 (k 2)] 23)).alloc (Obj.cells #[.int .i64 0, .int .i64 0, .int .i64 0, .int .i64 0, .int .i64 0, .int .i64 0] 32)) (w.heap.size + 1 + 1) := sf_six (sf_new (by simp))
  go_enter Tryd.func10, Tryd.ntmps10
  go_wp2_with fail
  refine (cP _).mono ?_
  rintro e w1 ⟨rfl, hb⟩
  replace RF := sf_six (sf_keep hb (six_sc R) (six_sf RF))
  replace R := sc_six (sc_keep hb (six_sc R))
  replace S := sc_six (sc_keep hb (six_sc S))
  replace K := tc_keep hb K
  replace P := pl_keep hb P
  replace B := b_trans B hb
  clear hb
  clear cP
  go_wp2_with fail
  refine (cK _).mono ?_
  rintro e w1 ⟨rfl, hb⟩
  replace RF := sf_six (sf_keep hb (six_sc R) (six_sf RF))
  replace R := sc_six (sc_keep hb (six_sc R))
  replace S := sc_six (sc_keep hb (six_sc S))
  replace K := tc_keep hb K
  replace P := pl_keep hb P
  replace B := b_trans B hb
  clear hb
  clear cK
  clear S K
  go_wp2
  obtain ⟨r0, r1, r2, r3, r4, r5⟩ := R
  refine bodyPost_ret (v := .tuple #[.agg #[.int .i64 0, .int .i64 0, .int .i64 0, .int .i64 0, .int .i64 0, .int .i64 0], .int .i64 1]) (by simp [results, Tryd.results10, go_sem, r0, r1, r2, r3, r4, r5]) rfl ⟨rfl, ?_⟩
  have g2 : w.heap.size ≤ w.heap.size + 1 + 1 := Nat.le_trans (Nat.le_succ _) (Nat.le_succ _)
  exact bj_set B g2

set_option maxHeartbeats 4000000 in
set_option maxRecDepth 10000 in
theorem doubt_2 (m k : Nat → Int) (s : Int)
    (cP : ∀ w, Calls Tryd.prog 23 #[sv m] w (RetV (.bool true) w))
    (cK : ∀ w, Calls Tryd.prog 13 #[tv (k 0) (k 1) (k 2)] w (RetV (.bool true) w))
    (cS : ∀ w, Calls Tryd.prog 24 #[.int .i64 s] w fun e w' => e = .returned (.bool false) ∧ w = w') (w : World) (hp : PL w) :
    Calls Tryd.prog 10 #[sv m, tv (k 0) (k 1) (k 2), .int .i64 s] w (RetV (.tuple #[.agg #[.int .i64 0, .int .i64 0, .int .i64 0, .int .i64 0, .int .i64 0, .int .i64 0], .int .i64 1]) w) := by
  have z0 := pl_lt hp
  have B : Below w.heap.size w (((w.alloc (Obj.cells #[.int .i64 (m 0), .int .i64 (m 1), .int .i64 (m 2), .int .i64 (m 3), .int .i64 (m 4), .int .i64 (m 5)] 32)).alloc (Obj.cells #[.int .i64 (k 0), .int .i64 (k 1), .int .i64 (k 2)] 23)).alloc (Obj.cells #[.int .i64 0, .int .i64 0, .int .i64 0, .int .i64 0, .int .i64 0, .int .i64 0] 32)) := b_alloc (b_alloc (b_alloc (Below.refl _ _)))
  have P := pl_keep B hp
  clear hp
  have S : SC6 (((w.alloc (Obj.cells #[.int .i64 (m 0), .int .i64 (m 1), .int .i64 (m 2), .int .i64 (m 3), .int .i64 (m 4), .int .i64 (m 5)] 32)).alloc (Obj.cells #[.int .i64 (k 0), .int .i64 (k 1), .int .i64 (k 2)] 23)).alloc (Obj.cells #[.int .i64 0, .int .i64 0, .int .i64 0, .int .i64 0, .int .i64 0, .int .i64 0] 32)) w.heap.size m := sc_six (sc_alloc (sc_alloc (sc_new rfl)))
  have K : TC (((w.alloc (Obj.cells #[.int .i64 (m 0), .int .i64 (m 1), .int .i64 (m 2), .int .i64 (m 3), .int .i64 (m 4), .int .i64 (m 5)] 32)).alloc (Obj.cells #[.int .i64 (k 0), .int .i64 (k 1), .int .i64 (k 2)] 23)).alloc (Obj.cells #[.int .i64 0, .int .i64 0, .int .i64 0, .int .i64 0, .int .i64 0, .int .i64 0] 32)) (w.heap.size + 1) (k 0) (k 1) (k 2) := tc_alloc (tc_new (by simp))
  have R : SC6 (((w.alloc (Obj.cells #[.int .i64 (m 0), .int .i64 (m 1), .int .i64 (m 2), .int .i64 (m 3), .int .i64 (m 4), .int .i64 (m 5)] 32)).alloc (Obj.cells #[.int .i64 (k 0), .int .i64 (k 1), .int .i64 (k 2)] 23)).alloc (Obj.cells #[.int .i64 0, .int .i64 0, .int .i64 0, .int .i64 0, .int .i64 0, .int .i64 0] 32)) (w.heap.size + 1 + 1) (fun _ => 0) := sc_six (sc_new (m := fun _ => 0) (by simp))
  have RF : SF6 (((w.alloc (Obj.cells #[.int .i64 (m 0), .int .i64 (m 1), .int .i64 (m 2), .int .i64 (m 3), .int .i64 (m 4), .int .i64 (m 5)] 32)).alloc (Obj.cells #[.int .i64 (k 0), .int .i64 (k 1), .int .i64 (k 2)] 23)).alloc (Obj.cells #[.int .i64 0, .int .i64 0, .int .i64 0, .int .i64 0, .int .i64 0, .int .i64 0] 32)) (w.heap.size + 1 + 1) := sf_six (sf_new (by simp))
  go_enter Tryd.func10, Tryd.ntmps10
  go_wp2_with fail
  refine (cP _).mono ?_
  rintro e w1 ⟨rfl, hb⟩
  replace RF := sf_six (sf_keep hb (six_sc R) (six_sf RF))
  replace R := sc_six (sc_keep hb (six_sc R))
  replace S := sc_six (sc_keep hb (six_sc S))
  replace K := tc_keep hb K
  replace P := pl_keep hb P
  replace B := b_trans B hb
  clear hb
  clear cP
  go_wp2_with fail
  refine (cK _).mono ?_
  rintro e w1 ⟨rfl, hb⟩
  replace RF := sf_six (sf_keep hb (six_sc R) (six_sf RF))
  replace R := sc_six (sc_keep hb (six_sc R))
  replace S := sc_six (sc_keep hb (six_sc S))
  replace K := tc_keep hb K
  replace P := pl_keep hb P
  replace B := b_trans B hb
  clear hb
  clear cK
  go_wp2_with fail
  refine (cS _).mono ?_
  rintro e w9 ⟨rfl, rfl⟩
  clear cS
  clear S K
  go_wp2
  obtain ⟨r0, r1, r2, r3, r4, r5⟩ := R
  refine bodyPost_ret (v := .tuple #[.agg #[.int .i64 0, .int .i64 0, .int .i64 0, .int .i64 0, .int .i64 0, .int .i64 0], .int .i64 1]) (by simp [results, Tryd.results10, go_sem, r0, r1, r2, r3, r4, r5]) rfl ⟨rfl, ?_⟩
  have g2 : w.heap.size ≤ w.heap.size + 1 + 1 := Nat.le_trans (Nat.le_succ _) (Nat.le_succ _)
  exact bj_set B g2

set_option maxHeartbeats 8000000 in
set_option maxRecDepth 10000 in
theorem doubt_go (m k : Nat → Int) (s x0 x1 x2 x3 x4 x5 e0 e1 e2 e3 e4 e5 z0 z1 z2 z3 z4 z5 f : Int)
    (cP : ∀ w, Calls Tryd.prog 23 #[sv m] w (RetV (.bool true) w))
    (cK : ∀ w, Calls Tryd.prog 13 #[tv (k 0) (k 1) (k 2)] w (RetV (.bool true) w))
    (cS : ∀ w, Calls Tryd.prog 24 #[.int .i64 s] w fun e w' => e = .returned (.bool true) ∧ w = w')
    (c0 : ∀ w, PL w → Calls Tryd.prog 25 #[sv m, tv (k 0) (k 1) (k 2), .int .i64 s, .int .i64 0, .int .i64 0] w (RetV (.tuple #[.int .i64 x0, .int .i64 e0]) w)) (q0 : e0 = 0 ∨ e0 = 3)
    (c1 : ∀ w, PL w → Calls Tryd.prog 25 #[sv m, tv (k 0) (k 1) (k 2), .int .i64 s, .int .i64 1, .int .i64 0] w (RetV (.tuple #[.int .i64 x1, .int .i64 e1]) w)) (q1 : e1 = 0 ∨ e1 = 3)
    (c3 : ∀ w, PL w → Calls Tryd.prog 25 #[sv m, tv (k 0) (k 1) (k 2), .int .i64 s, .int .i64 1, .int .i64 1] w (RetV (.tuple #[.int .i64 x3, .int .i64 e3]) w)) (q3 : e3 = 0 ∨ e3 = 3)
    (c2 : ∀ w, PL w → Calls Tryd.prog 25 #[sv m, tv (k 0) (k 1) (k 2), .int .i64 s, .int .i64 2, .int .i64 0] w (RetV (.tuple #[.int .i64 x2, .int .i64 e2]) w)) (q2 : e2 = 0 ∨ e2 = 3)
    (c4 : ∀ w, PL w → Calls Tryd.prog 25 #[sv m, tv (k 0) (k 1) (k 2), .int .i64 s, .int .i64 2, .int .i64 1] w (RetV (.tuple #[.int .i64 x4, .int .i64 e4]) w)) (q4 : e4 = 0 ∨ e4 = 3)
    (c5 : ∀ w, PL w → Calls Tryd.prog 25 #[sv m, tv (k 0) (k 1) (k 2), .int .i64 s, .int .i64 2, .int .i64 2] w (RetV (.tuple #[.int .i64 x5, .int .i64 e5]) w)) (q5 : e5 = 0 ∨ e5 = 3)
    (hy : Hid ((e0 = 0 ∧ e1 = 0 ∧ e2 = 0 ∧ e3 = 0 ∧ e4 = 0 ∧ e5 = 0 → z0 = x0 ∧ z1 = x1 ∧ z2 = x2 ∧ z3 = x3 ∧ z4 = x4 ∧ z5 = x5 ∧ f = 0) ∧ (¬ (e0 = 0 ∧ e1 = 0 ∧ e2 = 0 ∧ e3 = 0 ∧ e4 = 0 ∧ e5 = 0) → z0 = 0 ∧ z1 = 0 ∧ z2 = 0 ∧ z3 = 0 ∧ z4 = 0 ∧ z5 = 0 ∧ f = 3))) (w : World) (hp : PL w) :
    Calls Tryd.prog 10 #[sv m, tv (k 0) (k 1) (k 2), .int .i64 s] w (RetV (.tuple #[.agg #[.int .i64 z0, .int .i64 z1, .int .i64 z2, .int .i64 z3, .int .i64 z4, .int .i64 z5], .int .i64 f]) w) := by
  have z0 := pl_lt hp
  have B : Below w.heap.size w (((w.alloc (Obj.cells #[.int .i64 (m 0), .int .i64 (m 1), .int .i64 (m 2), .int .i64 (m 3), .int .i64 (m 4), .int .i64 (m 5)] 32)).alloc (Obj.cells #[.int .i64 (k 0), .int .i64 (k 1), .int .i64 (k 2)] 23)).alloc (Obj.cells #[.int .i64 0, .int .i64 0, .int .i64 0, .int .i64 0, .int .i64 0, .int .i64 0] 32)) := b_alloc (b_alloc (b_alloc (Below.refl _ _)))
  have P := pl_keep B hp
  clear hp
  have S : SC6 (((w.alloc (Obj.cells #[.int .i64 (m 0), .int .i64 (m 1), .int .i64 (m 2), .int .i64 (m 3), .int .i64 (m 4), .int .i64 (m 5)] 32)).alloc (Obj.cells #[.int .i64 (k 0), .int .i64 (k 1), .int .i64 (k 2)] 23)).alloc (Obj.cells #[.int .i64 0, .int .i64 0, .int .i64 0, .int .i64 0, .int .i64 0, .int .i64 0] 32)) w.heap.size m := sc_six (sc_alloc (sc_alloc (sc_new rfl)))
  have K : TC (((w.alloc (Obj.cells #[.int .i64 (m 0), .int .i64 (m 1), .int .i64 (m 2), .int .i64 (m 3), .int .i64 (m 4), .int .i64 (m 5)] 32)).alloc (Obj.cells #[.int .i64 (k 0), .int .i64 (k 1), .int .i64 (k 2)] 23)).alloc (Obj.cells #[.int .i64 0, .int .i64 0, .int .i64 0, .int .i64 0, .int .i64 0, .int .i64 0] 32)) (w.heap.size + 1) (k 0) (k 1) (k 2) := tc_alloc (tc_new (by simp))
  have R : SC6 (((w.alloc (Obj.cells #[.int .i64 (m 0), .int .i64 (m 1), .int .i64 (m 2), .int .i64 (m 3), .int .i64 (m 4), .int .i64 (m 5)] 32)).alloc (Obj.cells #[.int .i64 (k 0), .int .i64 (k 1), .int .i64 (k 2)] 23)).alloc (Obj.cells #[.int .i64 0, .int .i64 0, .int .i64 0, .int .i64 0, .int .i64 0, .int .i64 0] 32)) (w.heap.size + 1 + 1) (fun _ => 0) := sc_six (sc_new (m := fun _ => 0) (by simp))
  have RF : SF6 (((w.alloc (Obj.cells #[.int .i64 (m 0), .int .i64 (m 1), .int .i64 (m 2), .int .i64 (m 3), .int .i64 (m 4), .int .i64 (m 5)] 32)).alloc (Obj.cells #[.int .i64 (k 0), .int .i64 (k 1), .int .i64 (k 2)] 23)).alloc (Obj.cells #[.int .i64 0, .int .i64 0, .int .i64 0, .int .i64 0, .int .i64 0, .int .i64 0] 32)) (w.heap.size + 1 + 1) := sf_six (sf_new (by simp))
  go_enter Tryd.func10, Tryd.ntmps10
  go_wp2_with fail
  refine (cP _).mono ?_
  rintro e w1 ⟨rfl, hb⟩
  replace RF := sf_six (sf_keep hb (six_sc R) (six_sf RF))
  replace R := sc_six (sc_keep hb (six_sc R))
  replace S := sc_six (sc_keep hb (six_sc S))
  replace K := tc_keep hb K
  replace P := pl_keep hb P
  replace B := b_trans B hb
  clear hb
  clear cP
  go_wp2_with fail
  refine (cK _).mono ?_
  rintro e w1 ⟨rfl, hb⟩
  replace RF := sf_six (sf_keep hb (six_sc R) (six_sf RF))
  replace R := sc_six (sc_keep hb (six_sc R))
  replace S := sc_six (sc_keep hb (six_sc S))
  replace K := tc_keep hb K
  replace P := pl_keep hb P
  replace B := b_trans B hb
  clear hb
  clear cK
  go_wp2_with fail
  refine (cS _).mono ?_
  rintro e w9 ⟨rfl, rfl⟩
  clear cS
  have zr := sc_lt (six_sc R)
  have hb : Below w1.heap.size w1 (w1.alloc (Obj.cells #[.int .i64 0, .int .i64 0, .int .i64 0, .int .i64 0, .int .i64 0, .int .i64 0] 32)) := b_alloc (Below.refl _ _)
  have h : DJ w w1.heap.size m k (fun _ => 0) (w1.alloc (Obj.cells #[.int .i64 0, .int .i64 0, .int .i64 0, .int .i64 0, .int .i64 0, .int .i64 0] 32)) := ⟨b_trans B hb, pl_keep hb P, z0, zr, sc_keep hb (six_sc S), tc_keep hb K, sc_keep hb (six_sc R), sf_keep hb (six_sc R) (six_sf RF), sc_new (m := fun _ => 0) rfl, sf_new rfl⟩
  clear S K R RF B hb zr P z0
  go_wp2
  generalize w1.alloc (Obj.cells #[.int .i64 0, .int .i64 0, .int .i64 0, .int .i64 0, .int .i64 0, .int .i64 0] 32) = u0 at *
  generalize w1.heap.size = Q at *
  generalize w1.heap.size = Q at *
  obtain ⟨M0, hM0⟩ : ∃ M : Nat → Int, M = fun _ => 0 := ⟨_, rfl⟩
  rw [← hM0] at h
  replace hM0 := Lib.hid hM0
  refine wp_loop_rounds 4 ?_
  rw [rounds_succ]
  go_wp2
  refine wp_loop_rounds 2 ?_
  rw [rounds_succ]
  have S := sc_six h.s
  have K := h.k
  go_wp2_with fail
  refine (c0 _ h.pl).mono ?_
  clear c0 S K
  rintro e y0 ⟨rfl, hb⟩
  replace h := dj_keep h hb
  clear hb
  rcases q0 with rfl | rfl
  rotate_left
  · obtain ⟨rfl, rfl, rfl, rfl, rfl, rfl, rfl⟩ := hy.out.2 (by simp)
    have R := sc_six h.r
    have RF := sf_six h.rf
    have B := h.b
    clear h hy
    go_wp2
    obtain ⟨r0, r1, r2, r3, r4, r5⟩ := R
    refine bodyPost_ret (v := .tuple #[.agg #[.int .i64 0, .int .i64 0, .int .i64 0, .int .i64 0, .int .i64 0, .int .i64 0], .int .i64 3]) (by simp [results, Tryd.results10, go_sem, r0, r1, r2, r3, r4, r5]) rfl ⟨rfl, ?_⟩
    have g2 : w.heap.size ≤ w.heap.size + 1 + 1 := Nat.le_trans (Nat.le_succ _) (Nat.le_succ _)
    exact bj_set B g2
  have N := sc_six h.n
  go_wp2_with fail
  refine (put_ok M0 0 0 x0 0 (by simp [At9]) _ h.pl).mono ?_
  clear N
  rintro e v0 ⟨rfl, hb⟩
  replace h := dj_keep h hb
  clear hb
  obtain ⟨M1, hM1⟩ : ∃ M : Nat → Int, M = umk M0 0 x0 := ⟨_, rfl⟩
  rw [← hM1]
  replace hM1 := Lib.hid hM1
  have KK := Lib.hid (dj_put (M' := M1) h)
  have N := sc_six h.n
  have NF := sf_six h.nf
  clear h
  go_wp2
  clear N NF
  generalize (((((v0.setCell ⟨Q, 0, none⟩ (.int .i64 (M1 0))).setCell ⟨Q, 1, none⟩ (.int .i64 (M1 1))).setCell ⟨Q, 2, none⟩ (.int .i64 (M1 2))).setCell ⟨Q, 3, none⟩ (.int .i64 (M1 3))).setCell ⟨Q, 4, none⟩ (.int .i64 (M1 4))).setCell ⟨Q, 5, none⟩ (.int .i64 (M1 5)) = u1 at *
  have h := KK.out
  clear KK
  rw [rounds_succ]
  go_wp2
  rw [rounds_succ]
  go_wp2
  refine wp_loop_rounds 3 ?_
  rw [rounds_succ]
  have S := sc_six h.s
  have K := h.k
  go_wp2_with fail
  refine (c1 _ h.pl).mono ?_
  clear c1 S K
  rintro e y1 ⟨rfl, hb⟩
  replace h := dj_keep h hb
  clear hb
  rcases q1 with rfl | rfl
  rotate_left
  · obtain ⟨rfl, rfl, rfl, rfl, rfl, rfl, rfl⟩ := hy.out.2 (by simp)
    have R := sc_six h.r
    have RF := sf_six h.rf
    have B := h.b
    clear h hy
    go_wp2
    obtain ⟨r0, r1, r2, r3, r4, r5⟩ := R
    refine bodyPost_ret (v := .tuple #[.agg #[.int .i64 0, .int .i64 0, .int .i64 0, .int .i64 0, .int .i64 0, .int .i64 0], .int .i64 3]) (by simp [results, Tryd.results10, go_sem, r0, r1, r2, r3, r4, r5]) rfl ⟨rfl, ?_⟩
    have g2 : w.heap.size ≤ w.heap.size + 1 + 1 := Nat.le_trans (Nat.le_succ _) (Nat.le_succ _)
    exact bj_set B g2
  have N := sc_six h.n
  go_wp2_with fail
  refine (put_ok M1 1 0 x1 1 (by simp [At9]) _ h.pl).mono ?_
  clear N
  rintro e v1 ⟨rfl, hb⟩
  replace h := dj_keep h hb
  clear hb
  obtain ⟨M2, hM2⟩ : ∃ M : Nat → Int, M = umk M1 1 x1 := ⟨_, rfl⟩
  rw [← hM2]
  replace hM2 := Lib.hid hM2
  have KK := Lib.hid (dj_put (M' := M2) h)
  have N := sc_six h.n
  have NF := sf_six h.nf
  clear h
  go_wp2
  clear N NF
  generalize (((((v1.setCell ⟨Q, 0, none⟩ (.int .i64 (M2 0))).setCell ⟨Q, 1, none⟩ (.int .i64 (M2 1))).setCell ⟨Q, 2, none⟩ (.int .i64 (M2 2))).setCell ⟨Q, 3, none⟩ (.int .i64 (M2 3))).setCell ⟨Q, 4, none⟩ (.int .i64 (M2 4))).setCell ⟨Q, 5, none⟩ (.int .i64 (M2 5)) = u2 at *
  have h := KK.out
  clear KK
  rw [rounds_succ]
  have S := sc_six h.s
  have K := h.k
  go_wp2_with fail
  refine (c3 _ h.pl).mono ?_
  clear c3 S K
  rintro e y2 ⟨rfl, hb⟩
  replace h := dj_keep h hb
  clear hb
  rcases q3 with rfl | rfl
  rotate_left
  · obtain ⟨rfl, rfl, rfl, rfl, rfl, rfl, rfl⟩ := hy.out.2 (by simp)
    have R := sc_six h.r
    have RF := sf_six h.rf
    have B := h.b
    clear h hy
    go_wp2
    obtain ⟨r0, r1, r2, r3, r4, r5⟩ := R
    refine bodyPost_ret (v := .tuple #[.agg #[.int .i64 0, .int .i64 0, .int .i64 0, .int .i64 0, .int .i64 0, .int .i64 0], .int .i64 3]) (by simp [results, Tryd.results10, go_sem, r0, r1, r2, r3, r4, r5]) rfl ⟨rfl, ?_⟩
    have g2 : w.heap.size ≤ w.heap.size + 1 + 1 := Nat.le_trans (Nat.le_succ _) (Nat.le_succ _)
    exact bj_set B g2
  have N := sc_six h.n
  go_wp2_with fail
  refine (put_ok M2 1 1 x3 3 (by simp [At9]) _ h.pl).mono ?_
  clear N
  rintro e v2 ⟨rfl, hb⟩
  replace h := dj_keep h hb
  clear hb
  obtain ⟨M3, hM3⟩ : ∃ M : Nat → Int, M = umk M2 3 x3 := ⟨_, rfl⟩
  rw [← hM3]
  replace hM3 := Lib.hid hM3
  have KK := Lib.hid (dj_put (M' := M3) h)
  have N := sc_six h.n
  have NF := sf_six h.nf
  clear h
  go_wp2
  clear N NF
  generalize (((((v2.setCell ⟨Q, 0, none⟩ (.int .i64 (M3 0))).setCell ⟨Q, 1, none⟩ (.int .i64 (M3 1))).setCell ⟨Q, 2, none⟩ (.int .i64 (M3 2))).setCell ⟨Q, 3, none⟩ (.int .i64 (M3 3))).setCell ⟨Q, 4, none⟩ (.int .i64 (M3 4))).setCell ⟨Q, 5, none⟩ (.int .i64 (M3 5)) = u3 at *
  have h := KK.out
  clear KK
  rw [rounds_succ]
  go_wp2
  rw [rounds_succ]
  go_wp2
  refine wp_loop_rounds 4 ?_
  rw [rounds_succ]
  have S := sc_six h.s
  have K := h.k
  go_wp2_with fail
  refine (c2 _ h.pl).mono ?_
  clear c2 S K
  rintro e y3 ⟨rfl, hb⟩
  replace h := dj_keep h hb
  clear hb
  rcases q2 with rfl | rfl
  rotate_left
  · obtain ⟨rfl, rfl, rfl, rfl, rfl, rfl, rfl⟩ := hy.out.2 (by simp)
    have R := sc_six h.r
    have RF := sf_six h.rf
    have B := h.b
    clear h hy
    go_wp2
    obtain ⟨r0, r1, r2, r3, r4, r5⟩ := R
    refine bodyPost_ret (v := .tuple #[.agg #[.int .i64 0, .int .i64 0, .int .i64 0, .int .i64 0, .int .i64 0, .int .i64 0], .int .i64 3]) (by simp [results, Tryd.results10, go_sem, r0, r1, r2, r3, r4, r5]) rfl ⟨rfl, ?_⟩
    have g2 : w.heap.size ≤ w.heap.size + 1 + 1 := Nat.le_trans (Nat.le_succ _) (Nat.le_succ _)
    exact bj_set B g2
  have N := sc_six h.n
  go_wp2_with fail
  refine (put_ok M3 2 0 x2 2 (by simp [At9]) _ h.pl).mono ?_
  clear N
  rintro e v3 ⟨rfl, hb⟩
  replace h := dj_keep h hb
  clear hb
  obtain ⟨M4, hM4⟩ : ∃ M : Nat → Int, M = umk M3 2 x2 := ⟨_, rfl⟩
  rw [← hM4]
  replace hM4 := Lib.hid hM4
  have KK := Lib.hid (dj_put (M' := M4) h)
  have N := sc_six h.n
  have NF := sf_six h.nf
  clear h
  go_wp2
  clear N NF
  generalize (((((v3.setCell ⟨Q, 0, none⟩ (.int .i64 (M4 0))).setCell ⟨Q, 1, none⟩ (.int .i64 (M4 1))).setCell ⟨Q, 2, none⟩ (.int .i64 (M4 2))).setCell ⟨Q, 3, none⟩ (.int .i64 (M4 3))).setCell ⟨Q, 4, none⟩ (.int .i64 (M4 4))).setCell ⟨Q, 5, none⟩ (.int .i64 (M4 5)) = u4 at *
  have h := KK.out
  clear KK
  rw [rounds_succ]
  have S := sc_six h.s
  have K := h.k
  go_wp2_with fail
  refine (c4 _ h.pl).mono ?_
  clear c4 S K
  rintro e y4 ⟨rfl, hb⟩
  replace h := dj_keep h hb
  clear hb
  rcases q4 with rfl | rfl
  rotate_left
  · obtain ⟨rfl, rfl, rfl, rfl, rfl, rfl, rfl⟩ := hy.out.2 (by simp)
    have R := sc_six h.r
    have RF := sf_six h.rf
    have B := h.b
    clear h hy
    go_wp2
    obtain ⟨r0, r1, r2, r3, r4, r5⟩ := R
    refine bodyPost_ret (v := .tuple #[.agg #[.int .i64 0, .int .i64 0, .int .i64 0, .int .i64 0, .int .i64 0, .int .i64 0], .int .i64 3]) (by simp [results, Tryd.results10, go_sem, r0, r1, r2, r3, r4, r5]) rfl ⟨rfl, ?_⟩
    have g2 : w.heap.size ≤ w.heap.size + 1 + 1 := Nat.le_trans (Nat.le_succ _) (Nat.le_succ _)
    exact bj_set B g2
  have N := sc_six h.n
  go_wp2_with fail
  refine (put_ok M4 2 1 x4 4 (by simp [At9]) _ h.pl).mono ?_
  clear N
  rintro e v4 ⟨rfl, hb⟩
  replace h := dj_keep h hb
  clear hb
  obtain ⟨M5, hM5⟩ : ∃ M : Nat → Int, M = umk M4 4 x4 := ⟨_, rfl⟩
  rw [← hM5]
  replace hM5 := Lib.hid hM5
  have KK := Lib.hid (dj_put (M' := M5) h)
  have N := sc_six h.n
  have NF := sf_six h.nf
  clear h
  go_wp2
  clear N NF
  generalize (((((v4.setCell ⟨Q, 0, none⟩ (.int .i64 (M5 0))).setCell ⟨Q, 1, none⟩ (.int .i64 (M5 1))).setCell ⟨Q, 2, none⟩ (.int .i64 (M5 2))).setCell ⟨Q, 3, none⟩ (.int .i64 (M5 3))).setCell ⟨Q, 4, none⟩ (.int .i64 (M5 4))).setCell ⟨Q, 5, none⟩ (.int .i64 (M5 5)) = u5 at *
  have h := KK.out
  clear KK
  rw [rounds_succ]
  have S := sc_six h.s
  have K := h.k
  go_wp2_with fail
  refine (c5 _ h.pl).mono ?_
  clear c5 S K
  rintro e y5 ⟨rfl, hb⟩
  replace h := dj_keep h hb
  clear hb
  rcases q5 with rfl | rfl
  rotate_left
  · obtain ⟨rfl, rfl, rfl, rfl, rfl, rfl, rfl⟩ := hy.out.2 (by simp)
    have R := sc_six h.r
    have RF := sf_six h.rf
    have B := h.b
    clear h hy
    go_wp2
    obtain ⟨r0, r1, r2, r3, r4, r5⟩ := R
    refine bodyPost_ret (v := .tuple #[.agg #[.int .i64 0, .int .i64 0, .int .i64 0, .int .i64 0, .int .i64 0, .int .i64 0], .int .i64 3]) (by simp [results, Tryd.results10, go_sem, r0, r1, r2, r3, r4, r5]) rfl ⟨rfl, ?_⟩
    have g2 : w.heap.size ≤ w.heap.size + 1 + 1 := Nat.le_trans (Nat.le_succ _) (Nat.le_succ _)
    exact bj_set B g2
  have N := sc_six h.n
  go_wp2_with fail
  refine (put_ok M5 2 2 x5 5 (by simp [At9]) _ h.pl).mono ?_
  clear N
  rintro e v5 ⟨rfl, hb⟩
  replace h := dj_keep h hb
  clear hb
  obtain ⟨M6, hM6⟩ : ∃ M : Nat → Int, M = umk M5 5 x5 := ⟨_, rfl⟩
  rw [← hM6]
  replace hM6 := Lib.hid hM6
  have KK := Lib.hid (dj_put (M' := M6) h)
  have N := sc_six h.n
  have NF := sf_six h.nf
  clear h
  go_wp2
  clear N NF
  generalize (((((v5.setCell ⟨Q, 0, none⟩ (.int .i64 (M6 0))).setCell ⟨Q, 1, none⟩ (.int .i64 (M6 1))).setCell ⟨Q, 2, none⟩ (.int .i64 (M6 2))).setCell ⟨Q, 3, none⟩ (.int .i64 (M6 3))).setCell ⟨Q, 4, none⟩ (.int .i64 (M6 4))).setCell ⟨Q, 5, none⟩ (.int .i64 (M6 5)) = u6 at *
  have h := KK.out
  clear KK
  rw [rounds_succ]
  go_wp2
  rw [rounds_succ]
  obtain ⟨rfl, rfl, rfl, rfl, rfl, rfl, rfl⟩ := hy.out.1 (by simp)
  clear hy
  have E : sv M6 = .agg #[.int .i64 z0, .int .i64 z1, .int .i64 z2, .int .i64 z3, .int .i64 z4, .int .i64 z5] := by
    have e0 := hM0.out
    have e1 := hM1.out
    have e2 := hM2.out
    have e3 := hM3.out
    have e4 := hM4.out
    have e5 := hM5.out
    have e6 := hM6.out
    subst e0 e1 e2 e3 e4 e5 e6
    rfl
  clear hM0 hM1 hM2 hM3 hM4 hM5 hM6
  have E' := Lib.hid E
  clear E
  have N := sc_six h.n
  have R := sc_six h.r
  have RF := sf_six h.rf
  have B := h.b
  clear h
  go_wp2
  obtain ⟨r0, r1, r2, r3, r4, r5⟩ := R
  refine bodyPost_ret (v := .tuple #[sv M6, .int .i64 0]) (by simp [results, Tryd.results10, go_sem, r0, r1, r2, r3, r4, r5]) rfl ⟨by rw [E'.out], ?_⟩
  have g2 : w.heap.size ≤ w.heap.size + 1 + 1 := Nat.le_trans (Nat.le_succ _) (Nat.le_succ _)
  exact bj_set B g2

end Go.Proofs.YtplhienacfiiaaaDoor

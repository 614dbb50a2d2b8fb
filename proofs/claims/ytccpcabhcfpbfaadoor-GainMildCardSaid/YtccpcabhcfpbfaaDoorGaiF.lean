/- GainMild, GainLess: each law's call answers true. -/
import Derived.Test.YtccpcabhcfpbfaaDoorGaiC
import Derived.Deep.QuietTactic
import Derived.BigQuiet
import Derived.Lib.SmallJoins
namespace Go.Proofs.YtccpcabhcfpbfaaDoor
open Go.RowKit Go.Shelf Go.Joins

set_option maxHeartbeats 4000000 in
set_option maxRecDepth 10000 in
theorem gainMild_go (m : Nat → Int) (noise a n c0 n1 s z0 z1 z2 e : Int)
    (E0 : (if 144115188075855872 < m 0 then 144115188075855872 else m 0) = c0) (E1 : (if c0 < 0 then 0 else c0) = a)
    (E2 : (if 144115188075855872 < noise then 144115188075855872 else noise) = n1) (E3 : (if n1 < 1 then 1 else n1) = n) (E4 : IntKind.i64.wrap (a + n) = s)
    (cB : ∀ w, PL w → Calls Tryd.prog 6 #[.agg #[.int .i64 a, .int .i64 (m 1), .int .i64 (m 2), .int .i64 (m 3), .int .i64 (m 4), .int .i64 (m 5)], .int .i64 s] w (RetV (.tuple #[tv z0 z1 z2, .int .i64 e]) w))
    (hz : Hid (e = 0 → 0 ≤ z0 ∧ z0 ≤ 1099511627776)) (w : World) (hp : PL w) :
    Calls Tryd.prog 4 #[sv m, .int .i64 noise] w (RetV (.bool true) w) := by
  have P := pl_keep (b_alloc (o := (Obj.cells #[.int .i64 a, .int .i64 (m 1), .int .i64 (m 2), .int .i64 (m 3), .int .i64 (m 4), .int .i64 (m 5)] 23)) (Below.refl w.heap.size w)) hp
  have B : Below w.heap.size w (w.alloc (Obj.cells #[.int .i64 a, .int .i64 (m 1), .int .i64 (m 2), .int .i64 (m 3), .int .i64 (m 4), .int .i64 (m 5)] 23)) := b_alloc (Below.refl _ _)
  go_enter Tryd.func4, Tryd.ntmps4
  go_wp2_with fail
  refine (cB _ P).mono ?_
  rintro e1 w1 ⟨rfl, hb⟩
  replace P := pl_keep hb P
  replace B := b_trans B hb
  clear hb
  have K : TC (w1.alloc (Obj.cells #[.int .i64 z0, .int .i64 z1, .int .i64 z2] 25)) w1.heap.size z0 z1 z2 := tc_new rfl
  replace P := pl_keep (b_alloc (o := (Obj.cells #[.int .i64 z0, .int .i64 z1, .int .i64 z2] 25)) (Below.refl _ _)) P
  replace B := b_alloc (o := (Obj.cells #[.int .i64 z0, .int .i64 z1, .int .i64 z2] 25)) B
  go_wp2_with fail
  refine (fixed_gai _ P).mono ?_
  rintro e9 w9 ⟨rfl, hb⟩
  replace K := tc_keep hb K
  replace B := b_trans B hb
  clear hb
  by_cases c : e = 0
  · obtain ⟨g0, g1⟩ := hz.out c
    subst c
    have E := Lib.hid (mildb_yes (x := z0) ⟨g0, g1⟩)
    clear hz
    go_wp2_with fail
    refine (mild_any z0 z1 z2 _).mono ?_
    rintro e8 w8 ⟨rfl, hb⟩
    rw [E.out]
    replace K := tc_keep hb K
    replace B := b_trans B hb
    clear hb
    go_wp2
    go_ret
    exact ⟨rfl, B⟩
  · clear hz
    go_wp2
    go_ret
    exact ⟨rfl, B⟩

set_option maxHeartbeats 8000000 in
set_option maxRecDepth 10000 in
theorem gainLess_go (m : Nat → Int) (a b lo hi k0 k1 k2 l0 l1 l2 e f : Int)
    (E0 : (if b < a then b else a) = lo) (E1 : (if a < b then b else a) = hi)
    (cK : ∀ w, PL w → Calls Tryd.prog 6 #[sv m, .int .i64 lo] w (RetV (.tuple #[tv k0 k1 k2, .int .i64 e]) w))
    (cL : ∀ w, PL w → Calls Tryd.prog 6 #[sv m, .int .i64 hi] w (RetV (.tuple #[tv l0 l1 l2, .int .i64 f]) w))
    (LS : Hid (e = 0 → f = 0 → Ls k0 l0 ∧ Ls k1 l1 ∧ Ls k2 l2)) (w : World) (hp : PL w) :
    Calls Tryd.prog 5 #[sv m, .int .i64 a, .int .i64 b] w (RetV (.bool true) w) := by
  have P := pl_keep (b_alloc (o := (Obj.cells #[.int .i64 (m 0), .int .i64 (m 1), .int .i64 (m 2), .int .i64 (m 3), .int .i64 (m 4), .int .i64 (m 5)] 23)) (Below.refl w.heap.size w)) hp
  have B : Below w.heap.size w (w.alloc (Obj.cells #[.int .i64 (m 0), .int .i64 (m 1), .int .i64 (m 2), .int .i64 (m 3), .int .i64 (m 4), .int .i64 (m 5)] 23)) := b_alloc (Below.refl _ _)
  have S : SC6 (w.alloc (Obj.cells #[.int .i64 (m 0), .int .i64 (m 1), .int .i64 (m 2), .int .i64 (m 3), .int .i64 (m 4), .int .i64 (m 5)] 23)) w.heap.size m := sc_six (sc_new rfl)
  go_enter Tryd.func5, Tryd.ntmps5
  go_wp2_with fail
  refine (cK _ P).mono ?_
  rintro e1 w1 ⟨rfl, hb⟩
  replace P := pl_keep hb P
  replace B := b_trans B hb
  replace S := sc_six (sc_keep hb (six_sc S))
  clear hb cK
  have T : TC (w1.alloc (Obj.cells #[.int .i64 k0, .int .i64 k1, .int .i64 k2] 25)) w1.heap.size k0 k1 k2 := tc_new rfl
  replace P := pl_keep (b_alloc (o := (Obj.cells #[.int .i64 k0, .int .i64 k1, .int .i64 k2] 25)) (Below.refl _ _)) P
  replace B := b_alloc (o := (Obj.cells #[.int .i64 k0, .int .i64 k1, .int .i64 k2] 25)) B
  replace S := sc_six (sc_alloc (o := (Obj.cells #[.int .i64 k0, .int .i64 k1, .int .i64 k2] 25)) (six_sc S))
  go_wp2_with fail
  refine (cL _ P).mono ?_
  rintro e2 w2 ⟨rfl, hb⟩
  replace P := pl_keep hb P
  replace B := b_trans B hb
  replace T := tc_keep hb T
  clear hb cL S
  have U : TC (w2.alloc (Obj.cells #[.int .i64 l0, .int .i64 l1, .int .i64 l2] 25)) w2.heap.size l0 l1 l2 := tc_new rfl
  replace P := pl_keep (b_alloc (o := (Obj.cells #[.int .i64 l0, .int .i64 l1, .int .i64 l2] 25)) (Below.refl _ _)) P
  replace B := b_alloc (o := (Obj.cells #[.int .i64 l0, .int .i64 l1, .int .i64 l2] 25)) B
  replace T := tc_alloc (o := (Obj.cells #[.int .i64 l0, .int .i64 l1, .int .i64 l2] 25)) T
  by_cases ce : e = 0
  rotate_left
  · clear LS
    go_wp2_with fail
    clear T U
    refine (fixed_gai _ P).mono ?_
    rintro e9 w9 ⟨rfl, hb⟩
    replace B := b_trans B hb
    clear hb
    go_wp2
    go_ret
    exact ⟨rfl, B⟩
  subst ce
  by_cases cf : f = 0
  rotate_left
  · clear LS
    go_wp2_with fail
    clear T U
    refine (fixed_gai _ P).mono ?_
    rintro e9 w9 ⟨rfl, hb⟩
    replace B := b_trans B hb
    clear hb
    go_wp2
    go_ret
    exact ⟨rfl, B⟩
  subst cf
  replace LS := Lib.hid (LS.out rfl rfl)
  go_wp2
  go_loopw [35] (fun iv wr => ∃ k : Nat, k ≤ 3 ∧ iv = .int .i64 k ∧ TC wr w1.heap.size k0 k1 k2 ∧ TC wr w2.heap.size l0 l1 l2 ∧ PL wr ∧ Below w.heap.size w wr) (fun iv _ => 3 - (intOf iv).toNat)
  case atStart => exact ⟨0, by decide, rfl, T, U, P, B⟩
  case round =>
    obtain ⟨k, hk, rfl, T, U, P, B⟩ := hrel
    rcases (show k = 3 ∨ k = 0 ∨ k = 1 ∨ k = 2 by omega) with rfl | rfl | rfl | rfl
    · clear LS
      go_wp2_with fail
      clear T U
      refine (fixed_gai _ P).mono ?_
      rintro e9 w9 ⟨rfl, hb⟩
      replace B := b_trans B hb
      clear hb
      go_wp2
      go_ret
      exact ⟨rfl, B⟩
    · obtain ⟨lh1, lh2⟩ := LS.out.1
      by_cases c : 0 ≤ k0
      · obtain ⟨lh3, lh4⟩ := lh1 c
        have d1 : decide (l0 < 0) = false := decide_eq_false (by omega)
        have d2 : decide (k0 < l0) = false := decide_eq_false (by omega)
        have d3 : decide (k0 < 0) = false := decide_eq_false (by omega)
        clear lh1 lh2 lh3 lh4 LS
        go_wp2_with fail
        go_quiet (fail)
        replace T := tc_keep (below_draws _ _ nq) T
        replace U := tc_keep (below_draws _ _ nq) U
        replace P := pl_keep (below_draws _ _ nq) P
        replace B := B.trans (below_draws _ _ nq)
        go_wp2
        go_roundw
        case rel => exact ⟨1, by omega, rfl, T, U, P, B⟩
        case measure => simp [intOf]
      · obtain ⟨lh3, lh4⟩ := lh2 (by omega)
        have d0 : decide (0 ≤ k0) = false := decide_eq_false c
        have d1 : k0 < 0 := by omega
        have d2 : decide (0 < l0) = false := decide_eq_false (by omega)
        have d3 : decide (l0 < k0) = false := decide_eq_false (by omega)
        clear lh1 lh2 lh3 lh4 LS c
        go_wp2_with fail
        go_quiet (fail)
        replace T := tc_keep (below_draws _ _ nq) T
        replace U := tc_keep (below_draws _ _ nq) U
        replace P := pl_keep (below_draws _ _ nq) P
        replace B := B.trans (below_draws _ _ nq)
        go_wp2
        go_roundw
        case rel => exact ⟨1, by omega, rfl, T, U, P, B⟩
        case measure => simp [intOf]
    · obtain ⟨lh1, lh2⟩ := LS.out.2.1
      by_cases c : 0 ≤ k1
      · obtain ⟨lh3, lh4⟩ := lh1 c
        have d1 : decide (l1 < 0) = false := decide_eq_false (by omega)
        have d2 : decide (k1 < l1) = false := decide_eq_false (by omega)
        have d3 : decide (k1 < 0) = false := decide_eq_false (by omega)
        clear lh1 lh2 lh3 lh4 LS
        go_wp2_with fail
        go_quiet (fail)
        replace T := tc_keep (below_draws _ _ nq) T
        replace U := tc_keep (below_draws _ _ nq) U
        replace P := pl_keep (below_draws _ _ nq) P
        replace B := B.trans (below_draws _ _ nq)
        go_wp2
        go_roundw
        case rel => exact ⟨2, by omega, rfl, T, U, P, B⟩
        case measure => simp [intOf]
      · obtain ⟨lh3, lh4⟩ := lh2 (by omega)
        have d0 : decide (0 ≤ k1) = false := decide_eq_false c
        have d1 : k1 < 0 := by omega
        have d2 : decide (0 < l1) = false := decide_eq_false (by omega)
        have d3 : decide (l1 < k1) = false := decide_eq_false (by omega)
        clear lh1 lh2 lh3 lh4 LS c
        go_wp2_with fail
        go_quiet (fail)
        replace T := tc_keep (below_draws _ _ nq) T
        replace U := tc_keep (below_draws _ _ nq) U
        replace P := pl_keep (below_draws _ _ nq) P
        replace B := B.trans (below_draws _ _ nq)
        go_wp2
        go_roundw
        case rel => exact ⟨2, by omega, rfl, T, U, P, B⟩
        case measure => simp [intOf]
    · obtain ⟨lh1, lh2⟩ := LS.out.2.2
      by_cases c : 0 ≤ k2
      · obtain ⟨lh3, lh4⟩ := lh1 c
        have d1 : decide (l2 < 0) = false := decide_eq_false (by omega)
        have d2 : decide (k2 < l2) = false := decide_eq_false (by omega)
        have d3 : decide (k2 < 0) = false := decide_eq_false (by omega)
        clear lh1 lh2 lh3 lh4 LS
        go_wp2_with fail
        go_quiet (fail)
        replace T := tc_keep (below_draws _ _ nq) T
        replace U := tc_keep (below_draws _ _ nq) U
        replace P := pl_keep (below_draws _ _ nq) P
        replace B := B.trans (below_draws _ _ nq)
        go_wp2
        go_roundw
        case rel => exact ⟨3, by omega, rfl, T, U, P, B⟩
        case measure => simp [intOf]
      · obtain ⟨lh3, lh4⟩ := lh2 (by omega)
        have d0 : decide (0 ≤ k2) = false := decide_eq_false c
        have d1 : k2 < 0 := by omega
        have d2 : decide (0 < l2) = false := decide_eq_false (by omega)
        have d3 : decide (l2 < k2) = false := decide_eq_false (by omega)
        clear lh1 lh2 lh3 lh4 LS c
        go_wp2_with fail
        go_quiet (fail)
        replace T := tc_keep (below_draws _ _ nq) T
        replace U := tc_keep (below_draws _ _ nq) U
        replace P := pl_keep (below_draws _ _ nq) P
        replace B := B.trans (below_draws _ _ nq)
        go_wp2
        go_roundw
        case rel => exact ⟨3, by omega, rfl, T, U, P, B⟩
        case measure => simp [intOf]

theorem gainLess_any (m : Nat → Int) (a b : Int) (hm : I6 m) (ha : I64 a) (hb : I64 b) (w : World) (hp : PL w) :
    Calls Tryd.prog 5 #[sv m, .int .i64 a, .int .i64 b] w (RetV (.bool true) w) := by
  have i0 : I64 (if b < a then b else a) := by split <;> assumption
  have i1 : I64 (if a < b then b else a) := by split <;> assumption
  have le : (if b < a then b else a) ≤ (if a < b then b else a) := by split <;> split <;> omega
  exact gainLess_go m a b _ _ _ _ _ _ _ _ _ _ rfl rfl (best_any m _ hm i0) (best_any m _ hm i1) (Lib.hid (fun e f => ⟨b_less e f le 0, b_less e f le 1, b_less e f le 2⟩)) w hp
theorem gainMild_any (m : Nat → Int) (noise : Int) (hm : I6 m) (hn : I64 noise) (w : World) (hp : PL w) :
    Calls Tryd.prog 4 #[sv m, .int .i64 noise] w (RetV (.bool true) w) := by
  have h0 := hm 0 (by decide)
  generalize hc : (if 144115188075855872 < m 0 then 144115188075855872 else m 0) = c0
  generalize ha : (if c0 < 0 then 0 else c0) = a
  generalize hn1 : (if 144115188075855872 < noise then 144115188075855872 else noise) = n1
  generalize hn2 : (if n1 < 1 then 1 else n1) = n
  have a0 : 0 ≤ a ∧ a ≤ 144115188075855872 := by
    subst ha hc; split <;> split <;> omega
  have n0 : 1 ≤ n ∧ n ≤ 144115188075855872 := by
    subst hn2 hn1; split <;> split <;> omega
  have ew : IntKind.i64.wrap (a + n) = a + n := by
    rw [IntKind.wrap_i64]; omega
  have hM : I6 (umk m 0 a) := six (P := fun i => I64 (umk m 0 a i)) ⟨by show _ ≤ a; omega, by show a ≤ _; omega⟩ (hm 1 (by decide)) (hm 2 (by decide)) (hm 3 (by decide)) (hm 4 (by decide)) (hm 5 (by decide))
  exact gainMild_go m noise a n c0 n1 (a + n) _ _ _ _ hc ha hn1 hn2 ew (best_any (umk m 0 a) (a + n) hM ⟨by omega, by omega⟩) (Lib.hid (fun e => b_mild e (show 0 ≤ a by omega) (show a ≤ a + n by omega))) w hp

end Go.Proofs.YtccpcabhcfpbfaaDoor

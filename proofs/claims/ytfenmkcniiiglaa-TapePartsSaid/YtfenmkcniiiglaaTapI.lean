/- Layer 21: the program's next where there is a tick. -/
import Derived.Test.YtfenmkcniiiglaaTapH
namespace Go.Proofs.Ytfenmkcniiiglaa
open Go.RowKit Go.Shelf Go.Joins

set_option maxHeartbeats 4000000 in
set_option maxRecDepth 10000 in
theorem next_ok0 (z : Nat → Int) (hz : ∀ k, 0 ≤ z k ∧ z k ≤ 255) (gb off n cap : Nat) (hs : 8 ≤ n) (hn : n + 1 ≤ cap) (sb : Option Addr) (hsb : (if cap = 9 then some ⟨gb, off + 1, none⟩ else some ⟨gb, off + 1 + 8, none⟩) = sb) (w : World) (c0 : w.cell? ⟨gb, off, none⟩ = some (.int .u8 0)) (hc : ∀ k, k < n → w.cell? ⟨gb, off + 1 + k, none⟩ = some (.int .u8 (z k))) :
    Calls Try.prog 21 #[.slice (some ⟨gb, off, none⟩) (n + 1) cap] w (RetV (.tuple #[tk (rd z) false 0 false, .slice sb (n - 8) (cap - 1 - 8), .int .i64 0]) w) := by
  have T0 := tr_new w
  have q0 := cell_keep (b_alloc (o := Obj.cells #[.int .i64 0, .bool false, .int .i64 0, .bool false] 48) (Below.refl w.heap.size w)) c0
  have h1 : (1 : Int) ≤ (n + 1 : Nat) := by omega
  have h2 : (0 : Int) < (n + 1 : Nat) := by omega
  have ba : bits .and .u8 0 1 = 0 := by decide
  have bb : bits .and .u8 0 2 = 0 := by decide
  have hl : ¬ (n : Int) < 8 := by omega
  have hm : (8 : Int) ≤ n := by omega
  have hc1 : ¬ cap = 1 := by omega
  go_enter Try.func21, Try.ntmps21
  go_wp2
  go_quiet (fail)
  have E : Below w.heap.size w ((w.alloc (Obj.cells #[.int .i64 0, .bool false, .int .i64 0, .bool false] 48)).drewN nq) := b_drewN (b_alloc (Below.refl _ _))
  replace T0 := tr_drewN nq T0
  generalize (w.alloc (Obj.cells #[.int .i64 0, .bool false, .int .i64 0, .bool false] 48)).drewN nq = y0 at *
  clear q0
  have g0 := (cell_of_row _ _ 0 _ _ _ T0).trans rfl
  have g1 := (cell_of_row _ _ 1 _ _ _ T0).trans rfl
  have g2 := (cell_of_row _ _ 2 _ _ _ T0).trans rfl
  have g3 := (cell_of_row _ _ 3 _ _ _ T0).trans rfl
  have z0 := frozen_of_row y0 w.heap.size 0 _ _ T0
  have z1 := frozen_of_row y0 w.heap.size 1 _ _ T0
  have z2 := frozen_of_row y0 w.heap.size 2 _ _ T0
  have z3 := frozen_of_row y0 w.heap.size 3 _ _ T0
  have T1 := tr_3 false (tr_1 false T0)
  have E1 := b_set (p := ⟨w.heap.size, 3, none⟩) (v := .bool false) (b_set (p := ⟨w.heap.size, 1, none⟩) (v := .bool false) E (Nat.le_refl _)) (Nat.le_refl _)
  go_wp2_with fail
  refine (nat_any z hz gb (off + 1) n _ (by omega) _ (fun k hk => cell_keep E1 (hc k (by omega)))).mono ?_
  rintro e y1 ⟨rfl, hb⟩
  replace T1 := row_keep hb T1
  replace E1 := b_trans E1 hb
  clear g0 g1 g2 g3 z0 z1 z2 z3 T0 E hb ba bb
  generalize rd z = x at *
  have g0 := (cell_of_row _ _ 0 _ _ _ T1).trans rfl
  have g1 := (cell_of_row _ _ 1 _ _ _ T1).trans rfl
  have g2 := (cell_of_row _ _ 2 _ _ _ T1).trans rfl
  have g3 := (cell_of_row _ _ 3 _ _ _ T1).trans rfl
  have z0 := frozen_of_row y1 w.heap.size 0 _ _ T1
  have z1 := frozen_of_row y1 w.heap.size 1 _ _ T1
  have z2 := frozen_of_row y1 w.heap.size 2 _ _ T1
  have z3 := frozen_of_row y1 w.heap.size 3 _ _ T1
  have T3 := tr_0 x T1
  have E3 := b_set (p := ⟨w.heap.size, 0, none⟩) (v := .int .i64 x) E1 (Nat.le_refl _)
  have HT := Lib.hid T3
  have HE := Lib.hid E3
  clear T3 E3 hc hz c0
  go_wp2
  go_region
  have T3 := HT.out
  have E3 := HE.out
  have T4 := tr_drew (tr_all x false 0 false T3)
  have E4 := b_drew (b_all (b := w.heap.size) (x0 := .int .i64 x) (x1 := .bool false) (x2 := .int .i64 0) (x3 := .bool false) E3 (Nat.le_refl _))
  go_wp2
  exact bodyPost_ret (v := .tuple #[tk x false 0 false, .slice sb (n - 8) (cap - 1 - 8), .int .i64 0]) (results_cell_tmp2 Try.results21 _ _ w.heap.size 48 _ (0, 0) _ rfl T4 Try.underlying48 rfl (by kernel_rfl)) rfl ⟨rfl, E4⟩
set_option maxHeartbeats 4000000 in
set_option maxRecDepth 10000 in
theorem next_ok1 (z : Nat → Int) (hz : ∀ k, 0 ≤ z k ∧ z k ≤ 255) (gb off n cap : Nat) (hs : 16 ≤ n) (hn : n + 1 ≤ cap) (sb : Option Addr) (hsb : (if cap = 17 then some ⟨gb, off + 1, none⟩ else some ⟨gb, off + 1 + 16, none⟩) = sb) (w : World) (c0 : w.cell? ⟨gb, off, none⟩ = some (.int .u8 1)) (hc : ∀ k, k < n → w.cell? ⟨gb, off + 1 + k, none⟩ = some (.int .u8 (z k))) :
    Calls Try.prog 21 #[.slice (some ⟨gb, off, none⟩) (n + 1) cap] w (RetV (.tuple #[tk (rd z) true (rd fun k => z (8 + k)) false, .slice sb (n - 16) (cap - 1 - 16), .int .i64 0]) w) := by
  have T0 := tr_new w
  have q0 := cell_keep (b_alloc (o := Obj.cells #[.int .i64 0, .bool false, .int .i64 0, .bool false] 48) (Below.refl w.heap.size w)) c0
  have h1 : (1 : Int) ≤ (n + 1 : Nat) := by omega
  have h2 : (0 : Int) < (n + 1 : Nat) := by omega
  have ba : bits .and .u8 1 1 = 1 := by decide
  have bb : bits .and .u8 1 2 = 0 := by decide
  have hl : ¬ (n : Int) < 16 := by omega
  have hm : (16 : Int) ≤ n := by omega
  have hc1 : ¬ cap = 1 := by omega
  go_enter Try.func21, Try.ntmps21
  go_wp2
  go_quiet (fail)
  have E : Below w.heap.size w ((w.alloc (Obj.cells #[.int .i64 0, .bool false, .int .i64 0, .bool false] 48)).drewN nq) := b_drewN (b_alloc (Below.refl _ _))
  replace T0 := tr_drewN nq T0
  generalize (w.alloc (Obj.cells #[.int .i64 0, .bool false, .int .i64 0, .bool false] 48)).drewN nq = y0 at *
  clear q0
  have g0 := (cell_of_row _ _ 0 _ _ _ T0).trans rfl
  have g1 := (cell_of_row _ _ 1 _ _ _ T0).trans rfl
  have g2 := (cell_of_row _ _ 2 _ _ _ T0).trans rfl
  have g3 := (cell_of_row _ _ 3 _ _ _ T0).trans rfl
  have z0 := frozen_of_row y0 w.heap.size 0 _ _ T0
  have z1 := frozen_of_row y0 w.heap.size 1 _ _ T0
  have z2 := frozen_of_row y0 w.heap.size 2 _ _ T0
  have z3 := frozen_of_row y0 w.heap.size 3 _ _ T0
  have T1 := tr_3 false (tr_1 true T0)
  have E1 := b_set (p := ⟨w.heap.size, 3, none⟩) (v := .bool false) (b_set (p := ⟨w.heap.size, 1, none⟩) (v := .bool true) E (Nat.le_refl _)) (Nat.le_refl _)
  go_wp2_with fail
  refine (nat_any z hz gb (off + 1) n _ (by omega) _ (fun k hk => cell_keep E1 (hc k (by omega)))).mono ?_
  rintro e y1 ⟨rfl, hb⟩
  replace T1 := row_keep hb T1
  replace E1 := b_trans E1 hb
  clear g0 g1 g2 g3 z0 z1 z2 z3 T0 E hb ba bb
  obtain ⟨x, hx⟩ : ∃ x, rd z = x := ⟨_, rfl⟩
  have HX := Lib.hid hx
  rw [hx]
  clear hx
  have g0 := (cell_of_row _ _ 0 _ _ _ T1).trans rfl
  have g1 := (cell_of_row _ _ 1 _ _ _ T1).trans rfl
  have g2 := (cell_of_row _ _ 2 _ _ _ T1).trans rfl
  have g3 := (cell_of_row _ _ 3 _ _ _ T1).trans rfl
  have z0 := frozen_of_row y1 w.heap.size 0 _ _ T1
  have z1 := frozen_of_row y1 w.heap.size 1 _ _ T1
  have z2 := frozen_of_row y1 w.heap.size 2 _ _ T1
  have z3 := frozen_of_row y1 w.heap.size 3 _ _ T1
  have T2 := tr_0 x T1
  have E2 := b_set (p := ⟨w.heap.size, 0, none⟩) (v := .int .i64 x) E1 (Nat.le_refl _)
  have hc2 : ¬ cap - 1 = 8 := by omega
  have h8 : (8 : Int) ≤ n := by omega
  go_wp2_with fail
  refine (nat_any (fun k => z (8 + k)) (fun k => hz (8 + k)) gb (off + 1 + 8) (n - 8) _ (by omega) _ (fun k hk => by rw [Nat.add_assoc (off + 1)]; exact cell_keep E2 (hc (8 + k) (by omega)))).mono ?_
  rintro e y2 ⟨rfl, hb⟩
  replace T2 := row_keep hb T2
  replace E2 := b_trans E2 hb
  clear g0 g1 g2 g3 z0 z1 z2 z3 T1 E1 hb
  obtain ⟨y, hy⟩ : ∃ y, (rd fun k => z (8 + k)) = y := ⟨_, rfl⟩
  have HY := Lib.hid hy
  rw [hy]
  clear hy
  have g0 := (cell_of_row _ _ 0 _ _ _ T2).trans rfl
  have g1 := (cell_of_row _ _ 1 _ _ _ T2).trans rfl
  have g2 := (cell_of_row _ _ 2 _ _ _ T2).trans rfl
  have g3 := (cell_of_row _ _ 3 _ _ _ T2).trans rfl
  have z0 := frozen_of_row y2 w.heap.size 0 _ _ T2
  have z1 := frozen_of_row y2 w.heap.size 1 _ _ T2
  have z2 := frozen_of_row y2 w.heap.size 2 _ _ T2
  have z3 := frozen_of_row y2 w.heap.size 3 _ _ T2
  have T3 := tr_2 y T2
  have E3 := b_set (p := ⟨w.heap.size, 2, none⟩) (v := .int .i64 y) E2 (Nat.le_refl _)
  have HT := Lib.hid T3
  have HE := Lib.hid E3
  clear T3 E3 hc hz c0
  go_wp2
  go_region
  have T3 := HT.out
  have E3 := HE.out
  have T4 := tr_drew (tr_all x true y false T3)
  have E4 := b_drew (b_all (b := w.heap.size) (x0 := .int .i64 x) (x1 := .bool true) (x2 := .int .i64 y) (x3 := .bool false) E3 (Nat.le_refl _))
  go_wp2
  exact bodyPost_ret (v := .tuple #[tk x true y false, .slice sb (n - 16) (cap - 1 - 16), .int .i64 0]) (results_cell_tmp2 Try.results21 _ _ w.heap.size 48 _ (0, 0) _ rfl T4 Try.underlying48 rfl (by kernel_rfl)) rfl ⟨by rw [HX.out, HY.out], E4⟩
set_option maxHeartbeats 4000000 in
set_option maxRecDepth 10000 in
theorem next_ok2 (z : Nat → Int) (hz : ∀ k, 0 ≤ z k ∧ z k ≤ 255) (gb off n cap : Nat) (hs : 8 ≤ n) (hn : n + 1 ≤ cap) (sb : Option Addr) (hsb : (if cap = 9 then some ⟨gb, off + 1, none⟩ else some ⟨gb, off + 1 + 8, none⟩) = sb) (w : World) (c0 : w.cell? ⟨gb, off, none⟩ = some (.int .u8 2)) (hc : ∀ k, k < n → w.cell? ⟨gb, off + 1 + k, none⟩ = some (.int .u8 (z k))) :
    Calls Try.prog 21 #[.slice (some ⟨gb, off, none⟩) (n + 1) cap] w (RetV (.tuple #[tk (rd z) false 0 true, .slice sb (n - 8) (cap - 1 - 8), .int .i64 0]) w) := by
  have T0 := tr_new w
  have q0 := cell_keep (b_alloc (o := Obj.cells #[.int .i64 0, .bool false, .int .i64 0, .bool false] 48) (Below.refl w.heap.size w)) c0
  have h1 : (1 : Int) ≤ (n + 1 : Nat) := by omega
  have h2 : (0 : Int) < (n + 1 : Nat) := by omega
  have ba : bits .and .u8 2 1 = 0 := by decide
  have bb : bits .and .u8 2 2 = 2 := by decide
  have hl : ¬ (n : Int) < 8 := by omega
  have hm : (8 : Int) ≤ n := by omega
  have hc1 : ¬ cap = 1 := by omega
  go_enter Try.func21, Try.ntmps21
  go_wp2
  go_quiet (fail)
  have E : Below w.heap.size w ((w.alloc (Obj.cells #[.int .i64 0, .bool false, .int .i64 0, .bool false] 48)).drewN nq) := b_drewN (b_alloc (Below.refl _ _))
  replace T0 := tr_drewN nq T0
  generalize (w.alloc (Obj.cells #[.int .i64 0, .bool false, .int .i64 0, .bool false] 48)).drewN nq = y0 at *
  clear q0
  have g0 := (cell_of_row _ _ 0 _ _ _ T0).trans rfl
  have g1 := (cell_of_row _ _ 1 _ _ _ T0).trans rfl
  have g2 := (cell_of_row _ _ 2 _ _ _ T0).trans rfl
  have g3 := (cell_of_row _ _ 3 _ _ _ T0).trans rfl
  have z0 := frozen_of_row y0 w.heap.size 0 _ _ T0
  have z1 := frozen_of_row y0 w.heap.size 1 _ _ T0
  have z2 := frozen_of_row y0 w.heap.size 2 _ _ T0
  have z3 := frozen_of_row y0 w.heap.size 3 _ _ T0
  have T1 := tr_3 true (tr_1 false T0)
  have E1 := b_set (p := ⟨w.heap.size, 3, none⟩) (v := .bool true) (b_set (p := ⟨w.heap.size, 1, none⟩) (v := .bool false) E (Nat.le_refl _)) (Nat.le_refl _)
  go_wp2_with fail
  refine (nat_any z hz gb (off + 1) n _ (by omega) _ (fun k hk => cell_keep E1 (hc k (by omega)))).mono ?_
  rintro e y1 ⟨rfl, hb⟩
  replace T1 := row_keep hb T1
  replace E1 := b_trans E1 hb
  clear g0 g1 g2 g3 z0 z1 z2 z3 T0 E hb ba bb
  generalize rd z = x at *
  have g0 := (cell_of_row _ _ 0 _ _ _ T1).trans rfl
  have g1 := (cell_of_row _ _ 1 _ _ _ T1).trans rfl
  have g2 := (cell_of_row _ _ 2 _ _ _ T1).trans rfl
  have g3 := (cell_of_row _ _ 3 _ _ _ T1).trans rfl
  have z0 := frozen_of_row y1 w.heap.size 0 _ _ T1
  have z1 := frozen_of_row y1 w.heap.size 1 _ _ T1
  have z2 := frozen_of_row y1 w.heap.size 2 _ _ T1
  have z3 := frozen_of_row y1 w.heap.size 3 _ _ T1
  have T3 := tr_0 x T1
  have E3 := b_set (p := ⟨w.heap.size, 0, none⟩) (v := .int .i64 x) E1 (Nat.le_refl _)
  have HT := Lib.hid T3
  have HE := Lib.hid E3
  clear T3 E3 hc hz c0
  go_wp2
  go_region
  have T3 := HT.out
  have E3 := HE.out
  have T4 := tr_drew (tr_all x false 0 true T3)
  have E4 := b_drew (b_all (b := w.heap.size) (x0 := .int .i64 x) (x1 := .bool false) (x2 := .int .i64 0) (x3 := .bool true) E3 (Nat.le_refl _))
  go_wp2
  exact bodyPost_ret (v := .tuple #[tk x false 0 true, .slice sb (n - 8) (cap - 1 - 8), .int .i64 0]) (results_cell_tmp2 Try.results21 _ _ w.heap.size 48 _ (0, 0) _ rfl T4 Try.underlying48 rfl (by kernel_rfl)) rfl ⟨rfl, E4⟩
set_option maxHeartbeats 4000000 in
set_option maxRecDepth 10000 in
theorem next_ok3 (z : Nat → Int) (hz : ∀ k, 0 ≤ z k ∧ z k ≤ 255) (gb off n cap : Nat) (hs : 16 ≤ n) (hn : n + 1 ≤ cap) (sb : Option Addr) (hsb : (if cap = 17 then some ⟨gb, off + 1, none⟩ else some ⟨gb, off + 1 + 16, none⟩) = sb) (w : World) (c0 : w.cell? ⟨gb, off, none⟩ = some (.int .u8 3)) (hc : ∀ k, k < n → w.cell? ⟨gb, off + 1 + k, none⟩ = some (.int .u8 (z k))) :
    Calls Try.prog 21 #[.slice (some ⟨gb, off, none⟩) (n + 1) cap] w (RetV (.tuple #[tk (rd z) true (rd fun k => z (8 + k)) true, .slice sb (n - 16) (cap - 1 - 16), .int .i64 0]) w) := by
  have T0 := tr_new w
  have q0 := cell_keep (b_alloc (o := Obj.cells #[.int .i64 0, .bool false, .int .i64 0, .bool false] 48) (Below.refl w.heap.size w)) c0
  have h1 : (1 : Int) ≤ (n + 1 : Nat) := by omega
  have h2 : (0 : Int) < (n + 1 : Nat) := by omega
  have ba : bits .and .u8 3 1 = 1 := by decide
  have bb : bits .and .u8 3 2 = 2 := by decide
  have hl : ¬ (n : Int) < 16 := by omega
  have hm : (16 : Int) ≤ n := by omega
  have hc1 : ¬ cap = 1 := by omega
  go_enter Try.func21, Try.ntmps21
  go_wp2
  go_quiet (fail)
  have E : Below w.heap.size w ((w.alloc (Obj.cells #[.int .i64 0, .bool false, .int .i64 0, .bool false] 48)).drewN nq) := b_drewN (b_alloc (Below.refl _ _))
  replace T0 := tr_drewN nq T0
  generalize (w.alloc (Obj.cells #[.int .i64 0, .bool false, .int .i64 0, .bool false] 48)).drewN nq = y0 at *
  clear q0
  have g0 := (cell_of_row _ _ 0 _ _ _ T0).trans rfl
  have g1 := (cell_of_row _ _ 1 _ _ _ T0).trans rfl
  have g2 := (cell_of_row _ _ 2 _ _ _ T0).trans rfl
  have g3 := (cell_of_row _ _ 3 _ _ _ T0).trans rfl
  have z0 := frozen_of_row y0 w.heap.size 0 _ _ T0
  have z1 := frozen_of_row y0 w.heap.size 1 _ _ T0
  have z2 := frozen_of_row y0 w.heap.size 2 _ _ T0
  have z3 := frozen_of_row y0 w.heap.size 3 _ _ T0
  have T1 := tr_3 true (tr_1 true T0)
  have E1 := b_set (p := ⟨w.heap.size, 3, none⟩) (v := .bool true) (b_set (p := ⟨w.heap.size, 1, none⟩) (v := .bool true) E (Nat.le_refl _)) (Nat.le_refl _)
  go_wp2_with fail
  refine (nat_any z hz gb (off + 1) n _ (by omega) _ (fun k hk => cell_keep E1 (hc k (by omega)))).mono ?_
  rintro e y1 ⟨rfl, hb⟩
  replace T1 := row_keep hb T1
  replace E1 := b_trans E1 hb
  clear g0 g1 g2 g3 z0 z1 z2 z3 T0 E hb ba bb
  obtain ⟨x, hx⟩ : ∃ x, rd z = x := ⟨_, rfl⟩
  have HX := Lib.hid hx
  rw [hx]
  clear hx
  have g0 := (cell_of_row _ _ 0 _ _ _ T1).trans rfl
  have g1 := (cell_of_row _ _ 1 _ _ _ T1).trans rfl
  have g2 := (cell_of_row _ _ 2 _ _ _ T1).trans rfl
  have g3 := (cell_of_row _ _ 3 _ _ _ T1).trans rfl
  have z0 := frozen_of_row y1 w.heap.size 0 _ _ T1
  have z1 := frozen_of_row y1 w.heap.size 1 _ _ T1
  have z2 := frozen_of_row y1 w.heap.size 2 _ _ T1
  have z3 := frozen_of_row y1 w.heap.size 3 _ _ T1
  have T2 := tr_0 x T1
  have E2 := b_set (p := ⟨w.heap.size, 0, none⟩) (v := .int .i64 x) E1 (Nat.le_refl _)
  have hc2 : ¬ cap - 1 = 8 := by omega
  have h8 : (8 : Int) ≤ n := by omega
  go_wp2_with fail
  refine (nat_any (fun k => z (8 + k)) (fun k => hz (8 + k)) gb (off + 1 + 8) (n - 8) _ (by omega) _ (fun k hk => by rw [Nat.add_assoc (off + 1)]; exact cell_keep E2 (hc (8 + k) (by omega)))).mono ?_
  rintro e y2 ⟨rfl, hb⟩
  replace T2 := row_keep hb T2
  replace E2 := b_trans E2 hb
  clear g0 g1 g2 g3 z0 z1 z2 z3 T1 E1 hb
  obtain ⟨y, hy⟩ : ∃ y, (rd fun k => z (8 + k)) = y := ⟨_, rfl⟩
  have HY := Lib.hid hy
  rw [hy]
  clear hy
  have g0 := (cell_of_row _ _ 0 _ _ _ T2).trans rfl
  have g1 := (cell_of_row _ _ 1 _ _ _ T2).trans rfl
  have g2 := (cell_of_row _ _ 2 _ _ _ T2).trans rfl
  have g3 := (cell_of_row _ _ 3 _ _ _ T2).trans rfl
  have z0 := frozen_of_row y2 w.heap.size 0 _ _ T2
  have z1 := frozen_of_row y2 w.heap.size 1 _ _ T2
  have z2 := frozen_of_row y2 w.heap.size 2 _ _ T2
  have z3 := frozen_of_row y2 w.heap.size 3 _ _ T2
  have T3 := tr_2 y T2
  have E3 := b_set (p := ⟨w.heap.size, 2, none⟩) (v := .int .i64 y) E2 (Nat.le_refl _)
  have HT := Lib.hid T3
  have HE := Lib.hid E3
  clear T3 E3 hc hz c0
  go_wp2
  go_region
  have T3 := HT.out
  have E3 := HE.out
  have T4 := tr_drew (tr_all x true y true T3)
  have E4 := b_drew (b_all (b := w.heap.size) (x0 := .int .i64 x) (x1 := .bool true) (x2 := .int .i64 y) (x3 := .bool true) E3 (Nat.le_refl _))
  go_wp2
  exact bodyPost_ret (v := .tuple #[tk x true y true, .slice sb (n - 16) (cap - 1 - 16), .int .i64 0]) (results_cell_tmp2 Try.results21 _ _ w.heap.size 48 _ (0, 0) _ rfl T4 Try.underlying48 rfl (by kernel_rfl)) rfl ⟨by rw [HX.out, HY.out], E4⟩
end Go.Proofs.Ytfenmkcniiiglaa

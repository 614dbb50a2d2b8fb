/- The chapter's example; matrices and wide numbers held against one another. -/
import Derived.Test.YtlpmmnfijfljoaaDoorSprE
namespace Go.Proofs.YtlpmmnfijfljoaaDoor
open Go.RowKit Go.Shelf

theorem dgm_lits (x y z : Int) : dgm x y z 0 = x ∧ dgm x y z 1 = 0 ∧ dgm x y z 2 = 0 ∧ dgm x y z 3 = y ∧ dgm x y z 4 = 0 ∧ dgm x y z 5 = z := ⟨rfl, rfl, rfl, rfl, rfl, rfl⟩
theorem fixed_nums : onz (dgm 1099511627776 1099511627776 1099511627776) 0 0 0 0 = 1099578737664 ∧ onz (dgm 1099511627776 1099511627776 1099511627776) 0 0 0 1 = 8590196736 ∧ onz (dgm 1099511627776 1099511627776 1099511627776) 0 0 0 2 = (-33554432) ∧ onz (dgm 1099511627776 1099511627776 1099511627776) 0 0 0 3 = 1099578736640 ∧ onz (dgm 1099511627776 1099511627776 1099511627776) 0 0 0 4 = (-8589934592) ∧ onz (dgm 1099511627776 1099511627776 1099511627776) 0 0 0 5 = 1099511627776 ∧ one (dgm 1099511627776 1099511627776 1099511627776) 0 0 0 = 0 := by
  decide +kernel
set_option maxHeartbeats 1000000 in
set_option maxRecDepth 10000 in
theorem fixed_spr (w : World) (hl : ML w) (hp : PL w) : Calls Tryd.prog 12 #[] w (RetV (.bool true) w) := by
  obtain ⟨n0, n1, n2, n3, n4, n5, n6⟩ := fixed_nums
  have cD : ∀ w, PL w → Calls Tryd.prog 13 #[tv 1099511627776 1099511627776 1099511627776] w (RetV (.agg #[.int .i64 1099511627776, .int .i64 0, .int .i64 0, .int .i64 1099511627776, .int .i64 0, .int .i64 1099511627776]) w) := fun w h => diag_any 1099511627776 1099511627776 1099511627776 w h
  have cO : ∀ w, ML w → PL w → Calls Tryd.prog 6 #[.agg #[.int .i64 1099511627776, .int .i64 0, .int .i64 0, .int .i64 1099511627776, .int .i64 0, .int .i64 1099511627776], tv 0 0 0] w (RetV (.tuple #[.agg #[.int .i64 1099578737664, .int .i64 8590196736, .int .i64 (-33554432), .int .i64 1099578736640, .int .i64 (-8589934592), .int .i64 1099511627776], .int .i64 0]) w) := fun w h k => by
    have c := on_spr (dgm 1099511627776 1099511627776 1099511627776) 0 0 0 (dgm_i6 (by decide) (by decide) (by decide)) (by decide) (by decide) (by decide) w h k
    simp only [sv, n0, n1, n2, n3, n4, n5, n6] at c
    exact c
  clear n0 n1 n2 n3 n4 n5 n6
  go_enter Tryd.func12, Tryd.ntmps12
  go_wp2_with fail
  refine (cD _ hp).mono ?_
  rintro e1 w1 ⟨rfl, hb1⟩
  replace hl := ml_keep hb1 hl
  replace hp := pl_keep hb1 hp
  go_wp2_with fail
  refine (cO _ hl hp).mono ?_
  rintro e2 w2 ⟨rfl, hb2⟩
  replace hb1 := b_trans hb1 hb2
  clear hl hp hb2 cD cO
  go_wp2
  go_ret
  exact ⟨rfl, b_alloc hb1⟩

/-- Two matrices held against one another: one with itself. -/
theorem sym_eq_self (x0 x1 x2 x3 x4 x5 : Int) (w : World) : (Op.equalIn 10000 23 (.agg #[.int .i64 x0, .int .i64 x1, .int .i64 x2, .int .i64 x3, .int .i64 x4, .int .i64 x5]) (.agg #[.int .i64 x0, .int .i64 x1, .int .i64 x2, .int .i64 x3, .int .i64 x4, .int .i64 x5])).run Tryd.prog w = .ok true w := by
  have hs : (Tryd.prog.info? 2).isSome = true := by kernel_rfl
  obtain ⟨i, hi⟩ := Option.isSome_iff_exists.1 hs
  have hc : Tryd.prog.cellsOf 2 = 1 := by kernel_rfl
  have hp : Tryd.prog.plainKey 2 = true := by kernel_rfl
  rw [run_equalIn_array w 9999 _ _ Tryd.underlying23 hi]
  rw [hc]
  have P := fun (k : Nat) (v : Value) (h : (#[Value.int IntKind.i64 x0, Value.int IntKind.i64 x1, Value.int IntKind.i64 x2, Value.int IntKind.i64 x3, Value.int IntKind.i64 x4, Value.int IntKind.i64 x5] : Array Value)[k * 1]? = some v) (w : World) => run_part_plain w hp h
  have E := fun (a : Int) (w : World) => run_equalIn_int w 9998 2 .i64 .i64 a a Tryd.underlying2
  simp only [List.range, List.range.loop, Op.eqItems, Sem.run_bind, P 0 _ rfl, Result.andThen_ok]
  simp [P 1 _ rfl, P 2 _ rfl, P 3 _ rfl, P 4 _ rfl, P 5 _ rfl, E]
/-- Two wide numbers held against one another: one with itself. -/
theorem wide_eq_self (h l : Int) (w : World) : (Op.equalIn 10000 33 (wv h l) (wv h l)).run Tryd.prog w = .ok true w := by
  simp [go_sem]
end Go.Proofs.YtlpmmnfijfljoaaDoor

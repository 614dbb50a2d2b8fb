/- Rows: Add and Scale of the program. -/
import Derived.Test.YtplhienacfiiaaaDoorVecE
namespace Go.Proofs.YtplhienacfiiaaaDoor
open Go.RowKit Go.Shelf

set_option maxHeartbeats 1000000 in
set_option maxRecDepth 10000 in
theorem add3_vec_bad (a0 a1 a2 b0 b1 b2 : Int) (ha0 : I64 a0) (ha1 : I64 a1) (ha2 : I64 a2) (hb0 : I64 b0) (hb1 : I64 b1) (hb2 : I64 b2) (c : ¬ (F3 a0 a1 a2 ∧ F3 b0 b1 b2)) (w : World) :
    Calls Tryd.prog 18 #[tv a0 a1 a2, tv b0 b1 b2] w (RetV (.tuple #[tv 0 0 0, .int .i64 1]) w) := by
  by_cases ca : F3 a0 a1 a2
  · have ea := Lib.hid (f3b_yes ca)
    have eb := Lib.hid (f3b_no (fun h => c ⟨ca, h⟩))
    clear ca c
    have kA : TC (((w.alloc (Obj.cells #[.int .i64 a0, .int .i64 a1, .int .i64 a2] 23)).alloc (Obj.cells #[.int .i64 b0, .int .i64 b1, .int .i64 b2] 23)).alloc (Obj.cells #[.int .i64 0, .int .i64 0, .int .i64 0] 23)) (w.heap.size) a0 a1 a2 := tc_alloc (tc_alloc (tc_new rfl))
    have kB : TC (((w.alloc (Obj.cells #[.int .i64 a0, .int .i64 a1, .int .i64 a2] 23)).alloc (Obj.cells #[.int .i64 b0, .int .i64 b1, .int .i64 b2] 23)).alloc (Obj.cells #[.int .i64 0, .int .i64 0, .int .i64 0] 23)) (w.heap.size + 1) b0 b1 b2 := tc_alloc (tc_new (by simp))
    have qc : TC (((w.alloc (Obj.cells #[.int .i64 a0, .int .i64 a1, .int .i64 a2] 23)).alloc (Obj.cells #[.int .i64 b0, .int .i64 b1, .int .i64 b2] 23)).alloc (Obj.cells #[.int .i64 0, .int .i64 0, .int .i64 0] 23)) (w.heap.size + 1 + 1) 0 0 0 := tc_new (by simp)
    have qf : TF (((w.alloc (Obj.cells #[.int .i64 a0, .int .i64 a1, .int .i64 a2] 23)).alloc (Obj.cells #[.int .i64 b0, .int .i64 b1, .int .i64 b2] 23)).alloc (Obj.cells #[.int .i64 0, .int .i64 0, .int .i64 0] 23)) (w.heap.size + 1 + 1) := tf_new (by simp)
    have B0 : Below w.heap.size w (((w.alloc (Obj.cells #[.int .i64 a0, .int .i64 a1, .int .i64 a2] 23)).alloc (Obj.cells #[.int .i64 b0, .int .i64 b1, .int .i64 b2] 23)).alloc (Obj.cells #[.int .i64 0, .int .i64 0, .int .i64 0] 23)) := b_alloc (b_alloc (b_alloc (Below.refl _ _)))
    go_enter Tryd.func18, Tryd.ntmps18
    go_wp2_with fail
    refine (fits3_vec a0 a1 a2 ha0 ha1 ha2 _).mono ?_
    rintro e1 w1 ⟨rfl, hb9⟩
    rw [ea.out]
    have qf9 := tf_keep hb9 qc qf
    replace kA := tc_keep hb9 kA
    replace kB := tc_keep hb9 kB
    replace qc := tc_keep hb9 qc
    replace B0 := b_trans B0 hb9
    clear qf
    have qf := qf9
    clear qf9 hb9
    go_wp2_with fail
    refine (fits3_vec b0 b1 b2 hb0 hb1 hb2 _).mono ?_
    rintro e2 w2 ⟨rfl, hb9⟩
    rw [eb.out]
    have qf9 := tf_keep hb9 qc qf
    replace kA := tc_keep hb9 kA
    replace kB := tc_keep hb9 kB
    replace qc := tc_keep hb9 qc
    replace B0 := b_trans B0 hb9
    clear qf
    have qf := qf9
    clear qf9 hb9
    have B9 := b_set (p := ⟨w.heap.size + 1 + 1, 2, none⟩) (v := .int .i64 0) (b_set (p := ⟨w.heap.size + 1 + 1, 1, none⟩) (v := .int .i64 0) (b_set (p := ⟨w.heap.size + 1 + 1, 0, none⟩) (v := .int .i64 0) B0 (Nat.le_trans (Nat.le_succ _) (Nat.le_succ _))) (Nat.le_trans (Nat.le_succ _) (Nat.le_succ _))) (Nat.le_trans (Nat.le_succ _) (Nat.le_succ _))
    clear kA kB B0
    go_wp2
    exact bodyPost_ret (v := .tuple #[tv 0 0 0, .int .i64 1]) (by simp [results, Tryd.results18, go_sem, qc]) rfl ⟨rfl, B9⟩
  · have ea := Lib.hid (f3b_no ca)
    clear ca c
    have kA : TC (((w.alloc (Obj.cells #[.int .i64 a0, .int .i64 a1, .int .i64 a2] 23)).alloc (Obj.cells #[.int .i64 b0, .int .i64 b1, .int .i64 b2] 23)).alloc (Obj.cells #[.int .i64 0, .int .i64 0, .int .i64 0] 23)) (w.heap.size) a0 a1 a2 := tc_alloc (tc_alloc (tc_new rfl))
    have kB : TC (((w.alloc (Obj.cells #[.int .i64 a0, .int .i64 a1, .int .i64 a2] 23)).alloc (Obj.cells #[.int .i64 b0, .int .i64 b1, .int .i64 b2] 23)).alloc (Obj.cells #[.int .i64 0, .int .i64 0, .int .i64 0] 23)) (w.heap.size + 1) b0 b1 b2 := tc_alloc (tc_new (by simp))
    have qc : TC (((w.alloc (Obj.cells #[.int .i64 a0, .int .i64 a1, .int .i64 a2] 23)).alloc (Obj.cells #[.int .i64 b0, .int .i64 b1, .int .i64 b2] 23)).alloc (Obj.cells #[.int .i64 0, .int .i64 0, .int .i64 0] 23)) (w.heap.size + 1 + 1) 0 0 0 := tc_new (by simp)
    have qf : TF (((w.alloc (Obj.cells #[.int .i64 a0, .int .i64 a1, .int .i64 a2] 23)).alloc (Obj.cells #[.int .i64 b0, .int .i64 b1, .int .i64 b2] 23)).alloc (Obj.cells #[.int .i64 0, .int .i64 0, .int .i64 0] 23)) (w.heap.size + 1 + 1) := tf_new (by simp)
    have B0 : Below w.heap.size w (((w.alloc (Obj.cells #[.int .i64 a0, .int .i64 a1, .int .i64 a2] 23)).alloc (Obj.cells #[.int .i64 b0, .int .i64 b1, .int .i64 b2] 23)).alloc (Obj.cells #[.int .i64 0, .int .i64 0, .int .i64 0] 23)) := b_alloc (b_alloc (b_alloc (Below.refl _ _)))
    go_enter Tryd.func18, Tryd.ntmps18
    go_wp2_with fail
    refine (fits3_vec a0 a1 a2 ha0 ha1 ha2 _).mono ?_
    rintro e1 w1 ⟨rfl, hb9⟩
    rw [ea.out]
    have qf9 := tf_keep hb9 qc qf
    replace kA := tc_keep hb9 kA
    replace kB := tc_keep hb9 kB
    replace qc := tc_keep hb9 qc
    replace B0 := b_trans B0 hb9
    clear qf
    have qf := qf9
    clear qf9 hb9
    have B9 := b_set (p := ⟨w.heap.size + 1 + 1, 2, none⟩) (v := .int .i64 0) (b_set (p := ⟨w.heap.size + 1 + 1, 1, none⟩) (v := .int .i64 0) (b_set (p := ⟨w.heap.size + 1 + 1, 0, none⟩) (v := .int .i64 0) B0 (Nat.le_trans (Nat.le_succ _) (Nat.le_succ _))) (Nat.le_trans (Nat.le_succ _) (Nat.le_succ _))) (Nat.le_trans (Nat.le_succ _) (Nat.le_succ _))
    clear kA kB B0
    go_wp2
    exact bodyPost_ret (v := .tuple #[tv 0 0 0, .int .i64 1]) (by simp [results, Tryd.results18, go_sem, qc]) rfl ⟨rfl, B9⟩
set_option maxHeartbeats 1000000 in
set_option maxRecDepth 10000 in
theorem add3_vec_ok (a0 a1 a2 b0 b1 b2 x0 x1 x2 e0 e1 e2 : Int) (ha0 : I64 a0) (ha1 : I64 a1) (ha2 : I64 a2) (hb0 : I64 b0) (hb1 : I64 b1) (hb2 : I64 b2) (ca : F3 a0 a1 a2) (cb : F3 b0 b1 b2)
    (c0 : ∀ w, Calls Tryd.prog 34 #[.int .i64 a0, .int .i64 b0] w (RetV (.tuple #[.int .i64 x0, .int .i64 e0]) w))
    (c1 : ∀ w, Calls Tryd.prog 34 #[.int .i64 a1, .int .i64 b1] w (RetV (.tuple #[.int .i64 x1, .int .i64 e1]) w))
    (c2 : ∀ w, Calls Tryd.prog 34 #[.int .i64 a2, .int .i64 b2] w (RetV (.tuple #[.int .i64 x2, .int .i64 e2]) w)) (w : World) :
    Calls Tryd.prog 18 #[tv a0 a1 a2, tv b0 b1 b2] w (RetV (.tuple #[tv (tz x0 e0 e1 e2) (tz x1 e0 e1 e2) (tz x2 e0 e1 e2), .int .i64 (te e0 e1 e2)]) w) := by
  have ea := Lib.hid (f3b_yes ca)
  have eb := Lib.hid (f3b_yes cb)
  clear ca cb
  have kA : TC (((w.alloc (Obj.cells #[.int .i64 a0, .int .i64 a1, .int .i64 a2] 23)).alloc (Obj.cells #[.int .i64 b0, .int .i64 b1, .int .i64 b2] 23)).alloc (Obj.cells #[.int .i64 0, .int .i64 0, .int .i64 0] 23)) (w.heap.size) a0 a1 a2 := tc_alloc (tc_alloc (tc_new rfl))
  have kB : TC (((w.alloc (Obj.cells #[.int .i64 a0, .int .i64 a1, .int .i64 a2] 23)).alloc (Obj.cells #[.int .i64 b0, .int .i64 b1, .int .i64 b2] 23)).alloc (Obj.cells #[.int .i64 0, .int .i64 0, .int .i64 0] 23)) (w.heap.size + 1) b0 b1 b2 := tc_alloc (tc_new (by simp))
  have qc : TC (((w.alloc (Obj.cells #[.int .i64 a0, .int .i64 a1, .int .i64 a2] 23)).alloc (Obj.cells #[.int .i64 b0, .int .i64 b1, .int .i64 b2] 23)).alloc (Obj.cells #[.int .i64 0, .int .i64 0, .int .i64 0] 23)) (w.heap.size + 1 + 1) 0 0 0 := tc_new (by simp)
  have qf : TF (((w.alloc (Obj.cells #[.int .i64 a0, .int .i64 a1, .int .i64 a2] 23)).alloc (Obj.cells #[.int .i64 b0, .int .i64 b1, .int .i64 b2] 23)).alloc (Obj.cells #[.int .i64 0, .int .i64 0, .int .i64 0] 23)) (w.heap.size + 1 + 1) := tf_new (by simp)
  have B0 : Below w.heap.size w (((w.alloc (Obj.cells #[.int .i64 a0, .int .i64 a1, .int .i64 a2] 23)).alloc (Obj.cells #[.int .i64 b0, .int .i64 b1, .int .i64 b2] 23)).alloc (Obj.cells #[.int .i64 0, .int .i64 0, .int .i64 0] 23)) := b_alloc (b_alloc (b_alloc (Below.refl _ _)))
  have hmf : ∀ (fn : Fn) (first cap : Array Value) (w : World), (Instr.makeFunc fn first cap).run Tryd.prog w = .ok (.func fn first cap) w := fun _ _ _ _ => rfl
  go_enter Tryd.func18, Tryd.ntmps18
  go_wp2_with fail
  refine (fits3_vec a0 a1 a2 ha0 ha1 ha2 _).mono ?_
  rintro e1 w1 ⟨rfl, hb9⟩
  rw [ea.out]
  have qf9 := tf_keep hb9 qc qf
  replace kA := tc_keep hb9 kA
  replace kB := tc_keep hb9 kB
  replace qc := tc_keep hb9 qc
  replace B0 := b_trans B0 hb9
  clear qf
  have qf := qf9
  clear qf9 hb9
  go_wp2_with fail
  refine (fits3_vec b0 b1 b2 hb0 hb1 hb2 _).mono ?_
  rintro e2 w2 ⟨rfl, hb9⟩
  rw [eb.out]
  have qf9 := tf_keep hb9 qc qf
  replace kA := tc_keep hb9 kA
  replace kB := tc_keep hb9 kB
  replace qc := tc_keep hb9 qc
  replace B0 := b_trans B0 hb9
  clear qf
  have qf := qf9
  clear qf9 hb9
  have cE := each_add_any (w.heap.size) (w.heap.size + 1) x0 x1 x2 e0 e1 e2 _ (fun w' hb => clo_add_0 _ _ _ _ _ _ _ _ _ _ w' (tc_keep hb kA) (tc_keep hb kB) c0) (fun w' hb => clo_add_1 _ _ _ _ _ _ _ _ _ _ w' (tc_keep hb kA) (tc_keep hb kB) c1) (fun w' hb => clo_add_2 _ _ _ _ _ _ _ _ _ _ w' (tc_keep hb kA) (tc_keep hb kB) c2)
  clear c0 c1 c2
  generalize tz x0 e0 e1 e2 = y0 at *
  generalize tz x1 e0 e1 e2 = y1 at *
  generalize tz x2 e0 e1 e2 = y2 at *
  generalize te e0 e1 e2 = y3 at *
  go_wp2_with fail
  refine cE.mono ?_
  rintro e9 w9 ⟨rfl, hb9⟩
  clear cE
  have qf9 := tf_keep hb9 qc qf
  replace kA := tc_keep hb9 kA
  replace kB := tc_keep hb9 kB
  replace qc := tc_keep hb9 qc
  replace B0 := b_trans B0 hb9
  clear qf
  have qf := qf9
  clear qf9 hb9
  have B9 := b_set (p := ⟨w.heap.size + 1 + 1, 2, none⟩) (v := .int .i64 y2) (b_set (p := ⟨w.heap.size + 1 + 1, 1, none⟩) (v := .int .i64 y1) (b_set (p := ⟨w.heap.size + 1 + 1, 0, none⟩) (v := .int .i64 y0) B0 (Nat.le_trans (Nat.le_succ _) (Nat.le_succ _))) (Nat.le_trans (Nat.le_succ _) (Nat.le_succ _))) (Nat.le_trans (Nat.le_succ _) (Nat.le_succ _))
  clear kA kB B0
  go_wp2
  exact bodyPost_ret (v := .tuple #[tv y0 y1 y2, .int .i64 y3]) (by simp [results, Tryd.results18, go_sem, qc]) rfl ⟨rfl, B9⟩

set_option maxHeartbeats 1000000 in
set_option maxRecDepth 10000 in
theorem scale3_vec_bad (a0 a1 a2 k : Int) (ha0 : I64 a0) (ha1 : I64 a1) (ha2 : I64 a2) (hk : I64 k) (c : ¬ (F3 a0 a1 a2 ∧ FitP k)) (w : World) :
    Calls Tryd.prog 16 #[tv a0 a1 a2, .int .i64 k] w (RetV (.tuple #[tv 0 0 0, .int .i64 1]) w) := by
  by_cases ca : F3 a0 a1 a2
  · have ea := Lib.hid (f3b_yes ca)
    have eb := Lib.hid (fitb_no (fun h => c ⟨ca, h⟩))
    clear ca c
    have kA : TC (((w.alloc (Obj.cells #[.int .i64 a0, .int .i64 a1, .int .i64 a2] 23)).alloc (Obj.cells #[.int .i64 k] 2)).alloc (Obj.cells #[.int .i64 0, .int .i64 0, .int .i64 0] 23)) (w.heap.size) a0 a1 a2 := tc_alloc (tc_alloc (tc_new rfl))
    have kB : ((((w.alloc (Obj.cells #[.int .i64 a0, .int .i64 a1, .int .i64 a2] 23)).alloc (Obj.cells #[.int .i64 k] 2)).alloc (Obj.cells #[.int .i64 0, .int .i64 0, .int .i64 0] 23))).cell? ⟨w.heap.size + 1, 0, none⟩ = some (.int .i64 k) := cell_keep (b_alloc (Below.refl _ _)) (by simp [go_sem])
    have qc : TC (((w.alloc (Obj.cells #[.int .i64 a0, .int .i64 a1, .int .i64 a2] 23)).alloc (Obj.cells #[.int .i64 k] 2)).alloc (Obj.cells #[.int .i64 0, .int .i64 0, .int .i64 0] 23)) (w.heap.size + 1 + 1) 0 0 0 := tc_new (by simp)
    have qf : TF (((w.alloc (Obj.cells #[.int .i64 a0, .int .i64 a1, .int .i64 a2] 23)).alloc (Obj.cells #[.int .i64 k] 2)).alloc (Obj.cells #[.int .i64 0, .int .i64 0, .int .i64 0] 23)) (w.heap.size + 1 + 1) := tf_new (by simp)
    have B0 : Below w.heap.size w (((w.alloc (Obj.cells #[.int .i64 a0, .int .i64 a1, .int .i64 a2] 23)).alloc (Obj.cells #[.int .i64 k] 2)).alloc (Obj.cells #[.int .i64 0, .int .i64 0, .int .i64 0] 23)) := b_alloc (b_alloc (b_alloc (Below.refl _ _)))
    go_enter Tryd.func16, Tryd.ntmps16
    go_wp2_with fail
    refine (fits3_vec a0 a1 a2 ha0 ha1 ha2 _).mono ?_
    rintro e1 w1 ⟨rfl, hb9⟩
    rw [ea.out]
    have qf9 := tf_keep hb9 qc qf
    replace kA := tc_keep hb9 kA
    replace kB := cell_keep hb9 kB
    replace qc := tc_keep hb9 qc
    replace B0 := b_trans B0 hb9
    clear qf
    have qf := qf9
    clear qf9 hb9
    go_wp2_with fail
    refine (fits_any k hk.1 hk.2 _).mono ?_
    rintro e2 w2 ⟨rfl, rfl⟩
    rw [eb.out]
    have B9 := b_set (p := ⟨w.heap.size + 1 + 1, 2, none⟩) (v := .int .i64 0) (b_set (p := ⟨w.heap.size + 1 + 1, 1, none⟩) (v := .int .i64 0) (b_set (p := ⟨w.heap.size + 1 + 1, 0, none⟩) (v := .int .i64 0) B0 (Nat.le_trans (Nat.le_succ _) (Nat.le_succ _))) (Nat.le_trans (Nat.le_succ _) (Nat.le_succ _))) (Nat.le_trans (Nat.le_succ _) (Nat.le_succ _))
    clear kA kB B0
    go_wp2
    exact bodyPost_ret (v := .tuple #[tv 0 0 0, .int .i64 1]) (by simp [results, Tryd.results16, go_sem, qc]) rfl ⟨rfl, B9⟩
  · have ea := Lib.hid (f3b_no ca)
    clear ca c
    have kA : TC (((w.alloc (Obj.cells #[.int .i64 a0, .int .i64 a1, .int .i64 a2] 23)).alloc (Obj.cells #[.int .i64 k] 2)).alloc (Obj.cells #[.int .i64 0, .int .i64 0, .int .i64 0] 23)) (w.heap.size) a0 a1 a2 := tc_alloc (tc_alloc (tc_new rfl))
    have kB : ((((w.alloc (Obj.cells #[.int .i64 a0, .int .i64 a1, .int .i64 a2] 23)).alloc (Obj.cells #[.int .i64 k] 2)).alloc (Obj.cells #[.int .i64 0, .int .i64 0, .int .i64 0] 23))).cell? ⟨w.heap.size + 1, 0, none⟩ = some (.int .i64 k) := cell_keep (b_alloc (Below.refl _ _)) (by simp [go_sem])
    have qc : TC (((w.alloc (Obj.cells #[.int .i64 a0, .int .i64 a1, .int .i64 a2] 23)).alloc (Obj.cells #[.int .i64 k] 2)).alloc (Obj.cells #[.int .i64 0, .int .i64 0, .int .i64 0] 23)) (w.heap.size + 1 + 1) 0 0 0 := tc_new (by simp)
    have qf : TF (((w.alloc (Obj.cells #[.int .i64 a0, .int .i64 a1, .int .i64 a2] 23)).alloc (Obj.cells #[.int .i64 k] 2)).alloc (Obj.cells #[.int .i64 0, .int .i64 0, .int .i64 0] 23)) (w.heap.size + 1 + 1) := tf_new (by simp)
    have B0 : Below w.heap.size w (((w.alloc (Obj.cells #[.int .i64 a0, .int .i64 a1, .int .i64 a2] 23)).alloc (Obj.cells #[.int .i64 k] 2)).alloc (Obj.cells #[.int .i64 0, .int .i64 0, .int .i64 0] 23)) := b_alloc (b_alloc (b_alloc (Below.refl _ _)))
    go_enter Tryd.func16, Tryd.ntmps16
    go_wp2_with fail
    refine (fits3_vec a0 a1 a2 ha0 ha1 ha2 _).mono ?_
    rintro e1 w1 ⟨rfl, hb9⟩
    rw [ea.out]
    have qf9 := tf_keep hb9 qc qf
    replace kA := tc_keep hb9 kA
    replace kB := cell_keep hb9 kB
    replace qc := tc_keep hb9 qc
    replace B0 := b_trans B0 hb9
    clear qf
    have qf := qf9
    clear qf9 hb9
    have B9 := b_set (p := ⟨w.heap.size + 1 + 1, 2, none⟩) (v := .int .i64 0) (b_set (p := ⟨w.heap.size + 1 + 1, 1, none⟩) (v := .int .i64 0) (b_set (p := ⟨w.heap.size + 1 + 1, 0, none⟩) (v := .int .i64 0) B0 (Nat.le_trans (Nat.le_succ _) (Nat.le_succ _))) (Nat.le_trans (Nat.le_succ _) (Nat.le_succ _))) (Nat.le_trans (Nat.le_succ _) (Nat.le_succ _))
    clear kA kB B0
    go_wp2
    exact bodyPost_ret (v := .tuple #[tv 0 0 0, .int .i64 1]) (by simp [results, Tryd.results16, go_sem, qc]) rfl ⟨rfl, B9⟩
set_option maxHeartbeats 1000000 in
set_option maxRecDepth 10000 in
theorem scale3_vec_ok (a0 a1 a2 k x0 x1 x2 e0 e1 e2 : Int) (ha0 : I64 a0) (ha1 : I64 a1) (ha2 : I64 a2) (hk : I64 k) (ca : F3 a0 a1 a2) (cb : FitP k)
    (c0 : ∀ w, Calls Tryd.prog 32 #[.int .i64 a0, .int .i64 k] w (RetV (.tuple #[.int .i64 x0, .int .i64 e0]) w))
    (c1 : ∀ w, Calls Tryd.prog 32 #[.int .i64 a1, .int .i64 k] w (RetV (.tuple #[.int .i64 x1, .int .i64 e1]) w))
    (c2 : ∀ w, Calls Tryd.prog 32 #[.int .i64 a2, .int .i64 k] w (RetV (.tuple #[.int .i64 x2, .int .i64 e2]) w)) (w : World) :
    Calls Tryd.prog 16 #[tv a0 a1 a2, .int .i64 k] w (RetV (.tuple #[tv (tz x0 e0 e1 e2) (tz x1 e0 e1 e2) (tz x2 e0 e1 e2), .int .i64 (te e0 e1 e2)]) w) := by
  have ea := Lib.hid (f3b_yes ca)
  have eb := Lib.hid (fitb_yes cb)
  clear ca cb
  have kA : TC (((w.alloc (Obj.cells #[.int .i64 a0, .int .i64 a1, .int .i64 a2] 23)).alloc (Obj.cells #[.int .i64 k] 2)).alloc (Obj.cells #[.int .i64 0, .int .i64 0, .int .i64 0] 23)) (w.heap.size) a0 a1 a2 := tc_alloc (tc_alloc (tc_new rfl))
  have kB : ((((w.alloc (Obj.cells #[.int .i64 a0, .int .i64 a1, .int .i64 a2] 23)).alloc (Obj.cells #[.int .i64 k] 2)).alloc (Obj.cells #[.int .i64 0, .int .i64 0, .int .i64 0] 23))).cell? ⟨w.heap.size + 1, 0, none⟩ = some (.int .i64 k) := cell_keep (b_alloc (Below.refl _ _)) (by simp [go_sem])
  have qc : TC (((w.alloc (Obj.cells #[.int .i64 a0, .int .i64 a1, .int .i64 a2] 23)).alloc (Obj.cells #[.int .i64 k] 2)).alloc (Obj.cells #[.int .i64 0, .int .i64 0, .int .i64 0] 23)) (w.heap.size + 1 + 1) 0 0 0 := tc_new (by simp)
  have qf : TF (((w.alloc (Obj.cells #[.int .i64 a0, .int .i64 a1, .int .i64 a2] 23)).alloc (Obj.cells #[.int .i64 k] 2)).alloc (Obj.cells #[.int .i64 0, .int .i64 0, .int .i64 0] 23)) (w.heap.size + 1 + 1) := tf_new (by simp)
  have B0 : Below w.heap.size w (((w.alloc (Obj.cells #[.int .i64 a0, .int .i64 a1, .int .i64 a2] 23)).alloc (Obj.cells #[.int .i64 k] 2)).alloc (Obj.cells #[.int .i64 0, .int .i64 0, .int .i64 0] 23)) := b_alloc (b_alloc (b_alloc (Below.refl _ _)))
  have hmf : ∀ (fn : Fn) (first cap : Array Value) (w : World), (Instr.makeFunc fn first cap).run Tryd.prog w = .ok (.func fn first cap) w := fun _ _ _ _ => rfl
  go_enter Tryd.func16, Tryd.ntmps16
  go_wp2_with fail
  refine (fits3_vec a0 a1 a2 ha0 ha1 ha2 _).mono ?_
  rintro e1 w1 ⟨rfl, hb9⟩
  rw [ea.out]
  have qf9 := tf_keep hb9 qc qf
  replace kA := tc_keep hb9 kA
  replace kB := cell_keep hb9 kB
  replace qc := tc_keep hb9 qc
  replace B0 := b_trans B0 hb9
  clear qf
  have qf := qf9
  clear qf9 hb9
  go_wp2_with fail
  refine (fits_any k hk.1 hk.2 _).mono ?_
  rintro e2 w2 ⟨rfl, rfl⟩
  rw [eb.out]
  have cE := each_scale_any (w.heap.size) (w.heap.size + 1) x0 x1 x2 e0 e1 e2 _ (fun w' hb => clo_scale_0 _ _ _ _ _ _ _ _ w' (tc_keep hb kA) (cell_keep hb kB) c0) (fun w' hb => clo_scale_1 _ _ _ _ _ _ _ _ w' (tc_keep hb kA) (cell_keep hb kB) c1) (fun w' hb => clo_scale_2 _ _ _ _ _ _ _ _ w' (tc_keep hb kA) (cell_keep hb kB) c2)
  clear c0 c1 c2
  generalize tz x0 e0 e1 e2 = y0 at *
  generalize tz x1 e0 e1 e2 = y1 at *
  generalize tz x2 e0 e1 e2 = y2 at *
  generalize te e0 e1 e2 = y3 at *
  go_wp2_with fail
  refine cE.mono ?_
  rintro e9 w9 ⟨rfl, hb9⟩
  clear cE
  have qf9 := tf_keep hb9 qc qf
  replace kA := tc_keep hb9 kA
  replace kB := cell_keep hb9 kB
  replace qc := tc_keep hb9 qc
  replace B0 := b_trans B0 hb9
  clear qf
  have qf := qf9
  clear qf9 hb9
  have B9 := b_set (p := ⟨w.heap.size + 1 + 1, 2, none⟩) (v := .int .i64 y2) (b_set (p := ⟨w.heap.size + 1 + 1, 1, none⟩) (v := .int .i64 y1) (b_set (p := ⟨w.heap.size + 1 + 1, 0, none⟩) (v := .int .i64 y0) B0 (Nat.le_trans (Nat.le_succ _) (Nat.le_succ _))) (Nat.le_trans (Nat.le_succ _) (Nat.le_succ _))) (Nat.le_trans (Nat.le_succ _) (Nat.le_succ _))
  clear kA kB B0
  go_wp2
  exact bodyPost_ret (v := .tuple #[tv y0 y1 y2, .int .i64 y3]) (by simp [results, Tryd.results16, go_sem, qc]) rfl ⟨rfl, B9⟩

end Go.Proofs.YtplhienacfiiaaaDoor

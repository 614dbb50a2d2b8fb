/- Rows: Clamp and Fits of the program and the document. -/
import Derived.Test.YtplhienacfiiaaaDoorVecC
namespace Go.Proofs.YtplhienacfiiaaaDoor
open Go.RowKit Go.Shelf

/-- What comes of three answers: a number, if none has failed, else 0; the first error. -/
def tz (x e0 e1 e2 : Int) : Int := if e0 = 0 ∧ e1 = 0 ∧ e2 = 0 then x else 0
def te (e0 e1 e2 : Int) : Int := if e0 = 0 then (if e1 = 0 then e2 else e1) else e0
theorem tz_0 {e0 : Int} (h : ¬ e0 = 0) (x e1 e2 : Int) : tz x e0 e1 e2 = 0 ∧ te e0 e1 e2 = e0 := ⟨if_neg (fun c => h c.1), if_neg h⟩
theorem tz_1 {e1 : Int} (h : ¬ e1 = 0) (x e2 : Int) : tz x 0 e1 e2 = 0 ∧ te 0 e1 e2 = e1 := ⟨if_neg (fun c => h c.2.1), by unfold te; rw [if_pos rfl, if_neg h]⟩
theorem tz_2 {e2 : Int} (h : ¬ e2 = 0) (x : Int) : tz x 0 0 e2 = 0 ∧ te 0 0 e2 = e2 := ⟨if_neg (fun c => h c.2.2), by unfold te; rw [if_pos rfl, if_pos rfl]⟩
theorem tz_3 (x : Int) : tz x 0 0 0 = x ∧ te 0 0 0 = 0 := ⟨if_pos ⟨rfl, rfl, rfl⟩, rfl⟩
theorem neq_of {e : Int} (h : ¬ e = 0) : (e == 0) = false := by simpa using h

theorem clz_i64 {x m : Int} (hx : I64 x) (hm : I64 m) : I64 (clz x m) := by
  unfold clz
  refine ⟨?_, ?_⟩
  · split <;> (try split) <;> (try split) <;> omega
  · split <;> (try split) <;> (try split) <;> omega
theorem each_add_any (A B : Nat) (x0 x1 x2 e0 e1 e2 : Int) (w : World)
    (d0 : ∀ w', Below w.heap.size w w' → Calls Tryd.prog 33 #[.int .i64 0, .pointer (some ⟨A, 0, none⟩), .pointer (some ⟨B, 0, none⟩)] w' (RetV (.tuple #[.int .i64 x0, .int .i64 e0]) w'))
    (d1 : ∀ w', Below w.heap.size w w' → Calls Tryd.prog 33 #[.int .i64 1, .pointer (some ⟨A, 0, none⟩), .pointer (some ⟨B, 0, none⟩)] w' (RetV (.tuple #[.int .i64 x1, .int .i64 e1]) w'))
    (d2 : ∀ w', Below w.heap.size w w' → Calls Tryd.prog 33 #[.int .i64 2, .pointer (some ⟨A, 0, none⟩), .pointer (some ⟨B, 0, none⟩)] w' (RetV (.tuple #[.int .i64 x2, .int .i64 e2]) w')) :
    Calls Tryd.prog 30 #[.func (.func 33) #[] #[.pointer (some ⟨A, 0, none⟩), .pointer (some ⟨B, 0, none⟩)]] w (RetV (.tuple #[tv (tz x0 e0 e1 e2) (tz x1 e0 e1 e2) (tz x2 e0 e1 e2), .int .i64 (te e0 e1 e2)]) w) := by
  by_cases h0 : e0 = 0
  · subst h0
    by_cases h1 : e1 = 0
    · subst h1
      by_cases h2 : e2 = 0
      · subst h2
        rw [(tz_3 x0).1, (tz_3 x1).1, (tz_3 x2).1, (tz_3 x0).2]
        exact each_add_3 A B x0 x1 x2 w d0 d1 d2
      · rw [(tz_2 h2 x0).1, (tz_2 h2 x1).1, (tz_2 h2 x2).1, (tz_2 h2 x0).2]
        exact each_add_2 A B x0 x1 x2 e2 (neq_of h2) w d0 d1 d2
    · rw [(tz_1 h1 x0 e2).1, (tz_1 h1 x1 e2).1, (tz_1 h1 x2 e2).1, (tz_1 h1 x0 e2).2]
      exact each_add_1 A B x0 x1 e1 (neq_of h1) w d0 d1
  · rw [(tz_0 h0 x0 e1 e2).1, (tz_0 h0 x1 e1 e2).1, (tz_0 h0 x2 e1 e2).1, (tz_0 h0 x0 e1 e2).2]
    exact each_add_0 A B x0 e0 (neq_of h0) w d0
theorem each_scale_any (A B : Nat) (x0 x1 x2 e0 e1 e2 : Int) (w : World)
    (d0 : ∀ w', Below w.heap.size w w' → Calls Tryd.prog 31 #[.int .i64 0, .pointer (some ⟨A, 0, none⟩), .pointer (some ⟨B, 0, none⟩)] w' (RetV (.tuple #[.int .i64 x0, .int .i64 e0]) w'))
    (d1 : ∀ w', Below w.heap.size w w' → Calls Tryd.prog 31 #[.int .i64 1, .pointer (some ⟨A, 0, none⟩), .pointer (some ⟨B, 0, none⟩)] w' (RetV (.tuple #[.int .i64 x1, .int .i64 e1]) w'))
    (d2 : ∀ w', Below w.heap.size w w' → Calls Tryd.prog 31 #[.int .i64 2, .pointer (some ⟨A, 0, none⟩), .pointer (some ⟨B, 0, none⟩)] w' (RetV (.tuple #[.int .i64 x2, .int .i64 e2]) w')) :
    Calls Tryd.prog 30 #[.func (.func 31) #[] #[.pointer (some ⟨A, 0, none⟩), .pointer (some ⟨B, 0, none⟩)]] w (RetV (.tuple #[tv (tz x0 e0 e1 e2) (tz x1 e0 e1 e2) (tz x2 e0 e1 e2), .int .i64 (te e0 e1 e2)]) w) := by
  by_cases h0 : e0 = 0
  · subst h0
    by_cases h1 : e1 = 0
    · subst h1
      by_cases h2 : e2 = 0
      · subst h2
        rw [(tz_3 x0).1, (tz_3 x1).1, (tz_3 x2).1, (tz_3 x0).2]
        exact each_scale_3 A B x0 x1 x2 w d0 d1 d2
      · rw [(tz_2 h2 x0).1, (tz_2 h2 x1).1, (tz_2 h2 x2).1, (tz_2 h2 x0).2]
        exact each_scale_2 A B x0 x1 x2 e2 (neq_of h2) w d0 d1 d2
    · rw [(tz_1 h1 x0 e2).1, (tz_1 h1 x1 e2).1, (tz_1 h1 x2 e2).1, (tz_1 h1 x0 e2).2]
      exact each_scale_1 A B x0 x1 e1 (neq_of h1) w d0 d1
  · rw [(tz_0 h0 x0 e1 e2).1, (tz_0 h0 x1 e1 e2).1, (tz_0 h0 x2 e1 e2).1, (tz_0 h0 x0 e1 e2).2]
    exact each_scale_0 A B x0 e0 (neq_of h0) w d0

set_option maxHeartbeats 1000000 in
set_option maxRecDepth 10000 in
theorem clamp_vec (a0 a1 a2 b0 b1 b2 : Int) (ha0 : I64 a0) (ha1 : I64 a1) (ha2 : I64 a2) (hb0 : I64 b0) (hb1 : I64 b1) (hb2 : I64 b2) (w : World) :
    Calls Tryd.prog 29 #[tv a0 a1 a2, tv b0 b1 b2] w (RetV (tv (clz a0 b0) (clz a1 b1) (clz a2 b2)) w) := by
  have c0 := clamp_fix a0 b0 ha0.1 ha0.2 hb0.1 hb0.2
  have c1 := clamp_fix a1 b1 ha1.1 ha1.2 hb1.1 hb1.2
  have c2 := clamp_fix a2 b2 ha2.1 ha2.2 hb2.1 hb2.2
  clear ha0 ha1 ha2 hb0 hb1 hb2
  generalize clz a0 b0 = x0 at *
  generalize clz a1 b1 = x1 at *
  generalize clz a2 b2 = x2 at *
  have kA : TC (((w.alloc (Obj.cells #[.int .i64 a0, .int .i64 a1, .int .i64 a2] 23)).alloc (Obj.cells #[.int .i64 b0, .int .i64 b1, .int .i64 b2] 23)).alloc (Obj.cells #[.int .i64 0, .int .i64 0, .int .i64 0] 23)) w.heap.size a0 a1 a2 := tc_alloc (tc_alloc (tc_new rfl))
  have kB : TC (((w.alloc (Obj.cells #[.int .i64 a0, .int .i64 a1, .int .i64 a2] 23)).alloc (Obj.cells #[.int .i64 b0, .int .i64 b1, .int .i64 b2] 23)).alloc (Obj.cells #[.int .i64 0, .int .i64 0, .int .i64 0] 23)) (w.heap.size + 1) b0 b1 b2 := tc_alloc (tc_new (by simp))
  have q0 : TC (((w.alloc (Obj.cells #[.int .i64 a0, .int .i64 a1, .int .i64 a2] 23)).alloc (Obj.cells #[.int .i64 b0, .int .i64 b1, .int .i64 b2] 23)).alloc (Obj.cells #[.int .i64 0, .int .i64 0, .int .i64 0] 23)) (w.heap.size + 1 + 1) 0 0 0 := tc_new (by simp)
  have f0 : TF (((w.alloc (Obj.cells #[.int .i64 a0, .int .i64 a1, .int .i64 a2] 23)).alloc (Obj.cells #[.int .i64 b0, .int .i64 b1, .int .i64 b2] 23)).alloc (Obj.cells #[.int .i64 0, .int .i64 0, .int .i64 0] 23)) (w.heap.size + 1 + 1) := tf_new (by simp)
  have B0 : Below w.heap.size w (((w.alloc (Obj.cells #[.int .i64 a0, .int .i64 a1, .int .i64 a2] 23)).alloc (Obj.cells #[.int .i64 b0, .int .i64 b1, .int .i64 b2] 23)).alloc (Obj.cells #[.int .i64 0, .int .i64 0, .int .i64 0] 23)) := b_alloc (b_alloc (b_alloc (Below.refl _ _)))
  have hmf : ∀ (fn : Fn) (first cap : Array Value) (w : World), (Instr.makeFunc fn first cap).run Tryd.prog w = .ok (.func fn first cap) w := fun _ _ _ _ => rfl
  have cE := each_clamp_3 w.heap.size (w.heap.size + 1) x0 x1 x2 _ (fun w' hb => clo_clamp_0 _ _ _ _ _ _ _ _ _ w' (tc_keep hb kA) (tc_keep hb kB) c0) (fun w' hb => clo_clamp_1 _ _ _ _ _ _ _ _ _ w' (tc_keep hb kA) (tc_keep hb kB) c1) (fun w' hb => clo_clamp_2 _ _ _ _ _ _ _ _ _ w' (tc_keep hb kA) (tc_keep hb kB) c2)
  clear c0 c1 c2 kA kB
  go_enter Tryd.func29, Tryd.ntmps29
  go_wp2_with fail
  refine cE.mono ?_
  rintro e w1 ⟨rfl, hb1⟩
  clear cE
  have q1 := tc_alloc (o := (Obj.cells #[.int .i64 x0, .int .i64 x1, .int .i64 x2] 23)) (tc_keep hb1 q0)
  have f1 := tf_keep (b_alloc (o := (Obj.cells #[.int .i64 x0, .int .i64 x1, .int .i64 x2] 23)) (Below.refl _ _)) (tc_keep hb1 q0) (tf_keep hb1 q0 f0)
  have B1 := b_alloc (o := (Obj.cells #[.int .i64 x0, .int .i64 x1, .int .i64 x2] 23)) (b_trans B0 hb1)
  have B2 := b_set (p := ⟨w.heap.size + 1 + 1, 2, none⟩) (v := .int .i64 x2) (b_set (p := ⟨w.heap.size + 1 + 1, 1, none⟩) (v := .int .i64 x1) (b_set (p := ⟨w.heap.size + 1 + 1, 0, none⟩) (v := .int .i64 x0) B1 (Nat.le_trans (Nat.le_succ _) (Nat.le_succ _))) (Nat.le_trans (Nat.le_succ _) (Nat.le_succ _))) (Nat.le_trans (Nat.le_succ _) (Nat.le_succ _))
  clear hb1 q0 f0 B0 B1
  go_wp2
  exact bodyPost_ret (v := tv x0 x1 x2) (by simp [results, Tryd.results29, go_sem, q1]) rfl ⟨rfl, B2⟩

end Go.Proofs.YtplhienacfiiaaaDoor

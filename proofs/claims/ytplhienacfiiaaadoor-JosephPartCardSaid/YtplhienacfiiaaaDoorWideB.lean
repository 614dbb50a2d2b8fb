/- Package wide: Add, Sub, Int, Mul, wideSize, nearest, Up, Half, divide, floor, Div, Even: each call's answer, for every argument. -/
import Derived.Test.YtplhienacfiiaaaDoorWideA
namespace Go.Proofs.YtplhienacfiiaaaDoor
open Go.RowKit Go.Shelf

set_option maxHeartbeats 4000000 in
set_option maxRecDepth 10000 in
theorem add_any (ah al a bh bl b : Int) (x : IsW ah al a) (y : IsW bh bl b) (w : World) :
    Calls Tryd.prog 62 #[wv ah al, wv bh bl] w (RetWE (fz (a + b)) (fe (a + b)) w) := by
  have A1 := Lib.hid (add_yes x.fits y.fits)
  have A2 := Lib.hid (add_no x.fits y.fits)
  cases d1 : decide (a < 0) <;> cases d2 : decide (b < 0) <;> cases d3 : decide (w128 (a + b) < 0)
  all_goals
    have D := Lib.hid (And.intro d1 (And.intro d2 d3))
    go_enter Tryd.func62, Tryd.ntmps62
    go_wp2_with (go_at_call 77; refine (plus_any _ _ _ _ _ _ x y _).mono ?_; rintro e w1 ⟨rh, rl, rfl, hr, hb⟩; have k : WC w1 w.heap.size ah al ∧ WC w1 (w.heap.size + 1) bh bl := wc_keep2 hb (by simp [WC, go_sem, World.cell?_alloc_past]))
    have r1 : WC w1 (w.heap.size + 1 + 1) 0 0 := wc_keep hb (by simp [WC, go_sem])
    have f1 : WF w1 (w.heap.size + 1 + 1) := wf_keep hb (h := 0) (l := 0) (by simp [WC, go_sem]) (by simp [WF, go_sem])
    have cN := neg_any ah al a x
    rw [d1] at cN
    have cN1 := retV_regrown (w := (w1.alloc (Obj.cells #[.int .i64 rh, .int .u64 rl] 78))) cN
    have cN := neg_any bh bl b y
    rw [d2] at cN
    have cN2 := retV_regrown (w := (w1.alloc (Obj.cells #[.int .i64 rh, .int .u64 rl] 78))) cN
    have cN := neg_any rh rl _ hr
    rw [d3] at cN
    have cN3 := retV_regrown (w := (w1.alloc (Obj.cells #[.int .i64 rh, .int .u64 rl] 78))) cN
    clear cN
    have g0 := wc_regrown (wc_alloc (o := Obj.cells #[.int .i64 rh, .int .u64 rl] 78) k.1)
    have g1 := wc_regrown (wc_alloc (o := Obj.cells #[.int .i64 rh, .int .u64 rl] 78) k.2)
    have g2 : ∀ d os, WC (Sort.grow (redrawn (w1.alloc (Obj.cells #[.int .i64 rh, .int .u64 rl] 78)) d) os) w1.heap.size rh rl := wc_regrown (by simp [WC, go_sem])
    refine wp_region_quiet_below (by kernel_rfl) (by kernel_rfl) ?_
    repeat (quiet_step (first | exact cN1 _ _ | exact cN2 _ _ | exact cN3 _ _))
    refine wpQuiet_nil ?_
    intro _ hw'
    obtain ⟨⟨dq, osq⟩, hw''⟩ := hw'
    subst hw''
    have B2 : Below w.heap.size w (w1.alloc (Obj.cells #[.int .i64 rh, .int .u64 rl] 78)) := b_alloc (b_trans (b_alloc (b_alloc (b_alloc (Below.refl _ _)))) hb)
    have B3 := b_trans B2 (below_regrown (w1.alloc (Obj.cells #[.int .i64 rh, .int .u64 rl] 78)) dq osq)
    have k2 := g2 dq osq
    have k3 := wc_keep (below_regrown (w1.alloc (Obj.cells #[.int .i64 rh, .int .u64 rl] 78)) dq osq) (wc_alloc r1)
    have k4 := wf_keep (below_regrown (w1.alloc (Obj.cells #[.int .i64 rh, .int .u64 rl] 78)) dq osq) (wc_alloc r1) (wf_keep (b_alloc (Below.refl _ _)) r1 f1)
    clear cN1 cN2 cN3 g0 g1 g2 B2
    generalize Sort.grow (redrawn (w1.alloc (Obj.cells #[.int .i64 rh, .int .u64 rl] 78)) dq) osq = w2 at *
    go_wp2
    first
      | (refine bodyPost_ret (v := .tuple #[wv rh rl, .int .i64 0]) (by simp [results, Tryd.results62, go_sem, k3]) rfl ⟨rh, rl, ?_, ?_, b_set (b_set B3 (by simp; omega)) (by simp; omega)⟩
         · rw [(A1.out (by have := D.out; simp at this; omega)).2]
         · rw [← (A1.out (by have := D.out; simp at this; omega)).1]; exact hr)
      | (refine bodyPost_ret (v := .tuple #[wv 0 0, .int .i64 3]) (by simp [results, Tryd.results62, go_sem, k3]) rfl ⟨0, 0, ?_, ?_, b_set (b_set B3 (by simp; omega)) (by simp; omega)⟩
         · rw [(A2.out (by have := D.out; simp at this; omega)).2]
         · rw [(A2.out (by have := D.out; simp at this; omega)).1]; exact isW_zero)


end Go.Proofs.YtplhienacfiiaaaDoor

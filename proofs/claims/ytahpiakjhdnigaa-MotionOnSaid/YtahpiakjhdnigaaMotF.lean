/- MotionOn: what the law's call answers: true, for every two rows and every thrust. -/
import Derived.Test.YtahpiakjhdnigaaMotE
namespace Go.Proofs.Ytahpiakjhdnigaa
open Go.RowKit Go.Shelf

set_option maxHeartbeats 4000000 in
set_option maxRecDepth 10000 in
theorem motionOn_zero (x0 x1 x2 b0 b1 b2 t y0 y1 y2 ye z0 z1 z2 : Int) (n1 : (x1 == 0) = true)
    (c1 : ∀ w, Calls Try.prog 6 #[tv x0 x1 x2, .int .i64 t] w (RetV (.tuple #[tv y0 y1 y2, .int .i64 ye]) w))
    (c2 : ∀ w, Calls Try.prog 7 #[tv x0 x1 x2, .int .i64 t] w (RetV (.tuple #[tv y0 y1 y2, .int .i64 ye]) w))
    (c3 : ∀ w, Calls Try.prog 9 #[tv x0 x1 x2, tv b0 b1 b2] w (RetV (tv z0 z1 z2) w))
    (c4 : ∀ w, Calls Try.prog 10 #[tv x0 x1 x2, tv b0 b1 b2] w (RetV (tv z0 z1 z2) w))
    (c5 : ∀ w, Calls Try.prog 11 #[tv x0 x1 x2] w (RetV (.bool (x2 == 0)) w)) (w : World) :
    Calls Try.prog 3 #[tv x0 x1 x2, tv b0 b1 b2, .int .i64 t] w (RetV (.bool true) w) := by
  have kA : TC ((w.alloc (Obj.cells #[.int .i64 x0, .int .i64 x1, .int .i64 x2] 23)).alloc (Obj.cells #[.int .i64 b0, .int .i64 b1, .int .i64 b2] 23)) (w.heap.size) x0 x1 x2 := tc_alloc (tc_new rfl)
  have kB : TC ((w.alloc (Obj.cells #[.int .i64 x0, .int .i64 x1, .int .i64 x2] 23)).alloc (Obj.cells #[.int .i64 b0, .int .i64 b1, .int .i64 b2] 23)) (w.heap.size + 1) b0 b1 b2 := tc_new (by simp)
  have B0 : Below w.heap.size w ((w.alloc (Obj.cells #[.int .i64 x0, .int .i64 x1, .int .i64 x2] 23)).alloc (Obj.cells #[.int .i64 b0, .int .i64 b1, .int .i64 b2] 23)) := b_alloc (b_alloc (Below.refl _ _))
  go_enter Try.func3, Try.ntmps3
  go_wp2_with fail
  refine (c1 _).mono ?_
  rintro ew1 w1 ⟨rfl, hb9⟩
  replace kA := tc_keep hb9 kA
  replace kB := tc_keep hb9 kB
  replace B0 := b_trans B0 hb9
  clear hb9
  have kx : TC (w1.alloc (Obj.cells #[.int .i64 y0, .int .i64 y1, .int .i64 y2] 23)) w1.heap.size y0 y1 y2 := tc_new rfl
  replace kA := tc_alloc (o := (Obj.cells #[.int .i64 y0, .int .i64 y1, .int .i64 y2] 23)) kA
  replace kB := tc_alloc (o := (Obj.cells #[.int .i64 y0, .int .i64 y1, .int .i64 y2] 23)) kB
  replace B0 := b_alloc (o := (Obj.cells #[.int .i64 y0, .int .i64 y1, .int .i64 y2] 23)) B0
  go_wp2_with fail
  refine (c2 _).mono ?_
  rintro ew2 w2 ⟨rfl, hb9⟩
  replace kA := tc_keep hb9 kA
  replace kB := tc_keep hb9 kB
  replace kx := tc_keep hb9 kx
  replace B0 := b_trans B0 hb9
  clear hb9
  have ky : TC (w2.alloc (Obj.cells #[.int .i64 y0, .int .i64 y1, .int .i64 y2] 23)) w2.heap.size y0 y1 y2 := tc_new rfl
  replace kA := tc_alloc (o := (Obj.cells #[.int .i64 y0, .int .i64 y1, .int .i64 y2] 23)) kA
  replace kB := tc_alloc (o := (Obj.cells #[.int .i64 y0, .int .i64 y1, .int .i64 y2] 23)) kB
  replace kx := tc_alloc (o := (Obj.cells #[.int .i64 y0, .int .i64 y1, .int .i64 y2] 23)) kx
  replace B0 := b_alloc (o := (Obj.cells #[.int .i64 y0, .int .i64 y1, .int .i64 y2] 23)) B0
  clear c1 c2
  go_wp2
  generalize w2.alloc (Obj.cells #[.int .i64 y0, .int .i64 y1, .int .i64 y2] 23) = W1 at *
  refine region_each [23, 24, 25, 26, 27, 28, 29, 30, 31, 32, 33, 34, 35, 36, 37, 38, 39, 40, 41, 42, 43, 44, 45, 46, 47, 48, 49, 50, 51, 52, 53, 54, 55] (fun i_ X_ U_ => match i_ with | 0 => X_ = .bool true | 1 => X_ = .bool true | 2 => X_ = tv y0 y1 y2 | 3 => X_ = tv y0 y1 y2 | 4 => X_ = .bool true | 5 => X_ = .bool true | 6 => X_ = .bool true | 7 => X_ = .int .i64 ye | 8 => X_ = .int .i64 ye | 9 => X_ = .bool true | 10 => X_ = .bool true | 11 => X_ = .bool true | 12 => X_ = tv x0 x1 x2 | 13 => X_ = tv b0 b1 b2 | 14 => X_ = tv z0 z1 z2 | 15 => X_ = tv x0 x1 x2 | 16 => X_ = tv b0 b1 b2 | 17 => X_ = tv z0 z1 z2 | 18 => X_ = .bool true | 19 => X_ = .bool true | 20 => X_ = .bool true | 21 => X_ = tv x0 x1 x2 | 22 => X_ = .bool (x2 == 0) | 23 => X_ = .pointer (some ⟨w.heap.size, 1, none⟩) | 24 => X_ = .int .i64 x1 | 25 => X_ = .bool true | 26 => X_ = .bool true | 27 => X_ = .pointer (some ⟨w.heap.size, 2, none⟩) | 28 => X_ = .int .i64 x2 | 29 => X_ = .bool (x2 == 0) | 30 => X_ = .bool (x2 == 0) | 31 => X_ = .bool true | 32 => X_ = .bool true | _ => True) (fun i_ => false) (by kernel_rfl) (by kernel_rfl) (by kernel_rfl) (by kernel_rfl) (by kernel_rfl) ?_ (fun i x w hi ha h => by cases ha) ?_ ?_
  · refine swp (upS (upS (upS (upS (upS (upS (upS (upS (upS (upS (upS (upS (upS (upS (upS (upS (upS (upS (upS (upS (upS (upS (upS (upS (upS (upS (upS (upS (upS (upS (upS (upS (upS up0 ?_) ?_) ?_) ?_) ?_) ?_) ?_) ?_) ?_) ?_) ?_) ?_) ?_) ?_) ?_) ?_) ?_) ?_) ?_) ?_) ?_) ?_) ?_) ?_) ?_) ?_) ?_) ?_) ?_) ?_) ?_) ?_) ?_)
    all_goals exact fun _ _ _ h _ => h
  · refine upS (upS (upS (upS (upS (upS (upS (upS (upS (upS (upS (upS (upS (upS (upS (upS (upS (upS (upS (upS (upS (upS (upS (upS (upS (upS (upS (upS (upS (upS (upS (upS (upS up0 ?_) ?_) ?_) ?_) ?_) ?_) ?_) ?_) ?_) ?_) ?_) ?_) ?_) ?_) ?_) ?_) ?_) ?_) ?_) ?_) ?_) ?_) ?_) ?_) ?_) ?_) ?_) ?_) ?_) ?_) ?_) ?_) ?_
    all_goals intro v f w' hb hv hB hd
    · clear hb hv hd
      refine wpOp_call rfl Try.call8 args0 (fixed_mot _) ?_
      rintro e5 w5 ⟨rfl, hb5⟩
      exact ⟨_, rfl, _, rfl, hb5, rfl, fun h => absurd h (by decide)⟩
    · have d0 := got (hv 0 23 rfl) (hd 0 (by kernel_rfl))
      clear hb hv hd
      refine wpOp_step rfl fun K hK => ?_
      go_simp
      exact hK _ _ ⟨_, rfl, Below.refl _ _, rfl, fun h => absurd h (by decide)⟩
    · have b7 : f.tmps[7]? = some (.pointer (some ⟨w1.heap.size, 0, none⟩)) := (hb 7 (by decide)).trans rfl
      have d1 := got (hv 1 24 rfl) (hd 1 (by kernel_rfl))
      clear hb hv hd
      have c := tc_keep hB kx
      refine wpOp_step rfl fun K hK => ?_
      go_simp
      exact hK _ _ ⟨_, rfl, Below.refl _ _, rfl, fun h => absurd h (by decide)⟩
    · have b9 : f.tmps[9]? = some (.pointer (some ⟨w2.heap.size, 0, none⟩)) := (hb 9 (by decide)).trans rfl
      have d1 := got (hv 1 24 rfl) (hd 1 (by kernel_rfl))
      clear hb hv hd
      have c := tc_keep hB ky
      refine wpOp_step rfl fun K hK => ?_
      go_simp
      exact hK _ _ ⟨_, rfl, Below.refl _ _, rfl, fun h => absurd h (by decide)⟩
    · have d2 := got (hv 2 25 rfl) (hd 2 (by kernel_rfl))
      have d3 := got (hv 3 26 rfl) (hd 3 (by kernel_rfl))
      have d1 := got (hv 1 24 rfl) (hd 1 (by kernel_rfl))
      clear hb hv hd
      have hve := vec_eq_self
      refine wpOp_step rfl fun K hK => ?_
      go_simp
      exact hK _ _ ⟨_, rfl, Below.refl _ _, rfl, fun h => absurd h (by decide)⟩
    · have d1 := got (hv 1 24 rfl) (hd 1 (by kernel_rfl))
      have d4 := got (hv 4 27 rfl) (hd 4 (by kernel_rfl))
      clear hb hv hd
      refine wpOp_step rfl fun K hK => ?_
      go_simp
      exact hK _ _ ⟨_, rfl, Below.refl _ _, rfl, fun h => absurd h (by decide)⟩
    · have d5 := got (hv 5 28 rfl) (hd 5 (by kernel_rfl))
      clear hb hv hd
      refine wpOp_step rfl fun K hK => ?_
      go_simp
      exact hK _ _ ⟨_, rfl, Below.refl _ _, rfl, fun h => absurd h (by decide)⟩
    · have b8 : f.tmps[8]? = some (.int .i64 ye) := (hb 8 (by decide)).trans rfl
      have d6 := got (hv 6 29 rfl) (hd 6 (by kernel_rfl))
      clear hb hv hd
      refine wpOp_step rfl fun K hK => ?_
      go_simp
      exact hK _ _ ⟨_, rfl, Below.refl _ _, rfl, fun h => absurd h (by decide)⟩
    · have b10 : f.tmps[10]? = some (.int .i64 ye) := (hb 10 (by decide)).trans rfl
      have d6 := got (hv 6 29 rfl) (hd 6 (by kernel_rfl))
      clear hb hv hd
      refine wpOp_step rfl fun K hK => ?_
      go_simp
      exact hK _ _ ⟨_, rfl, Below.refl _ _, rfl, fun h => absurd h (by decide)⟩
    · have d7 := got (hv 7 30 rfl) (hd 7 (by kernel_rfl))
      have d8 := got (hv 8 31 rfl) (hd 8 (by kernel_rfl))
      have d6 := got (hv 6 29 rfl) (hd 6 (by kernel_rfl))
      clear hb hv hd
      refine wpOp_step rfl fun K hK => ?_
      go_simp
      exact hK _ _ ⟨_, rfl, Below.refl _ _, rfl, fun h => absurd h (by decide)⟩
    · have d6 := got (hv 6 29 rfl) (hd 6 (by kernel_rfl))
      have d9 := got (hv 9 32 rfl) (hd 9 (by kernel_rfl))
      clear hb hv hd
      refine wpOp_step rfl fun K hK => ?_
      go_simp
      exact hK _ _ ⟨_, rfl, Below.refl _ _, rfl, fun h => absurd h (by decide)⟩
    · have d10 := got (hv 10 33 rfl) (hd 10 (by kernel_rfl))
      clear hb hv hd
      refine wpOp_step rfl fun K hK => ?_
      go_simp
      exact hK _ _ ⟨_, rfl, Below.refl _ _, rfl, fun h => absurd h (by decide)⟩
    · have b3 : f.tmps[3]? = some (.pointer (some ⟨w.heap.size, 0, none⟩)) := (hb 3 (by decide)).trans rfl
      have d11 := got (hv 11 34 rfl) (hd 11 (by kernel_rfl))
      clear hb hv hd
      have c := tc_keep hB kA
      refine wpOp_step rfl fun K hK => ?_
      go_simp
      exact hK _ _ ⟨_, rfl, Below.refl _ _, rfl, fun h => absurd h (by decide)⟩
    · have b4 : f.tmps[4]? = some (.pointer (some ⟨w.heap.size + 1, 0, none⟩)) := (hb 4 (by decide)).trans rfl
      have d11 := got (hv 11 34 rfl) (hd 11 (by kernel_rfl))
      clear hb hv hd
      have c := tc_keep hB kB
      refine wpOp_step rfl fun K hK => ?_
      go_simp
      exact hK _ _ ⟨_, rfl, Below.refl _ _, rfl, fun h => absurd h (by decide)⟩
    · have d12 := got (hv 12 35 rfl) (hd 12 (by kernel_rfl))
      have d13 := got (hv 13 36 rfl) (hd 13 (by kernel_rfl))
      have d11 := got (hv 11 34 rfl) (hd 11 (by kernel_rfl))
      clear hb hv hd
      refine wpOp_callg rfl (yields rfl rfl d11) Try.call9 (args2 (eval_tmp d12) (eval_tmp d13)) (c3 _) ?_
      rintro e5 w5 ⟨rfl, hb5⟩
      exact ⟨_, rfl, _, rfl, hb5, rfl, fun h => absurd h (by decide)⟩
    · have b3 : f.tmps[3]? = some (.pointer (some ⟨w.heap.size, 0, none⟩)) := (hb 3 (by decide)).trans rfl
      have d11 := got (hv 11 34 rfl) (hd 11 (by kernel_rfl))
      clear hb hv hd
      have c := tc_keep hB kA
      refine wpOp_step rfl fun K hK => ?_
      go_simp
      exact hK _ _ ⟨_, rfl, Below.refl _ _, rfl, fun h => absurd h (by decide)⟩
    · have b4 : f.tmps[4]? = some (.pointer (some ⟨w.heap.size + 1, 0, none⟩)) := (hb 4 (by decide)).trans rfl
      have d11 := got (hv 11 34 rfl) (hd 11 (by kernel_rfl))
      clear hb hv hd
      have c := tc_keep hB kB
      refine wpOp_step rfl fun K hK => ?_
      go_simp
      exact hK _ _ ⟨_, rfl, Below.refl _ _, rfl, fun h => absurd h (by decide)⟩
    · have d15 := got (hv 15 38 rfl) (hd 15 (by kernel_rfl))
      have d16 := got (hv 16 39 rfl) (hd 16 (by kernel_rfl))
      have d11 := got (hv 11 34 rfl) (hd 11 (by kernel_rfl))
      clear hb hv hd
      refine wpOp_callg rfl (yields rfl rfl d11) Try.call10 (args2 (eval_tmp d15) (eval_tmp d16)) (c4 _) ?_
      rintro e5 w5 ⟨rfl, hb5⟩
      exact ⟨_, rfl, _, rfl, hb5, rfl, fun h => absurd h (by decide)⟩
    · have d14 := got (hv 14 37 rfl) (hd 14 (by kernel_rfl))
      have d17 := got (hv 17 40 rfl) (hd 17 (by kernel_rfl))
      have d11 := got (hv 11 34 rfl) (hd 11 (by kernel_rfl))
      clear hb hv hd
      have hve := vec_eq_self
      refine wpOp_step rfl fun K hK => ?_
      go_simp
      exact hK _ _ ⟨_, rfl, Below.refl _ _, rfl, fun h => absurd h (by decide)⟩
    · have d11 := got (hv 11 34 rfl) (hd 11 (by kernel_rfl))
      have d18 := got (hv 18 41 rfl) (hd 18 (by kernel_rfl))
      clear hb hv hd
      refine wpOp_step rfl fun K hK => ?_
      go_simp
      exact hK _ _ ⟨_, rfl, Below.refl _ _, rfl, fun h => absurd h (by decide)⟩
    · have d19 := got (hv 19 42 rfl) (hd 19 (by kernel_rfl))
      clear hb hv hd
      refine wpOp_step rfl fun K hK => ?_
      go_simp
      exact hK _ _ ⟨_, rfl, Below.refl _ _, rfl, fun h => absurd h (by decide)⟩
    · have b3 : f.tmps[3]? = some (.pointer (some ⟨w.heap.size, 0, none⟩)) := (hb 3 (by decide)).trans rfl
      have d20 := got (hv 20 43 rfl) (hd 20 (by kernel_rfl))
      clear hb hv hd
      have c := tc_keep hB kA
      refine wpOp_step rfl fun K hK => ?_
      go_simp
      exact hK _ _ ⟨_, rfl, Below.refl _ _, rfl, fun h => absurd h (by decide)⟩
    · have d21 := got (hv 21 44 rfl) (hd 21 (by kernel_rfl))
      have d20 := got (hv 20 43 rfl) (hd 20 (by kernel_rfl))
      clear hb hv hd
      refine wpOp_callg rfl (yields rfl rfl d20) Try.call11 (args1 (eval_tmp d21)) (c5 _) ?_
      rintro e5 w5 ⟨rfl, hb5⟩
      exact ⟨_, rfl, _, rfl, hb5, rfl, fun h => absurd h (by decide)⟩
    · have b3 : f.tmps[3]? = some (.pointer (some ⟨w.heap.size, 0, none⟩)) := (hb 3 (by decide)).trans rfl
      have d20 := got (hv 20 43 rfl) (hd 20 (by kernel_rfl))
      clear hb hv hd
      refine wpOp_step rfl fun K hK => ?_
      go_simp
      exact hK _ _ ⟨_, rfl, Below.refl _ _, rfl, fun h => absurd h (by decide)⟩
    · have d23 := got (hv 23 46 rfl) (hd 23 (by kernel_rfl))
      have d20 := got (hv 20 43 rfl) (hd 20 (by kernel_rfl))
      clear hb hv hd
      have c := tc_keep hB kA
      refine wpOp_step rfl fun K hK => ?_
      go_simp
      exact hK _ _ ⟨_, rfl, Below.refl _ _, rfl, fun h => absurd h (by decide)⟩
    · have d24 := got (hv 24 47 rfl) (hd 24 (by kernel_rfl))
      have d20 := got (hv 20 43 rfl) (hd 20 (by kernel_rfl))
      clear hb hv hd
      refine wpOp_step rfl fun K hK => ?_
      go_simp
      exact hK _ _ ⟨_, rfl, Below.refl _ _, rfl, fun h => absurd h (by decide)⟩
    · have d25 := got (hv 25 48 rfl) (hd 25 (by kernel_rfl))
      have d20 := got (hv 20 43 rfl) (hd 20 (by kernel_rfl))
      clear hb hv hd
      refine wpOp_step rfl fun K hK => ?_
      go_simp
      exact hK _ _ ⟨_, rfl, Below.refl _ _, rfl, fun h => absurd h (by decide)⟩
    · have b3 : f.tmps[3]? = some (.pointer (some ⟨w.heap.size, 0, none⟩)) := (hb 3 (by decide)).trans rfl
      have d26 := got (hv 26 49 rfl) (hd 26 (by kernel_rfl))
      clear hb hv hd
      refine wpOp_step rfl fun K hK => ?_
      go_simp
      exact hK _ _ ⟨_, rfl, Below.refl _ _, rfl, fun h => absurd h (by decide)⟩
    · have d27 := got (hv 27 50 rfl) (hd 27 (by kernel_rfl))
      have d26 := got (hv 26 49 rfl) (hd 26 (by kernel_rfl))
      clear hb hv hd
      have c := tc_keep hB kA
      refine wpOp_step rfl fun K hK => ?_
      go_simp
      exact hK _ _ ⟨_, rfl, Below.refl _ _, rfl, fun h => absurd h (by decide)⟩
    · have d28 := got (hv 28 51 rfl) (hd 28 (by kernel_rfl))
      have d26 := got (hv 26 49 rfl) (hd 26 (by kernel_rfl))
      clear hb hv hd
      refine wpOp_step rfl fun K hK => ?_
      go_simp
      exact hK _ _ ⟨_, rfl, Below.refl _ _, rfl, fun h => absurd h (by decide)⟩
    · have d26 := got (hv 26 49 rfl) (hd 26 (by kernel_rfl))
      have d29 := got (hv 29 52 rfl) (hd 29 (by kernel_rfl))
      have d20 := got (hv 20 43 rfl) (hd 20 (by kernel_rfl))
      clear hb hv hd
      refine wpOp_step rfl fun K hK => ?_
      go_simp
      exact hK _ _ ⟨_, rfl, Below.refl _ _, rfl, fun h => absurd h (by decide)⟩
    · have d22 := got (hv 22 45 rfl) (hd 22 (by kernel_rfl))
      have d30 := got (hv 30 53 rfl) (hd 30 (by kernel_rfl))
      have d20 := got (hv 20 43 rfl) (hd 20 (by kernel_rfl))
      clear hb hv hd
      refine wpOp_step rfl fun K hK => ?_
      go_simp
      exact hK _ _ ⟨_, rfl, Below.refl _ _, rfl, fun h => absurd h (by decide)⟩
    · have d20 := got (hv 20 43 rfl) (hd 20 (by kernel_rfl))
      have d31 := got (hv 31 54 rfl) (hd 31 (by kernel_rfl))
      clear hb hv hd
      refine wpOp_step rfl fun K hK => ?_
      go_simp
      exact hK _ _ ⟨_, rfl, Below.refl _ _, rfl, fun h => absurd h (by decide)⟩
  · intro v w' hB hF hD
    have F0 : v 0 = _ := hF 0 (by simp)
    have F1 : v 1 = _ := hF 1 (by simp)
    have F2 : v 2 = _ := hF 2 (by simp)
    have F3 : v 3 = _ := hF 3 (by simp)
    have F4 : v 4 = _ := hF 4 (by simp)
    have F5 : v 5 = _ := hF 5 (by simp)
    have F6 : v 6 = _ := hF 6 (by simp)
    have F7 : v 7 = _ := hF 7 (by simp)
    have F8 : v 8 = _ := hF 8 (by simp)
    have F9 : v 9 = _ := hF 9 (by simp)
    have F10 : v 10 = _ := hF 10 (by simp)
    have F11 : v 11 = _ := hF 11 (by simp)
    have F12 : v 12 = _ := hF 12 (by simp)
    have F13 : v 13 = _ := hF 13 (by simp)
    have F14 : v 14 = _ := hF 14 (by simp)
    have F15 : v 15 = _ := hF 15 (by simp)
    have F16 : v 16 = _ := hF 16 (by simp)
    have F17 : v 17 = _ := hF 17 (by simp)
    have F18 : v 18 = _ := hF 18 (by simp)
    have F19 : v 19 = _ := hF 19 (by simp)
    have F20 : v 20 = _ := hF 20 (by simp)
    have F21 : v 21 = _ := hF 21 (by simp)
    have F22 : v 22 = _ := hF 22 (by simp)
    have F23 : v 23 = _ := hF 23 (by simp)
    have F24 : v 24 = _ := hF 24 (by simp)
    have F25 : v 25 = _ := hF 25 (by simp)
    have F26 : v 26 = _ := hF 26 (by simp)
    have F27 : v 27 = _ := hF 27 (by simp)
    have F28 : v 28 = _ := hF 28 (by simp)
    have F29 : v 29 = _ := hF 29 (by simp)
    have F30 : v 30 = _ := hF 30 (by simp)
    have F31 : v 31 = _ := hF 31 (by simp)
    have F32 : v 32 = _ := hF 32 (by simp)
    clear hF
    simp only [frOf, frGo, Nat.zero_add, Nat.reduceAdd, F0, F1, F2, F3, F4, F5, F6, F7, F8, F9, F10, F11, F12, F13, F14, F15, F16, F17, F18, F19, F20, F21, F22, F23, F24, F25, F26, F27, F28, F29, F30, F31, F32]
    replace B0 := b_trans B0 hB
    clear F0 F1 F2 F3 F4 F5 F6 F7 F8 F9 F10 F11 F12 F13 F14 F15 F16 F17 F18 F19 F20 F21 F22 F23 F24 F25 F26 F27 F28 F29 F30 F31 F32 hD hB kA kB kx ky c3 c4 c5
    go_wp2
    go_ret
    exact ⟨rfl, B0⟩

set_option maxHeartbeats 4000000 in
set_option maxRecDepth 10000 in
theorem motionOn_other (x0 x1 x2 b0 b1 b2 t y0 y1 y2 ye z0 z1 z2 : Int) (n1 : (x1 == 0) = false)
    (c1 : ∀ w, Calls Try.prog 6 #[tv x0 x1 x2, .int .i64 t] w (RetV (.tuple #[tv y0 y1 y2, .int .i64 ye]) w))
    (c2 : ∀ w, Calls Try.prog 7 #[tv x0 x1 x2, .int .i64 t] w (RetV (.tuple #[tv y0 y1 y2, .int .i64 ye]) w))
    (c3 : ∀ w, Calls Try.prog 9 #[tv x0 x1 x2, tv b0 b1 b2] w (RetV (tv z0 z1 z2) w))
    (c4 : ∀ w, Calls Try.prog 10 #[tv x0 x1 x2, tv b0 b1 b2] w (RetV (tv z0 z1 z2) w))
    (c5 : ∀ w, Calls Try.prog 11 #[tv x0 x1 x2] w (RetV (.bool false) w)) (w : World) :
    Calls Try.prog 3 #[tv x0 x1 x2, tv b0 b1 b2, .int .i64 t] w (RetV (.bool true) w) := by
  have kA : TC ((w.alloc (Obj.cells #[.int .i64 x0, .int .i64 x1, .int .i64 x2] 23)).alloc (Obj.cells #[.int .i64 b0, .int .i64 b1, .int .i64 b2] 23)) (w.heap.size) x0 x1 x2 := tc_alloc (tc_new rfl)
  have kB : TC ((w.alloc (Obj.cells #[.int .i64 x0, .int .i64 x1, .int .i64 x2] 23)).alloc (Obj.cells #[.int .i64 b0, .int .i64 b1, .int .i64 b2] 23)) (w.heap.size + 1) b0 b1 b2 := tc_new (by simp)
  have B0 : Below w.heap.size w ((w.alloc (Obj.cells #[.int .i64 x0, .int .i64 x1, .int .i64 x2] 23)).alloc (Obj.cells #[.int .i64 b0, .int .i64 b1, .int .i64 b2] 23)) := b_alloc (b_alloc (Below.refl _ _))
  go_enter Try.func3, Try.ntmps3
  go_wp2_with fail
  refine (c1 _).mono ?_
  rintro ew1 w1 ⟨rfl, hb9⟩
  replace kA := tc_keep hb9 kA
  replace kB := tc_keep hb9 kB
  replace B0 := b_trans B0 hb9
  clear hb9
  have kx : TC (w1.alloc (Obj.cells #[.int .i64 y0, .int .i64 y1, .int .i64 y2] 23)) w1.heap.size y0 y1 y2 := tc_new rfl
  replace kA := tc_alloc (o := (Obj.cells #[.int .i64 y0, .int .i64 y1, .int .i64 y2] 23)) kA
  replace kB := tc_alloc (o := (Obj.cells #[.int .i64 y0, .int .i64 y1, .int .i64 y2] 23)) kB
  replace B0 := b_alloc (o := (Obj.cells #[.int .i64 y0, .int .i64 y1, .int .i64 y2] 23)) B0
  go_wp2_with fail
  refine (c2 _).mono ?_
  rintro ew2 w2 ⟨rfl, hb9⟩
  replace kA := tc_keep hb9 kA
  replace kB := tc_keep hb9 kB
  replace kx := tc_keep hb9 kx
  replace B0 := b_trans B0 hb9
  clear hb9
  have ky : TC (w2.alloc (Obj.cells #[.int .i64 y0, .int .i64 y1, .int .i64 y2] 23)) w2.heap.size y0 y1 y2 := tc_new rfl
  replace kA := tc_alloc (o := (Obj.cells #[.int .i64 y0, .int .i64 y1, .int .i64 y2] 23)) kA
  replace kB := tc_alloc (o := (Obj.cells #[.int .i64 y0, .int .i64 y1, .int .i64 y2] 23)) kB
  replace kx := tc_alloc (o := (Obj.cells #[.int .i64 y0, .int .i64 y1, .int .i64 y2] 23)) kx
  replace B0 := b_alloc (o := (Obj.cells #[.int .i64 y0, .int .i64 y1, .int .i64 y2] 23)) B0
  clear c1 c2
  go_wp2
  generalize w2.alloc (Obj.cells #[.int .i64 y0, .int .i64 y1, .int .i64 y2] 23) = W1 at *
  refine region_each [23, 24, 25, 26, 27, 28, 29, 30, 31, 32, 33, 34, 35, 36, 37, 38, 39, 40, 41, 42, 43, 44, 45, 46, 47, 48, 49, 50, 51, 52, 53, 54, 55] (fun i_ X_ U_ => match i_ with | 0 => X_ = .bool true | 1 => X_ = .bool true | 2 => X_ = tv y0 y1 y2 | 3 => X_ = tv y0 y1 y2 | 4 => X_ = .bool true | 5 => X_ = .bool true | 6 => X_ = .bool true | 7 => X_ = .int .i64 ye | 8 => X_ = .int .i64 ye | 9 => X_ = .bool true | 10 => X_ = .bool true | 11 => X_ = .bool true | 12 => X_ = tv x0 x1 x2 | 13 => X_ = tv b0 b1 b2 | 14 => X_ = tv z0 z1 z2 | 15 => X_ = tv x0 x1 x2 | 16 => X_ = tv b0 b1 b2 | 17 => X_ = tv z0 z1 z2 | 18 => X_ = .bool true | 19 => X_ = .bool true | 20 => X_ = .bool true | 21 => X_ = tv x0 x1 x2 | 22 => X_ = .bool false | 23 => X_ = .pointer (some ⟨w.heap.size, 1, none⟩) | 24 => X_ = .int .i64 x1 | 25 => X_ = .bool false | 26 => X_ = .bool false | 27 => X_ = undef | 28 => X_ = undef | 29 => X_ = undef | 30 => X_ = .bool false | 31 => X_ = .bool true | 32 => X_ = .bool true | _ => True) (fun i_ => false) (by kernel_rfl) (by kernel_rfl) (by kernel_rfl) (by kernel_rfl) (by kernel_rfl) ?_ (fun i x w hi ha h => by cases ha) ?_ ?_
  · refine swp (upS (upS (upS (upS (upS (upS (upS (upS (upS (upS (upS (upS (upS (upS (upS (upS (upS (upS (upS (upS (upS (upS (upS (upS (upS (upS (upS (upS (upS (upS (upS (upS (upS up0 ?_) ?_) ?_) ?_) ?_) ?_) ?_) ?_) ?_) ?_) ?_) ?_) ?_) ?_) ?_) ?_) ?_) ?_) ?_) ?_) ?_) ?_) ?_) ?_) ?_) ?_) ?_) ?_) ?_) ?_) ?_) ?_) ?_)
    all_goals exact fun _ _ _ h _ => h
  · refine upS (upS (upS (upS (upS (upS (upS (upS (upS (upS (upS (upS (upS (upS (upS (upS (upS (upS (upS (upS (upS (upS (upS (upS (upS (upS (upS (upS (upS (upS (upS (upS (upS up0 ?_) ?_) ?_) ?_) ?_) ?_) ?_) ?_) ?_) ?_) ?_) ?_) ?_) ?_) ?_) ?_) ?_) ?_) ?_) ?_) ?_) ?_) ?_) ?_) ?_) ?_) ?_) ?_) ?_) ?_) ?_) ?_) ?_
    all_goals intro v f w' hb hv hB hd
    · clear hb hv hd
      refine wpOp_call rfl Try.call8 args0 (fixed_mot _) ?_
      rintro e5 w5 ⟨rfl, hb5⟩
      exact ⟨_, rfl, _, rfl, hb5, rfl, fun h => absurd h (by decide)⟩
    · have d0 := got (hv 0 23 rfl) (hd 0 (by kernel_rfl))
      clear hb hv hd
      refine wpOp_step rfl fun K hK => ?_
      go_simp
      exact hK _ _ ⟨_, rfl, Below.refl _ _, rfl, fun h => absurd h (by decide)⟩
    · have b7 : f.tmps[7]? = some (.pointer (some ⟨w1.heap.size, 0, none⟩)) := (hb 7 (by decide)).trans rfl
      have d1 := got (hv 1 24 rfl) (hd 1 (by kernel_rfl))
      clear hb hv hd
      have c := tc_keep hB kx
      refine wpOp_step rfl fun K hK => ?_
      go_simp
      exact hK _ _ ⟨_, rfl, Below.refl _ _, rfl, fun h => absurd h (by decide)⟩
    · have b9 : f.tmps[9]? = some (.pointer (some ⟨w2.heap.size, 0, none⟩)) := (hb 9 (by decide)).trans rfl
      have d1 := got (hv 1 24 rfl) (hd 1 (by kernel_rfl))
      clear hb hv hd
      have c := tc_keep hB ky
      refine wpOp_step rfl fun K hK => ?_
      go_simp
      exact hK _ _ ⟨_, rfl, Below.refl _ _, rfl, fun h => absurd h (by decide)⟩
    · have d2 := got (hv 2 25 rfl) (hd 2 (by kernel_rfl))
      have d3 := got (hv 3 26 rfl) (hd 3 (by kernel_rfl))
      have d1 := got (hv 1 24 rfl) (hd 1 (by kernel_rfl))
      clear hb hv hd
      have hve := vec_eq_self
      refine wpOp_step rfl fun K hK => ?_
      go_simp
      exact hK _ _ ⟨_, rfl, Below.refl _ _, rfl, fun h => absurd h (by decide)⟩
    · have d1 := got (hv 1 24 rfl) (hd 1 (by kernel_rfl))
      have d4 := got (hv 4 27 rfl) (hd 4 (by kernel_rfl))
      clear hb hv hd
      refine wpOp_step rfl fun K hK => ?_
      go_simp
      exact hK _ _ ⟨_, rfl, Below.refl _ _, rfl, fun h => absurd h (by decide)⟩
    · have d5 := got (hv 5 28 rfl) (hd 5 (by kernel_rfl))
      clear hb hv hd
      refine wpOp_step rfl fun K hK => ?_
      go_simp
      exact hK _ _ ⟨_, rfl, Below.refl _ _, rfl, fun h => absurd h (by decide)⟩
    · have b8 : f.tmps[8]? = some (.int .i64 ye) := (hb 8 (by decide)).trans rfl
      have d6 := got (hv 6 29 rfl) (hd 6 (by kernel_rfl))
      clear hb hv hd
      refine wpOp_step rfl fun K hK => ?_
      go_simp
      exact hK _ _ ⟨_, rfl, Below.refl _ _, rfl, fun h => absurd h (by decide)⟩
    · have b10 : f.tmps[10]? = some (.int .i64 ye) := (hb 10 (by decide)).trans rfl
      have d6 := got (hv 6 29 rfl) (hd 6 (by kernel_rfl))
      clear hb hv hd
      refine wpOp_step rfl fun K hK => ?_
      go_simp
      exact hK _ _ ⟨_, rfl, Below.refl _ _, rfl, fun h => absurd h (by decide)⟩
    · have d7 := got (hv 7 30 rfl) (hd 7 (by kernel_rfl))
      have d8 := got (hv 8 31 rfl) (hd 8 (by kernel_rfl))
      have d6 := got (hv 6 29 rfl) (hd 6 (by kernel_rfl))
      clear hb hv hd
      refine wpOp_step rfl fun K hK => ?_
      go_simp
      exact hK _ _ ⟨_, rfl, Below.refl _ _, rfl, fun h => absurd h (by decide)⟩
    · have d6 := got (hv 6 29 rfl) (hd 6 (by kernel_rfl))
      have d9 := got (hv 9 32 rfl) (hd 9 (by kernel_rfl))
      clear hb hv hd
      refine wpOp_step rfl fun K hK => ?_
      go_simp
      exact hK _ _ ⟨_, rfl, Below.refl _ _, rfl, fun h => absurd h (by decide)⟩
    · have d10 := got (hv 10 33 rfl) (hd 10 (by kernel_rfl))
      clear hb hv hd
      refine wpOp_step rfl fun K hK => ?_
      go_simp
      exact hK _ _ ⟨_, rfl, Below.refl _ _, rfl, fun h => absurd h (by decide)⟩
    · have b3 : f.tmps[3]? = some (.pointer (some ⟨w.heap.size, 0, none⟩)) := (hb 3 (by decide)).trans rfl
      have d11 := got (hv 11 34 rfl) (hd 11 (by kernel_rfl))
      clear hb hv hd
      have c := tc_keep hB kA
      refine wpOp_step rfl fun K hK => ?_
      go_simp
      exact hK _ _ ⟨_, rfl, Below.refl _ _, rfl, fun h => absurd h (by decide)⟩
    · have b4 : f.tmps[4]? = some (.pointer (some ⟨w.heap.size + 1, 0, none⟩)) := (hb 4 (by decide)).trans rfl
      have d11 := got (hv 11 34 rfl) (hd 11 (by kernel_rfl))
      clear hb hv hd
      have c := tc_keep hB kB
      refine wpOp_step rfl fun K hK => ?_
      go_simp
      exact hK _ _ ⟨_, rfl, Below.refl _ _, rfl, fun h => absurd h (by decide)⟩
    · have d12 := got (hv 12 35 rfl) (hd 12 (by kernel_rfl))
      have d13 := got (hv 13 36 rfl) (hd 13 (by kernel_rfl))
      have d11 := got (hv 11 34 rfl) (hd 11 (by kernel_rfl))
      clear hb hv hd
      refine wpOp_callg rfl (yields rfl rfl d11) Try.call9 (args2 (eval_tmp d12) (eval_tmp d13)) (c3 _) ?_
      rintro e5 w5 ⟨rfl, hb5⟩
      exact ⟨_, rfl, _, rfl, hb5, rfl, fun h => absurd h (by decide)⟩
    · have b3 : f.tmps[3]? = some (.pointer (some ⟨w.heap.size, 0, none⟩)) := (hb 3 (by decide)).trans rfl
      have d11 := got (hv 11 34 rfl) (hd 11 (by kernel_rfl))
      clear hb hv hd
      have c := tc_keep hB kA
      refine wpOp_step rfl fun K hK => ?_
      go_simp
      exact hK _ _ ⟨_, rfl, Below.refl _ _, rfl, fun h => absurd h (by decide)⟩
    · have b4 : f.tmps[4]? = some (.pointer (some ⟨w.heap.size + 1, 0, none⟩)) := (hb 4 (by decide)).trans rfl
      have d11 := got (hv 11 34 rfl) (hd 11 (by kernel_rfl))
      clear hb hv hd
      have c := tc_keep hB kB
      refine wpOp_step rfl fun K hK => ?_
      go_simp
      exact hK _ _ ⟨_, rfl, Below.refl _ _, rfl, fun h => absurd h (by decide)⟩
    · have d15 := got (hv 15 38 rfl) (hd 15 (by kernel_rfl))
      have d16 := got (hv 16 39 rfl) (hd 16 (by kernel_rfl))
      have d11 := got (hv 11 34 rfl) (hd 11 (by kernel_rfl))
      clear hb hv hd
      refine wpOp_callg rfl (yields rfl rfl d11) Try.call10 (args2 (eval_tmp d15) (eval_tmp d16)) (c4 _) ?_
      rintro e5 w5 ⟨rfl, hb5⟩
      exact ⟨_, rfl, _, rfl, hb5, rfl, fun h => absurd h (by decide)⟩
    · have d14 := got (hv 14 37 rfl) (hd 14 (by kernel_rfl))
      have d17 := got (hv 17 40 rfl) (hd 17 (by kernel_rfl))
      have d11 := got (hv 11 34 rfl) (hd 11 (by kernel_rfl))
      clear hb hv hd
      have hve := vec_eq_self
      refine wpOp_step rfl fun K hK => ?_
      go_simp
      exact hK _ _ ⟨_, rfl, Below.refl _ _, rfl, fun h => absurd h (by decide)⟩
    · have d11 := got (hv 11 34 rfl) (hd 11 (by kernel_rfl))
      have d18 := got (hv 18 41 rfl) (hd 18 (by kernel_rfl))
      clear hb hv hd
      refine wpOp_step rfl fun K hK => ?_
      go_simp
      exact hK _ _ ⟨_, rfl, Below.refl _ _, rfl, fun h => absurd h (by decide)⟩
    · have d19 := got (hv 19 42 rfl) (hd 19 (by kernel_rfl))
      clear hb hv hd
      refine wpOp_step rfl fun K hK => ?_
      go_simp
      exact hK _ _ ⟨_, rfl, Below.refl _ _, rfl, fun h => absurd h (by decide)⟩
    · have b3 : f.tmps[3]? = some (.pointer (some ⟨w.heap.size, 0, none⟩)) := (hb 3 (by decide)).trans rfl
      have d20 := got (hv 20 43 rfl) (hd 20 (by kernel_rfl))
      clear hb hv hd
      have c := tc_keep hB kA
      refine wpOp_step rfl fun K hK => ?_
      go_simp
      exact hK _ _ ⟨_, rfl, Below.refl _ _, rfl, fun h => absurd h (by decide)⟩
    · have d21 := got (hv 21 44 rfl) (hd 21 (by kernel_rfl))
      have d20 := got (hv 20 43 rfl) (hd 20 (by kernel_rfl))
      clear hb hv hd
      refine wpOp_callg rfl (yields rfl rfl d20) Try.call11 (args1 (eval_tmp d21)) (c5 _) ?_
      rintro e5 w5 ⟨rfl, hb5⟩
      exact ⟨_, rfl, _, rfl, hb5, rfl, fun h => absurd h (by decide)⟩
    · have b3 : f.tmps[3]? = some (.pointer (some ⟨w.heap.size, 0, none⟩)) := (hb 3 (by decide)).trans rfl
      have d20 := got (hv 20 43 rfl) (hd 20 (by kernel_rfl))
      clear hb hv hd
      refine wpOp_step rfl fun K hK => ?_
      go_simp
      exact hK _ _ ⟨_, rfl, Below.refl _ _, rfl, fun h => absurd h (by decide)⟩
    · have d23 := got (hv 23 46 rfl) (hd 23 (by kernel_rfl))
      have d20 := got (hv 20 43 rfl) (hd 20 (by kernel_rfl))
      clear hb hv hd
      have c := tc_keep hB kA
      refine wpOp_step rfl fun K hK => ?_
      go_simp
      exact hK _ _ ⟨_, rfl, Below.refl _ _, rfl, fun h => absurd h (by decide)⟩
    · have d24 := got (hv 24 47 rfl) (hd 24 (by kernel_rfl))
      have d20 := got (hv 20 43 rfl) (hd 20 (by kernel_rfl))
      clear hb hv hd
      refine wpOp_step rfl fun K hK => ?_
      go_simp
      exact hK _ _ ⟨_, rfl, Below.refl _ _, rfl, fun h => absurd h (by decide)⟩
    · have d25 := got (hv 25 48 rfl) (hd 25 (by kernel_rfl))
      have d20 := got (hv 20 43 rfl) (hd 20 (by kernel_rfl))
      clear hb hv hd
      refine wpOp_step rfl fun K hK => ?_
      go_simp
      exact hK _ _ ⟨_, rfl, Below.refl _ _, rfl, fun h => absurd h (by decide)⟩
    · have b3 : f.tmps[3]? = some (.pointer (some ⟨w.heap.size, 0, none⟩)) := (hb 3 (by decide)).trans rfl
      have d26 := got (hv 26 49 rfl) (hd 26 (by kernel_rfl))
      clear hb hv hd
      refine wpOp_step rfl fun K hK => ?_
      go_simp
      exact hK _ _ ⟨_, rfl, Below.refl _ _, rfl, fun h => absurd h (by decide)⟩
    · have d27 := got (hv 27 50 rfl) (hd 27 (by kernel_rfl))
      have d26 := got (hv 26 49 rfl) (hd 26 (by kernel_rfl))
      clear hb hv hd
      refine wpOp_step rfl fun K hK => ?_
      go_simp
      exact hK _ _ ⟨_, rfl, Below.refl _ _, rfl, fun h => absurd h (by decide)⟩
    · have d28 := got (hv 28 51 rfl) (hd 28 (by kernel_rfl))
      have d26 := got (hv 26 49 rfl) (hd 26 (by kernel_rfl))
      clear hb hv hd
      refine wpOp_step rfl fun K hK => ?_
      go_simp
      exact hK _ _ ⟨_, rfl, Below.refl _ _, rfl, fun h => absurd h (by decide)⟩
    · have d26 := got (hv 26 49 rfl) (hd 26 (by kernel_rfl))
      have d29 := got (hv 29 52 rfl) (hd 29 (by kernel_rfl))
      have d20 := got (hv 20 43 rfl) (hd 20 (by kernel_rfl))
      clear hb hv hd
      refine wpOp_step rfl fun K hK => ?_
      go_simp
      exact hK _ _ ⟨_, rfl, Below.refl _ _, rfl, fun h => absurd h (by decide)⟩
    · have d22 := got (hv 22 45 rfl) (hd 22 (by kernel_rfl))
      have d30 := got (hv 30 53 rfl) (hd 30 (by kernel_rfl))
      have d20 := got (hv 20 43 rfl) (hd 20 (by kernel_rfl))
      clear hb hv hd
      refine wpOp_step rfl fun K hK => ?_
      go_simp
      exact hK _ _ ⟨_, rfl, Below.refl _ _, rfl, fun h => absurd h (by decide)⟩
    · have d20 := got (hv 20 43 rfl) (hd 20 (by kernel_rfl))
      have d31 := got (hv 31 54 rfl) (hd 31 (by kernel_rfl))
      clear hb hv hd
      refine wpOp_step rfl fun K hK => ?_
      go_simp
      exact hK _ _ ⟨_, rfl, Below.refl _ _, rfl, fun h => absurd h (by decide)⟩
  · intro v w' hB hF hD
    have F0 : v 0 = _ := hF 0 (by simp)
    have F1 : v 1 = _ := hF 1 (by simp)
    have F2 : v 2 = _ := hF 2 (by simp)
    have F3 : v 3 = _ := hF 3 (by simp)
    have F4 : v 4 = _ := hF 4 (by simp)
    have F5 : v 5 = _ := hF 5 (by simp)
    have F6 : v 6 = _ := hF 6 (by simp)
    have F7 : v 7 = _ := hF 7 (by simp)
    have F8 : v 8 = _ := hF 8 (by simp)
    have F9 : v 9 = _ := hF 9 (by simp)
    have F10 : v 10 = _ := hF 10 (by simp)
    have F11 : v 11 = _ := hF 11 (by simp)
    have F12 : v 12 = _ := hF 12 (by simp)
    have F13 : v 13 = _ := hF 13 (by simp)
    have F14 : v 14 = _ := hF 14 (by simp)
    have F15 : v 15 = _ := hF 15 (by simp)
    have F16 : v 16 = _ := hF 16 (by simp)
    have F17 : v 17 = _ := hF 17 (by simp)
    have F18 : v 18 = _ := hF 18 (by simp)
    have F19 : v 19 = _ := hF 19 (by simp)
    have F20 : v 20 = _ := hF 20 (by simp)
    have F21 : v 21 = _ := hF 21 (by simp)
    have F22 : v 22 = _ := hF 22 (by simp)
    have F23 : v 23 = _ := hF 23 (by simp)
    have F24 : v 24 = _ := hF 24 (by simp)
    have F25 : v 25 = _ := hF 25 (by simp)
    have F26 : v 26 = _ := hF 26 (by simp)
    have F27 : v 27 = _ := hF 27 (by simp)
    have F28 : v 28 = _ := hF 28 (by simp)
    have F29 : v 29 = _ := hF 29 (by simp)
    have F30 : v 30 = _ := hF 30 (by simp)
    have F31 : v 31 = _ := hF 31 (by simp)
    have F32 : v 32 = _ := hF 32 (by simp)
    clear hF
    simp only [frOf, frGo, Nat.zero_add, Nat.reduceAdd, F0, F1, F2, F3, F4, F5, F6, F7, F8, F9, F10, F11, F12, F13, F14, F15, F16, F17, F18, F19, F20, F21, F22, F23, F24, F25, F26, F27, F28, F29, F30, F31, F32]
    replace B0 := b_trans B0 hB
    clear F0 F1 F2 F3 F4 F5 F6 F7 F8 F9 F10 F11 F12 F13 F14 F15 F16 F17 F18 F19 F20 F21 F22 F23 F24 F25 F26 F27 F28 F29 F30 F31 F32 hD hB kA kB kx ky c3 c4 c5
    go_wp2
    go_ret
    exact ⟨rfl, B0⟩

theorem motionOn_any (x0 x1 x2 b0 b1 b2 t : Int) (hx0 : I64 x0) (hx1 : I64 x1) (hx2 : I64 x2) (hb0 : I64 b0) (hb1 : I64 b1) (hb2 : I64 b2) (ht : I64 t) (w : World) :
    Calls Try.prog 3 #[tv x0 x1 x2, tv b0 b1 b2, .int .i64 t] w (RetV (.bool true) w) := by
  obtain ⟨y0, y1, y2, ye, c1, c2⟩ := on_all x0 x1 x2 t hx0 hx1 hx2 ht
  have c3 := kept_mot x0 x1 x2 b0 b1 b2 hx0 hx1 hx2 hb0 hb1 hb2
  have c4 := clamp3_ref x0 x1 x2 b0 b1 b2 hx0 hx1 hx2 hb0 hb1 hb2
  have c5 := rest_mot x0 x1 x2
  by_cases c : x1 = 0
  · have n1 : (x1 == 0) = true := by simpa using c
    rw [n1, Bool.true_and] at c5
    exact motionOn_zero _ _ _ _ _ _ _ _ _ _ _ _ _ _ n1 c1 c2 c3 c4 c5 w
  · have n1 := neq_of c
    rw [n1, Bool.false_and] at c5
    exact motionOn_other _ _ _ _ _ _ _ _ _ _ _ _ _ _ n1 c1 c2 c3 c4 c5 w

end Go.Proofs.Ytahpiakjhdnigaa
